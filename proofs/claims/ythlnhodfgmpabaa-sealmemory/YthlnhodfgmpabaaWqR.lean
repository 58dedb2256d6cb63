/- A reader's calls: what each answers, what is left, what else stays. -/
import Derived.Test.YthlnhodfgmpabaaWqQ
import Derived.Deep.RegionWith
namespace Go.Proofs.Ythlnhodfgmpabaa.Wr
open Go.ChangeShapes Go.WideShapes Go.ChangeAt Go.RowKit
/-- But for the listed blocks all that was there stays. -/
def Kept (L : List Nat) (w w' : World) : Prop := w'.os = w.os ∧ w'.tape = w.tape ∧ w'.output = w.output ∧ w.heap.size ≤ w'.heap.size ∧ ∀ k, k < w.heap.size → k ∉ L → w'.heap[k]? = w.heap[k]?
theorem Kept.of {L : List Nat} {w w' : World} (h : Below w.heap.size w w') : Kept L w w' := ⟨h.os, h.tape, h.output, h.size, fun k hk _ => h.block k hk⟩
theorem Kept.trans {L : List Nat} {a b c : World} (h : Kept L a b) (k : Kept L b c) : Kept L a c :=
  ⟨k.1.trans h.1, k.2.1.trans h.2.1, k.2.2.1.trans h.2.2.1, Nat.le_trans h.2.2.2.1 k.2.2.2.1, fun i hi hL => (k.2.2.2.2 i (Nat.lt_of_lt_of_le hi h.2.2.2.1) hL).trans (h.2.2.2.2 i hi hL)⟩
theorem Kept.wide {L M : List Nat} {a b : World} (h : Kept L a b) (hs : ∀ k ∈ L, k ∈ M) : Kept M a b := ⟨h.1, h.2.1, h.2.2.1, h.2.2.2.1, fun k hk hM => h.2.2.2.2 k hk fun e => hM (hs k e)⟩
theorem Kept.size {L : List Nat} {a b : World} (h : Kept L a b) : a.heap.size ≤ b.heap.size := h.2.2.2.1
theorem Kept.below {L : List Nat} {w w' w0 : World} {B : Nat} (h : Kept L w w') (hb : Below B w0 w) (hB : B ≤ w.heap.size) (hL : ∀ k ∈ L, B ≤ k) : Below B w0 w' :=
  hb.trans ⟨h.1, h.2.1, h.2.2.1, h.2.2.2.1, fun k hk => h.2.2.2.2 k (by omega) fun e => by have := hL k e; omega⟩
theorem Kept.set {w : World} {B i : Nat} {v : Value} : Kept [B] w (w.setCell ⟨B, i, none⟩ v) :=
  ⟨rfl, rfl, rfl, by simp [World.setCell], fun k _ hL => Below.heap_setCell _ _ _ _ (by simpa using hL)⟩
/-- A block of no bytes. -/
def NoB (w : World) (B : Nat) : Prop := ∃ c T, w.heap[B]? = some (.cells c T (0, 0)) ∧ ∀ (i : Nat) (v : Int), c[i]? ≠ some (Value.int .u8 v)
theorem Rd.noB {w : World} {B : Nat} {T : TypeId} {zs : List Int} {f : Int} (h : Rd w B T zs f) : NoB w B := by
  obtain ⟨a, len, cap, h, _⟩ := h
  refine ⟨_, _, h, fun i v e => ?_⟩
  match i, e with
  | 0, e => simp at e
  | 1, e => simp at e
  | n + 2, e => simp at e
theorem Rd.lt {w : World} {B : Nat} {T : TypeId} {zs : List Int} {f : Int} (h : Rd w B T zs f) : B < w.heap.size := by
  obtain ⟨a, len, cap, h, _⟩ := h
  exact (cells_at h).2.2
theorem Row.kept {L : List Nat} {w w' : World} {a : Option Addr} {len cap : Nat} {zs : List Int} (h : Row w a len cap zs) (k : Kept L w w') (hL : ∀ B ∈ L, NoB w B) : Row w' a len cap zs := by
  refine h.mono fun x v hx => ?_
  have hlt := World.block_lt_of_cell? w x hx
  by_cases hm : x.block ∈ L
  · obtain ⟨c, T, hc, hn⟩ := hL _ hm
    exfalso
    simp only [World.cell?, hc] at hx
    split at hx
    · cases hx
    · exact hn _ _ hx
  · exact (World.cell?_of_block (w := w) (k.2.2.2.2 _ hlt hm)).trans hx
theorem Rd.kept {L : List Nat} {w w' : World} {B : Nat} {T : TypeId} {zs : List Int} {f : Int} (h : Rd w B T zs f) (k : Kept L w w') (hB : B ∉ L) (hL : ∀ B ∈ L, NoB w B) : Rd w' B T zs f := by
  have hlt := h.lt
  obtain ⟨a, len, cap, h1, h2, h3⟩ := h
  exact ⟨a, len, cap, (k.2.2.2.2 B hlt hB).trans h1, h2.kept k hL, h3⟩
theorem Rd.below {w w' : World} {B : Nat} {T : TypeId} {zs : List Int} {f : Int} (h : Rd w B T zs f) (k : Below w.heap.size w w') : Rd w' B T zs f := h.kept (L := []) (Kept.of k) (by simp) (fun _ h => by cases h)
theorem set_at {w : World} {B i : Nat} {c : Array Value} {t : TypeId} {v : Value} (h : w.heap[B]? = some (.cells c t (0, 0))) : (w.setCell ⟨B, i, none⟩ v).heap[B]? = some (.cells (c.setIfInBounds i v) t (0, 0)) := by
  simp [World.setCell, Array.getElem?_modify, h]
theorem Row.drop {w : World} {a a' : Option Addr} {len cap n : Nat} {zs : List Int} (h : Row w a len cap zs) (hn : n ≤ len) (ha : ∀ x, a = some x → n < cap → a' = some (x.add n)) (hb : a = none → a' = none) : Row w a' (len - n) (cap - n) (zs.drop n) := by
  obtain ⟨h1, h2, h3, h4, h5, h6⟩ := h
  refine ⟨by simp [h1], by omega, by omega, h4.drop n, fun e => ?_, fun x hx i hi => ?_⟩
  · cases a with
    | none => have := h5 rfl; omega
    | some x =>
      rcases Nat.lt_or_ge n cap with k | k
      · rw [ha x rfl k] at e; cases e
      · omega
  · cases a with
    | none => rw [hb rfl] at hx; cases hx
    | some y =>
      rw [ha y rfl (by omega)] at hx
      cases hx
      have := h6 y rfl (n + i) (by omega)
      rw [Addr.add_add, this]
      simp [List.getD]
set_option maxHeartbeats 1000000 in
theorem take_bad (B : Nat) (zs : List Int) (f x n e : Int) (w : World) (h : Rd w B 101 zs f) (he : e ≠ 0) :
    Calls Try.prog 74 #[.pointer (some ⟨B, 0, none⟩), .int .u64 x, .int .i64 n, .int .i64 e] w fun r w' => r = .returned (.int .u64 0) ∧ Rd w' B 101 zs e ∧ Kept [B] w w' := by
  have hnb := h.noB
  obtain ⟨a, len, cap, hB, hr, hw⟩ := h
  have hw' : Hid (∀ x, a = some x → x.block < B) := hw
  clear hw
  obtain ⟨cB, fB, zB⟩ := cells_at hB
  have hB' : Hid (w.heap[B]? = some (.cells #[.slice a len cap, .int .i64 f] 101 (0, 0))) := hB
  clear hB
  go_enter Try.func74, Try.ntmps74
  go_wp2
  go_ret
  exact ⟨rfl, ⟨a, len, cap, set_at hB'.out, hr.kept Kept.set (by simpa using hnb), hw'.out⟩, Kept.set⟩
set_option maxHeartbeats 1000000 in
theorem take_ok (B : Nat) (zs : List Int) (f x : Int) (n : Nat) (w : World) (h : Rd w B 101 zs f) (hn : n ≤ zs.length) :
    Calls Try.prog 74 #[.pointer (some ⟨B, 0, none⟩), .int .u64 x, .int .i64 n, .int .i64 0] w fun r w' => r = .returned (.int .u64 x) ∧ Rd w' B 101 (zs.drop n) f ∧ Kept [B] w w' := by
  have hnb := h.noB
  obtain ⟨a, len, cap, hB, hr, hw⟩ := h
  have hw' : Hid (∀ x, a = some x → x.block < B) := hw
  clear hw
  obtain ⟨cB, fB, zB⟩ := cells_at hB
  have hB' : Hid (w.heap[B]? = some (.cells #[.slice a len cap, .int .i64 f] 101 (0, 0))) := hB
  rw [hr.1] at hn
  have hc := hr.2.1
  have hm := hr.2.2.1
  unfold maxLen at hm
  clear hB
  go_enter Try.func74, Try.ntmps74
  go_wp2
  all_goals go_ret
  · have h0 : cap = n := by assumption
    have R := hr.drop (a' := a) hn (fun x _ hx => absurd hx (by omega)) id
    rw [show cap - n = 0 by omega] at R
    exact ⟨rfl, ⟨_, _, _, set_at hB'.out, R.kept Kept.set (by simpa using hnb), hw'.out⟩, Kept.set⟩
  · have R := hr.drop (a' := a.map (·.add n)) hn (fun x hx _ => by rw [hx]; rfl) (fun hx => by rw [hx]; rfl)
    exact ⟨rfl, ⟨_, _, _, set_at hB'.out, R.kept Kept.set (by simpa using hnb), fun x hx => by
      cases a with
      | none => cases hx
      | some y => cases hx; rw [show (y.add n).block = y.block by unfold Addr.add; split <;> rfl]; exact hw'.out y rfl⟩, Kept.set⟩
/-- What a taking call makes of an answer: the number, what is left, the fault. -/
def aX (g : Int × Nat × Int) : Int := if g.2.2 = 0 then g.1 else 0
def aZ (g : Int × Nat × Int) (zs : List Int) : List Int := if g.2.2 = 0 then zs.drop g.2.1 else zs
def cut (most : Int) (g : Int × Nat × Int) : Int × Nat × Int := if g.2.2 = 0 ∧ (most < 0 ∨ most < g.1) then (0, 0, 42) else g
theorem frR_out {zs : List Int} (hb : Byt zs) (f : Int) :
    ((frR zs f).2.2 = 0 ∧ f = 0 ∧ 0 ≤ (frR zs f).1 ∧ (frR zs f).1 < 18446744073709551616 ∧ (frR zs f).2.1 ≤ zs.length) ∨ ((frR zs f).2.2 ≠ 0 ∧ (frR zs f).1 = 0 ∧ (frR zs f).2.1 = 0) := by
  unfold frR
  split
  · rename_i h
    rcases gR_out zs 0 0 hb (by omega) (by omega) (by simp) with ⟨a, b, c, _, e⟩ | h2 | h2
    · exact .inl ⟨a, h, b, c, by rw [Nat.zero_add] at e; exact e⟩
    · exact .inr (by unfold getR; rw [h2]; simp)
    · exact .inr (by unfold getR; rw [h2]; simp)
  · rename_i h
    exact .inr ⟨h, rfl, rfl⟩
theorem Rd.byt {w : World} {B : Nat} {T : TypeId} {zs : List Int} {f : Int} (h : Rd w B T zs f) : Byt zs := by
  obtain ⟨a, len, cap, _, h, _⟩ := h
  exact h.2.2.2.1
set_option maxHeartbeats 4000000 in
theorem rU_is (B : Nat) (zs : List Int) (f : Int) (w : World) (h : Rd w B 101 zs f) :
    Calls Try.prog 77 #[.pointer (some ⟨B, 0, none⟩)] w fun r w' => r = .returned (.int .u64 (aX (frR zs f))) ∧ Rd w' B 101 (aZ (frR zs f) zs) (frR zs f).2.2 ∧ Kept [B] w w' := by
  have hout := frR_out h.byt f
  have hF : ∀ n, Hid (Rd (w.drewN n) B 101 zs f) := fun n => h.below (dbel _ _)
  have hfr := front_is B zs f
  obtain ⟨x, n, e, hg⟩ : ∃ x n e, frR zs f = (x, n, e) := ⟨_, _, _, rfl⟩
  rw [hg] at hout ⊢
  have hcell : ∃ cs, w.heap[B]? = some (.cells cs 101 (0, 0)) := by obtain ⟨a, l, c, h, _⟩ := h; exact ⟨_, h⟩
  rcases hout with ⟨he, hf0, h0, h1, h2⟩ | ⟨he, hx, hn⟩
  · simp only at he h0 h1 h2
    subst he
    go_enter Try.func77, Try.ntmps77
    go_wp2
    go_region_with (first
      | (go_at_call 73; refine (front_is B zs f _ (hF _).out).mono ?_; rw [hg]; rintro r w1 ⟨rfl, m, rfl⟩)
      | (go_at_call 74; refine (take_ok B zs f x n _ (hF _).out h2).mono ?_; rintro r w1 ⟨rfl, rd1, k1⟩))
    go_wp2
    go_ret
    rw [hf0] at rd1
    exact ⟨rfl, rd1, (Kept.of (dbel _ _)).trans k1⟩
  · simp only at he hx hn
    have e1 : Hid (aX (x, n, e) = 0) := if_neg he
    have e2 : Hid (aZ (x, n, e) zs = zs) := if_neg he
    subst hx; subst hn
    go_enter Try.func77, Try.ntmps77
    go_wp2
    go_region_with (first
      | (go_at_call 73; refine (front_is B zs f _ (hF _).out).mono ?_; rw [hg]; rintro r w1 ⟨rfl, m, rfl⟩)
      | (go_at_call 74; refine (take_bad B zs f _ _ e _ (hF _).out he).mono ?_; rintro r w1 ⟨rfl, rd1, k1⟩))
    go_wp2
    go_ret
    rw [e2.out]
    exact ⟨ret_i e1.out.symm, rd1, (Kept.of (dbel _ _)).trans k1⟩
theorem aX_in {zs : List Int} (hb : Byt zs) (f : Int) : 0 ≤ aX (frR zs f) ∧ aX (frR zs f) < 18446744073709551616 := by
  unfold aX
  rcases frR_out hb f with ⟨h, _, h0, h1, _⟩ | ⟨h, _⟩
  · rw [if_pos h]; exact ⟨h0, h1⟩
  · rw [if_neg h]; omega
set_option maxHeartbeats 1000000 in
theorem rS_is (B : Nat) (zs : List Int) (f : Int) (w : World) (h : Rd w B 101 zs f) :
    Calls Try.prog 75 #[.pointer (some ⟨B, 0, none⟩)] w fun r w' => r = .returned (.int .i64 (unfR (aX (frR zs f)))) ∧ Rd w' B 101 (aZ (frR zs f) zs) (frR zs f).2.2 ∧ Kept [B] w w' := by
  have hout := aX_in h.byt f
  have hu := rU_is B zs f w h
  obtain ⟨x, hx⟩ : ∃ x, aX (frR zs f) = x := ⟨_, rfl⟩
  rw [hx] at hout hu ⊢
  clear hx
  obtain ⟨h0, h1⟩ := hout
  have A := and1 x h0 h1
  by_cases hp : x % 2 = 0
  · have F : Hid (unfR x = x / 2) := if_pos hp
    go_enter Try.func75, Try.ntmps75
    go_wp2_with fail
    refine hu.mono ?_
    rintro r w1 ⟨rfl, rd1, k1⟩
    go_wp2
    go_ret
    exact ⟨ret_i F.out.symm, rd1, k1⟩
  · have F : Hid (unfR x = -(x / 2) - 1) := if_neg hp
    have hp1 : x % 2 = 1 := by omega
    go_enter Try.func75, Try.ntmps75
    go_wp2_with fail
    refine hu.mono ?_
    rintro r w1 ⟨rfl, rd1, k1⟩
    go_wp2
    go_ret
    exact ⟨ret_i F.out.symm, rd1, k1⟩
set_option maxHeartbeats 2000000 in
theorem rN_is (B : Nat) (zs : List Int) (f : Int) (most : Int) (w : World) (h : Rd w B 101 zs f) (hm1 : -9223372036854775808 ≤ most) (hm2 : most ≤ 9223372036854775807) :
    Calls Try.prog 70 #[.pointer (some ⟨B, 0, none⟩), .int .i64 most] w fun r w' => r = .returned (.int .i64 (aX (cut most (frR zs f)))) ∧ Rd w' B 101 (aZ (cut most (frR zs f)) zs) (cut most (frR zs f)).2.2 ∧ Kept [B] w w' := by
  have hout := frR_out h.byt f
  have hfr := front_is B zs f w h
  obtain ⟨x, n, e, hg⟩ : ∃ x n e, frR zs f = (x, n, e) := ⟨_, _, _, rfl⟩
  rw [hg] at hout hfr ⊢
  clear hg
  have hF : ∀ n, Rd (w.drewN n) B 101 zs f := fun n => h.below (dbel _ _)
  have hF' : ∀ n, Hid (Rd (w.drewN n) B 101 zs f) := fun n => hF n
  have hcell : Hid (∃ cs, w.heap[B]? = some (.cells cs 101 (0, 0))) := by obtain ⟨a, l, c, h, _⟩ := h; exact ⟨_, h⟩
  clear hF
  rcases hout with ⟨he, hf0, h0, h1, h2⟩ | ⟨he, hx, hn⟩
  · simp only at he h0 h1 h2
    subst he
    by_cases hc : most < 0 ∨ most < x
    · have c1 : Hid (cut most (x, n, 0) = (0, 0, 42)) := if_pos ⟨rfl, hc⟩
      rw [c1.out]
      by_cases hm0 : most < 0
      all_goals
        go_enter Try.func70, Try.ntmps70
        go_wp2_with fail
        refine hfr.mono ?_
        rintro r w1 ⟨rfl, m, rfl⟩
        go_wp2_with fail
        refine (take_bad B zs f _ _ 42 _ (hF' m).out (by decide)).mono ?_
        rintro r w1 ⟨rfl, rd1, k1⟩
        go_wp2
        go_ret
        exact ⟨rfl, rd1, (Kept.of (dbel _ _)).trans k1⟩
    · have c1 : Hid (cut most (x, n, 0) = (x, n, 0)) := if_neg (by simp; omega)
      rw [c1.out]
      go_enter Try.func70, Try.ntmps70
      go_wp2_with fail
      refine hfr.mono ?_
      rintro r w1 ⟨rfl, m, rfl⟩
      go_wp2_with fail
      refine (take_ok B zs f x n _ (hF' m).out h2).mono ?_
      rintro r w1 ⟨rfl, rd1, k1⟩
      go_wp2
      go_ret
      rw [hf0] at rd1
      exact ⟨rfl, rd1, (Kept.of (dbel _ _)).trans k1⟩
  · simp only at he hx hn
    have c1 : Hid (cut most (x, n, e) = (x, n, e)) := if_neg (by simp [he])
    rw [c1.out]
    have e1 : Hid (aX (x, n, e) = 0) := if_neg he
    have e2 : Hid (aZ (x, n, e) zs = zs) := if_neg he
    go_enter Try.func70, Try.ntmps70
    go_wp2_with fail
    refine hfr.mono ?_
    rintro r w1 ⟨rfl, m, rfl⟩
    go_wp2_with fail
    refine (take_bad B zs f _ _ e _ (hF' m).out he).mono ?_
    rintro r w1 ⟨rfl, rd1, k1⟩
    go_wp2
    go_ret
    rw [e2.out]
    exact ⟨ret_i e1.out.symm, rd1, (Kept.of (dbel _ _)).trans k1⟩
theorem rLeft_is (B : Nat) (zs : List Int) (f : Int) (w : World) (h : Rd w B 101 zs f) :
    Calls Try.prog 62 #[.pointer (some ⟨B, 0, none⟩)] w fun r w' => r = .returned (.int .i64 (zs.length : Nat)) ∧ w' = w := by
  obtain ⟨a, len, cap, hB, hr, -⟩ := h
  obtain ⟨cB, fB, zB⟩ := cells_at hB
  rw [hr.1]
  clear hB
  go_enter Try.func62, Try.ntmps62
  go_wp2
  go_ret
  exact ⟨rfl, rfl⟩
theorem rErr_is (B : Nat) (zs : List Int) (f : Int) (w : World) (h : Rd w B 101 zs f) :
    Calls Try.prog 61 #[.pointer (some ⟨B, 0, none⟩)] w fun r w' => r = .returned (.int .i64 f) ∧ w' = w := by
  obtain ⟨a, len, cap, hB, hr, -⟩ := h
  obtain ⟨cB, fB, zB⟩ := cells_at hB
  clear hB
  go_enter Try.func61, Try.ntmps61
  go_wp2
  go_ret
  exact ⟨rfl, rfl⟩
def endR (zs : List Int) (f : Int) : Int := if f = 0 then (if zs.length = 0 then 0 else 43) else f
set_option maxHeartbeats 1000000 in
theorem rEnd_is (B : Nat) (zs : List Int) (f : Int) (w : World) (h : Rd w B 101 zs f) :
    Calls Try.prog 48 #[.pointer (some ⟨B, 0, none⟩)] w fun r w' => r = .returned (.int .i64 (endR zs f)) ∧ w' = w := by
  by_cases hf : f = 0
  · subst hf
    by_cases hl : zs.length = 0
    · have E : Hid (endR zs 0 = 0) := by simp [Hid, endR, hl]
      go_enter Try.func48, Try.ntmps48
      go_wp2_with fail
      refine (rErr_is B zs 0 w h).mono ?_
      rintro r w1 ⟨rfl, rfl⟩
      go_wp2_with fail
      refine (rLeft_is B zs 0 _ h).mono ?_
      rintro r w1 ⟨rfl, rfl⟩
      go_wp2
      go_ret
      exact ⟨ret_i E.out.symm, rfl⟩
    · have E : Hid (endR zs 0 = 43) := by simp only [Hid, endR, if_neg hl, if_true]
      go_enter Try.func48, Try.ntmps48
      go_wp2_with fail
      refine (rErr_is B zs 0 w h).mono ?_
      rintro r w1 ⟨rfl, rfl⟩
      go_wp2_with fail
      refine (rLeft_is B zs 0 _ h).mono ?_
      rintro r w1 ⟨rfl, rfl⟩
      go_wp2
      go_ret
      exact ⟨ret_i E.out.symm, rfl⟩
  · have E : Hid (endR zs f = f) := if_neg hf
    go_enter Try.func48, Try.ntmps48
    go_wp2_with fail
    refine (rErr_is B zs f w h).mono ?_
    rintro r w1 ⟨rfl, rfl⟩
    go_wp2
    go_ret
    exact ⟨ret_i E.out.symm, rfl⟩
end Go.Proofs.Ythlnhodfgmpabaa.Wr
