/- A reader's calls: what each answers, what is left, what else stays. Models in bytes, in plain lists: what stands in bytes, which bytes a model has; there and back; cut short; one form. What each function of package num, and the document's answer to it, returns: each for every argument that fits its type. What lies in the memory that a walk has made, carried through calls that make memory of their own. A region that draws its order, whose operations only read, and whose callees make memory of their own alone: walked once, in the order of the text, in every world in which the listed blocks hold what they hold. Slices that came in, opened: of integers, of pairs of integers; how long they may be. Rows of integers of whatever kind: what is read of them, what a call owns, what stays behind a call; make, copy, append over them. The reader of package pack: numbers, or a fault. The reader of package pack: scales and windows. Written by tools/gen/PckS.py. -/
import Derived.Test.YthagdpiocmcbmaaGr01
import Derived.Deep.RegionWith
import Derived.Test.YthagdpiocmcbmaaRows
import Derived.WalkKit
import Derived.ProofKit
import Derived.OpenShut
import Derived.Below
import Derived.BigQuiet
import Derived.Deep.SlicePairs
import Derived.Laws.AppendOwnNone
import Derived.Laws.CopyOwn
import Derived.Deep.RegionHeld3
import Derived.WalkSmall
import Derived.Laws.Tables
/- A reader's calls: what each answers, what is left, what else stays. -/
namespace Go.Proofs.Ythagdpiocmcbmaa.Wr
open Go.ChangeShapes Go.WideShapes Go.ChangeAt Go.RowKit
/-- But for the listed blocks all that was there stays. -/
def Kept (L : List Nat) (w w' : World) : Prop := w'.os = w.os ∧ w'.tape = w.tape ∧ w'.output = w.output ∧ w.heap.size ≤ w'.heap.size ∧ ∀ k, k < w.heap.size → k ∉ L → w'.heap[k]? = w.heap[k]?
theorem Kept.of {L : List Nat} {w w' : World} (h : Below w.heap.size w w') : Kept L w w' := ⟨h.os, h.tape, h.output, h.size, fun k hk _ => h.block k hk⟩
theorem Kept.trans {L : List Nat} {a b c : World} (h : Kept L a b) (k : Kept L b c) : Kept L a c :=
  ⟨k.1.trans h.1, k.2.1.trans h.2.1, k.2.2.1.trans h.2.2.1, Nat.le_trans h.2.2.2.1 k.2.2.2.1, fun i hi hL => (k.2.2.2.2 i (Nat.lt_of_lt_of_le hi h.2.2.2.1) hL).trans (h.2.2.2.2 i hi hL)⟩
theorem Kept.wide {L M : List Nat} {a b : World} (h : Kept L a b) (hs : ∀ k ∈ L, k ∈ M) : Kept M a b := ⟨h.1, h.2.1, h.2.2.1, h.2.2.2.1, fun k hk hM => h.2.2.2.2 k hk fun e => hM (hs k e)⟩
theorem Kept.size {L : List Nat} {a b : World} (h : Kept L a b) : a.heap.size ≤ b.heap.size := h.2.2.2.1
theorem Kept.below {L : List Nat} {w w' w0 : World} {B : Nat} (h : Kept L w w') (hb : Below B w0 w) (hB : B ≤ w.heap.size) (hL : ∀ k ∈ L, B ≤ k) : Below B w0 w' :=
  hb.trans ⟨h.1, h.2.1, h.2.2.1, h.2.2.2.1, fun k hk => h.2.2.2.2 k (by omega) fun e => by have := hL k e; omega⟩
theorem Kept.set {w : World} {B i : Nat} {v : Value} : Kept [B] w (w.setCell ⟨B, i, none⟩ v) :=
  ⟨rfl, rfl, rfl, by simp [World.setCell], fun k _ hL => Below.heap_setCell _ _ _ _ (by simpa using hL)⟩
/-- A block of no bytes. -/
def NoB (w : World) (B : Nat) : Prop := ∃ c T, w.heap[B]? = some (.cells c T (0, 0)) ∧ ∀ (i : Nat) (v : Int), c[i]? ≠ some (Value.int .u8 v)
theorem Rd.noB {w : World} {B : Nat} {T : TypeId} {zs : List Int} {f : Int} (h : Rd w B T zs f) : NoB w B := by
  obtain ⟨a, len, cap, h, _⟩ := h
  refine ⟨_, _, h, fun i v e => ?_⟩
  match i, e with
  | 0, e => simp at e
  | 1, e => simp at e
  | n + 2, e => simp at e
theorem Rd.lt {w : World} {B : Nat} {T : TypeId} {zs : List Int} {f : Int} (h : Rd w B T zs f) : B < w.heap.size := by
  obtain ⟨a, len, cap, h, _⟩ := h
  exact (cells_at h).2.2
theorem Row.kept {L : List Nat} {w w' : World} {a : Option Addr} {len cap : Nat} {zs : List Int} (h : Row w a len cap zs) (k : Kept L w w') (hL : ∀ B ∈ L, NoB w B) : Row w' a len cap zs := by
  refine h.mono fun x v hx => ?_
  have hlt := World.block_lt_of_cell? w x hx
  by_cases hm : x.block ∈ L
  · obtain ⟨c, T, hc, hn⟩ := hL _ hm
    exfalso
    simp only [World.cell?, hc] at hx
    split at hx
    · cases hx
    · exact hn _ _ hx
  · exact (World.cell?_of_block (w := w) (k.2.2.2.2 _ hlt hm)).trans hx
theorem Rd.kept {L : List Nat} {w w' : World} {B : Nat} {T : TypeId} {zs : List Int} {f : Int} (h : Rd w B T zs f) (k : Kept L w w') (hB : B ∉ L) (hL : ∀ B ∈ L, NoB w B) : Rd w' B T zs f := by
  have hlt := h.lt
  obtain ⟨a, len, cap, h1, h2, h3⟩ := h
  exact ⟨a, len, cap, (k.2.2.2.2 B hlt hB).trans h1, h2.kept k hL, h3⟩
theorem Rd.below {w w' : World} {B : Nat} {T : TypeId} {zs : List Int} {f : Int} (h : Rd w B T zs f) (k : Below w.heap.size w w') : Rd w' B T zs f := h.kept (L := []) (Kept.of k) (by simp) (fun _ h => by cases h)
theorem set_at {w : World} {B i : Nat} {c : Array Value} {t : TypeId} {v : Value} (h : w.heap[B]? = some (.cells c t (0, 0))) : (w.setCell ⟨B, i, none⟩ v).heap[B]? = some (.cells (c.setIfInBounds i v) t (0, 0)) := by
  simp [World.setCell, Array.getElem?_modify, h]
theorem Row.drop {w : World} {a a' : Option Addr} {len cap n : Nat} {zs : List Int} (h : Row w a len cap zs) (hn : n ≤ len) (ha : ∀ x, a = some x → n < cap → a' = some (x.add n)) (hb : a = none → a' = none) : Row w a' (len - n) (cap - n) (zs.drop n) := by
  obtain ⟨h1, h2, h3, h4, h5, h6⟩ := h
  refine ⟨by simp [h1], by omega, by omega, h4.drop n, fun e => ?_, fun x hx i hi => ?_⟩
  · cases a with
    | none => have := h5 rfl; omega
    | some x =>
      rcases Nat.lt_or_ge n cap with k | k
      · rw [ha x rfl k] at e; cases e
      · omega
  · cases a with
    | none => rw [hb rfl] at hx; cases hx
    | some y =>
      rw [ha y rfl (by omega)] at hx
      cases hx
      have := h6 y rfl (n + i) (by omega)
      rw [Addr.add_add, this]
      simp [List.getD]
set_option maxHeartbeats 1000000 in
theorem take_bad (B : Nat) (zs : List Int) (f x n e : Int) (w : World) (h : Rd w B 102 zs f) (he : e ≠ 0) :
    Calls Try.prog 86 #[.pointer (some ⟨B, 0, none⟩), .int .u64 x, .int .i64 n, .int .i64 e] w fun r w' => r = .returned (.int .u64 0) ∧ Rd w' B 102 zs e ∧ Kept [B] w w' := by
  have hnb := h.noB
  obtain ⟨a, len, cap, hB, hr, hw⟩ := h
  have hw' : Hid (∀ x, a = some x → x.block < B) := hw
  clear hw
  obtain ⟨cB, fB, zB⟩ := cells_at hB
  have hB' : Hid (w.heap[B]? = some (.cells #[.slice a len cap, .int .i64 f] 102 (0, 0))) := hB
  clear hB
  go_enter Try.func86, Try.ntmps86
  go_wp2
  go_ret
  exact ⟨rfl, ⟨a, len, cap, set_at hB'.out, hr.kept Kept.set (by simpa using hnb), hw'.out⟩, Kept.set⟩
set_option maxHeartbeats 1000000 in
theorem take_ok (B : Nat) (zs : List Int) (f x : Int) (n : Nat) (w : World) (h : Rd w B 102 zs f) (hn : n ≤ zs.length) :
    Calls Try.prog 86 #[.pointer (some ⟨B, 0, none⟩), .int .u64 x, .int .i64 n, .int .i64 0] w fun r w' => r = .returned (.int .u64 x) ∧ Rd w' B 102 (zs.drop n) f ∧ Kept [B] w w' := by
  have hnb := h.noB
  obtain ⟨a, len, cap, hB, hr, hw⟩ := h
  have hw' : Hid (∀ x, a = some x → x.block < B) := hw
  clear hw
  obtain ⟨cB, fB, zB⟩ := cells_at hB
  have hB' : Hid (w.heap[B]? = some (.cells #[.slice a len cap, .int .i64 f] 102 (0, 0))) := hB
  rw [hr.1] at hn
  have hc := hr.2.1
  have hm := hr.2.2.1
  unfold maxLen at hm
  clear hB
  go_enter Try.func86, Try.ntmps86
  go_wp2
  all_goals go_ret
  · have h0 : cap = n := by assumption
    have R := hr.drop (a' := a) hn (fun x _ hx => absurd hx (by omega)) id
    rw [show cap - n = 0 by omega] at R
    exact ⟨rfl, ⟨_, _, _, set_at hB'.out, R.kept Kept.set (by simpa using hnb), hw'.out⟩, Kept.set⟩
  · have R := hr.drop (a' := a.map (·.add n)) hn (fun x hx _ => by rw [hx]; rfl) (fun hx => by rw [hx]; rfl)
    exact ⟨rfl, ⟨_, _, _, set_at hB'.out, R.kept Kept.set (by simpa using hnb), fun x hx => by
      cases a with
      | none => cases hx
      | some y => cases hx; rw [show (y.add n).block = y.block by unfold Addr.add; split <;> rfl]; exact hw'.out y rfl⟩, Kept.set⟩
/-- What a taking call makes of an answer: the number, what is left, the fault. -/
def aX (g : Int × Nat × Int) : Int := if g.2.2 = 0 then g.1 else 0
def aZ (g : Int × Nat × Int) (zs : List Int) : List Int := if g.2.2 = 0 then zs.drop g.2.1 else zs
def cut (most : Int) (g : Int × Nat × Int) : Int × Nat × Int := if g.2.2 = 0 ∧ (most < 0 ∨ most < g.1) then (0, 0, 42) else g
theorem frR_out {zs : List Int} (hb : Byt zs) (f : Int) :
    ((frR zs f).2.2 = 0 ∧ f = 0 ∧ 0 ≤ (frR zs f).1 ∧ (frR zs f).1 < 18446744073709551616 ∧ (frR zs f).2.1 ≤ zs.length) ∨ ((frR zs f).2.2 ≠ 0 ∧ (frR zs f).1 = 0 ∧ (frR zs f).2.1 = 0) := by
  unfold frR
  split
  · rename_i h
    rcases gR_out zs 0 0 hb (by omega) (by omega) (by simp) with ⟨a, b, c, _, e⟩ | h2 | h2
    · exact .inl ⟨a, h, b, c, by rw [Nat.zero_add] at e; exact e⟩
    · exact .inr (by unfold getR; rw [h2]; simp)
    · exact .inr (by unfold getR; rw [h2]; simp)
  · rename_i h
    exact .inr ⟨h, rfl, rfl⟩
theorem Rd.byt {w : World} {B : Nat} {T : TypeId} {zs : List Int} {f : Int} (h : Rd w B T zs f) : Byt zs := by
  obtain ⟨a, len, cap, _, h, _⟩ := h
  exact h.2.2.2.1
set_option maxHeartbeats 4000000 in
theorem rU_is (B : Nat) (zs : List Int) (f : Int) (w : World) (h : Rd w B 102 zs f) :
    Calls Try.prog 73 #[.pointer (some ⟨B, 0, none⟩)] w fun r w' => r = .returned (.int .u64 (aX (frR zs f))) ∧ Rd w' B 102 (aZ (frR zs f) zs) (frR zs f).2.2 ∧ Kept [B] w w' := by
  have hout := frR_out h.byt f
  have hF : ∀ n, Hid (Rd (w.drewN n) B 102 zs f) := fun n => h.below (dbel _ _)
  have hfr := front_is B zs f
  obtain ⟨x, n, e, hg⟩ : ∃ x n e, frR zs f = (x, n, e) := ⟨_, _, _, rfl⟩
  rw [hg] at hout ⊢
  have hcell : ∃ cs, w.heap[B]? = some (.cells cs 102 (0, 0)) := by obtain ⟨a, l, c, h, _⟩ := h; exact ⟨_, h⟩
  rcases hout with ⟨he, hf0, h0, h1, h2⟩ | ⟨he, hx, hn⟩
  · simp only at he h0 h1 h2
    subst he
    go_enter Try.func73, Try.ntmps73
    go_wp2
    go_region_with (first
      | (go_at_call 87; refine (front_is B zs f _ (hF _).out).mono ?_; rw [hg]; rintro r w1 ⟨rfl, m, rfl⟩)
      | (go_at_call 86; refine (take_ok B zs f x n _ (hF _).out h2).mono ?_; rintro r w1 ⟨rfl, rd1, k1⟩))
    go_wp2
    go_ret
    rw [hf0] at rd1
    exact ⟨rfl, rd1, (Kept.of (dbel _ _)).trans k1⟩
  · simp only at he hx hn
    have e1 : Hid (aX (x, n, e) = 0) := if_neg he
    have e2 : Hid (aZ (x, n, e) zs = zs) := if_neg he
    subst hx; subst hn
    go_enter Try.func73, Try.ntmps73
    go_wp2
    go_region_with (first
      | (go_at_call 87; refine (front_is B zs f _ (hF _).out).mono ?_; rw [hg]; rintro r w1 ⟨rfl, m, rfl⟩)
      | (go_at_call 86; refine (take_bad B zs f _ _ e _ (hF _).out he).mono ?_; rintro r w1 ⟨rfl, rd1, k1⟩))
    go_wp2
    go_ret
    rw [e2.out]
    exact ⟨ret_i e1.out.symm, rd1, (Kept.of (dbel _ _)).trans k1⟩
theorem aX_in {zs : List Int} (hb : Byt zs) (f : Int) : 0 ≤ aX (frR zs f) ∧ aX (frR zs f) < 18446744073709551616 := by
  unfold aX
  rcases frR_out hb f with ⟨h, _, h0, h1, _⟩ | ⟨h, _⟩
  · rw [if_pos h]; exact ⟨h0, h1⟩
  · rw [if_neg h]; omega
set_option maxHeartbeats 1000000 in
theorem rS_is (B : Nat) (zs : List Int) (f : Int) (w : World) (h : Rd w B 102 zs f) :
    Calls Try.prog 88 #[.pointer (some ⟨B, 0, none⟩)] w fun r w' => r = .returned (.int .i64 (unfR (aX (frR zs f)))) ∧ Rd w' B 102 (aZ (frR zs f) zs) (frR zs f).2.2 ∧ Kept [B] w w' := by
  have hout := aX_in h.byt f
  have hu := rU_is B zs f w h
  obtain ⟨x, hx⟩ : ∃ x, aX (frR zs f) = x := ⟨_, rfl⟩
  rw [hx] at hout hu ⊢
  clear hx
  obtain ⟨h0, h1⟩ := hout
  have A := and1 x h0 h1
  by_cases hp : x % 2 = 0
  · have F : Hid (unfR x = x / 2) := if_pos hp
    go_enter Try.func88, Try.ntmps88
    go_wp2_with fail
    refine hu.mono ?_
    rintro r w1 ⟨rfl, rd1, k1⟩
    go_wp2
    go_ret
    exact ⟨ret_i F.out.symm, rd1, k1⟩
  · have F : Hid (unfR x = -(x / 2) - 1) := if_neg hp
    have hp1 : x % 2 = 1 := by omega
    go_enter Try.func88, Try.ntmps88
    go_wp2_with fail
    refine hu.mono ?_
    rintro r w1 ⟨rfl, rd1, k1⟩
    go_wp2
    go_ret
    exact ⟨ret_i F.out.symm, rd1, k1⟩
set_option maxHeartbeats 2000000 in
theorem rN_is (B : Nat) (zs : List Int) (f : Int) (most : Int) (w : World) (h : Rd w B 102 zs f) (hm1 : -9223372036854775808 ≤ most) (hm2 : most ≤ 9223372036854775807) :
    Calls Try.prog 89 #[.pointer (some ⟨B, 0, none⟩), .int .i64 most] w fun r w' => r = .returned (.int .i64 (aX (cut most (frR zs f)))) ∧ Rd w' B 102 (aZ (cut most (frR zs f)) zs) (cut most (frR zs f)).2.2 ∧ Kept [B] w w' := by
  have hout := frR_out h.byt f
  have hfr := front_is B zs f w h
  obtain ⟨x, n, e, hg⟩ : ∃ x n e, frR zs f = (x, n, e) := ⟨_, _, _, rfl⟩
  rw [hg] at hout hfr ⊢
  clear hg
  have hF : ∀ n, Rd (w.drewN n) B 102 zs f := fun n => h.below (dbel _ _)
  have hF' : ∀ n, Hid (Rd (w.drewN n) B 102 zs f) := fun n => hF n
  have hcell : Hid (∃ cs, w.heap[B]? = some (.cells cs 102 (0, 0))) := by obtain ⟨a, l, c, h, _⟩ := h; exact ⟨_, h⟩
  clear hF
  rcases hout with ⟨he, hf0, h0, h1, h2⟩ | ⟨he, hx, hn⟩
  · simp only at he h0 h1 h2
    subst he
    by_cases hc : most < 0 ∨ most < x
    · have c1 : Hid (cut most (x, n, 0) = (0, 0, 42)) := if_pos ⟨rfl, hc⟩
      rw [c1.out]
      by_cases hm0 : most < 0
      all_goals
        go_enter Try.func89, Try.ntmps89
        go_wp2_with fail
        refine hfr.mono ?_
        rintro r w1 ⟨rfl, m, rfl⟩
        go_wp2_with fail
        refine (take_bad B zs f _ _ 42 _ (hF' m).out (by decide)).mono ?_
        rintro r w1 ⟨rfl, rd1, k1⟩
        go_wp2
        go_ret
        exact ⟨rfl, rd1, (Kept.of (dbel _ _)).trans k1⟩
    · have c1 : Hid (cut most (x, n, 0) = (x, n, 0)) := if_neg (by simp; omega)
      rw [c1.out]
      go_enter Try.func89, Try.ntmps89
      go_wp2_with fail
      refine hfr.mono ?_
      rintro r w1 ⟨rfl, m, rfl⟩
      go_wp2_with fail
      refine (take_ok B zs f x n _ (hF' m).out h2).mono ?_
      rintro r w1 ⟨rfl, rd1, k1⟩
      go_wp2
      go_ret
      rw [hf0] at rd1
      exact ⟨rfl, rd1, (Kept.of (dbel _ _)).trans k1⟩
  · simp only at he hx hn
    have c1 : Hid (cut most (x, n, e) = (x, n, e)) := if_neg (by simp [he])
    rw [c1.out]
    have e1 : Hid (aX (x, n, e) = 0) := if_neg he
    have e2 : Hid (aZ (x, n, e) zs = zs) := if_neg he
    go_enter Try.func89, Try.ntmps89
    go_wp2_with fail
    refine hfr.mono ?_
    rintro r w1 ⟨rfl, m, rfl⟩
    go_wp2_with fail
    refine (take_bad B zs f _ _ e _ (hF' m).out he).mono ?_
    rintro r w1 ⟨rfl, rd1, k1⟩
    go_wp2
    go_ret
    rw [e2.out]
    exact ⟨ret_i e1.out.symm, rd1, (Kept.of (dbel _ _)).trans k1⟩
theorem rLeft_is (B : Nat) (zs : List Int) (f : Int) (w : World) (h : Rd w B 102 zs f) :
    Calls Try.prog 55 #[.pointer (some ⟨B, 0, none⟩)] w fun r w' => r = .returned (.int .i64 (zs.length : Nat)) ∧ w' = w := by
  obtain ⟨a, len, cap, hB, hr, -⟩ := h
  obtain ⟨cB, fB, zB⟩ := cells_at hB
  rw [hr.1]
  clear hB
  go_enter Try.func55, Try.ntmps55
  go_wp2
  go_ret
  exact ⟨rfl, rfl⟩
theorem rErr_is (B : Nat) (zs : List Int) (f : Int) (w : World) (h : Rd w B 102 zs f) :
    Calls Try.prog 54 #[.pointer (some ⟨B, 0, none⟩)] w fun r w' => r = .returned (.int .i64 f) ∧ w' = w := by
  obtain ⟨a, len, cap, hB, hr, -⟩ := h
  obtain ⟨cB, fB, zB⟩ := cells_at hB
  clear hB
  go_enter Try.func54, Try.ntmps54
  go_wp2
  go_ret
  exact ⟨rfl, rfl⟩
def endR (zs : List Int) (f : Int) : Int := if f = 0 then (if zs.length = 0 then 0 else 43) else f
set_option maxHeartbeats 1000000 in
theorem rEnd_is (B : Nat) (zs : List Int) (f : Int) (w : World) (h : Rd w B 102 zs f) :
    Calls Try.prog 35 #[.pointer (some ⟨B, 0, none⟩)] w fun r w' => r = .returned (.int .i64 (endR zs f)) ∧ w' = w := by
  by_cases hf : f = 0
  · subst hf
    by_cases hl : zs.length = 0
    · have E : Hid (endR zs 0 = 0) := by simp [Hid, endR, hl]
      go_enter Try.func35, Try.ntmps35
      go_wp2_with fail
      refine (rErr_is B zs 0 w h).mono ?_
      rintro r w1 ⟨rfl, rfl⟩
      go_wp2_with fail
      refine (rLeft_is B zs 0 _ h).mono ?_
      rintro r w1 ⟨rfl, rfl⟩
      go_wp2
      go_ret
      exact ⟨ret_i E.out.symm, rfl⟩
    · have E : Hid (endR zs 0 = 43) := by simp only [Hid, endR, if_neg hl, if_true]
      go_enter Try.func35, Try.ntmps35
      go_wp2_with fail
      refine (rErr_is B zs 0 w h).mono ?_
      rintro r w1 ⟨rfl, rfl⟩
      go_wp2_with fail
      refine (rLeft_is B zs 0 _ h).mono ?_
      rintro r w1 ⟨rfl, rfl⟩
      go_wp2
      go_ret
      exact ⟨ret_i E.out.symm, rfl⟩
  · have E : Hid (endR zs f = f) := if_neg hf
    go_enter Try.func35, Try.ntmps35
    go_wp2_with fail
    refine (rErr_is B zs f w h).mono ?_
    rintro r w1 ⟨rfl, rfl⟩
    go_wp2
    go_ret
    exact ⟨ret_i E.out.symm, rfl⟩
end Go.Proofs.Ythagdpiocmcbmaa.Wr

/- Models in bytes, in plain lists: what stands in bytes, which bytes a model has; there and back; cut short; one form. -/
namespace Go.Proofs.Ythagdpiocmcbmaa
open Wr
set_option linter.unusedVariables false
/-- Then. -/
def pbind {α β : Type} (x : Sum (Int × Int) (α × List Int)) (f : α → List Int → Sum (Int × Int) (β × List Int)) : Sum (Int × Int) (β × List Int) :=
  match x with
  | .inl e => .inl e
  | .inr (a, r) => f a r
theorem pbind_l {α β : Type} {e : Int × Int} {f : α → List Int → Sum (Int × Int) (β × List Int)} : pbind (.inl e) f = .inl e := rfl
theorem pbind_r {α β : Type} {a : α} {r : List Int} {f : α → List Int → Sum (Int × Int) (β × List Int)} : pbind (.inr (a, r)) f = f a r := rfl
/-- A number up to 2^31 - 1; a count; a number with a sign, between two ends. -/
def pU (t : Int) (zs : List Int) : Sum (Int × Int) (Int × List Int) :=
  if (getR zs).2.2 ≠ 0 then .inl ((getR zs).2.2, t) else if 2147483647 < (getR zs).1 then .inl (41, t) else .inr ((getR zs).1, zs.drop (getR zs).2.1)
def pN (t most : Int) (zs : List Int) : Sum (Int × Int) (Int × List Int) :=
  if (cut most (getR zs)).2.2 ≠ 0 then .inl ((cut most (getR zs)).2.2, t) else .inr ((cut most (getR zs)).1, zs.drop (cut most (getR zs)).2.1)
def pS (t lo hi : Int) (zs : List Int) : Sum (Int × Int) (Int × List Int) :=
  if (getR zs).2.2 ≠ 0 then .inl ((getR zs).2.2, t) else if unfR (getR zs).1 < lo ∨ hi < unfR (getR zs).1 then .inl (41, t) else .inr (unfR (getR zs).1, zs.drop (getR zs).2.1)
def pL (p : List Int → Sum (Int × Int) (Int × List Int)) : Nat → List Int → Sum (Int × Int) (List Int × List Int)
  | 0, zs => .inr ([], zs)
  | n + 1, zs => pbind (p zs) fun a r => pbind (pL p n r) fun l r' => .inr (a :: l, r')
def p16 (t : Int) : List Int → Sum (Int × Int) (Int × List Int) := pS t (-32768) 32767
def p32 (t : Int) : List Int → Sum (Int × Int) (Int × List Int) := pS t (-2147483648) 2147483647
/-- An op: twelve numbers, weights, bias, four numbers, four with a sign. -/
structure OpD where
  us : List Int
  z : List Int
  b : List Int
  vs : List Int
  ss : List Int
def pOp (t : Int) (zs : List Int) : Sum (Int × Int) (OpD × List Int) :=
  pbind (pL (pU t) 12 zs) fun us r1 => pbind (pN t 131072 r1) fun n r2 => pbind (pL (p16 t) n.toNat r2) fun z r3 => pbind (pN t 1024 r3) fun m r4 => pbind (pL (p32 t) m.toNat r4) fun b r5 =>
    pbind (pL (pU t) 4 r5) fun vs r6 => pbind (pL (p32 t) 4 r6) fun ss r7 => .inr (⟨us, z, b, vs, ss⟩, r7)
def pOps : Nat → Nat → List Int → Sum (Int × Int) (List OpD × List Int)
  | 0, _, zs => .inr ([], zs)
  | n + 1, i, zs => pbind (pOp ((i : Int) + 1) zs) fun o r => pbind (pOps n (i + 1) r) fun l r' => .inr (o :: l, r')
/-- A model: its input's shape, its range, its ops, its output. -/
structure ModD where
  s : List Int
  lh : List Int
  ops : List OpD
  ot : Int
def pMod (zs : List Int) : Sum (Int × Int) (ModD × List Int) :=
  pbind (pL (pU 0) 3 zs) fun s r1 => pbind (pL (p32 0) 2 r1) fun lh r2 => pbind (pN 0 64 r2) fun n r3 => pbind (pOps n.toNat 0 r3) fun ops r4 => pbind (pU 0 r4) fun ot r5 => .inr (⟨s, lh, ops, ot⟩, r5)
def head4 : List Int := [83, 87, 77, 49]
def pAll (zs : List Int) : Sum (Int × Int) ModD :=
  if zs.length < 4 then .inl (40, 0) else if zs.take 4 ≠ head4 then .inl (41, 0) else
    match pMod (zs.drop 4) with
    | .inl e => .inl e
    | .inr (m, r) => if r = [] then .inr m else .inl (43, 0)
/-! ### The bytes -/
def u64 (x : Int) : Nat := (IntKind.u64.wrap x).toNat
def eU (l : List Int) : List Int := l.flatMap fun x => putR (u64 x)
def eS (l : List Int) : List Int := l.flatMap fun x => putR (foldR x)
def eOp (d : OpD) : List Int := eU d.us ++ (putR d.z.length ++ (eS d.z ++ (putR d.b.length ++ (eS d.b ++ (eU d.vs ++ eS d.ss)))))
def eOps (l : List OpD) : List Int := l.flatMap eOp
def eMod (m : ModD) : List Int := eU m.s ++ (eS m.lh ++ (putR m.ops.length ++ (eOps m.ops ++ putR (u64 m.ot))))
def eAll (m : ModD) : List Int := head4 ++ eMod m
theorem u64_of {x : Int} (h0 : 0 ≤ x) (h1 : x < 18446744073709551616) : u64 x = x.toNat := by
  unfold u64; rw [IntKind.wrap_u64]; congr 1; omega
theorem u64_lt (x : Int) : u64 x < 18446744073709551616 := by
  unfold u64; rw [IntKind.wrap_u64]; omega
theorem eU_app (a b : List Int) : eU (a ++ b) = eU a ++ eU b := List.flatMap_append
theorem eS_app (a b : List Int) : eS (a ++ b) = eS a ++ eS b := List.flatMap_append
theorem eU_cons (x : Int) (l : List Int) : eU (x :: l) = putR (u64 x) ++ eU l := rfl
theorem eS_cons (x : Int) (l : List Int) : eS (x :: l) = putR (foldR x) ++ eS l := rfl
/-! ### There and back -/
/-- These bytes, ahead of whatever, are taken as x; cut short they are too short. -/
def Cod {α : Type} (p : List Int → Sum (Int × Int) (α × List Int)) (e : List Int) (x : α) : Prop := (∀ r, p (e ++ r) = .inr (x, r)) ∧ ∀ n, n < e.length → ∃ t, p (e.take n) = .inl (40, t)
theorem Cod.bind {α β : Type} {p : List Int → Sum (Int × Int) (α × List Int)} {q : α → List Int → Sum (Int × Int) (β × List Int)} {e f : List Int} {x : α} {y : β} (h : Cod p e x) (k : Cod (q x) f y) : Cod (fun zs => pbind (p zs) q) (e ++ f) y := by
  refine ⟨fun r => ?_, fun n hn => ?_⟩
  · show pbind (p (e ++ f ++ r)) q = _
    rw [List.append_assoc, h.1, pbind_r, k.1]
  · rcases Nat.lt_or_ge n e.length with c | c
    · obtain ⟨t, ht⟩ := h.2 n c
      exact ⟨t, by show pbind (p _) q = _; rw [List.take_append_of_le_length (by omega), ht]; rfl⟩
    · rw [List.length_append] at hn
      obtain ⟨t, ht⟩ := k.2 (n - e.length) (by omega)
      refine ⟨t, ?_⟩
      show pbind (p _) q = _
      rw [List.take_append, List.take_of_length_le c, h.1, pbind_r, ht]
theorem Cod.last {α β : Type} {p : List Int → Sum (Int × Int) (α × List Int)} {e : List Int} {x : α} (g : α → β) (h : Cod p e x) : Cod (fun zs => pbind (p zs) fun a r => .inr (g a, r)) e (g x) := by
  refine ⟨fun r => by show pbind (p _) _ = _; rw [h.1, pbind_r], fun n hn => ?_⟩
  obtain ⟨t, ht⟩ := h.2 n hn
  exact ⟨t, by show pbind (p _) _ = _; rw [ht]; rfl⟩
theorem take_short {x n : Nat} (hx : x < 18446744073709551616) (hn : n < (putR x).length) : getR ((putR x).take n) = (0, 0, 40) := by
  obtain ⟨m, hm⟩ : ∃ m, (putR x).length = m + 1 := ⟨(putR x).length - 1, by omega⟩
  have hf := putR_front m x hm
  refine gR_short _ 0 0 (fun c hc => hf c ?_) (by have := putR_ten hx; simp; omega)
  have e : (putR x).take n = ((putR x).take m).take n := by rw [List.take_take, Nat.min_eq_left (by omega)]
  rw [e] at hc
  exact List.mem_of_mem_take hc
theorem drop_put (a r : List Int) : (a ++ r).drop a.length = r := by simp
theorem cod_U (t : Int) {x : Int} (h0 : 0 ≤ x) (h1 : x ≤ 2147483647) : Cod (pU t) (putR (u64 x)) x := by
  have hu : u64 x = x.toNat := u64_of h0 (by omega)
  rw [hu]
  refine ⟨fun r => ?_, fun n hn => ⟨t, ?_⟩⟩
  · unfold pU
    rw [get_put (by omega)]
    simp only [ne_eq, not_true_eq_false, if_false]
    rw [if_neg (by omega), drop_put, Int.toNat_of_nonneg h0]
  · unfold pU
    rw [take_short (by omega) hn]
    rfl
theorem cod_N (t : Int) {most : Int} {n : Nat} (h1 : (n : Int) ≤ most) (hm : most < 18446744073709551616) : Cod (pN t most) (putR n) (n : Int) := by
  have hc : ∀ k, cut most ((n : Int), k, 0) = ((n : Int), k, 0) := fun k => by unfold cut; rw [if_neg]; simp only; omega
  refine ⟨fun r => ?_, fun k hk => ⟨t, ?_⟩⟩
  · unfold pN
    rw [get_put (by omega), hc]
    simp only [ne_eq, not_true_eq_false, if_false]
    rw [drop_put]
  · unfold pN
    rw [take_short (by omega) hk]
    rfl
theorem cod_S (t lo hi : Int) {x : Int} (h0 : lo ≤ x) (h1 : x ≤ hi) (hl : -9223372036854775808 ≤ lo) (hh : hi ≤ 9223372036854775807) : Cod (pS t lo hi) (putR (foldR x)) x := by
  have hf := foldR_lt (y := x) (by omega) (by omega)
  refine ⟨fun r => ?_, fun n hn => ⟨t, ?_⟩⟩
  · unfold pS
    rw [get_put hf]
    simp only [ne_eq, not_true_eq_false, if_false]
    rw [unfR_foldR, if_neg (by omega), drop_put]
  · unfold pS
    rw [take_short hf hn]
    rfl
theorem cod_L {p : List Int → Sum (Int × Int) (Int × List Int)} {en : Int → List Int} : ∀ (l : List Int), (∀ x ∈ l, Cod p (en x) x) → Cod (pL p l.length) (l.flatMap en) l
  | [], _ => ⟨fun r => rfl, fun n hn => by simp at hn⟩
  | x :: l, h => by
    have := (h x List.mem_cons_self).bind (q := fun a r => pbind (pL p l.length r) fun l r' => .inr (a :: l, r')) ((cod_L l fun y hy => h y (List.mem_cons_of_mem _ hy)).last (x :: ·))
    exact this
/-- What a number without a sign may be; with one. -/
def InU (l : List Int) : Prop := ∀ x ∈ l, 0 ≤ x ∧ x ≤ 2147483647
def InS (l : List Int) : Prop := ∀ x ∈ l, -2147483648 ≤ x ∧ x ≤ 2147483647
def In16 (l : List Int) : Prop := ∀ x ∈ l, -32768 ≤ x ∧ x ≤ 32767
theorem cod_Us (t : Int) {l : List Int} {n : Nat} (hn : l.length = n) (h : InU l) : Cod (pL (pU t) n) (eU l) l := by
  subst hn; exact cod_L l fun x hx => cod_U t (h x hx).1 (h x hx).2
theorem cod_Ss (t : Int) {l : List Int} {n : Nat} (hn : l.length = n) (h : InS l) : Cod (pL (p32 t) n) (eS l) l := by
  subst hn; exact cod_L l fun x hx => cod_S t _ _ (h x hx).1 (h x hx).2 (by omega) (by omega)
theorem cod_16 (t : Int) {l : List Int} {n : Nat} (hn : l.length = n) (h : In16 l) : Cod (pL (p16 t) n) (eS l) l := by
  subst hn; exact cod_L l fun x hx => cod_S t _ _ (h x hx).1 (h x hx).2 (by omega) (by omega)
/-- An op whose numbers fit their forms. -/
def OpF (d : OpD) : Prop := d.us.length = 12 ∧ InU d.us ∧ d.z.length ≤ 131072 ∧ In16 d.z ∧ d.b.length ≤ 1024 ∧ InS d.b ∧ d.vs.length = 4 ∧ InU d.vs ∧ d.ss.length = 4 ∧ InS d.ss
theorem cod_Op (t : Int) {d : OpD} (h : OpF d) : Cod (pOp t) (eOp d) d := by
  obtain ⟨h1, h2, h3, h4, h5, h6, h7, h8, h9, h10⟩ := h
  exact (cod_Us t h1 h2).bind ((cod_N t (by omega) (by omega)).bind ((cod_16 t (by simp) h4).bind ((cod_N t (by omega) (by omega)).bind ((cod_Ss t (by simp) h6).bind ((cod_Us t h7 h8).bind ((cod_Ss t h9 h10).last fun ss => (⟨d.us, d.z, d.b, d.vs, ss⟩ : OpD)))))))
theorem cod_Ops : ∀ (l : List OpD) (i : Nat), (∀ d ∈ l, OpF d) → Cod (pOps l.length i) (eOps l) l
  | [], _, _ => ⟨fun r => rfl, fun n hn => by simp [eOps] at hn⟩
  | d :: l, i, h => by
    have := (cod_Op ((i : Int) + 1) (h d List.mem_cons_self)).bind (q := fun a r => pbind (pOps l.length (i + 1) r) fun l r' => .inr (a :: l, r')) ((cod_Ops l (i + 1) fun y hy => h y (List.mem_cons_of_mem _ hy)).last (d :: ·))
    exact this
def ModF (m : ModD) : Prop := m.s.length = 3 ∧ InU m.s ∧ m.lh.length = 2 ∧ InS m.lh ∧ m.ops.length ≤ 64 ∧ (∀ d ∈ m.ops, OpF d) ∧ 0 ≤ m.ot ∧ m.ot ≤ 2147483647
theorem cod_Mod {m : ModD} (h : ModF m) : Cod pMod (eMod m) m := by
  obtain ⟨h1, h2, h3, h4, h5, h6, h7, h8⟩ := h
  exact (cod_Us 0 h1 h2).bind ((cod_Ss 0 h3 h4).bind ((cod_N 0 (by omega) (by omega)).bind ((by simpa using cod_Ops m.ops 0 h6 : Cod (pOps (m.ops.length : Int).toNat 0) (eOps m.ops) m.ops).bind ((cod_U 0 h7 h8).last fun ot => (⟨m.s, m.lh, m.ops, ot⟩ : ModD)))))
/-- There and back; cut; with a byte behind. -/
theorem all_back {m : ModD} (h : ModF m) : pAll (eAll m) = .inr m := by
  have := (cod_Mod h).1 []
  rw [List.append_nil] at this
  unfold pAll eAll
  rw [if_neg (by simp [head4]), if_neg (by simp [head4]), show (head4 ++ eMod m).drop 4 = eMod m from rfl, this]
  rfl
theorem all_cut {m : ModD} (h : ModF m) {n : Nat} (hn : n < (eAll m).length) : ∃ t, pAll ((eAll m).take n) = .inl (40, t) := by
  unfold pAll eAll
  rcases Nat.lt_or_ge n 4 with c | c
  · exact ⟨0, by rw [if_pos (by simp; omega)]⟩
  · have e : (head4 ++ eMod m).take n = head4 ++ (eMod m).take (n - 4) := by rw [List.take_append, List.take_of_length_le (by simp [head4]; omega)]; rfl
    rw [e]
    obtain ⟨t, ht⟩ := (cod_Mod h).2 (n - 4) (by unfold eAll at hn; simp [head4] at hn; omega)
    refine ⟨t, ?_⟩
    rw [if_neg (by simp [head4]), if_neg (by simp [head4]), show (head4 ++ (eMod m).take (n - 4)).drop 4 = (eMod m).take (n - 4) from rfl, ht]
theorem all_more {m : ModD} (h : ModF m) (c : Int) : pAll (eAll m ++ [c]) = .inl (43, 0) := by
  have := (cod_Mod h).1 [c]
  unfold pAll eAll
  rw [List.append_assoc, if_neg (by simp [head4]), if_neg (by simp [head4]), show (head4 ++ (eMod m ++ [c])).drop 4 = eMod m ++ [c] from rfl, this]
  rfl
/-! ### One form -/
/-- What is taken is the form of what is told. -/
def Unq {α : Type} (p : List Int → Sum (Int × Int) (α × List Int)) (en : α → List Int) (F : α → Prop) : Prop := ∀ zs x r, Byt zs → p zs = .inr (x, r) → zs = en x ++ r ∧ F x
theorem byt_of {zs a r : List Int} (h : Byt zs) (e : zs = a ++ r) : Byt r := fun z hz => h z (by rw [e]; exact List.mem_append_right _ hz)
theorem pbind_inv {α β : Type} {x : Sum (Int × Int) (α × List Int)} {f : α → List Int → Sum (Int × Int) (β × List Int)} {y : β × List Int} (h : pbind x f = .inr y) : ∃ a r, x = .inr (a, r) ∧ f a r = .inr y := by
  match x, h with
  | .inl _, h => cases h
  | .inr (a, r), h => exact ⟨a, r, rfl, h⟩
theorem unq_U (t : Int) : Unq (pU t) (fun x => putR (u64 x)) (fun x => 0 ≤ x ∧ x ≤ 2147483647) := by
  intro zs x r hb h
  unfold pU at h
  by_cases c : (getR zs).2.2 ≠ 0
  · rw [if_pos c] at h; cases h
  · rw [if_neg c] at h
    obtain ⟨y, e1, e2, -, e4⟩ := get_form hb (Decidable.not_not.1 c)
    by_cases d : 2147483647 < (getR zs).1
    · rw [if_pos d] at h; cases h
    · rw [if_neg d] at h
      simp only [Sum.inr.injEq, Prod.mk.injEq] at h
      obtain ⟨rfl, rfl⟩ := h
      refine ⟨?_, by omega, by omega⟩
      rw [e1]
      show _ = putR (u64 (y : Int)) ++ _
      rw [u64_of (x := (y : Int)) (by omega) (by omega), Int.toNat_natCast, ← e2, List.take_append_drop]
theorem unq_N (t most : Int) : Unq (pN t most) (fun x => putR x.toNat) (fun x => 0 ≤ x ∧ x ≤ most) := by
  intro zs x r hb h
  unfold pN at h
  by_cases c : (cut most (getR zs)).2.2 ≠ 0
  · rw [if_pos c] at h; cases h
  · rw [if_neg c] at h
    simp only [Sum.inr.injEq, Prod.mk.injEq] at h
    unfold cut at c h
    by_cases d : (getR zs).2.2 = 0 ∧ (most < 0 ∨ most < (getR zs).1)
    · rw [if_pos d] at c; exact absurd (show (42 : Int) ≠ 0 by decide) c
    · rw [if_neg d] at c h
      have c' := Decidable.not_not.1 c
      obtain ⟨y, e1, e2, -, e4⟩ := get_form hb c'
      obtain ⟨rfl, rfl⟩ := h
      refine ⟨?_, by omega, by omega⟩
      rw [e1]
      show _ = putR (y : Int).toNat ++ _
      rw [Int.toNat_natCast, ← e2, List.take_append_drop]
theorem foldR_unfR (u : Nat) : foldR (unfR u) = u := by
  unfold foldR unfR; split <;> split <;> omega
theorem unq_S (t lo hi : Int) : Unq (pS t lo hi) (fun x => putR (foldR x)) (fun x => lo ≤ x ∧ x ≤ hi) := by
  intro zs x r hb h
  unfold pS at h
  by_cases c : (getR zs).2.2 ≠ 0
  · rw [if_pos c] at h; cases h
  · rw [if_neg c] at h
    obtain ⟨y, e1, e2, -, e4⟩ := get_form hb (Decidable.not_not.1 c)
    by_cases d : unfR (getR zs).1 < lo ∨ hi < unfR (getR zs).1
    · rw [if_pos d] at h; cases h
    · rw [if_neg d] at h
      simp only [Sum.inr.injEq, Prod.mk.injEq] at h
      obtain ⟨rfl, rfl⟩ := h
      refine ⟨?_, by omega, by omega⟩
      rw [e1]
      show _ = putR (foldR (unfR (y : Int))) ++ _
      rw [foldR_unfR, ← e2, List.take_append_drop]
theorem unq_L {p : List Int → Sum (Int × Int) (Int × List Int)} {en : Int → List Int} {F : Int → Prop} (h : Unq p en F) : ∀ n, Unq (pL p n) (fun l => l.flatMap en) (fun l => l.length = n ∧ ∀ x ∈ l, F x)
  | 0, zs, x, r, hb, e => by
    simp only [pL, Sum.inr.injEq, Prod.mk.injEq] at e
    obtain ⟨rfl, rfl⟩ := e
    exact ⟨rfl, rfl, fun x hx => by cases hx⟩
  | n + 1, zs, x, r, hb, e => by
    unfold pL at e
    obtain ⟨a, r1, e1, e2⟩ := pbind_inv e
    obtain ⟨l, r2, e3, e4⟩ := pbind_inv e2
    simp only [Sum.inr.injEq, Prod.mk.injEq] at e4
    obtain ⟨rfl, rfl⟩ := e4
    obtain ⟨f1, f2⟩ := h zs a r1 hb e1
    obtain ⟨g1, g2, g3⟩ := unq_L h n r1 l r2 (byt_of hb f1) e3
    refine ⟨?_, by simp [g2], fun y hy => ?_⟩
    · rw [f1, g1]; simp
    · rcases List.mem_cons.1 hy with rfl | hy
      · exact f2
      · exact g3 y hy
theorem unq_Op (t : Int) : Unq (pOp t) eOp OpF := by
  intro zs d r hb e
  unfold pOp at e
  obtain ⟨us, r1, e1, e⟩ := pbind_inv e
  obtain ⟨n, r2, e2, e⟩ := pbind_inv e
  obtain ⟨z, r3, e3, e⟩ := pbind_inv e
  obtain ⟨m, r4, e4, e⟩ := pbind_inv e
  obtain ⟨b, r5, e5, e⟩ := pbind_inv e
  obtain ⟨vs, r6, e6, e⟩ := pbind_inv e
  obtain ⟨ss, r7, e7, e⟩ := pbind_inv e
  simp only [Sum.inr.injEq, Prod.mk.injEq] at e
  obtain ⟨rfl, rfl⟩ := e
  obtain ⟨a1, l1, i1⟩ := unq_L (unq_U t) 12 zs us r1 hb e1
  have b1 := byt_of hb a1
  obtain ⟨a2, i2⟩ := unq_N t 131072 r1 n r2 b1 e2
  have b2 := byt_of b1 a2
  obtain ⟨a3, l3, i3⟩ := unq_L (unq_S t (-32768) 32767) n.toNat r2 z r3 b2 e3
  have b3 := byt_of b2 a3
  obtain ⟨a4, i4⟩ := unq_N t 1024 r3 m r4 b3 e4
  have b4 := byt_of b3 a4
  obtain ⟨a5, l5, i5⟩ := unq_L (unq_S t (-2147483648) 2147483647) m.toNat r4 b r5 b4 e5
  have b5 := byt_of b4 a5
  obtain ⟨a6, l6, i6⟩ := unq_L (unq_U t) 4 r5 vs r6 b5 e6
  have b6 := byt_of b5 a6
  obtain ⟨a7, l7, i7⟩ := unq_L (unq_S t (-2147483648) 2147483647) 4 r6 ss r7 b6 e7
  refine ⟨?_, l1, i1, by show z.length ≤ _; omega, i3, by show b.length ≤ _; omega, i5, l6, i6, l7, i7⟩
  unfold eOp eU eS
  simp only [List.append_assoc]
  rw [l3, l5, ← a7, ← a6, ← a5, ← a4, ← a3, ← a2, ← a1]
theorem unq_Ops : ∀ (n i : Nat), Unq (pOps n i) eOps (fun l => l.length = n ∧ ∀ d ∈ l, OpF d)
  | 0, i, zs, x, r, hb, e => by
    simp only [pOps, Sum.inr.injEq, Prod.mk.injEq] at e
    obtain ⟨rfl, rfl⟩ := e
    exact ⟨rfl, rfl, fun x hx => by cases hx⟩
  | n + 1, i, zs, x, r, hb, e => by
    unfold pOps at e
    obtain ⟨a, r1, e1, e2⟩ := pbind_inv e
    obtain ⟨l, r2, e3, e4⟩ := pbind_inv e2
    simp only [Sum.inr.injEq, Prod.mk.injEq] at e4
    obtain ⟨rfl, rfl⟩ := e4
    obtain ⟨f1, f2⟩ := unq_Op _ zs a r1 hb e1
    obtain ⟨g1, g2, g3⟩ := unq_Ops n (i + 1) r1 l r2 (byt_of hb f1) e3
    refine ⟨?_, by simp [g2], fun y hy => ?_⟩
    · rw [f1, g1]; simp [eOps]
    · rcases List.mem_cons.1 hy with rfl | hy
      · exact f2
      · exact g3 y hy
theorem unq_Mod : Unq pMod eMod ModF := by
  intro zs d r hb e
  unfold pMod at e
  obtain ⟨s, r1, e1, e⟩ := pbind_inv e
  obtain ⟨lh, r2, e2, e⟩ := pbind_inv e
  obtain ⟨n, r3, e3, e⟩ := pbind_inv e
  obtain ⟨ops, r4, e4, e⟩ := pbind_inv e
  obtain ⟨ot, r5, e5, e⟩ := pbind_inv e
  simp only [Sum.inr.injEq, Prod.mk.injEq] at e
  obtain ⟨rfl, rfl⟩ := e
  obtain ⟨a1, l1, i1⟩ := unq_L (unq_U 0) 3 zs s r1 hb e1
  have b1 := byt_of hb a1
  obtain ⟨a2, l2, i2⟩ := unq_L (unq_S 0 (-2147483648) 2147483647) 2 r1 lh r2 b1 e2
  have b2 := byt_of b1 a2
  obtain ⟨a3, i3⟩ := unq_N 0 64 r2 n r3 b2 e3
  have b3 := byt_of b2 a3
  obtain ⟨a4, l4, i4⟩ := unq_Ops n.toNat 0 r3 ops r4 b3 e4
  have b4 := byt_of b3 a4
  obtain ⟨a5, i5⟩ := unq_U 0 r4 ot r5 b4 e5
  refine ⟨?_, l1, i1, l2, i2, by show ops.length ≤ _; omega, i4, i5.1, i5.2⟩
  unfold eMod eU eS
  simp only [List.append_assoc]
  rw [l4, ← a5, ← a4, ← a3, ← a2, ← a1]
theorem unq_all {zs : List Int} {m : ModD} (hb : Byt zs) (h : pAll zs = .inr m) : zs = eAll m ∧ ModF m := by
  unfold pAll at h
  by_cases c : zs.length < 4
  · rw [if_pos c] at h; cases h
  rw [if_neg c] at h
  by_cases d : zs.take 4 ≠ head4
  · rw [if_pos d] at h; cases h
  rw [if_neg d] at h
  have d' := Decidable.not_not.1 d
  match hp : pMod (zs.drop 4), h with
  | .inl e, h => cases h
  | .inr (m', r), h =>
    simp only at h
    by_cases hr : r = []
    · rw [if_pos hr] at h
      cases h
      obtain ⟨a1, a2⟩ := unq_Mod _ _ _ (hb.drop 4) hp
      refine ⟨?_, a2⟩
      unfold eAll
      rw [hr, List.append_nil] at a1
      rw [← a1, ← d', List.take_append_drop]
    · rw [if_neg hr] at h; cases h
end Go.Proofs.Ythagdpiocmcbmaa

/- What each function of package num, and the document's answer to it, returns: each for every argument that fits its type. -/
namespace Go.Proofs.Ythagdpiocmcbmaa
open Go.ChangeShapes Go.WideShapes Go.ChangeAt Go.RowKit

/-! ### Plain numbers -/
def I64 (a : Int) : Prop := -9223372036854775808 ≤ a ∧ a ≤ 9223372036854775807
def okV (x : Int) : Int := if -9223372036854775808 ≤ x ∧ x ≤ 9223372036854775807 then x else 0
def okE (x : Int) : Int := if -9223372036854775808 ≤ x ∧ x ≤ 9223372036854775807 then 0 else 10
def clampV (x lo hi : Int) : Int := if hi < x then hi else if x < lo then lo else x
def fitsN (t x : Int) : Bool := decide (-t ≤ x ∧ x ≤ t - 1)
def wrapN (t x : Int) : Int := (x + t) % (2 * t) - t

theorem okV_in (x : Int) (h : -9223372036854775808 ≤ x ∧ x ≤ 9223372036854775807) : okV x = x := if_pos h
theorem okE_in (x : Int) (h : -9223372036854775808 ≤ x ∧ x ≤ 9223372036854775807) : okE x = 0 := if_pos h
theorem okV_out (x : Int) (h : ¬ (-9223372036854775808 ≤ x ∧ x ≤ 9223372036854775807)) : okV x = 0 := if_neg h
theorem okE_out (x : Int) (h : ¬ (-9223372036854775808 ≤ x ∧ x ≤ 9223372036854775807)) : okE x = 10 := if_neg h
theorem okV_I64 (x : Int) : I64 (okV x) := by unfold okV I64; split <;> omega
theorem okE_bd (x : Int) : 0 ≤ okE x ∧ okE x ≤ 10 := by unfold okE; split <;> omega
theorem I64_of_wf {a : Int} (h : (Lit.int .i64 a).wf = true) : I64 a := by
  have := bounds_i64 h
  unfold I64; omega
theorem ret2 {a b c d : Int} (h : a = c) (g : b = d) : Ending.returned (.tuple #[.int .i64 a, .int .i64 b]) = .returned (.tuple #[.int .i64 c, .int .i64 d]) := by rw [h, g]
theorem ret1 {k : IntKind} {a b : Int} (h : a = b) : Ending.returned (.int k a) = .returned (.int k b) := by rw [h]
theorem retB {a b : Bool} (h : a = b) : Ending.returned (.bool a) = .returned (.bool b) := by rw [h]
theorem lit8 (x : Int) : IntKind.i8.wrap x = wrapN 128 x := by show _ = (x + 128) % (2 * 128) - 128; simp [IntKind.wrap, IntKind.bits, IntKind.signed]; omega
theorem lit16 (x : Int) : IntKind.i16.wrap x = wrapN 32768 x := by show _ = (x + 32768) % (2 * 32768) - 32768; simp [IntKind.wrap, IntKind.bits, IntKind.signed]; omega
theorem lit32 (x : Int) : wrap32 x = wrapN 2147483648 x := by unfold wrap32 wrapN; omega

/-! ### Sums, differences -/
/-! ### Clamp -/
/-! ### Fits, Wrap -/

theorem fits8 (x : Int) : (wrap64 (IntKind.i8.wrap x) == x) = fitsN 128 x := by
  rw [lit8]; unfold wrap64 wrapN fitsN; rw [Bool.eq_iff_iff]; simp; omega
theorem fits16 (x : Int) : (wrap64 (IntKind.i16.wrap x) == x) = fitsN 32768 x := by
  rw [lit16]; unfold wrap64 wrapN fitsN; rw [Bool.eq_iff_iff]; simp; omega
theorem fits32 (x : Int) : (wrap64 (wrap32 x) == x) = fitsN 2147483648 x := by
  rw [lit32]; unfold wrap64 wrapN fitsN; rw [Bool.eq_iff_iff]; simp; omega
end Go.Proofs.Ythagdpiocmcbmaa

/- What lies in the memory that a walk has made, carried through calls that make memory of their own. -/
namespace Go.Proofs.Ythagdpiocmcbmaa
open Go.ChangeShapes Go.WideShapes Go.ChangeAt Go.RowKit
/-- Behind 'w0' nothing old has turned, and each listed block holds the listed cells. -/
def St (w0 w : World) (l : List (Nat × Array Value × TypeId)) : Prop :=
  Below w0.heap.size w0 w ∧ ∀ x ∈ l, w.heap[x.1]? = some (.cells x.2.1 x.2.2) ∧ w0.heap.size ≤ x.1
def Rules (w : World) : List (Nat × Array Value × TypeId) → Prop
  | [] => True
  | (B, c, _) :: l => (∀ i, w.cell? ⟨B, i, none⟩ = c[i]?) ∧ (∀ i, w.frozen? ⟨B, i, none⟩ = false) ∧ B < w.heap.size ∧ Rules w l
theorem St.start (w : World) : St w w [] := ⟨Below.refl _ _, fun _ h => by cases h⟩
theorem lt_of_heap {w : World} {B : Nat} {o : Obj} (h : w.heap[B]? = some o) : B < w.heap.size := by
  rcases Nat.lt_or_ge B w.heap.size with g | g
  · exact g
  · rw [Array.getElem?_eq_none g] at h; cases h
theorem St.below {w0 w : World} {l : List (Nat × Array Value × TypeId)} (h : St w0 w l) : Below w0.heap.size w0 w := h.1
theorem St.call {w0 w w1 : World} {l : List (Nat × Array Value × TypeId)} (h : St w0 w l) (hb : Below w.heap.size w w1) : St w0 w1 l :=
  ⟨h.1.trans (hb.mono h.1.size), fun x hx => ⟨by rw [hb.block _ (lt_of_heap (h.2 x hx).1)]; exact (h.2 x hx).1, (h.2 x hx).2⟩⟩
theorem St.skip {w0 w : World} {l : List (Nat × Array Value × TypeId)} (h : St w0 w l) (o : Obj) : St w0 (w.alloc o) l :=
  h.call ((Below.refl _ _).alloc (Nat.le_refl _) _)
theorem St.drew {w0 w : World} {l : List (Nat × Array Value × TypeId)} (h : St w0 w l) : St w0 w.drew l := h.call (Below.refl _ _).drew
theorem St.new {w0 w : World} {l : List (Nat × Array Value × TypeId)} {c : Array Value} {t : TypeId} (h : St w0 w l) : St w0 (w.alloc (.cells c t)) ((w.heap.size, c, t) :: l) := by
  have h2 := h.skip (.cells c t)
  refine ⟨h2.1, fun x hx => ?_⟩
  rcases List.mem_cons.1 hx with rfl | hx
  · exact ⟨by show (w.heap.push _)[w.heap.size]? = _; simp, h.1.size⟩
  · exact h2.2 x hx
theorem St.tail {w0 w : World} {x : Nat × Array Value × TypeId} {l : List (Nat × Array Value × TypeId)} (h : St w0 w (x :: l)) : St w0 w l :=
  ⟨h.1, fun y hy => h.2 y (List.mem_cons_of_mem _ hy)⟩
theorem heap_setCell_at {w : World} {B i : Nat} {c : Array Value} {t : TypeId} {v : Value} (h : w.heap[B]? = some (.cells c t)) :
    (w.setCell ⟨B, i, none⟩ v).heap[B]? = some (.cells (c.setIfInBounds i v) t) := by
  have hB := lt_of_heap h
  have e : w.heap[B] = .cells c t := by rw [Array.getElem?_eq_getElem hB] at h; exact Option.some.inj h
  simp [World.setCell, Array.getElem?_modify, h]
theorem St.set {w0 w : World} {B i : Nat} {c : Array Value} {t : TypeId} {l : List (Nat × Array Value × TypeId)} {v : Value} (h : St w0 w ((B, c, t) :: l)) (hl : ∀ x ∈ l, x.1 ≠ B) :
    St w0 (w.setCell ⟨B, i, none⟩ v) ((B, c.setIfInBounds i v, t) :: l) := by
  have hB := (h.2 _ List.mem_cons_self)
  refine ⟨h.1.setCell (p := ⟨B, i, none⟩) hB.2 v, fun x hx => ?_⟩
  rcases List.mem_cons.1 hx with rfl | hx
  · exact ⟨heap_setCell_at hB.1, hB.2⟩
  · have := h.2 x (List.mem_cons_of_mem _ hx)
    exact ⟨by rw [Below.heap_setCell _ _ _ _ (hl x hx)]; exact this.1, this.2⟩
theorem rules_of {w : World} : ∀ (l : List (Nat × Array Value × TypeId)), (∀ x ∈ l, w.heap[x.1]? = some (.cells x.2.1 x.2.2)) → Rules w l
  | [], _ => trivial
  | (B, c, t) :: l, h => by
    have h0 := h _ List.mem_cons_self
    refine ⟨fun i => ?_, fun i => ?_, lt_of_heap h0, rules_of l fun x hx => h x (List.mem_cons_of_mem _ hx)⟩
    · have h0 : w.heap[B]? = some (.cells c t) := h0
      simp [World.cell?, h0]
    · have h0 : w.heap[B]? = some (.cells c t) := h0
      simp [World.frozen?, h0]
theorem St.rules {w0 w : World} {l : List (Nat × Array Value × TypeId)} (h : St w0 w l) : Rules w l := rules_of l fun x hx => (h.2 x hx).1
theorem St.size {w0 w : World} {l : List (Nat × Array Value × TypeId)} (h : St w0 w l) : w0.heap.size ≤ w.heap.size := h.1.size
theorem St.out2 {w0 w : World} {B i j : Nat} {c : Array Value} {t : TypeId} {l : List (Nat × Array Value × TypeId)} {u v : Value} (h : St w0 w ((B, c, t) :: l)) :
    Below w0.heap.size w0 ((w.setCell ⟨B, i, none⟩ u).setCell ⟨B, j, none⟩ v) :=
  (h.1.setCell (p := ⟨B, i, none⟩) (h.2 _ List.mem_cons_self).2 u).setCell (p := ⟨B, j, none⟩) (h.2 _ List.mem_cons_self).2 v
theorem St.set2 {w0 w : World} {B : Nat} {a b u v : Value} {t : TypeId} {l : List (Nat × Array Value × TypeId)} (h : St w0 w ((B, #[a, b], t) :: l)) (hl : ∀ x ∈ l, x.1 ≠ B) :
    St w0 ((w.setCell ⟨B, 0, none⟩ u).setCell ⟨B, 1, none⟩ v) ((B, #[u, v], t) :: l) := (h.set hl (i := 0) (v := u)).set hl (i := 1) (v := v)
theorem St.sub {w0 w : World} {l l' : List (Nat × Array Value × TypeId)} (h : St w0 w l) (hs : ∀ x ∈ l', x ∈ l) : St w0 w l' := ⟨h.1, fun x hx => h.2 x (hs x hx)⟩
theorem St.up1 {w0 w : World} {x y : Nat × Array Value × TypeId} {l : List (Nat × Array Value × TypeId)} (h : St w0 w (x :: y :: l)) : St w0 w (y :: x :: l) :=
  h.sub fun z hz => by simp only [List.mem_cons] at *; rcases hz with h | h | h <;> simp [h]
theorem St.up2 {w0 w : World} {x y z : Nat × Array Value × TypeId} {l : List (Nat × Array Value × TypeId)} (h : St w0 w (x :: y :: z :: l)) : St w0 w (z :: x :: y :: l) :=
  h.sub fun z hz => by simp only [List.mem_cons] at *; rcases hz with h | h | h | h <;> simp [h]
theorem St.up3 {w0 w : World} {x y z u : Nat × Array Value × TypeId} {l : List (Nat × Array Value × TypeId)} (h : St w0 w (x :: y :: z :: u :: l)) : St w0 w (u :: x :: y :: z :: l) :=
  h.sub fun z hz => by simp only [List.mem_cons] at *; rcases hz with h | h | h | h | h <;> simp [h]
end Go.Proofs.Ythagdpiocmcbmaa

/- A region that draws its order, whose operations only read, and whose callees make memory of their own alone: walked once, in the order of the text, in every world in which the listed blocks hold what they hold. -/
namespace Go.Proofs.Ythagdpiocmcbmaa
open Go.ChangeShapes Go.WideShapes Go.ChangeAt Go.RowKit
/-- A world in which the listed blocks hold the listed cells. -/
def Wd (w0 : World) (l : List (Nat × Array Value × TypeId)) : Type := Subtype fun w : World => St w0 w l
def Wd.w {w0 : World} {l : List (Nat × Array Value × TypeId)} (n : Wd w0 l) : World := n.1
theorem Wd.h {w0 : World} {l : List (Nat × Array Value × TypeId)} (n : Wd w0 l) : St w0 n.w l := n.2
def Wd.mk {w0 : World} {l : List (Nat × Array Value × TypeId)} (w : World) (h : St w0 w l) : Wd w0 l := Subtype.mk w h
theorem region_held {P : Program} {w0 : World} {b : List (Nat × Array Value × TypeId)} {id : Nat} {Q : Exit → Act → World → Prop} {a : Act} {w : World} {l : List Oper} (hS : St w0 w b) (hm : P.follows .mixedOrders = true) (hB : Region.lexB .any l.toArray = true)
    (h : wpQuiet P l.toArray (fun w' => ∃ n : Wd w0 b, w' = n.w) (fun a' => ∀ w', (∃ n : Wd w0 b, w' = n.w) → Q .normal a' w') l a) : (Code.region id l.toArray true).wp P Q a w :=
  wp_region_quiet (C := fun w' => ∃ n : Wd w0 b, w' = n.w) hm hB ⟨Wd.mk _ hS.drew, rfl⟩ (by simpa using h)
theorem held_of {P : Program} {f : FuncId} {args : Array Value} {w0 : World} {b : List (Nat × Array Value × TypeId)} {n : Wd w0 b} {v : Value}
    (h : Calls P f args n.w fun e w' => e = .returned v ∧ Below n.w.heap.size n.w w') : Calls P f args n.w fun e w'' => e = .returned v ∧ ∃ m : Wd w0 b, w'' = m.w :=
  h.mono fun _ _ ⟨he, hb⟩ => ⟨he, Wd.mk _ (n.h.call hb), rfl⟩
theorem held_same {P : Program} {f : FuncId} {args : Array Value} {w0 : World} {b : List (Nat × Array Value × TypeId)} {n : Wd w0 b} {v : Value}
    (h : Calls P f args n.w fun e w' => e = .returned v ∧ w' = n.w) : Calls P f args n.w fun e w'' => e = .returned v ∧ ∃ m : Wd w0 b, w'' = m.w :=
  h.mono fun _ _ ⟨he, hb⟩ => ⟨he, n, hb⟩
/-- What the blocks hold, in each such world. -/
def RulesQ (w0 : World) (b : List (Nat × Array Value × TypeId)) : List (Nat × Array Value × TypeId) → Prop
  | [] => True
  | (B, c, _) :: l => (∀ (n : Wd w0 b) i, n.w.cell? ⟨B, i, none⟩ = c[i]?) ∧ (∀ (n : Wd w0 b), B < n.w.heap.size) ∧ RulesQ w0 b l
theorem rulesQ_of (w0 : World) (b : List (Nat × Array Value × TypeId)) : ∀ l : List (Nat × Array Value × TypeId), (∀ x ∈ l, x ∈ b) → RulesQ w0 b l
  | [], _ => trivial
  | (B, c, t) :: l, h => by
    have hm := h _ List.mem_cons_self
    refine ⟨fun n i => ?_, fun n => ?_, rulesQ_of w0 b l fun x hx => h x (List.mem_cons_of_mem _ hx)⟩
    · have h0 : n.w.heap[B]? = some (.cells c t) := (n.h.2 _ hm).1
      simp [World.cell?, h0]
    · exact lt_of_heap (n.h.2 _ hm).1
theorem rulesQ (w0 : World) (b : List (Nat × Array Value × TypeId)) : RulesQ w0 b b := rulesQ_of w0 b b fun _ h => h
/-- Blocks that a drawn region has made, behind a box. -/
theorem two_new (w : World) (o : Obj) (c d : Array Value) (t u : TypeId) :
    St w (((w.alloc o).alloc (.cells c t)).alloc (.cells d u)).drew [(w.heap.size + 1 + 1, d, u), (w.heap.size + 1, c, t)] := by
  have h := (((St.start w).skip o).new (c := c) (t := t)).new (c := d) (t := u)
  simp only [World.size_alloc] at h
  exact h.drew
theorem three_new (w : World) (o : Obj) (c d e : Array Value) (t u v : TypeId) :
    St w ((((w.alloc o).alloc (.cells c t)).alloc (.cells d u)).alloc (.cells e v)).drew [(w.heap.size + 1 + 1 + 1, e, v), (w.heap.size + 1 + 1, d, u), (w.heap.size + 1, c, t)] := by
  have h := ((((St.start w).skip o).new (c := c) (t := t)).new (c := d) (t := u)).new (c := e) (t := v)
  simp only [World.size_alloc] at h
  exact h.drew
end Go.Proofs.Ythagdpiocmcbmaa

/- Slices that came in, opened: of integers, of pairs of integers; how long they may be. -/
namespace Go.Proofs.Ythagdpiocmcbmaa
open Go.ChangeShapes Go.WideShapes Go.ChangeAt Go.RowKit Go.Deep
/-- A slice of integers. -/
def IRow (k : IntKind) (w : World) (a : Option Addr) (len cap : Nat) (zs : List Int) : Prop :=
  zs.length = len ∧ len ≤ cap ∧ cap ≤ maxLen ∧ (∀ z ∈ zs, (Lit.int k z).wf = true) ∧ (a = none → cap = 0) ∧ ∀ x, a = some x → ∀ i, i < len → w.cell? (x.add i) = some (.int k (zs.getD i 0))
/-- A slice of pairs. -/
def PRow (k0 k1 : IntKind) (w : World) (a : Option Addr) (len cap : Nat) (os : List (Int × Int)) : Prop :=
  os.length = len ∧ len ≤ cap ∧ cap ≤ maxLen ∧ (∀ o ∈ os, (Lit.int k0 o.1).wf = true ∧ (Lit.int k1 o.2).wf = true) ∧ (a = none → cap = 0) ∧
    ∀ x, a = some x → ∀ i, i < len → w.cell? (x.add (i * 2)) = some (.int k0 (os.getD i (0, 0)).1) ∧ w.cell? (x.add (i * 2 + 1)) = some (.int k1 (os.getD i (0, 0)).2)
/-- How many a reading holds. -/
def Holds (H : Type) (d : DataW H) (len : Nat) : Prop := (d = .nil ∧ len = 0) ∨ ∃ el sp, d = .slice el sp ∧ el.length = len
theorem openI {H : Type} {enc : TypeId × Value → H} {W : World} {fuel : Nat} {a : Option Addr} {len cap : Nat} {d : DataW H} {p : List MemPlace} {t e : TypeId} {k : IntKind}
    (ht : Try.prog.underlying t = some (.slice e)) (he : Try.prog.underlying e = some (.int k)) (hc : Try.prog.cellsOf e = 1)
    (hf : DataW.trod enc Try.prog W 0 (fun _ => true) true fuel t (Value.slice a len cap).cells.toList = some (d, p)) : ∃ zs, IRow k W a len cap zs ∧ Holds H d len := by
  rcases open_ints ht he hc hf with ⟨hcs, hx⟩ | ⟨x, l, c, zs, hcs, _, hl, hm, hz, hx, hcell, hwz⟩
  · simp [Value.cells] at hcs
    obtain ⟨rfl, rfl, rfl⟩ := hcs
    simp only [Prod.mk.injEq] at hx
    exact ⟨[], ⟨rfl, Nat.le_refl _, by unfold maxLen; omega, (fun _ h => by cases h), fun _ => rfl, fun x h => by cases h⟩, .inl ⟨hx.1, rfl⟩⟩
  · simp [Value.cells] at hcs
    obtain ⟨rfl, rfl, rfl⟩ := hcs
    simp only [Prod.mk.injEq] at hx
    simp only [if_true] at hz
    refine ⟨zs.take len, ⟨by simp; omega, hl, hm, fun z h => hwz z (List.mem_of_mem_take h), fun h => (by cases h), fun y hy i hi => ?_⟩, .inr ⟨_, _, hx.1, by simp [lits]; omega⟩⟩
    obtain rfl := Option.some.inj hy
    rw [hcell i (by omega)]
    simp [List.getD, hi]
theorem openP {H : Type} {enc : TypeId × Value → H} {W : World} {fuel : Nat} {a : Option Addr} {len cap : Nat} {d : DataW H} {p : List MemPlace} {t e : TypeId} {f0 f1 : Field} {k0 k1 : IntKind}
    (ht : Try.prog.underlying t = some (.slice e)) (he : Try.prog.underlying e = some (.struct #[f0, f1])) (ce : Try.prog.cellsOf e = 2) (o0 : f0.offset = 0) (o1 : f1.offset = 1) (c0 : Try.prog.cellsOf f0.type = 1) (c1 : Try.prog.cellsOf f1.type = 1)
    (u0 : Try.prog.underlying f0.type = some (.int k0)) (u1 : Try.prog.underlying f1.type = some (.int k1))
    (hf : DataW.trod enc Try.prog W 0 (fun _ => true) true fuel t (Value.slice a len cap).cells.toList = some (d, p)) : ∃ os, PRow k0 k1 W a len cap os ∧ Holds H d len := by
  rcases open_slice_pairs ht he ce o0 o1 c0 c1 hf with ⟨hcs, hx⟩ | ⟨x, l, c, m, n, V0, V1, D0, D1, P0, P1, hcs, _, hl, hm, hmm, hx, hcell⟩
  · simp [Value.cells] at hcs
    obtain ⟨rfl, rfl, rfl⟩ := hcs
    simp only [Prod.mk.injEq] at hx
    exact ⟨[], ⟨rfl, Nat.le_refl _, by unfold maxLen; omega, (fun _ h => by cases h), fun _ => rfl, fun x h => by cases h⟩, .inl ⟨hx.1, rfl⟩⟩
  · simp [Value.cells] at hcs
    obtain ⟨rfl, rfl, rfl⟩ := hcs
    simp only [Prod.mk.injEq] at hx
    simp only [if_true] at hmm
    have each : ∀ i, i < len → V0 i = .int k0 (intOf (V0 i)) ∧ V1 i = .int k1 (intOf (V1 i)) ∧ (Lit.int k0 (intOf (V0 i))).wf = true ∧ (Lit.int k1 (intOf (V1 i))).wf = true := by
      intro i hi
      obtain ⟨_, _, g0, g1⟩ := hcell i (by omega)
      obtain ⟨b0, e0, _, w0⟩ := DataW.trod_int u0 g0
      obtain ⟨b1, e1, _, w1⟩ := DataW.trod_int u1 g1
      simp only [List.cons.injEq, and_true] at e0 e1
      rw [e0, e1]
      exact ⟨rfl, rfl, w0, w1⟩
    refine ⟨(List.range len).map fun i => (intOf (V0 i), intOf (V1 i)), ⟨by simp, hl, hm, fun o ho => ?_, fun h => (by cases h), fun y hy i hi => ?_⟩, .inr ⟨_, _, hx.1, by simp⟩⟩
    · obtain ⟨i, hi, rfl⟩ := List.mem_map.1 ho
      have := each i (by simpa using hi)
      exact ⟨this.2.2.1, this.2.2.2⟩
    · obtain rfl := Option.some.inj hy
      obtain ⟨g0, g1, _, _⟩ := hcell i (by omega)
      have e := each i hi
      rw [g0, g1]
      simp only [List.getD, List.getElem?_map, List.getElem?_range hi, Option.map_some, Option.getD_some]
      exact ⟨by rw [← e.1], by rw [← e.2.1]⟩
theorem bulk1 {H : Type} (d : DataW H) : 1 ≤ Rows.uptoBulk d := by
  cases d with
  | lit l => cases l <;> simp [Rows.uptoBulk]
  | _ => simp [Rows.uptoBulk]
theorem bulkN {H : Type} (l : List (DataW H)) : l.length ≤ Rows.uptoBulkAll l := by
  induction l with
  | nil => simp
  | cons x r ih => have := bulk1 x; simp only [Rows.uptoBulkAll, List.length_cons]; omega
theorem Holds.bulk {H : Type} {d : DataW H} {len : Nat} (h : Holds H d len) : len ≤ Rows.uptoBulk d := by
  rcases h with ⟨_, rfl⟩ | ⟨el, sp, rfl, rfl⟩
  · exact Nat.zero_le _
  · have := bulkN el; simp only [Rows.uptoBulk]; omega
end Go.Proofs.Ythagdpiocmcbmaa

/- Rows of integers of whatever kind: what is read of them, what a call owns, what stays behind a call; make, copy, append over them. -/
namespace Go.Proofs.Ythagdpiocmcbmaa
open Go.ChangeShapes Go.WideShapes Go.ChangeAt Go.RowKit
theorem dbel (w : World) (n : Nat) : Below w.heap.size w (w.drewN n) := ⟨rfl, rfl, rfl, Nat.le_refl _, fun _ _ => rfl⟩
theorem bal (w : World) (o : Obj) : Below w.heap.size w (w.alloc o) := (Below.refl _ _).alloc (Nat.le_refl _) _
theorem bt {a b c : World} (h : Below a.heap.size a b) (k : Below b.heap.size b c) : Below a.heap.size a c := h.trans (k.mono h.size)
theorem ret_i {k : IntKind} {a b : Int} (h : a = b) : Ending.returned (.int k a) = .returned (.int k b) := by rw [h]
theorem cells_at {w : World} {B : Nat} {c : Array Value} {T : TypeId} (h : w.heap[B]? = some (.cells c T (0, 0))) : (∀ i, w.cell? ⟨B, i, none⟩ = c[i]?) ∧ (∀ i, w.frozen? ⟨B, i, none⟩ = false) ∧ B < w.heap.size :=
  ⟨fun i => by simp [World.cell?, h], fun i => by simp only [World.frozen?, h]; simp, lt_of_heap h⟩
/-- Numbers of a kind. -/
def Wf (k : IntKind) (zs : List Int) : Prop := ∀ z ∈ zs, (Lit.int k z).wf = true
theorem Wf.nil (k : IntKind) : Wf k [] := fun _ h => by cases h
theorem Wf.app {k : IntKind} {a b : List Int} (h : Wf k a) (g : Wf k b) : Wf k (a ++ b) := fun z hz => (List.mem_append.1 hz).elim (h z) (g z)
theorem Wf.one {k : IntKind} {z : Int} (h : (Lit.int k z).wf = true) : Wf k [z] := fun y hy => by simp at hy; subst hy; exact h
theorem Wf.take {k : IntKind} {a : List Int} (h : Wf k a) (n : Nat) : Wf k (a.take n) := fun z hz => h z (List.mem_of_mem_take hz)
theorem Wf.drop {k : IntKind} {a : List Int} (h : Wf k a) (n : Nat) : Wf k (a.drop n) := fun z hz => h z (List.mem_of_mem_drop hz)
theorem Wf.set {k : IntKind} {a : List Int} (h : Wf k a) (n : Nat) {z : Int} (hz : (Lit.int k z).wf = true) : Wf k (a.set n z) := fun y hy => by
  rcases List.mem_or_eq_of_mem_set hy with g | g
  · exact h y g
  · rw [g]; exact hz
theorem wf_i8 {z : Int} (h : (Lit.int .i8 z).wf = true) : -128 ≤ z ∧ z ≤ 127 := by
  simp [Lit.wf, IntKind.min, IntKind.max, IntKind.bits, IntKind.signed] at h
  omega
theorem mk_i8 {z : Int} (h : -128 ≤ z ∧ z ≤ 127) : (Lit.int .i8 z).wf = true := by
  simp [Lit.wf, IntKind.min, IntKind.max, IntKind.bits, IntKind.signed]
  omega
theorem wf_i16 {z : Int} (h : (Lit.int .i16 z).wf = true) : -32768 ≤ z ∧ z ≤ 32767 := by
  simp [Lit.wf, IntKind.min, IntKind.max, IntKind.bits, IntKind.signed] at h
  omega
theorem mk_i16 {z : Int} (h : -32768 ≤ z ∧ z ≤ 32767) : (Lit.int .i16 z).wf = true := by
  simp [Lit.wf, IntKind.min, IntKind.max, IntKind.bits, IntKind.signed]
  omega
theorem wf_i32 {z : Int} (h : (Lit.int .i32 z).wf = true) : -2147483648 ≤ z ∧ z ≤ 2147483647 := by
  simp [Lit.wf, IntKind.min, IntKind.max, IntKind.bits, IntKind.signed] at h
  omega
theorem mk_i32 {z : Int} (h : -2147483648 ≤ z ∧ z ≤ 2147483647) : (Lit.int .i32 z).wf = true := by
  simp [Lit.wf, IntKind.min, IntKind.max, IntKind.bits, IntKind.signed]
  omega
theorem wf_i64 {z : Int} (h : (Lit.int .i64 z).wf = true) : -9223372036854775808 ≤ z ∧ z ≤ 9223372036854775807 := by
  simp [Lit.wf, IntKind.min, IntKind.max, IntKind.bits, IntKind.signed] at h
  omega
theorem mk_i64 {z : Int} (h : -9223372036854775808 ≤ z ∧ z ≤ 9223372036854775807) : (Lit.int .i64 z).wf = true := by
  simp [Lit.wf, IntKind.min, IntKind.max, IntKind.bits, IntKind.signed]
  omega
theorem IRow.mono {k : IntKind} {w w' : World} {a : Option Addr} {len cap : Nat} {zs : List Int} (h : IRow k w a len cap zs) (g : ∀ x v, w.cell? x = some (.int k v) → w'.cell? x = some (.int k v)) : IRow k w' a len cap zs :=
  ⟨h.1, h.2.1, h.2.2.1, h.2.2.2.1, h.2.2.2.2.1, fun x hx i hi => g _ _ (h.2.2.2.2.2 x hx i hi)⟩
theorem IRow.below {k : IntKind} {w w' : World} {a : Option Addr} {len cap : Nat} {zs : List Int} (h : IRow k w a len cap zs) (g : Below w.heap.size w w') : IRow k w' a len cap zs :=
  h.mono fun x _ hx => (g.cell (World.block_lt_of_cell? w x hx)).trans hx
theorem add_block (x : Addr) (i : Nat) : (x.add i).block = x.block := by unfold Addr.add; split <;> rfl
theorem IRow.grown {k : IntKind} {w w' : World} {g : Option Nat} {a : Option Addr} {len cap : Nat} {zs : List Int} (h : IRow k w a len cap zs) (q : w.grownBy w' g) (hg : ∀ x b, a = some x → g = some b → x.block ≠ b) : IRow k w' a len cap zs :=
  ⟨h.1, h.2.1, h.2.2.1, h.2.2.2.1, h.2.2.2.2.1, fun x hx i hi => q.cell (h.2.2.2.2.2 x hx i hi) (fun e => hg x _ hx e.symm (add_block x i).symm)⟩
theorem IRow.at {k : IntKind} {w : World} {a : Option Addr} {len cap : Nat} {zs : List Int} (hr : IRow k w a len cap zs) {i : Nat} (hi : i < len) :
    ∃ x c, a = some x ∧ w.cell? (x.add i) = some (.int k c) ∧ (Lit.int k c).wf = true ∧ zs[i]? = some c ∧ zs.drop i = c :: zs.drop (i + 1) := by
  obtain ⟨hl, hc, hm, hb, hn, hcell⟩ := hr
  have hk' : i < zs.length := by omega
  obtain ⟨x, rfl⟩ : ∃ x, a = some x := by
    cases a with
    | none => have := hn rfl; omega
    | some x => exact ⟨x, rfl⟩
  have hcx := hcell x rfl i hi
  rw [List.getD_eq_getElem?_getD, List.getElem?_eq_getElem hk', Option.getD_some] at hcx
  exact ⟨x, zs[i], rfl, hcx, hb _ (List.getElem_mem hk'), List.getElem?_eq_getElem hk', List.drop_eq_getElem_cons hk'⟩
theorem irow_nil (k : IntKind) (w : World) : IRow k w none 0 0 [] := ⟨rfl, Nat.le_refl _, by unfold maxLen; omega, (fun _ h => by cases h), fun _ => rfl, fun x h => by cases h⟩
theorem IRow.cut {k : IntKind} {w : World} {a a' : Option Addr} {len cap n m : Nat} {zs : List Int} (h : IRow k w a len cap zs) (hn : n + m ≤ len) (ha : ∀ x, a = some x → n < cap → a' = some (x.add n)) (hb : a = none → a' = none) : IRow k w a' m (cap - n) ((zs.drop n).take m) := by
  obtain ⟨h1, h2, h3, h4, h5, h6⟩ := h
  refine ⟨by simp [h1]; omega, by omega, by omega, fun z hz => h4 z (List.mem_of_mem_drop (List.mem_of_mem_take hz)), fun e => ?_, fun x hx i hi => ?_⟩
  · cases a with
    | none => have := h5 rfl; omega
    | some x =>
      rcases Nat.lt_or_ge n cap with q | q
      · rw [ha x rfl q] at e; cases e
      · omega
  · cases a with
    | none => rw [hb rfl] at hx; cases hx
    | some y =>
      rw [ha y rfl (by omega)] at hx
      cases hx
      have := h6 y rfl (n + i) (by omega)
      rw [Addr.add_add, this]
      simp [List.getD, hi]
/-- What the call made, from block 'base' on, and may write. -/
def Own (k : IntKind) (T : TypeId) (w : World) (base : Nat) (v : Value) (zs : List Int) : Prop := w.ownsRow base T 1 v zs.length (zs.map (Value.int k)) ∧ Wf k zs
theorem Own.shape {k : IntKind} {T : TypeId} {w : World} {base : Nat} {v : Value} {zs : List Int} (h : Own k T w base v zs) :
    (v = .slice none 0 0 ∧ zs = []) ∨ ∃ g cap, v = .slice (some ⟨g, 0, none⟩) zs.length cap ∧ base ≤ g ∧ g < w.heap.size ∧ zs.length ≤ cap ∧ cap ≤ maxLen ∧ (∃ cur, w.heap[g]? = some (.cells cur T (0, 0)) ∧ cur.size = cap) ∧
      (∀ i, i < zs.length → w.cell? ⟨g, i, none⟩ = some (.int k (zs.getD i 0))) ∧ ∀ i, w.frozen? ⟨g, i, none⟩ = false := by
  obtain ⟨⟨h1, h2⟩, hb⟩ := h
  rcases h2 with ⟨rfl, h0⟩ | ⟨g, cap, cur, rfl, hg, hh, hn, hm, hs, ht⟩
  · exact .inl ⟨rfl, List.eq_nil_of_length_eq_zero h0⟩
  · refine .inr ⟨g, cap, rfl, hg, lt_of_heap hh, hn, hm, ⟨cur, hh, by simpa using hs⟩, fun i hi => ?_, fun i => ?_⟩
    · have hc : cur[i]? = some (.int k (zs.getD i 0)) := by
        have : (cur.toList.take (zs.length * 1))[i]? = some (.int k (zs.getD i 0)) := by rw [ht]; simp [List.getD, hi]
        rw [List.getElem?_take, if_pos (by omega)] at this
        simpa using this
      simp [World.cell?, hh, hc]
    · simp only [World.frozen?, hh]; simp
theorem Own.row {k : IntKind} {T : TypeId} {w : World} {base : Nat} {v : Value} {zs : List Int} (h : Own k T w base v zs) : ∃ a cap, v = .slice a zs.length cap ∧ IRow k w a zs.length cap zs ∧ ∀ x, a = some x → base ≤ x.block ∧ x.block < w.heap.size := by
  have hb := h.2
  rcases h.shape with ⟨rfl, rfl⟩ | ⟨g, cap, rfl, hg, hlt, hn, hm, _, hc, _⟩
  · exact ⟨none, 0, rfl, irow_nil k w, fun x hx => by cases hx⟩
  · refine ⟨some ⟨g, 0, none⟩, cap, rfl, ⟨rfl, hn, hm, hb, fun h => (by cases h), fun x hx i hi => ?_⟩, fun x hx => ?_⟩
    · cases hx; rw [Addr.add_lit, Nat.zero_add]; exact hc i hi
    · cases hx; exact ⟨hg, hlt⟩
theorem Own.below {k : IntKind} {T : TypeId} {w w' : World} {base : Nat} {v : Value} {zs : List Int} (h : Own k T w base v zs) (q : Below w.heap.size w w') : Own k T w' base v zs := by
  refine ⟨h.1.kept (row := none) ⟨q.os, q.tape, q.output, q.size, fun i hi _ => q.block i hi⟩ ?_, h.2⟩
  rcases h.shape with ⟨rfl, _⟩ | ⟨g, cap, rfl, _⟩
  · exact .inl rfl
  · exact .inr (by simp [Value.ownBlock])
theorem Own.base {k : IntKind} {T : TypeId} {w : World} {b c : Nat} {v : Value} {zs : List Int} (h : Own k T w b v zs) (q : c ≤ b) : Own k T w c v zs := by
  refine ⟨⟨h.1.1, ?_⟩, h.2⟩
  rcases h.1.2 with h | ⟨g, cap, cur, h1, h2, h3⟩
  · exact .inl h
  · exact .inr ⟨g, cap, cur, h1, Nat.le_trans q h2, h3⟩
theorem Own.alloc {k : IntKind} {T : TypeId} {w : World} {base : Nat} {v : Value} {zs : List Int} (h : Own k T w base v zs) (o : Obj) : Own k T (w.alloc o) base v zs := h.below (bal _ _)
theorem own_none (k : IntKind) (T : TypeId) (w : World) (base : Nat) : Own k T w base (.slice none 0 0) [] := ⟨World.ownsRow_nil _ _ _ _, Wf.nil k⟩
theorem own_lit (k : IntKind) (T : TypeId) (w : World) (base : Nat) (zs : List Int) (hb : Wf k zs) (hm : zs.length ≤ maxLen) (hw : base ≤ w.heap.size) :
    Own k T (w.alloc (.cells (zs.map (Value.int k)).toArray T)) base (.slice (some ⟨w.heap.size, 0, none⟩) zs.length zs.length) zs := by
  have := World.ownsRow_lit (base := base) (e := T) (size := 1) w (zs.map (Value.int k)).toArray zs.length hw hm (by simp)
  simp only at this
  exact ⟨this, hb⟩
/-- A block that is known whole. -/
theorem own_full {k : IntKind} {T : TypeId} {w : World} {base g : Nat} {zs : List Int} (h : w.heap[g]? = some (.cells (zs.map (Value.int k)).toArray T (0, 0))) (hb : Wf k zs) (hm : zs.length ≤ maxLen) (hw : base ≤ g) :
    Own k T w base (.slice (some ⟨g, 0, none⟩) zs.length zs.length) zs :=
  ⟨⟨by simp, .inr ⟨g, zs.length, _, rfl, hw, h, Nat.le_refl _, hm, by simp, by rw [Nat.mul_one, List.take_of_length_le (by simp)]⟩⟩, hb⟩
theorem Own.len {k : IntKind} {T : TypeId} {w : World} {base n cap : Nat} {a : Option Addr} {zs : List Int} (h : Own k T w base (.slice a n cap) zs) : zs.length = n := by
  rcases h.shape with ⟨h', rfl⟩ | ⟨g', cap', h', _⟩
  · cases h'; rfl
  · cases h'; rfl
theorem Own.facts {k : IntKind} {T : TypeId} {w : World} {base g n cap : Nat} {zs : List Int} (h : Own k T w base (.slice (some ⟨g, 0, none⟩) n cap) zs) :
    zs.length = n ∧ base ≤ g ∧ g < w.heap.size ∧ n ≤ cap ∧ cap ≤ 9223372036854775807 ∧ IRow k w (some ⟨g, 0, none⟩) n cap zs ∧ ∀ i, w.frozen? ⟨g, i, none⟩ = false := by
  have hrow := h.row
  rcases h.shape with ⟨h', _⟩ | ⟨g', cap', h', hg, hl, hn, hm, _, hc, hf⟩
  · cases h'
  · cases h'
    obtain ⟨a, c, e, r, _⟩ := hrow
    cases e
    unfold maxLen at hm
    exact ⟨rfl, hg, hl, hn, by omega, r, hf⟩
theorem Own.set {k : IntKind} {T : TypeId} {w : World} {base g n cap i : Nat} {zs : List Int} {z : Int} (h : Own k T w base (.slice (some ⟨g, 0, none⟩) n cap) zs) (hz : (Lit.int k z).wf = true) :
    Own k T (w.setCell ⟨g, i, none⟩ (.int k z)) base (.slice (some ⟨g, 0, none⟩) n cap) (zs.set i z) ∧ w.grownBy (w.setCell ⟨g, i, none⟩ (.int k z)) (some g) := by
  obtain rfl := h.len
  have := h.1.stored i (.int k z)
  refine ⟨⟨?_, h.2.set i hz⟩, this.2⟩
  rw [List.length_set, List.map_set]; exact this.1
theorem Own.block {k : IntKind} {T : TypeId} {w : World} {base : Nat} {v : Value} {zs : List Int} (h : Own k T w base v zs) {b : Nat} (hb : v.ownBlock = some b) : base ≤ b := by
  rcases h.shape with ⟨rfl, _⟩ | ⟨g, cap, rfl, hg, _⟩
  · simp [Value.ownBlock] at hb
  · obtain rfl : g = b := by simpa [Value.ownBlock] using hb
    exact hg
theorem Own.bel {k : IntKind} {T : TypeId} {w0 w w' : World} {base B : Nat} {v : Value} {zs : List Int} (h : Own k T w base v zs) (hb : Below B w0 w) (g : w.grownBy w' v.ownBlock) (hB : B ≤ base) (hw : B ≤ w.heap.size) : Below B w0 w' :=
  hb.grown g hw fun _ e => Nat.le_trans hB (h.block e)
/-- A kind, its type, the type of its slices, and its bytes. -/
def KT (k : IntKind) (T S : TypeId) (b : Nat) : Prop := Try.prog.underlying S = some (.slice T) ∧ (Try.prog.info? T).map (fun i => (i.zero, i.size, i.bytes)) = some (some (.int k 0), 1, b) ∧ 1 ≤ b ∧ b ≤ 8
theorem kt_i16 : KT .i16 51 45 2 := ⟨Try.underlying45, by kernel_rfl, by decide, by decide⟩
theorem kt_i32 : KT .i32 21 46 4 := ⟨Try.underlying46, by kernel_rfl, by decide, by decide⟩
theorem siz_of {P : Program} {T : TypeId} {z : Option Value} {n q : Nat} (h : (P.info? T).map (fun i => (i.zero, i.size, i.bytes)) = some (z, n, q)) : (P.info? T).map (·.size) = some n := by
  cases hi : P.info? T with
  | none => rw [hi] at h; cases h
  | some i =>
    rw [hi] at h
    simp only [Option.map_some, Option.some.injEq, Prod.mk.injEq] at h
    simp [h.2.1]
/-- 'append' to what the call owns, from whatever slice. -/
theorem wpList_app {k : IntKind} {T S : TypeId} {by8 : Nat} (kt : KT k T S by8) {w : World} {ops : Array Oper} {rest : List Oper} {o : Oper} {a : Act} {Q : Exit → Act → World → Prop} (hgd : o.guard = none) (s x : Operand)
    (ho : o.op = .call { callee := .builtin .append, args := #[s, x], argTypes := #[S, S] })
    (base : Nat) (v : Value) (xs ys : List Int) (hs : a.eval s = v) (hown : Own k T w base v xs) (ao : Option Addr) (m c : Nat) (hx : a.eval x = .slice ao m c) (hy : IRow k w ao m c ys)
    (hlen : xs.length + ys.length ≤ 10000000) (hbase : base ≤ w.heap.size)
    (h : ∀ v' w', Own k T w' base v' (xs ++ ys) → w.grownBy w' v.ownBlock → (v ≠ .slice none 0 0 → v' ≠ .slice none 0 0) → wpList Try.prog ops Q rest (a.put o.dst v') w') : wpList Try.prog ops Q (o :: rest) a w := by
  obtain ⟨hu, hin, b1, b8⟩ := kt
  obtain ⟨i0, hi, hz0, hz1, hz2⟩ := info_parts hin
  obtain ⟨hl, hc, hm, hb, hn, hcell⟩ := hy
  cases ao with
  | none =>
    obtain rfl : c = 0 := hn rfl
    obtain rfl : m = 0 := by omega
    obtain rfl : ys = [] := List.eq_nil_of_length_eq_zero hl
    refine wpList_append_own_none hgd s x _ ho base T i0 1 hu hi v xs.length _ hs hown.1 hx ?_
    have := h v w (by simpa using hown) ⟨rfl, rfl, rfl, Nat.le_refl _, fun _ _ _ => rfl⟩ (fun h => h)
    exact this
  | some ad =>
    have hby : by8 * (xs.length + ys.length) ≤ 8 * (xs.length + ys.length) := Nat.mul_le_mul_right _ b8
    refine wpList_append_own _ hgd s x _ ho base T i0 (.int k 0) 1 by8 hu hi hz0 hz1 hz2 rfl (by omega) v xs.length _ hs hown.1 ad m c (ys.map (Value.int k)) hx (by simp [hl]) ?_ (ints_oneCell _ _) ?_ ?_ hbase ?_
    · intro j u hj
      have hj' : j < m := by
        have := (List.getElem?_eq_some_iff.1 hj).1
        simpa [hl] using this
      rw [hcell ad rfl j hj']
      simp [List.getD, show j < ys.length by omega] at hj ⊢
      exact hj
    · unfold maxLen; omega
    · rw [hl] at hby hlen; rw [Nat.mul_comm]; omega
    · intro v' w' h1 h2 h3
      refine h v' w' ⟨?_, hown.2.app hb⟩ h2 (fun hv hv' => hv (h3.1 hv').1)
      rw [List.length_append, hl, List.map_append]
      exact h1
/-- A number laid in a block of its own, ahead of an append. -/
theorem row_one (k : IntKind) (T : TypeId) (w : World) (z : Int) (hz : (Lit.int k z).wf = true) : IRow k (w.alloc (.cells #[.int k z] T)) (some ⟨w.heap.size, 0, none⟩) 1 1 [z] := by
  refine ⟨rfl, Nat.le_refl _, by unfold maxLen; omega, Wf.one hz, fun h => (by cases h), fun x hx i hi => ?_⟩
  cases hx
  obtain rfl : i = 0 := by omega
  simp [Addr.add]
/-- 'make', of one length. -/
theorem wpList_mak {k : IntKind} {T S : TypeId} {by8 : Nat} (kt : KT k T S by8) {w : World} {ops : Array Oper} {rest : List Oper} {o : Oper} {a : Act} {Q : Exit → Act → World → Prop} (hg : o.guard = none) (l : Operand) (hop : o.op = Op.makeSlice S l l)
    (n : Nat) (L : Int) (hl : a.eval l = .int .i64 L) (hL : L = (n : Int)) (hm : n ≤ 10000000)
    (hK : (w.alloc (.cells (Array.replicate n (Value.int k 0)) T)).heap[w.heap.size]? = some (.cells (Array.replicate n (Value.int k 0)) T (0, 0)) → wpList Try.prog ops Q rest (a.put o.dst (.slice (some ⟨w.heap.size, 0, none⟩) n n)) (w.alloc (.cells (Array.replicate n (Value.int k 0)) T))) :
    wpList Try.prog ops Q (o :: rest) a w := by
  obtain ⟨hu, hin, b1, b8⟩ := kt
  obtain ⟨i0, hi, hz0, hz1, hz2⟩ := info_parts hin
  subst hL
  have hby : by8 * n ≤ 8 * n := Nat.mul_le_mul_right _ b8
  have hby' : (by8 : Int) * (n : Int) ≤ 281474976710656 := by
    have : ((by8 * n : Nat) : Int) ≤ 281474976710656 := by omega
    rwa [Int.natCast_mul] at this
  refine wpList_plain hg fun K hK' => ?_
  have hr := run_make (P := Try.prog) w S T i0 (.int k 0) hu hi hz0 .i64 .i64 n n (by omega) (by omega) (by rw [hz2]; exact hby') (by omega)
  have hmc : madeCells (Value.int k 0).cells (n * 1) = Array.replicate n (Value.int k 0) := by
    apply Array.ext
    · rw [size_madeCells]; simp
    · intro i h1 h2
      simp [madeCells, Value.cells, Nat.mod_one]
  simp only [Int.toNat_natCast, hz1, hmc] at hr
  unfold Oper.wp
  simp only [execOp, hop, hl]
  simp [Result.andThen, hr]
  exact hK' _ _ (hK (heap_alloc_new w _))
/-- .. as an equation, for a region that draws its order. -/
theorem run_mak {k : IntKind} {T S : TypeId} {by8 : Nat} (kt : KT k T S by8) (n : Nat) (hn : n ≤ 10000000) : ∀ w : World, (Instr.makeSlice S (.int .i64 (n : Int)) (.int .i64 (n : Int))).run Try.prog w = .ok (.slice (some ⟨w.heap.size, 0, none⟩) n n) (w.alloc (.cells (Array.replicate n (Value.int k 0)) T)) := by
  intro w
  obtain ⟨hu, hin, b1, b8⟩ := kt
  obtain ⟨i0, hi, hz0, hz1, hz2⟩ := info_parts hin
  have hby : by8 * n ≤ 8 * n := Nat.mul_le_mul_right _ b8
  have hby' : (by8 : Int) * (n : Int) ≤ 281474976710656 := by
    have : ((by8 * n : Nat) : Int) ≤ 281474976710656 := by omega
    rwa [Int.natCast_mul] at this
  have hr := run_make (P := Try.prog) w S T i0 (.int k 0) hu hi hz0 .i64 .i64 n n (by omega) (by omega) (by rw [hz2]; exact hby') (by omega)
  have hmc : madeCells (Value.int k 0).cells (n * 1) = Array.replicate n (Value.int k 0) := by
    apply Array.ext
    · rw [size_madeCells]; simp
    · intro i h1 h2
      simp [madeCells, Value.cells, Nat.mod_one]
  simp only [Int.toNat_natCast, hz1, hmc] at hr
  exact hr
theorem rep_cells (k : IntKind) (n : Nat) : Array.replicate n (Value.int k 0) = ((List.replicate n (0 : Int)).map (Value.int k)).toArray := by simp
theorem splice_all {α : Type} (L cs : List α) (h : cs.length = L.length) : splice L 0 cs = cs := by
  unfold splice
  rw [Nat.zero_add, List.drop_of_length_le (by omega)]
  simp
end Go.Proofs.Ythagdpiocmcbmaa

/- The reader of package pack: numbers, or a fault. -/
namespace Go.Proofs.Ythagdpiocmcbmaa
open Wr
open Go.ChangeShapes Go.WideShapes Go.ChangeAt Go.RowKit
set_option linter.unusedVariables false
/-- Given up with a fault. -/
def fpan (x t : Int) : Ending := .panicked [{ v := .iface 31 (.agg #[.int .i64 x, .int .i64 t, .int .i64 0]), recovered := false }]
/-- A reader of package pack: what is left, and the op within which it is. -/
def PRc (w : World) (Rb B : Nat) (t : Int) : Prop := w.heap[Rb]? = some (.cells #[.pointer (some ⟨B, 0, none⟩), .int .i64 t] 75 (0, 0))
def PR (w : World) (Rb B : Nat) (zs : List Int) (t : Int) : Prop := PRc w Rb B t ∧ Rd w B 102 zs 0 ∧ Rb < B
theorem PR.ne {w : World} {Rb B : Nat} {zs : List Int} {t : Int} (h : PR w Rb B zs t) : Rb ≠ B := by have := h.2.2; omega
theorem PR.lt {w : World} {Rb B : Nat} {zs : List Int} {t : Int} (h : PR w Rb B zs t) : Rb < w.heap.size := lt_of_heap h.1
theorem PRc.kept {w w' : World} {Rb B : Nat} {t : Int} (h : PRc w Rb B t) (hne : Rb ≠ B) (k : Wr.Kept [B] w w') : PRc w' Rb B t := (k.2.2.2.2 _ (lt_of_heap h) (by simpa using hne)).trans h
theorem PR.byt {w : World} {Rb B : Nat} {zs : List Int} {t : Int} (h : PR w Rb B zs t) : Byt zs := h.2.1.byt
theorem PR.ltB {w : World} {Rb B : Nat} {zs : List Int} {t : Int} (h : PR w Rb B zs t) : B < w.heap.size := h.2.1.lt
/-- What lies behind a reader may turn. -/
theorem PR.keep {w w' : World} {Rb B : Nat} {zs : List Int} {t : Int} (h : PR w Rb B zs t) (k : Below (B + 1) w w') : PR w' Rb B zs t := by
  obtain ⟨h1, ⟨a, len, cap, h2, h3, h4⟩, h5⟩ := h
  refine ⟨(k.block _ (by omega)).trans h1, ⟨a, len, cap, (k.block _ (by omega)).trans h2, ⟨h3.1, h3.2.1, h3.2.2.1, h3.2.2.2.1, h3.2.2.2.2.1, fun x hx i hi => ?_⟩, h4⟩, h5⟩
  have hc := h3.2.2.2.2.2 x hx i hi
  have hb : (x.add i).block = x.block := by unfold Addr.add; split <;> rfl
  have := h4 x hx
  exact (k.cell (p := x.add i) (by omega)).trans hc
theorem PR.below {w w' : World} {Rb B : Nat} {zs : List Int} {t : Int} (h : PR w Rb B zs t) (k : Below w.heap.size w w') : PR w' Rb B zs t := h.keep (k.mono h.ltB)
theorem PR.al {w : World} {Rb B : Nat} {zs : List Int} {t : Int} (h : PR w Rb B zs t) (o : Obj) : PR (w.alloc o) Rb B zs t := h.below (bal _ _)
theorem giveup_any (Rb B : Nat) (t e : Int) (w : World) (h : PRc w Rb B t) :
    Calls Try.prog 30 #[(.pointer (some ⟨Rb, 0, none⟩)), .int .i64 e] w fun r w' => r = fpan e t ∧ w' = w := by
  obtain ⟨c1, f1, z1⟩ := cells_at h
  clear h
  go_enter Try.func30, Try.ntmps30
  go_wp2
  exact ⟨rfl, rfl, rfl⟩
theorem ask_ok (Rb : Nat) (w : World) :
    Calls Try.prog 34 #[(.pointer (some ⟨Rb, 0, none⟩)), .int .i64 0] w fun r w' => r = .returned (.tuple #[]) ∧ w' = w := by
  go_enter Try.func34, Try.ntmps34
  go_wp2
  go_end0
  exact ⟨rfl, rfl⟩
theorem ask_bad (Rb B : Nat) (t e : Int) (w : World) (h : PRc w Rb B t) (he : e ≠ 0) :
    Calls Try.prog 34 #[(.pointer (some ⟨Rb, 0, none⟩)), .int .i64 e] w fun r w' => r = fpan e t ∧ w' = w := by
  go_enter Try.func34, Try.ntmps34
  go_wp2_with fail
  refine (giveup_any Rb B t e _ h).mono ?_
  rintro r w1 ⟨rfl, rfl⟩
  exact ⟨rfl, rfl, rfl⟩
theorem frR_0 (zs : List Int) : frR zs 0 = getR zs := if_pos rfl
set_option maxHeartbeats 1000000 in
theorem runsigned_any (Rb B : Nat) (zs : List Int) (t : Int) (w : World) (h : PR w Rb B zs t) :
    Calls Try.prog 51 #[(.pointer (some ⟨Rb, 0, none⟩))] w fun r w' => (∃ x, pU t zs = .inl x ∧ r = fpan x.1 x.2 ∧ Wr.Kept [B] w w') ∨ ∃ v rs, pU t zs = .inr (v, rs) ∧ r = .returned (.int .i64 v) ∧ PR w' Rb B rs t ∧ Wr.Kept [B] w w' := by
  have hu := rU_is B zs 0 w h.2.1
  have hout := frR_out h.byt 0
  rw [frR_0] at hu hout
  obtain ⟨c1, f1, z1⟩ := cells_at h.1
  have hc : Hid (PRc w Rb B t) := h.1
  have hne : Hid (Rb ≠ B) := h.ne
  have hlB : Hid (Rb < B) := h.2.2
  obtain ⟨x, n, e, hg⟩ : ∃ x n e, getR zs = (x, n, e) := ⟨_, _, _, rfl⟩
  rw [hg] at hu hout
  simp only at hout hu
  by_cases he : e = 0
  · subst he
    have hx : 0 ≤ x ∧ x < 18446744073709551616 := by rcases hout with ⟨-, -, a, b, -⟩ | ⟨a, -⟩; exact ⟨a, b⟩; exact absurd rfl a
    obtain ⟨hx0, hx1⟩ := hx
    rw [show aX (x, n, 0) = x from if_pos rfl, show aZ (x, n, 0) zs = zs.drop n from if_pos rfl] at hu
    have Hu : Hid _ := hu
    by_cases hb : 2147483647 < x
    · have hP : Hid (pU t zs = .inl (41, t)) := by unfold Hid pU; rw [hg]; simp [hb]
      clear hout hu hg h
      go_enter Try.func51, Try.ntmps51
      go_wp2_with fail
      refine Calls.mono Hu.out ?_
      rintro r w1 ⟨rfl, rd1, k1⟩
      have hc1 : Hid (PRc w1 Rb B t) := hc.out.kept hne.out k1
      clear c1 f1 z1
      obtain ⟨c1, f1, z1⟩ := cells_at hc1.out
      go_wp2_with fail
      refine (rErr_is B _ 0 _ rd1).mono ?_
      rintro r w2 ⟨rfl, rfl⟩
      go_wp2_with fail
      refine (ask_ok Rb _).mono ?_
      rintro r w2 ⟨rfl, rfl⟩
      go_wp2_with fail
      refine (giveup_any Rb B t _ _ hc1.out).mono ?_
      rintro r w2 ⟨rfl, rfl⟩
      exact ⟨rfl, .inl ⟨_, hP.out, rfl, k1⟩⟩
    · have hP : Hid (pU t zs = .inr (x, zs.drop n)) := by unfold Hid pU; rw [hg]; simp [hb]
      clear hout hu hg h
      go_enter Try.func51, Try.ntmps51
      go_wp2_with fail
      refine Calls.mono Hu.out ?_
      rintro r w1 ⟨rfl, rd1, k1⟩
      have hc1 : Hid (PRc w1 Rb B t) := hc.out.kept hne.out k1
      clear c1 f1 z1
      obtain ⟨c1, f1, z1⟩ := cells_at hc1.out
      go_wp2_with fail
      refine (rErr_is B _ 0 _ rd1).mono ?_
      rintro r w2 ⟨rfl, rfl⟩
      go_wp2_with fail
      refine (ask_ok Rb _).mono ?_
      rintro r w2 ⟨rfl, rfl⟩
      go_wp2
      go_ret
      exact .inr ⟨_, _, hP.out, rfl, ⟨hc1.out, rd1, hlB.out⟩, k1⟩
  · have hP : Hid (pU t zs = .inl (e, t)) := by unfold Hid pU; rw [hg]; simp [he]
    have Hu : Hid _ := hu
    clear hout hu hg h
    go_enter Try.func51, Try.ntmps51
    go_wp2_with fail
    refine Calls.mono Hu.out ?_
    rintro r w1 ⟨rfl, rd1, k1⟩
    have hc1 : Hid (PRc w1 Rb B t) := hc.out.kept hne.out k1
    clear c1 f1 z1
    obtain ⟨c1, f1, z1⟩ := cells_at hc1.out
    go_wp2_with fail
    refine (rErr_is B _ e _ rd1).mono ?_
    rintro r w2 ⟨rfl, rfl⟩
    go_wp2_with fail
    refine (ask_bad Rb B t e _ hc1.out he).mono ?_
    rintro r w2 ⟨rfl, rfl⟩
    exact ⟨rfl, .inl ⟨_, hP.out, rfl, k1⟩⟩
set_option maxHeartbeats 1000000 in
theorem rcount_any (Rb B : Nat) (zs : List Int) (t most : Int) (w : World) (h : PR w Rb B zs t) (hm0 : 0 ≤ most) (hm1 : most ≤ 1000000) :
    Calls Try.prog 75 #[(.pointer (some ⟨Rb, 0, none⟩)), .int .i64 most] w fun r w' => (∃ x, pN t most zs = .inl x ∧ r = fpan x.1 x.2 ∧ Wr.Kept [B] w w') ∨ ∃ (v : Nat) (rs : List Int), pN t most zs = .inr ((v : Int), rs) ∧ (v : Int) ≤ most ∧ r = .returned (.int .i64 v) ∧ PR w' Rb B rs t ∧ Wr.Kept [B] w w' := by
  have hu := rN_is B zs 0 most w h.2.1 (by omega) (by omega)
  have hout := frR_out h.byt 0
  rw [frR_0] at hu hout
  obtain ⟨c1, f1, z1⟩ := cells_at h.1
  have hc : Hid (PRc w Rb B t) := h.1
  have hne : Hid (Rb ≠ B) := h.ne
  have hlB : Hid (Rb < B) := h.2.2
  obtain ⟨x, n, e, hg⟩ : ∃ x n e, cut most (getR zs) = (x, n, e) := ⟨_, _, _, rfl⟩
  have hv : e = 0 → 0 ≤ x ∧ x ≤ most := by
    intro he
    unfold cut at hg
    by_cases q : (getR zs).2.2 = 0 ∧ (most < 0 ∨ most < (getR zs).1)
    · rw [if_pos q] at hg; simp only [Prod.mk.injEq] at hg; omega
    · rw [if_neg q] at hg
      rw [hg] at hout q
      simp only at hout q
      rcases hout with ⟨-, -, a, b, -⟩ | ⟨a, -⟩
      · omega
      · exact absurd he a
  rw [hg] at hu
  simp only at hu
  by_cases he : e = 0
  · subst he
    obtain ⟨hx0, hx1⟩ := hv rfl
    obtain ⟨v, rfl⟩ := Int.eq_ofNat_of_zero_le hx0
    rw [show aX ((v : Int), n, 0) = v from if_pos rfl, show aZ ((v : Int), n, 0) zs = zs.drop n from if_pos rfl] at hu
    have Hu : Hid _ := hu
    have hP : Hid (pN t most zs = .inr ((v : Int), zs.drop n)) := by unfold Hid pN; rw [hg]; simp
    clear hout hu hg h hv
    go_enter Try.func75, Try.ntmps75
    go_wp2_with fail
    refine Calls.mono Hu.out ?_
    rintro r w1 ⟨rfl, rd1, k1⟩
    have hc1 : Hid (PRc w1 Rb B t) := hc.out.kept hne.out k1
    clear c1 f1 z1
    obtain ⟨c1, f1, z1⟩ := cells_at hc1.out
    go_wp2_with fail
    refine (rErr_is B _ 0 _ rd1).mono ?_
    rintro r w2 ⟨rfl, rfl⟩
    go_wp2_with fail
    refine (ask_ok Rb _).mono ?_
    rintro r w2 ⟨rfl, rfl⟩
    go_wp2
    go_ret
    exact .inr ⟨_, _, hP.out, hx1, rfl, ⟨hc1.out, rd1, hlB.out⟩, k1⟩
  · have hP : Hid (pN t most zs = .inl (e, t)) := by unfold Hid pN; rw [hg]; simp [he]
    have Hu : Hid _ := hu
    clear hout hu hg h hv
    go_enter Try.func75, Try.ntmps75
    go_wp2_with fail
    refine Calls.mono Hu.out ?_
    rintro r w1 ⟨rfl, rd1, k1⟩
    have hc1 : Hid (PRc w1 Rb B t) := hc.out.kept hne.out k1
    clear c1 f1 z1
    obtain ⟨c1, f1, z1⟩ := cells_at hc1.out
    go_wp2_with fail
    refine (rErr_is B _ e _ rd1).mono ?_
    rintro r w2 ⟨rfl, rfl⟩
    go_wp2_with fail
    refine (ask_bad Rb B t e _ hc1.out he).mono ?_
    rintro r w2 ⟨rfl, rfl⟩
    exact ⟨rfl, .inl ⟨_, hP.out, rfl, k1⟩⟩
theorem wrap_i16 (y : Int) : ∃ v, IntKind.i16.wrap y = v ∧ -32768 ≤ v ∧ v ≤ 32767 ∧ ((-32768 ≤ y ∧ y ≤ 32767) → v = y) := by
  have e : IntKind.i16.wrap y = (y + 32768) % 65536 - 32768 := by simp [IntKind.wrap, IntKind.bits, IntKind.signed]; omega
  refine ⟨_, rfl, ?_⟩
  rw [e]
  omega
theorem wrap_i32' (y : Int) : ∃ v, wrap32 y = v ∧ -2147483648 ≤ v ∧ v ≤ 2147483647 ∧ ((-2147483648 ≤ y ∧ y ≤ 2147483647) → v = y) := by
  refine ⟨_, rfl, ?_⟩
  unfold wrap32
  omega
set_option maxHeartbeats 1000000 in
theorem rsigned_i16 (Rb B : Nat) (zs : List Int) (t : Int) (w : World) (h : PR w Rb B zs t) :
    Calls Try.prog 100 #[(.pointer (some ⟨Rb, 0, none⟩))] w fun r w' => (∃ x, p16 t zs = .inl x ∧ r = fpan x.1 x.2 ∧ Wr.Kept [B] w w') ∨ ∃ v rs, p16 t zs = .inr (v, rs) ∧ ((-32768) ≤ v ∧ v ≤ 32767) ∧ r = .returned (.int .i16 v) ∧ PR w' Rb B rs t ∧ Wr.Kept [B] w w' := by
  have hu := rS_is B zs 0 w h.2.1
  have hout := frR_out h.byt 0
  rw [frR_0] at hu hout
  obtain ⟨c1, f1, z1⟩ := cells_at h.1
  have hc : Hid (PRc w Rb B t) := h.1
  have hne : Hid (Rb ≠ B) := h.ne
  have hlB : Hid (Rb < B) := h.2.2
  obtain ⟨x, n, e, hg⟩ : ∃ x n e, getR zs = (x, n, e) := ⟨_, _, _, rfl⟩
  rw [hg] at hu hout
  simp only at hout hu
  by_cases he : e = 0
  · subst he
    have hx : 0 ≤ x ∧ x < 18446744073709551616 := by rcases hout with ⟨-, -, a, b, -⟩ | ⟨a, -⟩; exact ⟨a, b⟩; exact absurd rfl a
    have hy : -9223372036854775808 ≤ unfR x ∧ unfR x ≤ 9223372036854775807 := by unfold unfR; split <;> omega
    rw [show aX (x, n, 0) = x from if_pos rfl, show aZ (x, n, 0) zs = zs.drop n from if_pos rfl] at hu
    obtain ⟨y, hyx⟩ : ∃ y, unfR x = y := ⟨_, rfl⟩
    rw [hyx] at hy hu
    have Hu : Hid _ := hu
    by_cases hb : y < (-32768) ∨ 32767 < y
    · have hP : Hid (p16 t zs = .inl (41, t)) := by unfold Hid p16 pS; rw [hg]; simp [hyx, hb]
      obtain ⟨v, hv, hv0, hv1, -⟩ := wrap_i16 y
      have hvy : v ≠ y := by omega
      clear hout hu hg h hyx hb
      go_enter Try.func100, Try.ntmps100
      go_wp2_with fail
      refine Calls.mono Hu.out ?_
      rintro r w1 ⟨rfl, rd1, k1⟩
      have hc1 : Hid (PRc w1 Rb B t) := hc.out.kept hne.out k1
      clear c1 f1 z1
      obtain ⟨c1, f1, z1⟩ := cells_at hc1.out
      go_wp2_with fail
      refine (rErr_is B _ 0 _ rd1).mono ?_
      rintro r w2 ⟨rfl, rfl⟩
      go_wp2_with fail
      refine (ask_ok Rb _).mono ?_
      rintro r w2 ⟨rfl, rfl⟩
      go_wp2_with fail
      refine (giveup_any Rb B t _ _ hc1.out).mono ?_
      rintro r w2 ⟨rfl, rfl⟩
      exact ⟨rfl, .inl ⟨_, hP.out, rfl, k1⟩⟩
    · have hP : Hid (p16 t zs = .inr (y, zs.drop n)) := by unfold Hid p16 pS; rw [hg]; simp [hyx, hb]
      have hy2 : (-32768) ≤ y ∧ y ≤ 32767 := by omega
      clear hout hu hg h hyx hb hy
      obtain ⟨hy0, hy1⟩ := hy2
      go_enter Try.func100, Try.ntmps100
      go_wp2_with fail
      refine Calls.mono Hu.out ?_
      rintro r w1 ⟨rfl, rd1, k1⟩
      have hc1 : Hid (PRc w1 Rb B t) := hc.out.kept hne.out k1
      clear c1 f1 z1
      obtain ⟨c1, f1, z1⟩ := cells_at hc1.out
      go_wp2_with fail
      refine (rErr_is B _ 0 _ rd1).mono ?_
      rintro r w2 ⟨rfl, rfl⟩
      go_wp2_with fail
      refine (ask_ok Rb _).mono ?_
      rintro r w2 ⟨rfl, rfl⟩
      go_wp2
      go_ret
      exact .inr ⟨_, _, hP.out, ⟨hy0, hy1⟩, rfl, ⟨hc1.out, rd1, hlB.out⟩, k1⟩
  · have hP : Hid (p16 t zs = .inl (e, t)) := by unfold Hid p16 pS; rw [hg]; simp [he]
    have Hu : Hid _ := hu
    clear hout hu hg h
    go_enter Try.func100, Try.ntmps100
    go_wp2_with fail
    refine Calls.mono Hu.out ?_
    rintro r w1 ⟨rfl, rd1, k1⟩
    have hc1 : Hid (PRc w1 Rb B t) := hc.out.kept hne.out k1
    clear c1 f1 z1
    obtain ⟨c1, f1, z1⟩ := cells_at hc1.out
    go_wp2_with fail
    refine (rErr_is B _ e _ rd1).mono ?_
    rintro r w2 ⟨rfl, rfl⟩
    go_wp2_with fail
    refine (ask_bad Rb B t e _ hc1.out he).mono ?_
    rintro r w2 ⟨rfl, rfl⟩
    exact ⟨rfl, .inl ⟨_, hP.out, rfl, k1⟩⟩
set_option maxHeartbeats 1000000 in
theorem rsigned_i32 (Rb B : Nat) (zs : List Int) (t : Int) (w : World) (h : PR w Rb B zs t) :
    Calls Try.prog 74 #[(.pointer (some ⟨Rb, 0, none⟩))] w fun r w' => (∃ x, p32 t zs = .inl x ∧ r = fpan x.1 x.2 ∧ Wr.Kept [B] w w') ∨ ∃ v rs, p32 t zs = .inr (v, rs) ∧ ((-2147483648) ≤ v ∧ v ≤ 2147483647) ∧ r = .returned (.int .i32 v) ∧ PR w' Rb B rs t ∧ Wr.Kept [B] w w' := by
  have hu := rS_is B zs 0 w h.2.1
  have hout := frR_out h.byt 0
  rw [frR_0] at hu hout
  obtain ⟨c1, f1, z1⟩ := cells_at h.1
  have hc : Hid (PRc w Rb B t) := h.1
  have hne : Hid (Rb ≠ B) := h.ne
  have hlB : Hid (Rb < B) := h.2.2
  obtain ⟨x, n, e, hg⟩ : ∃ x n e, getR zs = (x, n, e) := ⟨_, _, _, rfl⟩
  rw [hg] at hu hout
  simp only at hout hu
  by_cases he : e = 0
  · subst he
    have hx : 0 ≤ x ∧ x < 18446744073709551616 := by rcases hout with ⟨-, -, a, b, -⟩ | ⟨a, -⟩; exact ⟨a, b⟩; exact absurd rfl a
    have hy : -9223372036854775808 ≤ unfR x ∧ unfR x ≤ 9223372036854775807 := by unfold unfR; split <;> omega
    rw [show aX (x, n, 0) = x from if_pos rfl, show aZ (x, n, 0) zs = zs.drop n from if_pos rfl] at hu
    obtain ⟨y, hyx⟩ : ∃ y, unfR x = y := ⟨_, rfl⟩
    rw [hyx] at hy hu
    have Hu : Hid _ := hu
    by_cases hb : y < (-2147483648) ∨ 2147483647 < y
    · have hP : Hid (p32 t zs = .inl (41, t)) := by unfold Hid p32 pS; rw [hg]; simp [hyx, hb]
      obtain ⟨v, hv, hv0, hv1, -⟩ := wrap_i32' y
      have hvy : v ≠ y := by omega
      clear hout hu hg h hyx hb
      go_enter Try.func74, Try.ntmps74
      go_wp2_with fail
      refine Calls.mono Hu.out ?_
      rintro r w1 ⟨rfl, rd1, k1⟩
      have hc1 : Hid (PRc w1 Rb B t) := hc.out.kept hne.out k1
      clear c1 f1 z1
      obtain ⟨c1, f1, z1⟩ := cells_at hc1.out
      go_wp2_with fail
      refine (rErr_is B _ 0 _ rd1).mono ?_
      rintro r w2 ⟨rfl, rfl⟩
      go_wp2_with fail
      refine (ask_ok Rb _).mono ?_
      rintro r w2 ⟨rfl, rfl⟩
      go_wp2_with fail
      refine (giveup_any Rb B t _ _ hc1.out).mono ?_
      rintro r w2 ⟨rfl, rfl⟩
      exact ⟨rfl, .inl ⟨_, hP.out, rfl, k1⟩⟩
    · have hP : Hid (p32 t zs = .inr (y, zs.drop n)) := by unfold Hid p32 pS; rw [hg]; simp [hyx, hb]
      have hy2 : (-2147483648) ≤ y ∧ y ≤ 2147483647 := by omega
      clear hout hu hg h hyx hb hy
      obtain ⟨hy0, hy1⟩ := hy2
      go_enter Try.func74, Try.ntmps74
      go_wp2_with fail
      refine Calls.mono Hu.out ?_
      rintro r w1 ⟨rfl, rd1, k1⟩
      have hc1 : Hid (PRc w1 Rb B t) := hc.out.kept hne.out k1
      clear c1 f1 z1
      obtain ⟨c1, f1, z1⟩ := cells_at hc1.out
      go_wp2_with fail
      refine (rErr_is B _ 0 _ rd1).mono ?_
      rintro r w2 ⟨rfl, rfl⟩
      go_wp2_with fail
      refine (ask_ok Rb _).mono ?_
      rintro r w2 ⟨rfl, rfl⟩
      go_wp2
      go_ret
      exact .inr ⟨_, _, hP.out, ⟨hy0, hy1⟩, rfl, ⟨hc1.out, rd1, hlB.out⟩, k1⟩
  · have hP : Hid (p32 t zs = .inl (e, t)) := by unfold Hid p32 pS; rw [hg]; simp [he]
    have Hu : Hid _ := hu
    clear hout hu hg h
    go_enter Try.func74, Try.ntmps74
    go_wp2_with fail
    refine Calls.mono Hu.out ?_
    rintro r w1 ⟨rfl, rd1, k1⟩
    have hc1 : Hid (PRc w1 Rb B t) := hc.out.kept hne.out k1
    clear c1 f1 z1
    obtain ⟨c1, f1, z1⟩ := cells_at hc1.out
    go_wp2_with fail
    refine (rErr_is B _ e _ rd1).mono ?_
    rintro r w2 ⟨rfl, rfl⟩
    go_wp2_with fail
    refine (ask_bad Rb B t e _ hc1.out he).mono ?_
    rintro r w2 ⟨rfl, rfl⟩
    exact ⟨rfl, .inl ⟨_, hP.out, rfl, k1⟩⟩
set_option maxHeartbeats 1000000 in
theorem whole_any (Rb B : Nat) (zs : List Int) (t : Int) (w : World) (h : PR w Rb B zs t) :
    Calls Try.prog 52 #[(.pointer (some ⟨Rb, 0, none⟩))] w fun r w' => (∃ x, p32 t zs = .inl x ∧ r = fpan x.1 x.2 ∧ Wr.Kept [B] w w') ∨ ∃ v rs, p32 t zs = .inr (v, rs) ∧ r = .returned (.int .i64 v) ∧ PR w' Rb B rs t ∧ Wr.Kept [B] w w' := by
  have hu : Hid _ := rsigned_i32 Rb B zs t w h
  clear h
  go_enter Try.func52, Try.ntmps52
  go_wp2_with fail
  refine Calls.mono hu.out ?_
  rintro r w1 (⟨x, hx, rfl, k1⟩ | ⟨v, rs, hx, ⟨v0, v1⟩, rfl, pr, k1⟩)
  · exact ⟨rfl, .inl ⟨x, hx, rfl, k1⟩⟩
  · have hx' : Hid _ := hx
    clear hx hu
    go_wp2
    go_ret
    exact .inr ⟨_, _, hx'.out, rfl, pr, k1⟩
end Go.Proofs.Ythagdpiocmcbmaa

/- The reader of package pack: scales and windows. Written by tools/gen/PckS.py. -/
namespace Go.Proofs.Ythagdpiocmcbmaa
open Wr
open Go.ChangeShapes Go.WideShapes Go.ChangeAt Go.RowKit
set_option linter.unusedVariables false
theorem kept_row {w wn : World} {B N : Nat} {cs : Array Value} (k : Wr.Kept [B] w wn) (hN : w.heap.size ≤ N) : Wr.Kept [B] w (wn.setRow N cs) :=
  ⟨k.1, k.2.1, k.2.2.1, by rw [size_setRow]; exact k.2.2.2.1, fun i hi hB => (setRow_other wn N i cs (by omega)).trans (k.2.2.2.2 i hi hB)⟩
theorem below_row {wn : World} {b N : Nat} {cs : Array Value} (hb : b < N) : Below (b + 1) wn (wn.setRow N cs) :=
  ⟨rfl, rfl, rfl, by rw [size_setRow]; exact Nat.le_refl _, fun i hi => setRow_other wn N i cs (by omega)⟩
set_option maxHeartbeats 2000000 in
set_option maxRecDepth 100000 in
theorem scale_any (Rb B : Nat) (zs : List Int) (t : Int) (w : World) (h : PR w Rb B zs t) :
    Calls Try.prog 93 #[(.pointer (some ⟨Rb, 0, none⟩))] w fun r w' => (∃ x, pL (pU t) 2 zs = .inl x ∧ r = fpan x.1 x.2 ∧ Wr.Kept [B] w w') ∨ ∃ v1 v2 rs, pL (pU t) 2 zs = .inr ([v1, v2], rs) ∧ r = .returned (.agg #[.int .i64 v1, .int .i64 v2]) ∧ PR w' Rb B rs t ∧ Wr.Kept [B] w w' := by
  have hlt := h.ltB
  have p0 : Hid (PR (w.alloc (.cells #[.int .i64 0, .int .i64 0] 48)) Rb B zs t) := h.al _
  have k0 : Hid (Wr.Kept [B] w (w.alloc (.cells #[.int .i64 0, .int .i64 0] 48))) := Kept.of (bal _ _)
  have b0 : Hid ((w.alloc (.cells #[.int .i64 0, .int .i64 0] 48)).heap[w.heap.size]? = some (.cells #[.int .i64 0, .int .i64 0] 48 (0, 0))) := heap_alloc_new w _
  clear h
  go_enter Try.func93, Try.ntmps93
  go_wp2_with fail
  refine Calls.mono (runsigned_any Rb B _ t _ p0.out) ?_
  rintro r w1 (⟨x, hx, rfl, k⟩ | ⟨v1, r1, hx, rfl, p, k⟩)
  · exact ⟨rfl, .inl ⟨x, by simp only [pL, pbind, hx], rfl, k0.out.trans k⟩⟩
  have h1 : Hid (pU t zs = .inr (v1, r1)) := hx
  have p1 : Hid (PR w1 Rb B r1 t) := p
  have k1 : Hid (Wr.Kept [B] w w1) := k0.out.trans k
  have b1 : Hid (w1.heap[w.heap.size]? = some (.cells #[.int .i64 0, .int .i64 0] 48 (0, 0))) := (k.2.2.2.2 _ (lt_of_heap b0.out) (by simp; omega)).trans b0.out
  clear hx p k p0 k0 b0
  go_wp2_with fail
  refine Calls.mono (runsigned_any Rb B _ t _ p1.out) ?_
  rintro r w2 (⟨x, hx, rfl, k⟩ | ⟨v2, r2, hx, rfl, p, k⟩)
  · exact ⟨rfl, .inl ⟨x, by simp only [pL, pbind, h1.out, hx], rfl, k1.out.trans k⟩⟩
  have h2 : Hid (pU t r1 = .inr (v2, r2)) := hx
  have p2 : Hid (PR w2 Rb B r2 t) := p
  have k2 : Hid (Wr.Kept [B] w w2) := k1.out.trans k
  have b2 : Hid (w2.heap[w.heap.size]? = some (.cells #[.int .i64 0, .int .i64 0] 48 (0, 0))) := (k.2.2.2.2 _ (lt_of_heap b1.out) (by simp; omega)).trans b1.out
  clear hx p k p1 k1 b1
  have hP : Hid (pL (pU t) 2 zs = .inr ([v1, v2], r2)) := by simp only [Hid, pL, pbind, h1.out, h2.out]
  have q : Hid (PR (w2.setRow w.heap.size #[.int .i64 v1, .int .i64 v2]) Rb B r2 t ∧ Wr.Kept [B] w (w2.setRow w.heap.size #[.int .i64 v1, .int .i64 v2]) ∧ (w2.setRow w.heap.size #[.int .i64 v1, .int .i64 v2]).heap[w.heap.size]? = some (.cells #[.int .i64 v1, .int .i64 v2] 48 (0, 0))) := ⟨p2.out.keep (below_row hlt), kept_row k2.out (Nat.le_refl _), setRow_heap _ _ _ _ _ _ b2.out⟩
  have bn := b2.out
  clear p2 k2 b2 h1 h2
  go_wp2_with (refine wpList_store_row rfl 48 (.tmp 2) (.tmp 7) rfl w.heap.size #[.int .i64 v1, .int .i64 v2] rfl rfl 48 _ bn (by kernel_rfl) rfl (by simp [Value.oneCell']) ?_)
  exact bodyPost_ret (results_cell_row Try.results93 _ _ w.heap.size 48 _ (0, 0) _ rfl q.out.2.2 Try.underlying48 rfl (by kernel_rfl)) rfl (.inr ⟨_, _, _, hP.out, rfl, q.out.1, q.out.2.1⟩)
set_option maxHeartbeats 2000000 in
set_option maxRecDepth 100000 in
theorem rwindow_any (Rb B : Nat) (zs : List Int) (t : Int) (w : World) (h : PR w Rb B zs t) :
    Calls Try.prog 90 #[(.pointer (some ⟨Rb, 0, none⟩))] w fun r w' => (∃ x, pL (pU t) 8 zs = .inl x ∧ r = fpan x.1 x.2 ∧ Wr.Kept [B] w w') ∨ ∃ v1 v2 v3 v4 v5 v6 v7 v8 rs, pL (pU t) 8 zs = .inr ([v1, v2, v3, v4, v5, v6, v7, v8], rs) ∧ r = .returned (.agg #[.int .i64 v1, .int .i64 v2, .int .i64 v3, .int .i64 v4, .int .i64 v5, .int .i64 v6, .int .i64 v7, .int .i64 v8]) ∧ PR w' Rb B rs t ∧ Wr.Kept [B] w w' := by
  have hlt := h.ltB
  have p0 : Hid (PR (w.alloc (.cells #[.int .i64 0, .int .i64 0, .int .i64 0, .int .i64 0, .int .i64 0, .int .i64 0, .int .i64 0, .int .i64 0] 44)) Rb B zs t) := h.al _
  have k0 : Hid (Wr.Kept [B] w (w.alloc (.cells #[.int .i64 0, .int .i64 0, .int .i64 0, .int .i64 0, .int .i64 0, .int .i64 0, .int .i64 0, .int .i64 0] 44))) := Kept.of (bal _ _)
  have b0 : Hid ((w.alloc (.cells #[.int .i64 0, .int .i64 0, .int .i64 0, .int .i64 0, .int .i64 0, .int .i64 0, .int .i64 0, .int .i64 0] 44)).heap[w.heap.size]? = some (.cells #[.int .i64 0, .int .i64 0, .int .i64 0, .int .i64 0, .int .i64 0, .int .i64 0, .int .i64 0, .int .i64 0] 44 (0, 0))) := heap_alloc_new w _
  clear h
  go_enter Try.func90, Try.ntmps90
  go_wp2_with fail
  refine Calls.mono (runsigned_any Rb B _ t _ p0.out) ?_
  rintro r w1 (⟨x, hx, rfl, k⟩ | ⟨v1, r1, hx, rfl, p, k⟩)
  · exact ⟨rfl, .inl ⟨x, by simp only [pL, pbind, hx], rfl, k0.out.trans k⟩⟩
  have h1 : Hid (pU t zs = .inr (v1, r1)) := hx
  have p1 : Hid (PR w1 Rb B r1 t) := p
  have k1 : Hid (Wr.Kept [B] w w1) := k0.out.trans k
  have b1 : Hid (w1.heap[w.heap.size]? = some (.cells #[.int .i64 0, .int .i64 0, .int .i64 0, .int .i64 0, .int .i64 0, .int .i64 0, .int .i64 0, .int .i64 0] 44 (0, 0))) := (k.2.2.2.2 _ (lt_of_heap b0.out) (by simp; omega)).trans b0.out
  clear hx p k p0 k0 b0
  go_wp2_with fail
  refine Calls.mono (runsigned_any Rb B _ t _ p1.out) ?_
  rintro r w2 (⟨x, hx, rfl, k⟩ | ⟨v2, r2, hx, rfl, p, k⟩)
  · exact ⟨rfl, .inl ⟨x, by simp only [pL, pbind, h1.out, hx], rfl, k1.out.trans k⟩⟩
  have h2 : Hid (pU t r1 = .inr (v2, r2)) := hx
  have p2 : Hid (PR w2 Rb B r2 t) := p
  have k2 : Hid (Wr.Kept [B] w w2) := k1.out.trans k
  have b2 : Hid (w2.heap[w.heap.size]? = some (.cells #[.int .i64 0, .int .i64 0, .int .i64 0, .int .i64 0, .int .i64 0, .int .i64 0, .int .i64 0, .int .i64 0] 44 (0, 0))) := (k.2.2.2.2 _ (lt_of_heap b1.out) (by simp; omega)).trans b1.out
  clear hx p k p1 k1 b1
  go_wp2_with fail
  refine Calls.mono (runsigned_any Rb B _ t _ p2.out) ?_
  rintro r w3 (⟨x, hx, rfl, k⟩ | ⟨v3, r3, hx, rfl, p, k⟩)
  · exact ⟨rfl, .inl ⟨x, by simp only [pL, pbind, h1.out, h2.out, hx], rfl, k2.out.trans k⟩⟩
  have h3 : Hid (pU t r2 = .inr (v3, r3)) := hx
  have p3 : Hid (PR w3 Rb B r3 t) := p
  have k3 : Hid (Wr.Kept [B] w w3) := k2.out.trans k
  have b3 : Hid (w3.heap[w.heap.size]? = some (.cells #[.int .i64 0, .int .i64 0, .int .i64 0, .int .i64 0, .int .i64 0, .int .i64 0, .int .i64 0, .int .i64 0] 44 (0, 0))) := (k.2.2.2.2 _ (lt_of_heap b2.out) (by simp; omega)).trans b2.out
  clear hx p k p2 k2 b2
  go_wp2_with fail
  refine Calls.mono (runsigned_any Rb B _ t _ p3.out) ?_
  rintro r w4 (⟨x, hx, rfl, k⟩ | ⟨v4, r4, hx, rfl, p, k⟩)
  · exact ⟨rfl, .inl ⟨x, by simp only [pL, pbind, h1.out, h2.out, h3.out, hx], rfl, k3.out.trans k⟩⟩
  have h4 : Hid (pU t r3 = .inr (v4, r4)) := hx
  have p4 : Hid (PR w4 Rb B r4 t) := p
  have k4 : Hid (Wr.Kept [B] w w4) := k3.out.trans k
  have b4 : Hid (w4.heap[w.heap.size]? = some (.cells #[.int .i64 0, .int .i64 0, .int .i64 0, .int .i64 0, .int .i64 0, .int .i64 0, .int .i64 0, .int .i64 0] 44 (0, 0))) := (k.2.2.2.2 _ (lt_of_heap b3.out) (by simp; omega)).trans b3.out
  clear hx p k p3 k3 b3
  go_wp2_with fail
  refine Calls.mono (runsigned_any Rb B _ t _ p4.out) ?_
  rintro r w5 (⟨x, hx, rfl, k⟩ | ⟨v5, r5, hx, rfl, p, k⟩)
  · exact ⟨rfl, .inl ⟨x, by simp only [pL, pbind, h1.out, h2.out, h3.out, h4.out, hx], rfl, k4.out.trans k⟩⟩
  have h5 : Hid (pU t r4 = .inr (v5, r5)) := hx
  have p5 : Hid (PR w5 Rb B r5 t) := p
  have k5 : Hid (Wr.Kept [B] w w5) := k4.out.trans k
  have b5 : Hid (w5.heap[w.heap.size]? = some (.cells #[.int .i64 0, .int .i64 0, .int .i64 0, .int .i64 0, .int .i64 0, .int .i64 0, .int .i64 0, .int .i64 0] 44 (0, 0))) := (k.2.2.2.2 _ (lt_of_heap b4.out) (by simp; omega)).trans b4.out
  clear hx p k p4 k4 b4
  go_wp2_with fail
  refine Calls.mono (runsigned_any Rb B _ t _ p5.out) ?_
  rintro r w6 (⟨x, hx, rfl, k⟩ | ⟨v6, r6, hx, rfl, p, k⟩)
  · exact ⟨rfl, .inl ⟨x, by simp only [pL, pbind, h1.out, h2.out, h3.out, h4.out, h5.out, hx], rfl, k5.out.trans k⟩⟩
  have h6 : Hid (pU t r5 = .inr (v6, r6)) := hx
  have p6 : Hid (PR w6 Rb B r6 t) := p
  have k6 : Hid (Wr.Kept [B] w w6) := k5.out.trans k
  have b6 : Hid (w6.heap[w.heap.size]? = some (.cells #[.int .i64 0, .int .i64 0, .int .i64 0, .int .i64 0, .int .i64 0, .int .i64 0, .int .i64 0, .int .i64 0] 44 (0, 0))) := (k.2.2.2.2 _ (lt_of_heap b5.out) (by simp; omega)).trans b5.out
  clear hx p k p5 k5 b5
  go_wp2_with fail
  refine Calls.mono (runsigned_any Rb B _ t _ p6.out) ?_
  rintro r w7 (⟨x, hx, rfl, k⟩ | ⟨v7, r7, hx, rfl, p, k⟩)
  · exact ⟨rfl, .inl ⟨x, by simp only [pL, pbind, h1.out, h2.out, h3.out, h4.out, h5.out, h6.out, hx], rfl, k6.out.trans k⟩⟩
  have h7 : Hid (pU t r6 = .inr (v7, r7)) := hx
  have p7 : Hid (PR w7 Rb B r7 t) := p
  have k7 : Hid (Wr.Kept [B] w w7) := k6.out.trans k
  have b7 : Hid (w7.heap[w.heap.size]? = some (.cells #[.int .i64 0, .int .i64 0, .int .i64 0, .int .i64 0, .int .i64 0, .int .i64 0, .int .i64 0, .int .i64 0] 44 (0, 0))) := (k.2.2.2.2 _ (lt_of_heap b6.out) (by simp; omega)).trans b6.out
  clear hx p k p6 k6 b6
  go_wp2_with fail
  refine Calls.mono (runsigned_any Rb B _ t _ p7.out) ?_
  rintro r w8 (⟨x, hx, rfl, k⟩ | ⟨v8, r8, hx, rfl, p, k⟩)
  · exact ⟨rfl, .inl ⟨x, by simp only [pL, pbind, h1.out, h2.out, h3.out, h4.out, h5.out, h6.out, h7.out, hx], rfl, k7.out.trans k⟩⟩
  have h8 : Hid (pU t r7 = .inr (v8, r8)) := hx
  have p8 : Hid (PR w8 Rb B r8 t) := p
  have k8 : Hid (Wr.Kept [B] w w8) := k7.out.trans k
  have b8 : Hid (w8.heap[w.heap.size]? = some (.cells #[.int .i64 0, .int .i64 0, .int .i64 0, .int .i64 0, .int .i64 0, .int .i64 0, .int .i64 0, .int .i64 0] 44 (0, 0))) := (k.2.2.2.2 _ (lt_of_heap b7.out) (by simp; omega)).trans b7.out
  clear hx p k p7 k7 b7
  have hP : Hid (pL (pU t) 8 zs = .inr ([v1, v2, v3, v4, v5, v6, v7, v8], r8)) := by simp only [Hid, pL, pbind, h1.out, h2.out, h3.out, h4.out, h5.out, h6.out, h7.out, h8.out]
  have q : Hid (PR (w8.setRow w.heap.size #[.int .i64 v1, .int .i64 v2, .int .i64 v3, .int .i64 v4, .int .i64 v5, .int .i64 v6, .int .i64 v7, .int .i64 v8]) Rb B r8 t ∧ Wr.Kept [B] w (w8.setRow w.heap.size #[.int .i64 v1, .int .i64 v2, .int .i64 v3, .int .i64 v4, .int .i64 v5, .int .i64 v6, .int .i64 v7, .int .i64 v8]) ∧ (w8.setRow w.heap.size #[.int .i64 v1, .int .i64 v2, .int .i64 v3, .int .i64 v4, .int .i64 v5, .int .i64 v6, .int .i64 v7, .int .i64 v8]).heap[w.heap.size]? = some (.cells #[.int .i64 v1, .int .i64 v2, .int .i64 v3, .int .i64 v4, .int .i64 v5, .int .i64 v6, .int .i64 v7, .int .i64 v8] 44 (0, 0))) := ⟨p8.out.keep (below_row hlt), kept_row k8.out (Nat.le_refl _), setRow_heap _ _ _ _ _ _ b8.out⟩
  have bn := b8.out
  clear p8 k8 b8 h1 h2 h3 h4 h5 h6 h7 h8
  go_wp2_with (refine wpList_store_row rfl 44 (.tmp 2) (.tmp 19) rfl w.heap.size #[.int .i64 v1, .int .i64 v2, .int .i64 v3, .int .i64 v4, .int .i64 v5, .int .i64 v6, .int .i64 v7, .int .i64 v8] rfl rfl 44 _ bn (by kernel_rfl) rfl (by simp [Value.oneCell']) ?_)
  exact bodyPost_ret (results_cell_row Try.results90 _ _ w.heap.size 44 _ (0, 0) _ rfl q.out.2.2 Try.underlying44 rfl (by kernel_rfl)) rfl (.inr ⟨_, _, _, _, _, _, _, _, _, hP.out, rfl, q.out.1, q.out.2.1⟩)
end Go.Proofs.Ythagdpiocmcbmaa
