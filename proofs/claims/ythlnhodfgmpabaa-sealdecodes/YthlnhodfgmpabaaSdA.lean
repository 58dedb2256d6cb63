/- The document's reader within the document's in of layer 16: made of PdA. -/
import Derived.Test.YthlnhodfgmpabaaSelP
import Derived.Test.YthlnhodfgmpabaaGenA
namespace Go.Proofs.Ythlnhodfgmpabaa.Sl
open Wr
open Go.ChangeShapes Go.WideShapes Go.ChangeAt Go.RowKit
theorem frR_bad {zs : List Int} {f : Int} (hf : f ≠ 0) : frR zs f = (0, 0, f) := if_neg hf
/-- The document's in: what its reader holds, the place, the fault and its place. -/
def InR (w : World) (B : Nat) (zs : List Int) (f qo qe qt : Int) : Prop := ∃ a len cap, w.heap[B]? = some (.cells #[.slice a len cap, .int .i64 f, .int .i64 (qo / 4096), .int .i64 (qo % 4096), .int .i64 qe, .int .i64 (qt / 4096), .int .i64 (qt % 4096)] 64 (0, 0)) ∧ Row w a len cap zs ∧ ∀ x, a = some x → x.block < B
theorem InR.noB {w : World} {B : Nat} {zs : List Int} {f qo qe qt : Int} (h : InR w B zs f qo qe qt) : NoB w B := by
  obtain ⟨a, len, cap, h, _⟩ := h
  refine ⟨_, _, h, fun i v e => ?_⟩
  match i, e with
  | 0, e => simp at e
  | 1, e => simp at e
  | 2, e => simp at e
  | 3, e => simp at e
  | 4, e => simp at e
  | 5, e => simp at e
  | 6, e => simp at e
  | n + 7, e => simp at e
theorem InR.lt {w : World} {B : Nat} {zs : List Int} {f qo qe qt : Int} (h : InR w B zs f qo qe qt) : B < w.heap.size := by
  obtain ⟨a, len, cap, h, _⟩ := h
  exact (cells_at h).2.2
theorem InR.byt {w : World} {B : Nat} {zs : List Int} {f qo qe qt : Int} (h : InR w B zs f qo qe qt) : Byt zs := by
  obtain ⟨a, len, cap, _, h, _⟩ := h
  exact h.2.2.2.1
theorem blk_add (y : Addr) (n : Nat) : (y.add n).block = y.block := by unfold Addr.add; split <;> rfl
theorem low_map {a : Option Addr} {B n : Nat} (h : ∀ x, a = some x → x.block < B) : ∀ x, a.map (·.add n) = some x → x.block < B := fun x hx => by
  cases a with
  | none => cases hx
  | some y => cases hx; rw [blk_add]; exact h y rfl
set_option maxHeartbeats 2000000 in
theorem dU_is (B : Nat) (zs : List Int) (f qo qe qt : Int) (w : World) (h : InR w B zs f qo qe qt) :
    Calls Try.prog 65 #[.pointer (some ⟨B, 0, none⟩)] w fun r w' => r = .returned (.int .u64 (aX (frR zs f))) ∧ InR w' B (aZ (frR zs f) zs) (frR zs f).2.2 qo qe qt ∧ Kept [B] w w' := by
  have hout := frR_out h.byt f
  have hnb := h.noB
  have h' : Hid (InR w B zs f qo qe qt) := h
  obtain ⟨a, len, cap, hB, hr, hw⟩ := h
  have hw' : Hid (∀ x, a = some x → x.block < B) := hw
  clear hw
  obtain ⟨cB, fB, zB⟩ := cells_at hB
  have hB' : Hid (w.heap[B]? = some (.cells #[.slice a len cap, .int .i64 f, .int .i64 (qo / 4096), .int .i64 (qo % 4096), .int .i64 qe, .int .i64 (qt / 4096), .int .i64 (qt % 4096)] 64 (0, 0))) := hB
  clear hB
  by_cases hf : f = 0
  · subst hf
    have hgt := get_is a len cap zs w hr
    have hc := hr.2.1
    have hm := hr.2.2.1
    have hln := hr.1
    unfold maxLen at hm
    rw [show frR zs 0 = getR zs from rfl] at *
    obtain ⟨x, n, e, hg⟩ : ∃ x n e, getR zs = (x, n, e) := ⟨_, _, _, rfl⟩
    rw [hg] at hout hgt ⊢
    clear hg
    have hn : n ≤ len := by rcases hout with ⟨_, _, _, _, h⟩ | ⟨_, _, h⟩ <;> simp only at h <;> omega
    have e1 : Hid (aX (x, n, e) = x) := by
      rcases hout with ⟨h, _⟩ | ⟨h, h2, _⟩
      · exact if_pos h
      · simp only at h2; rw [h2]; unfold Hid aX; split <;> rfl
    have e2 : Hid (aZ (x, n, e) zs = zs.drop n) := by
      rcases hout with ⟨h, _⟩ | ⟨h, _, h2⟩
      · exact if_pos h
      · simp only at h2; rw [h2]; unfold Hid aZ; split <;> rfl
    clear hout hln
    go_enter Try.func65, Try.ntmps65
    go_wp2_with fail
    refine hgt.mono ?_
    rintro r w1 ⟨rfl, rfl⟩
    go_wp2
    all_goals go_ret
    all_goals rw [e2.out]
    · have h0 : cap = n := by assumption
      have R := hr.drop (a' := a) hn (fun x _ hx => absurd hx (by omega)) id
      rw [show cap - n = 0 by omega] at R
      exact ⟨ret_i e1.out.symm, ⟨_, _, _, set_at (set_at hB'.out), R.kept (Kept.set.trans Kept.set) (by simpa using hnb), hw'.out⟩, Kept.set.trans Kept.set⟩
    · have R := hr.drop (a' := a.map (·.add n)) hn (fun x hx _ => by rw [hx]; rfl) (fun hx => by rw [hx]; rfl)
      exact ⟨ret_i e1.out.symm, ⟨_, _, _, set_at (set_at hB'.out), R.kept (Kept.set.trans Kept.set) (by simpa using hnb), low_map hw'.out⟩, Kept.set.trans Kept.set⟩
  · rw [frR_bad hf]
    have e1 : Hid (aX (0, 0, f) = 0) := if_neg hf
    have e2 : Hid (aZ (0, 0, f) zs = zs) := if_neg hf
    clear hout
    go_enter Try.func65, Try.ntmps65
    go_wp2
    go_ret
    rw [e2.out]
    exact ⟨ret_i e1.out.symm, h'.out, Kept.of (Below.refl _ _)⟩
theorem dS_is (B : Nat) (zs : List Int) (f qo qe qt : Int) (w : World) (h : InR w B zs f qo qe qt) :
    Calls Try.prog 50 #[.pointer (some ⟨B, 0, none⟩)] w fun r w' => r = .returned (.int .i64 (unfR (aX (frR zs f)))) ∧ InR w' B (aZ (frR zs f) zs) (frR zs f).2.2 qo qe qt ∧ Kept [B] w w' := by
  obtain ⟨h0, h1⟩ := aX_in h.byt f
  go_enter Try.func50, Try.ntmps50
  go_wp2_with fail
  refine (dU_is B zs f qo qe qt w h).mono ?_
  rintro r w1 ⟨rfl, rd1, k1⟩
  go_wp2_with fail
  refine (unfold_is _ _ h0 h1).mono ?_
  rintro r w2 ⟨rfl, rfl⟩
  go_wp2
  go_ret
  exact ⟨rfl, rd1, k1⟩
set_option maxHeartbeats 4000000 in
theorem dN_is (B : Nat) (zs : List Int) (f qo qe qt : Int) (most : Int) (w : World) (h : InR w B zs f qo qe qt) (hm1 : -9223372036854775808 ≤ most) (hm2 : most ≤ 9223372036854775807) :
    Calls Try.prog 49 #[.pointer (some ⟨B, 0, none⟩), .int .i64 most] w fun r w' => r = .returned (.int .i64 (aX (cut most (frR zs f)))) ∧ InR w' B (aZ (cut most (frR zs f)) zs) (cut most (frR zs f)).2.2 qo qe qt ∧ Kept [B] w w' := by
  have hout := frR_out h.byt f
  have hnb := h.noB
  have h' : Hid (InR w B zs f qo qe qt) := h
  obtain ⟨a, len, cap, hB, hr, hw⟩ := h
  have hw' : Hid (∀ x, a = some x → x.block < B) := hw
  clear hw
  obtain ⟨cB, fB, zB⟩ := cells_at hB
  have hB' : Hid (w.heap[B]? = some (.cells #[.slice a len cap, .int .i64 f, .int .i64 (qo / 4096), .int .i64 (qo % 4096), .int .i64 qe, .int .i64 (qt / 4096), .int .i64 (qt % 4096)] 64 (0, 0))) := hB
  clear hB
  by_cases hf : f = 0
  · subst hf
    have hgt := get_is a len cap zs w hr
    have hc := hr.2.1
    have hm := hr.2.2.1
    have hln := hr.1
    unfold maxLen at hm
    rw [show frR zs 0 = getR zs from rfl] at *
    obtain ⟨x, n, e, hg⟩ : ∃ x n e, getR zs = (x, n, e) := ⟨_, _, _, rfl⟩
    rw [hg] at hout hgt ⊢
    clear hg
    rcases hout with ⟨he, _, h0, h1, h2⟩ | ⟨he, hx, hn⟩
    · simp only at he h0 h1 h2
      subst he
      have hn : n ≤ len := by omega
      clear hln h2
      by_cases hcc : most < 0 ∨ most < x
      · have c1 : Hid (cut most (x, n, 0) = (0, 0, 42)) := if_pos ⟨rfl, hcc⟩
        rw [c1.out]
        have e1 : Hid (aX (0, 0, 42) = 0) := rfl
        have e2 : Hid (aZ (0, 0, 42) zs = zs) := rfl
        by_cases hm0 : most < 0
        all_goals
          go_enter Try.func49, Try.ntmps49
          go_wp2_with fail
          refine hgt.mono ?_
          rintro r w1 ⟨rfl, rfl⟩
          go_wp2
          go_ret
          rw [e2.out]
          exact ⟨ret_i e1.out.symm, ⟨_, _, _, set_at hB'.out, hr.kept Kept.set (by simpa using hnb), hw'.out⟩, Kept.set⟩
      · have c1 : Hid (cut most (x, n, 0) = (x, n, 0)) := if_neg (by simp; omega)
        rw [c1.out]
        have hxm : x ≤ most := by omega
        have hm0 : ¬ most < 0 := by omega
        have e1 : Hid (aX (x, n, 0) = x) := rfl
        have e2 : Hid (aZ (x, n, 0) zs = zs.drop n) := rfl
        clear hcc
        go_enter Try.func49, Try.ntmps49
        go_wp2_with fail
        refine hgt.mono ?_
        rintro r w1 ⟨rfl, rfl⟩
        go_wp2
        all_goals go_ret
        all_goals rw [e2.out]
        · have h0 : cap = n := by assumption
          have R := hr.drop (a' := a) hn (fun x _ hx => absurd hx (by omega)) id
          rw [show cap - n = 0 by omega] at R
          exact ⟨ret_i e1.out.symm, ⟨_, _, _, set_at (set_at hB'.out), R.kept (Kept.set.trans Kept.set) (by simpa using hnb), hw'.out⟩, Kept.set.trans Kept.set⟩
        · have R := hr.drop (a' := a.map (·.add n)) hn (fun x hx _ => by rw [hx]; rfl) (fun hx => by rw [hx]; rfl)
          exact ⟨ret_i e1.out.symm, ⟨_, _, _, set_at (set_at hB'.out), R.kept (Kept.set.trans Kept.set) (by simpa using hnb), low_map hw'.out⟩, Kept.set.trans Kept.set⟩
    · simp only at he hx hn
      have c1 : Hid (cut most (x, n, e) = (x, n, e)) := if_neg (by simp [he])
      rw [c1.out]
      have e1 : Hid (aX (x, n, e) = 0) := if_neg he
      have e2 : Hid (aZ (x, n, e) zs = zs) := if_neg he
      go_enter Try.func49, Try.ntmps49
      go_wp2_with fail
      refine hgt.mono ?_
      rintro r w1 ⟨rfl, rfl⟩
      go_wp2
      go_ret
      rw [e2.out]
      exact ⟨ret_i e1.out.symm, ⟨_, _, _, set_at hB'.out, hr.kept Kept.set (by simpa using hnb), hw'.out⟩, Kept.set⟩
  · rw [frR_bad hf]
    have c1 : Hid (cut most (0, 0, f) = (0, 0, f)) := if_neg (by simp [hf])
    rw [c1.out]
    have e1 : Hid (aX (0, 0, f) = 0) := if_neg hf
    have e2 : Hid (aZ (0, 0, f) zs = zs) := if_neg hf
    clear hout
    go_enter Try.func49, Try.ntmps49
    go_wp2
    go_ret
    rw [e2.out]
    exact ⟨ret_i e1.out.symm, h'.out, Kept.of (Below.refl _ _)⟩
set_option maxHeartbeats 1000000 in
theorem dEnd_is (B : Nat) (zs : List Int) (f qo qe qt : Int) (w : World) (h : InR w B zs f qo qe qt) :
    Calls Try.prog 31 #[.pointer (some ⟨B, 0, none⟩)] w fun r w' => r = .returned (.int .i64 (endR zs f)) ∧ w' = w := by
  obtain ⟨a, len, cap, hB, hr, hw⟩ := h
  have hw' : Hid (∀ x, a = some x → x.block < B) := hw
  clear hw
  obtain ⟨cB, fB, zB⟩ := cells_at hB
  have hln := hr.1
  clear hB
  by_cases hf : f = 0
  · by_cases hl : len = 0
    · have E : Hid (endR zs f = 0) := by simp [Hid, endR, hf, hln, hl]
      subst hf
      subst hl
      go_enter Try.func31, Try.ntmps31
      go_wp2
      go_ret
      exact ⟨ret_i E.out.symm, rfl⟩
    · have E : Hid (endR zs f = 43) := by simp [Hid, endR, hf, hln, hl]
      have hl' : 0 < len := by omega
      subst hf
      go_enter Try.func31, Try.ntmps31
      go_wp2
      go_ret
      exact ⟨ret_i E.out.symm, rfl⟩
  · have E : Hid (endR zs f = f) := if_neg hf
    go_enter Try.func31, Try.ntmps31
    go_wp2
    go_ret
    exact ⟨ret_i E.out.symm, rfl⟩
end Go.Proofs.Ythlnhodfgmpabaa.Sl
