/- What the law's own comparison, number by number, returns. -/
import Derived.Test.YtcgpeaamblanlaaIntA
import Derived.LoopN
import Derived.BigQuiet
namespace Go.Proofs.Ytcgpeaamblanlaa
open Go.ChangeShapes Go.WideShapes Go.ChangeAt Go.RowKit
theorem dbel (w : World) (n : Nat) : Below w.heap.size w (w.drewN n) := ⟨rfl, rfl, rfl, Nat.le_refl _, fun _ _ => rfl⟩
theorem ret_bool {a b : Bool} (h : a = b) : Ending.returned (.bool a) = .returned (.bool b) := by rw [h]
theorem row_at {w : World} {a : Option Addr} {len cap : Nat} {zs : List Int} (hr : Row w a len cap zs) {k : Nat} (hk : k < len) :
    ∃ x c, a = some x ∧ w.cell? (x.add k) = some (.int .i64 c) ∧ zs.drop k = c :: zs.drop (k + 1) := by
  obtain ⟨hl, hc, hm, hn, hcell⟩ := hr
  have hk' : k < zs.length := by omega
  obtain ⟨x, rfl⟩ : ∃ x, a = some x := by
    cases a with
    | none => have := hn rfl; omega
    | some x => exact ⟨x, rfl⟩
  have hcx := hcell x rfl k hk
  rw [List.getD_eq_getElem?_getD, List.getElem?_eq_getElem hk', Option.getD_some] at hcx
  exact ⟨x, zs[k], rfl, hcx, List.drop_eq_getElem_cons hk'⟩
theorem same_step {xs ys : List Int} {k : Nat} {c d : Int} (hx : xs.drop k = c :: xs.drop (k + 1)) (hy : ys.drop k = d :: ys.drop (k + 1)) (he : xs.take k = ys.take k) : (c = d → xs.take (k + 1) = ys.take (k + 1)) ∧ (c ≠ d → decide (xs = ys) = false) := by
  have kx : xs[k]? = some c := by rw [← List.head?_drop, hx]; rfl
  have ky : ys[k]? = some d := by rw [← List.head?_drop, hy]; rfl
  constructor
  · intro h
    rw [List.take_add_one, List.take_add_one, he, kx, ky, h]
  · intro h
    refine decide_eq_false fun e => h ?_
    rw [e, ky] at kx
    exact (Option.some.inj kx).symm
theorem same_end {xs ys : List Int} {k n : Nat} (hx : xs.length = n) (hy : ys.length = n) (hk : n ≤ k) (he : xs.take k = ys.take k) : decide (xs = ys) = true := by
  rw [List.take_of_length_le (by omega), List.take_of_length_le (by omega)] at he
  exact decide_eq_true he
set_option maxHeartbeats 1000000 in
theorem same_is (a b : Option Addr) (la ca lb cb : Nat) (xs ys : List Int) (w : World) (ha : Row w a la ca xs) (hb : Row w b lb cb ys) :
    Calls Try.prog 20 #[.slice a la ca, .slice b lb cb] w fun e w' => e = .returned (.bool (decide (xs = ys))) ∧ ∃ n, w' = w.drewN n := by
  have ha' := ha.2.2.1
  have hb' := hb.2.2.1
  unfold maxLen at ha' hb'
  have hxl : Hid (xs.length = la) := ha.1
  have hyl : Hid (ys.length = lb) := hb.1
  have hac := ha.2.1
  have hbc := hb.2.1
  by_cases hlen : la = lb
  · subst hlen
    go_enter Try.func20, Try.ntmps20
    go_wp2
    go_loopw [13] (fun i wr => ∃ k n : Nat, k ≤ la ∧ i = .int .i64 k ∧ xs.take k = ys.take k ∧ wr = w.drewN n) (fun i _ => la - (intOf i).toNat)
    case atStart => exact ⟨0, 0, Nat.zero_le _, rfl, rfl, rfl⟩
    case round =>
      obtain ⟨k, n, hk, rfl, he, rfl⟩ := hrel
      have he' : Hid (xs.take k = ys.take k) := he
      clear he
      by_cases hlt : k < la
      · obtain ⟨p, c, rfl, hc, hcd⟩ := row_at ha hlt
        obtain ⟨q, d, rfl, hd, hdd⟩ := row_at hb hlt
        have hcd' : Hid (xs.drop k = c :: xs.drop (k + 1)) := hcd
        have hdd' : Hid (ys.drop k = d :: ys.drop (k + 1)) := hdd
        clear hcd hdd ha hb
        by_cases hcd : c = d
        · subst hcd
          go_wp2
          go_quiet (fail)
          go_wp2
          go_roundw
          case rel => exact ⟨k + 1, _, by omega, by go_num, (same_step hcd'.out hdd'.out he'.out).1 rfl, rfl⟩
          case measure => simp [intOf]; omega
        · have hD : Hid (decide (xs = ys) = false) := (same_step hcd'.out hdd'.out he'.out).2 hcd
          go_wp2
          go_quiet (fail)
          go_wp2
          go_ret
          exact ⟨ret_bool hD.out.symm, _, by rw [World.drewN_drewN]⟩
      · clear ha hb
        have hD : Hid (decide (xs = ys) = true) := same_end hxl.out hyl.out (by omega) he'.out
        go_wp2
        go_ret
        exact ⟨ret_bool hD.out.symm, _, rfl⟩
  · have hne : xs ≠ ys := fun e => hlen (by rw [← hxl.out, ← hyl.out, e])
    have hD : Hid (decide (xs = ys) = false) := by simp [Hid, hne]
    clear ha hb hne
    go_enter Try.func20, Try.ntmps20
    go_wp2
    go_ret
    exact ⟨ret_bool hD.out.symm, 0, rfl⟩
/-- .. of two slices that the call owns. -/
theorem same_own {w : World} {b1 b2 : Nat} {v1 v2 : Value} {xs ys : List Int} (h1 : Own w b1 v1 xs) (h2 : Own w b2 v2 ys) :
    Calls Try.prog 20 #[v1, v2] w fun e w' => e = .returned (.bool (decide (xs = ys))) ∧ Below w.heap.size w w' := by
  obtain ⟨a1, c1, rfl, r1, -⟩ := h1.row
  obtain ⟨a2, c2, rfl, r2, -⟩ := h2.row
  refine (same_is _ _ _ _ _ _ xs ys w r1 r2).mono ?_
  rintro e w' ⟨he, n, rfl⟩
  exact ⟨he, dbel _ _⟩
end Go.Proofs.Ytcgpeaamblanlaa
