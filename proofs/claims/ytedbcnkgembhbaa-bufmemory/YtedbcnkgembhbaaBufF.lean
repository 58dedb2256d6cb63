/- What the statements ask of lists: the same numbers as int64, number by number; has a buffer just these. -/
import Derived.Test.YtedbcnkgembhbaaBufE
namespace Go.Proofs.Ytedbcnkgembhbaa
open Go.ChangeShapes Go.WideShapes Go.ChangeAt Go.RowKit
theorem wf64 {k : IntKind} {z : Int} (hk : k = .i8 ∨ k = .i16 ∨ k = .i32 ∨ k = .i64) (h : (Lit.int k z).wf = true) : (Lit.int .i64 z).wf = true := by
  rcases hk with rfl | rfl | rfl | rfl
  · exact mk_i64 (by have := wf_i8 h; omega)
  · exact mk_i64 (by have := wf_i16 h; omega)
  · exact mk_i64 (by have := wf_i32 h; omega)
  · exact h
theorem take_snoc {zs : List Int} {k : Nat} {c : Int} (h : zs[k]? = some c) : zs.take k ++ [c] = zs.take (k + 1) := by rw [List.take_add_one, h]; rfl
set_option maxHeartbeats 1000000 in
theorem wide_i8 (a : Option Addr) (len cap : Nat) (zs : List Int) (w : World) (hr : IRow .i8 w a len cap zs) (hs : len ≤ 1048576) :
    Calls Try.prog 13 #[.slice a len cap] w fun e w' => ∃ v, e = .returned v ∧ Own .i64 2 w' w.heap.size v zs ∧ Below w.heap.size w w' := by
  have hl : Hid (zs.length = len) := hr.1
  have hcm := hr.2.1
  have hmm := hr.2.2.1
  unfold maxLen at hmm
  go_enter Try.func13, Try.ntmps13
  go_wp2
  go_loopw [3, 8] (fun v i wr => ∃ k : Nat, k ≤ len ∧ i = .int .i64 k ∧ Own .i64 2 wr w.heap.size v (zs.take k) ∧ Below w.heap.size w wr) (fun _ i _ => len - (intOf i).toNat)
  case atStart => exact ⟨0, Nat.zero_le _, rfl, own_none _ _ _ _, Below.refl _ _⟩
  case round =>
    obtain ⟨k, hk, rfl, own, bel⟩ := hrel
    by_cases hlt : k < len
    · obtain ⟨x, d, rfl, hc, hwf, hzk, -⟩ := (hr.below bel).at hlt
      have hS : Hid (zs.take k ++ [d] = zs.take (k + 1)) := take_snoc hzk
      have hw64 := wf64 (by simp) hwf
      have hb := wf_i8 hwf
      have own3 := own.alloc (.cells #[.int .i64 d] 2)
      have b3 := bel.alloc bel.size (.cells #[.int .i64 d] 2)
      have hl1 : Hid ((zs.take k).length + [d].length ≤ 10000000) := by
        have h1 := hl.out; simp only [Hid, List.length_singleton, List.length_take]; omega
      clear hwf hzk
      go_wp2_with (at_builtin; refine wpList_app kt_i64 rfl (.tmp 12) (.tmp 15) rfl w.heap.size _ _ [d] rfl own3 _ _ _ rfl (row_one .i64 2 _ d hw64) hl1.out b3.size ?_; intro v4 w4 own4 gr4 nn4)
      go_roundw
      case rel => exact ⟨k + 1, by omega, by go_num, hS.out ▸ own4, own3.bel b3 gr4 (Nat.le_refl _) b3.size⟩
      case measure => simp [intOf]; omega
    · have hT : Hid (zs.take k = zs) := List.take_of_length_le (by have := hl.out; omega)
      rw [hT.out] at own
      have own' : Hid (Own .i64 2 wr w.heap.size _ zs) := own
      clear own hT
      go_wp2
      go_ret
      exact ⟨_, rfl, own'.out, bel⟩
set_option maxHeartbeats 1000000 in
theorem wide_i16 (a : Option Addr) (len cap : Nat) (zs : List Int) (w : World) (hr : IRow .i16 w a len cap zs) (hs : len ≤ 1048576) :
    Calls Try.prog 17 #[.slice a len cap] w fun e w' => ∃ v, e = .returned v ∧ Own .i64 2 w' w.heap.size v zs ∧ Below w.heap.size w w' := by
  have hl : Hid (zs.length = len) := hr.1
  have hcm := hr.2.1
  have hmm := hr.2.2.1
  unfold maxLen at hmm
  go_enter Try.func17, Try.ntmps17
  go_wp2
  go_loopw [3, 8] (fun v i wr => ∃ k : Nat, k ≤ len ∧ i = .int .i64 k ∧ Own .i64 2 wr w.heap.size v (zs.take k) ∧ Below w.heap.size w wr) (fun _ i _ => len - (intOf i).toNat)
  case atStart => exact ⟨0, Nat.zero_le _, rfl, own_none _ _ _ _, Below.refl _ _⟩
  case round =>
    obtain ⟨k, hk, rfl, own, bel⟩ := hrel
    by_cases hlt : k < len
    · obtain ⟨x, d, rfl, hc, hwf, hzk, -⟩ := (hr.below bel).at hlt
      have hS : Hid (zs.take k ++ [d] = zs.take (k + 1)) := take_snoc hzk
      have hw64 := wf64 (by simp) hwf
      have hb := wf_i16 hwf
      have own3 := own.alloc (.cells #[.int .i64 d] 2)
      have b3 := bel.alloc bel.size (.cells #[.int .i64 d] 2)
      have hl1 : Hid ((zs.take k).length + [d].length ≤ 10000000) := by
        have h1 := hl.out; simp only [Hid, List.length_singleton, List.length_take]; omega
      clear hwf hzk
      go_wp2_with (at_builtin; refine wpList_app kt_i64 rfl (.tmp 12) (.tmp 15) rfl w.heap.size _ _ [d] rfl own3 _ _ _ rfl (row_one .i64 2 _ d hw64) hl1.out b3.size ?_; intro v4 w4 own4 gr4 nn4)
      go_roundw
      case rel => exact ⟨k + 1, by omega, by go_num, hS.out ▸ own4, own3.bel b3 gr4 (Nat.le_refl _) b3.size⟩
      case measure => simp [intOf]; omega
    · have hT : Hid (zs.take k = zs) := List.take_of_length_le (by have := hl.out; omega)
      rw [hT.out] at own
      have own' : Hid (Own .i64 2 wr w.heap.size _ zs) := own
      clear own hT
      go_wp2
      go_ret
      exact ⟨_, rfl, own'.out, bel⟩
set_option maxHeartbeats 1000000 in
theorem wide_i32 (a : Option Addr) (len cap : Nat) (zs : List Int) (w : World) (hr : IRow .i32 w a len cap zs) (hs : len ≤ 1048576) :
    Calls Try.prog 54 #[.slice a len cap] w fun e w' => ∃ v, e = .returned v ∧ Own .i64 2 w' w.heap.size v zs ∧ Below w.heap.size w w' := by
  have hl : Hid (zs.length = len) := hr.1
  have hcm := hr.2.1
  have hmm := hr.2.2.1
  unfold maxLen at hmm
  go_enter Try.func54, Try.ntmps54
  go_wp2
  go_loopw [3, 8] (fun v i wr => ∃ k : Nat, k ≤ len ∧ i = .int .i64 k ∧ Own .i64 2 wr w.heap.size v (zs.take k) ∧ Below w.heap.size w wr) (fun _ i _ => len - (intOf i).toNat)
  case atStart => exact ⟨0, Nat.zero_le _, rfl, own_none _ _ _ _, Below.refl _ _⟩
  case round =>
    obtain ⟨k, hk, rfl, own, bel⟩ := hrel
    by_cases hlt : k < len
    · obtain ⟨x, d, rfl, hc, hwf, hzk, -⟩ := (hr.below bel).at hlt
      have hS : Hid (zs.take k ++ [d] = zs.take (k + 1)) := take_snoc hzk
      have hw64 := wf64 (by simp) hwf
      have hb := wf_i32 hwf
      have own3 := own.alloc (.cells #[.int .i64 d] 2)
      have b3 := bel.alloc bel.size (.cells #[.int .i64 d] 2)
      have hl1 : Hid ((zs.take k).length + [d].length ≤ 10000000) := by
        have h1 := hl.out; simp only [Hid, List.length_singleton, List.length_take]; omega
      clear hwf hzk
      go_wp2_with (at_builtin; refine wpList_app kt_i64 rfl (.tmp 12) (.tmp 15) rfl w.heap.size _ _ [d] rfl own3 _ _ _ rfl (row_one .i64 2 _ d hw64) hl1.out b3.size ?_; intro v4 w4 own4 gr4 nn4)
      go_roundw
      case rel => exact ⟨k + 1, by omega, by go_num, hS.out ▸ own4, own3.bel b3 gr4 (Nat.le_refl _) b3.size⟩
      case measure => simp [intOf]; omega
    · have hT : Hid (zs.take k = zs) := List.take_of_length_le (by have := hl.out; omega)
      rw [hT.out] at own
      have own' : Hid (Own .i64 2 wr w.heap.size _ zs) := own
      clear own hT
      go_wp2
      go_ret
      exact ⟨_, rfl, own'.out, bel⟩
set_option maxHeartbeats 1000000 in
theorem wide_i64 (a : Option Addr) (len cap : Nat) (zs : List Int) (w : World) (hr : IRow .i64 w a len cap zs) (hs : len ≤ 1048576) :
    Calls Try.prog 58 #[.slice a len cap] w fun e w' => ∃ v, e = .returned v ∧ Own .i64 2 w' w.heap.size v zs ∧ Below w.heap.size w w' := by
  have hl : Hid (zs.length = len) := hr.1
  have hcm := hr.2.1
  have hmm := hr.2.2.1
  unfold maxLen at hmm
  go_enter Try.func58, Try.ntmps58
  go_wp2
  go_loopw [3, 8] (fun v i wr => ∃ k : Nat, k ≤ len ∧ i = .int .i64 k ∧ Own .i64 2 wr w.heap.size v (zs.take k) ∧ Below w.heap.size w wr) (fun _ i _ => len - (intOf i).toNat)
  case atStart => exact ⟨0, Nat.zero_le _, rfl, own_none _ _ _ _, Below.refl _ _⟩
  case round =>
    obtain ⟨k, hk, rfl, own, bel⟩ := hrel
    by_cases hlt : k < len
    · obtain ⟨x, d, rfl, hc, hwf, hzk, -⟩ := (hr.below bel).at hlt
      have hS : Hid (zs.take k ++ [d] = zs.take (k + 1)) := take_snoc hzk
      have hw64 := wf64 (by simp) hwf
      have hb := wf_i64 hwf
      have own3 := own.alloc (.cells #[.int .i64 d] 2)
      have b3 := bel.alloc bel.size (.cells #[.int .i64 d] 2)
      have hl1 : Hid ((zs.take k).length + [d].length ≤ 10000000) := by
        have h1 := hl.out; simp only [Hid, List.length_singleton, List.length_take]; omega
      clear hwf hzk
      go_wp2_with (at_builtin; refine wpList_app kt_i64 rfl (.tmp 12) (.tmp 14) rfl w.heap.size _ _ [d] rfl own3 _ _ _ rfl (row_one .i64 2 _ d hw64) hl1.out b3.size ?_; intro v4 w4 own4 gr4 nn4)
      go_roundw
      case rel => exact ⟨k + 1, by omega, by go_num, hS.out ▸ own4, own3.bel b3 gr4 (Nat.le_refl _) b3.size⟩
      case measure => simp [intOf]; omega
    · have hT : Hid (zs.take k = zs) := List.take_of_length_le (by have := hl.out; omega)
      rw [hT.out] at own
      have own' : Hid (Own .i64 2 wr w.heap.size _ zs) := own
      clear own hT
      go_wp2
      go_ret
      exact ⟨_, rfl, own'.out, bel⟩
theorem same_step {xs ys : List Int} {k : Nat} {c d : Int} (hx : xs.drop k = c :: xs.drop (k + 1)) (hy : ys.drop k = d :: ys.drop (k + 1)) (he : xs.take k = ys.take k) : (c = d → xs.take (k + 1) = ys.take (k + 1)) ∧ (c ≠ d → decide (xs = ys) = false) := by
  have kx : xs[k]? = some c := by rw [← List.head?_drop, hx]; rfl
  have ky : ys[k]? = some d := by rw [← List.head?_drop, hy]; rfl
  constructor
  · intro h
    rw [List.take_add_one, List.take_add_one, he, kx, ky, h]
  · intro h
    refine decide_eq_false fun e => h ?_
    rw [e, ky] at kx
    exact (Option.some.inj kx).symm
theorem same_end {xs ys : List Int} {k n : Nat} (hx : xs.length = n) (hy : ys.length = n) (hk : n ≤ k) (he : xs.take k = ys.take k) : decide (xs = ys) = true := by
  rw [List.take_of_length_le (by omega), List.take_of_length_le (by omega)] at he
  exact decide_eq_true he
set_option maxHeartbeats 1000000 in
theorem same_is (a b : Option Addr) (la ca lb cb : Nat) (xs ys : List Int) (w : World) (ha : IRow .i64 w a la ca xs) (hb : IRow .i64 w b lb cb ys) :
    Calls Try.prog 20 #[.slice a la ca, .slice b lb cb] w fun e w' => e = .returned (.bool (decide (xs = ys))) ∧ ∃ n, w' = w.drewN n := by
  have ha' := ha.2.2.1
  have hb' := hb.2.2.1
  unfold maxLen at ha' hb'
  have hxl : Hid (xs.length = la) := ha.1
  have hyl : Hid (ys.length = lb) := hb.1
  have hac := ha.2.1
  have hbc := hb.2.1
  by_cases hlen : la = lb
  · subst hlen
    go_enter Try.func20, Try.ntmps20
    go_wp2
    go_loopw [13] (fun i wr => ∃ k n : Nat, k ≤ la ∧ i = .int .i64 k ∧ xs.take k = ys.take k ∧ wr = w.drewN n) (fun i _ => la - (intOf i).toNat)
    case atStart => exact ⟨0, 0, Nat.zero_le _, rfl, rfl, rfl⟩
    case round =>
      obtain ⟨k, n, hk, rfl, he, rfl⟩ := hrel
      have he' : Hid (xs.take k = ys.take k) := he
      clear he
      by_cases hlt : k < la
      · obtain ⟨p, c, rfl, hc, -, -, hcd⟩ := ha.at hlt
        obtain ⟨q, d, rfl, hd, -, -, hdd⟩ := hb.at hlt
        have hcd' : Hid (xs.drop k = c :: xs.drop (k + 1)) := hcd
        have hdd' : Hid (ys.drop k = d :: ys.drop (k + 1)) := hdd
        clear hcd hdd ha hb
        by_cases hcd : c = d
        · subst hcd
          go_wp2
          go_quiet (fail)
          go_wp2
          go_roundw
          case rel => exact ⟨k + 1, _, by omega, by go_num, (same_step hcd'.out hdd'.out he'.out).1 rfl, rfl⟩
          case measure => simp [intOf]; omega
        · have hD : Hid (decide (xs = ys) = false) := (same_step hcd'.out hdd'.out he'.out).2 hcd
          go_wp2
          go_quiet (fail)
          go_wp2
          go_ret
          exact ⟨retB hD.out.symm, _, by rw [World.drewN_drewN]⟩
      · clear ha hb
        have hD : Hid (decide (xs = ys) = true) := same_end hxl.out hyl.out (by omega) he'.out
        go_wp2
        go_ret
        exact ⟨retB hD.out.symm, _, rfl⟩
  · have hne : xs ≠ ys := fun e => hlen (by rw [← hxl.out, ← hyl.out, e])
    have hD : Hid (decide (xs = ys) = false) := by simp [Hid, hne]
    clear ha hb hne
    go_enter Try.func20, Try.ntmps20
    go_wp2
    go_ret
    exact ⟨retB hD.out.symm, 0, rfl⟩
/-- .. of one list with itself. -/
theorem same_yes {w : World} {a b : Option Addr} {la ca lb cb : Nat} {xs : List Int} (ha : IRow .i64 w a la ca xs) (hb : IRow .i64 w b lb cb xs) :
    Calls Try.prog 20 #[.slice a la ca, .slice b lb cb] w fun e w' => e = .returned (.bool true) ∧ Below w.heap.size w w' := by
  refine (same_is _ _ _ _ _ _ _ _ w ha hb).mono ?_
  rintro e w' ⟨rfl, n, rfl⟩
  exact ⟨retB (decide_eq_true rfl), dbel _ _⟩
end Go.Proofs.Ytedbcnkgembhbaa
