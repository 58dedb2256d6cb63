/- Convert, for each pair of types. -/
import Derived.Test.YtedbcnkgembhbaaBufF
namespace Go.Proofs.Ytedbcnkgembhbaa
open Go.ChangeShapes Go.WideShapes Go.ChangeAt Go.RowKit
/-- The first k, zeros behind. -/
def half (zs : List Int) (n k : Nat) : List Int := zs.take k ++ List.replicate (n - k) 0
theorem half_zero (zs : List Int) (n : Nat) : half zs n 0 = List.replicate n 0 := by simp [half]
theorem half_all {zs : List Int} {n k : Nat} (h : zs.length = n) (hk : n ≤ k) : half zs n k = zs := by
  unfold half
  rw [List.take_of_length_le (by omega), show n - k = 0 by omega]; simp
theorem half_set {zs : List Int} {n k : Nat} {z : Int} (h : zs.length = n) (hz : zs[k]? = some z) : (half zs n k).set k z = half zs n (k + 1) := by
  have hk : k < zs.length := (List.getElem?_eq_some_iff.1 hz).1
  unfold half
  obtain ⟨m, hm⟩ : ∃ m, n - k = m + 1 := ⟨n - k - 1, by omega⟩
  rw [hm, show n - (k + 1) = m by omega, List.replicate_succ, List.set_append_right _ _ (by simp; omega), List.length_take, Nat.min_eq_left (by omega), Nat.sub_self, List.set_cons_zero, ← take_snoc hz]
  simp
theorem half_len {zs : List Int} {n k : Nat} (h : zs.length = n) (hk : k ≤ n) : (half zs n k).length = n := by simp [half]; omega
set_option maxHeartbeats 2000000 in
theorem conv_i16_i8 (B b : Nat) (h u c : Int) (zs : List Int) (w : World) (f : Bf .i16 51 95 w B b h u c zs) (hs : zs.length ≤ 1048576) (hwf : Wf .i8 zs) :
    Calls Try.prog 26 #[.pointer (some ⟨B, 0, none⟩)] w fun e w' => ∃ B' b', e = .returned (.tuple #[.pointer (some ⟨B', 0, none⟩), .int .i64 0]) ∧ w.heap.size ≤ B' ∧ w.heap.size ≤ b' ∧ Bf .i8 31 81 w' B' b' h u c zs ∧ Below w.heap.size w w' := by
  obtain ⟨n, cap, hB, own⟩ := f
  obtain ⟨cB, fB, zB⟩ := cells_at hB
  obtain ⟨hzl, -, -, hnc, hcm, row, -⟩ := own.facts
  rw [hzl] at hs
  have hl : Hid (zs.length = n) := hzl
  have hBk : Hid (∀ w', Below w.heap.size w w' → IRow .i16 w' (some ⟨b, 0, none⟩) n cap zs ∧ ∀ i, w'.cell? ⟨B, i, none⟩ = #[Value.int .i64 h, .int .i64 u, .int .i64 c, .slice (some ⟨b, 0, none⟩) n cap][i]?) :=
    fun w' q => ⟨row.below q, (cells_at ((q.block B zB).trans hB)).1⟩
  have own0 : Own .i8 31 (w.alloc (.cells (Array.replicate n (Value.int .i8 0)) 31)) w.heap.size (.slice (some ⟨w.heap.size, 0, none⟩) n n) (half zs n 0) := by
    have := own_lit .i8 31 w w.heap.size (List.replicate n 0) (wf_zeros .i8 n (by decide)) (by unfold maxLen; simp; omega) (Nat.le_refl _)
    rw [← rep_cells] at this
    rw [half_zero]
    simpa using this
  have own0' : Hid (Own .i8 31 (w.alloc (.cells (Array.replicate n (Value.int .i8 0)) 31)) w.heap.size (.slice (some ⟨w.heap.size, 0, none⟩) n n) (half zs n 0)) := own0
  have hwf' : Hid (Wf .i8 zs) := hwf
  clear hB own hzl row own0 hwf
  go_enter Try.func26, Try.ntmps26
  go_wp2_with (at_make; refine wpList_mak kt_i8 rfl (.tmp 13) rfl n _ rfl (by omega) (by omega) ?_; intro _)
  go_loopw [20] (fun i wr => ∃ k : Nat, k ≤ n ∧ i = .int .i64 k ∧ Own .i8 31 wr w.heap.size (.slice (some ⟨w.heap.size, 0, none⟩) n n) (half zs n k) ∧ Below w.heap.size w wr) (fun i _ => n - (intOf i).toNat)
  case atStart => exact ⟨0, Nat.zero_le _, rfl, own0'.out, bal _ _⟩
  case round =>
    obtain ⟨k, hk, rfl, own, bel⟩ := hrel
    clear own0' cB fB
    obtain ⟨row, cB⟩ := hBk.out _ bel
    by_cases hlt : k < n
    · obtain ⟨x, d, hx, hc, hw1, hzk, -⟩ := row.at hlt
      obtain rfl := Option.some.inj hx
      rw [Addr.add_lit, Nat.zero_add] at hc
      have hw2 := hwf'.out d (List.mem_of_getElem? hzk)
      have hset := own.set (i := k) hw2
      rw [half_set hl.out hzk] at hset
      have hset' : Hid (Own .i8 31 (wr.setCell ⟨w.heap.size, k, none⟩ (.int .i8 d)) w.heap.size (.slice (some ⟨w.heap.size, 0, none⟩) n n) (half zs n (k + 1)) ∧ Below w.heap.size w (wr.setCell ⟨w.heap.size, k, none⟩ (.int .i8 d))) := ⟨hset.1, bel.setCell (p := ⟨w.heap.size, k, none⟩) (Nat.le_refl _) _⟩
      obtain ⟨-, -, -, -, -, rowU, frU⟩ := own.facts
      obtain ⟨x', d', hx', hc', -, -, -⟩ := rowU.at hlt
      obtain rfl := Option.some.inj hx'
      rw [Addr.add_lit, Nat.zero_add] at hc'
      have hb1 := wf_i16 hw1
      have hb2 := wf_i8 hw2
      clear hset own row rowU hx hx' hzk hw1 hw2
      go_wp2
      go_roundw
      case rel => exact ⟨k + 1, by omega, by go_num, hset'.out.1, hset'.out.2⟩
      case measure => simp [intOf]; omega
    · have hH : Hid (half zs n k = zs) := half_all hl.out (by omega)
      rw [hH.out] at own
      have own' : Hid (Own .i8 31 wr w.heap.size (.slice (some ⟨w.heap.size, 0, none⟩) n n) zs) := own
      clear own row hH
      go_wp2
      go_ret2
      exact ⟨_, _, rfl, bel.size, Nat.le_refl _, bf_new own'.out rfl, bel.alloc bel.size _⟩
set_option maxHeartbeats 2000000 in
theorem conv_i8_i16 (B b : Nat) (h u c : Int) (zs : List Int) (w : World) (f : Bf .i8 31 81 w B b h u c zs) (hs : zs.length ≤ 1048576) (hwf : Wf .i16 zs) :
    Calls Try.prog 42 #[.pointer (some ⟨B, 0, none⟩)] w fun e w' => ∃ B' b', e = .returned (.tuple #[.pointer (some ⟨B', 0, none⟩), .int .i64 0]) ∧ w.heap.size ≤ B' ∧ w.heap.size ≤ b' ∧ Bf .i16 51 95 w' B' b' h u c zs ∧ Below w.heap.size w w' := by
  obtain ⟨n, cap, hB, own⟩ := f
  obtain ⟨cB, fB, zB⟩ := cells_at hB
  obtain ⟨hzl, -, -, hnc, hcm, row, -⟩ := own.facts
  rw [hzl] at hs
  have hl : Hid (zs.length = n) := hzl
  have hBk : Hid (∀ w', Below w.heap.size w w' → IRow .i8 w' (some ⟨b, 0, none⟩) n cap zs ∧ ∀ i, w'.cell? ⟨B, i, none⟩ = #[Value.int .i64 h, .int .i64 u, .int .i64 c, .slice (some ⟨b, 0, none⟩) n cap][i]?) :=
    fun w' q => ⟨row.below q, (cells_at ((q.block B zB).trans hB)).1⟩
  have own0 : Own .i16 51 (w.alloc (.cells (Array.replicate n (Value.int .i16 0)) 51)) w.heap.size (.slice (some ⟨w.heap.size, 0, none⟩) n n) (half zs n 0) := by
    have := own_lit .i16 51 w w.heap.size (List.replicate n 0) (wf_zeros .i16 n (by decide)) (by unfold maxLen; simp; omega) (Nat.le_refl _)
    rw [← rep_cells] at this
    rw [half_zero]
    simpa using this
  have own0' : Hid (Own .i16 51 (w.alloc (.cells (Array.replicate n (Value.int .i16 0)) 51)) w.heap.size (.slice (some ⟨w.heap.size, 0, none⟩) n n) (half zs n 0)) := own0
  have hwf' : Hid (Wf .i16 zs) := hwf
  clear hB own hzl row own0 hwf
  go_enter Try.func42, Try.ntmps42
  go_wp2_with (at_make; refine wpList_mak kt_i16 rfl (.tmp 13) rfl n _ rfl (by omega) (by omega) ?_; intro _)
  go_loopw [20] (fun i wr => ∃ k : Nat, k ≤ n ∧ i = .int .i64 k ∧ Own .i16 51 wr w.heap.size (.slice (some ⟨w.heap.size, 0, none⟩) n n) (half zs n k) ∧ Below w.heap.size w wr) (fun i _ => n - (intOf i).toNat)
  case atStart => exact ⟨0, Nat.zero_le _, rfl, own0'.out, bal _ _⟩
  case round =>
    obtain ⟨k, hk, rfl, own, bel⟩ := hrel
    clear own0' cB fB
    obtain ⟨row, cB⟩ := hBk.out _ bel
    by_cases hlt : k < n
    · obtain ⟨x, d, hx, hc, hw1, hzk, -⟩ := row.at hlt
      obtain rfl := Option.some.inj hx
      rw [Addr.add_lit, Nat.zero_add] at hc
      have hw2 := hwf'.out d (List.mem_of_getElem? hzk)
      have hset := own.set (i := k) hw2
      rw [half_set hl.out hzk] at hset
      have hset' : Hid (Own .i16 51 (wr.setCell ⟨w.heap.size, k, none⟩ (.int .i16 d)) w.heap.size (.slice (some ⟨w.heap.size, 0, none⟩) n n) (half zs n (k + 1)) ∧ Below w.heap.size w (wr.setCell ⟨w.heap.size, k, none⟩ (.int .i16 d))) := ⟨hset.1, bel.setCell (p := ⟨w.heap.size, k, none⟩) (Nat.le_refl _) _⟩
      obtain ⟨-, -, -, -, -, rowU, frU⟩ := own.facts
      obtain ⟨x', d', hx', hc', -, -, -⟩ := rowU.at hlt
      obtain rfl := Option.some.inj hx'
      rw [Addr.add_lit, Nat.zero_add] at hc'
      have hb1 := wf_i8 hw1
      have hb2 := wf_i16 hw2
      clear hset own row rowU hx hx' hzk hw1 hw2
      go_wp2
      go_roundw
      case rel => exact ⟨k + 1, by omega, by go_num, hset'.out.1, hset'.out.2⟩
      case measure => simp [intOf]; omega
    · have hH : Hid (half zs n k = zs) := half_all hl.out (by omega)
      rw [hH.out] at own
      have own' : Hid (Own .i16 51 wr w.heap.size (.slice (some ⟨w.heap.size, 0, none⟩) n n) zs) := own
      clear own row hH
      go_wp2
      go_ret2
      exact ⟨_, _, rfl, bel.size, Nat.le_refl _, bf_new own'.out rfl, bel.alloc bel.size _⟩
set_option maxHeartbeats 2000000 in
theorem conv_i8_i32 (B b : Nat) (h u c : Int) (zs : List Int) (w : World) (f : Bf .i8 31 81 w B b h u c zs) (hs : zs.length ≤ 1048576) (hwf : Wf .i32 zs) :
    Calls Try.prog 43 #[.pointer (some ⟨B, 0, none⟩)] w fun e w' => ∃ B' b', e = .returned (.tuple #[.pointer (some ⟨B', 0, none⟩), .int .i64 0]) ∧ w.heap.size ≤ B' ∧ w.heap.size ≤ b' ∧ Bf .i32 21 105 w' B' b' h u c zs ∧ Below w.heap.size w w' := by
  obtain ⟨n, cap, hB, own⟩ := f
  obtain ⟨cB, fB, zB⟩ := cells_at hB
  obtain ⟨hzl, -, -, hnc, hcm, row, -⟩ := own.facts
  rw [hzl] at hs
  have hl : Hid (zs.length = n) := hzl
  have hBk : Hid (∀ w', Below w.heap.size w w' → IRow .i8 w' (some ⟨b, 0, none⟩) n cap zs ∧ ∀ i, w'.cell? ⟨B, i, none⟩ = #[Value.int .i64 h, .int .i64 u, .int .i64 c, .slice (some ⟨b, 0, none⟩) n cap][i]?) :=
    fun w' q => ⟨row.below q, (cells_at ((q.block B zB).trans hB)).1⟩
  have own0 : Own .i32 21 (w.alloc (.cells (Array.replicate n (Value.int .i32 0)) 21)) w.heap.size (.slice (some ⟨w.heap.size, 0, none⟩) n n) (half zs n 0) := by
    have := own_lit .i32 21 w w.heap.size (List.replicate n 0) (wf_zeros .i32 n (by decide)) (by unfold maxLen; simp; omega) (Nat.le_refl _)
    rw [← rep_cells] at this
    rw [half_zero]
    simpa using this
  have own0' : Hid (Own .i32 21 (w.alloc (.cells (Array.replicate n (Value.int .i32 0)) 21)) w.heap.size (.slice (some ⟨w.heap.size, 0, none⟩) n n) (half zs n 0)) := own0
  have hwf' : Hid (Wf .i32 zs) := hwf
  clear hB own hzl row own0 hwf
  go_enter Try.func43, Try.ntmps43
  go_wp2_with (at_make; refine wpList_mak kt_i32 rfl (.tmp 13) rfl n _ rfl (by omega) (by omega) ?_; intro _)
  go_loopw [20] (fun i wr => ∃ k : Nat, k ≤ n ∧ i = .int .i64 k ∧ Own .i32 21 wr w.heap.size (.slice (some ⟨w.heap.size, 0, none⟩) n n) (half zs n k) ∧ Below w.heap.size w wr) (fun i _ => n - (intOf i).toNat)
  case atStart => exact ⟨0, Nat.zero_le _, rfl, own0'.out, bal _ _⟩
  case round =>
    obtain ⟨k, hk, rfl, own, bel⟩ := hrel
    clear own0' cB fB
    obtain ⟨row, cB⟩ := hBk.out _ bel
    by_cases hlt : k < n
    · obtain ⟨x, d, hx, hc, hw1, hzk, -⟩ := row.at hlt
      obtain rfl := Option.some.inj hx
      rw [Addr.add_lit, Nat.zero_add] at hc
      have hw2 := hwf'.out d (List.mem_of_getElem? hzk)
      have hset := own.set (i := k) hw2
      rw [half_set hl.out hzk] at hset
      have hset' : Hid (Own .i32 21 (wr.setCell ⟨w.heap.size, k, none⟩ (.int .i32 d)) w.heap.size (.slice (some ⟨w.heap.size, 0, none⟩) n n) (half zs n (k + 1)) ∧ Below w.heap.size w (wr.setCell ⟨w.heap.size, k, none⟩ (.int .i32 d))) := ⟨hset.1, bel.setCell (p := ⟨w.heap.size, k, none⟩) (Nat.le_refl _) _⟩
      obtain ⟨-, -, -, -, -, rowU, frU⟩ := own.facts
      obtain ⟨x', d', hx', hc', -, -, -⟩ := rowU.at hlt
      obtain rfl := Option.some.inj hx'
      rw [Addr.add_lit, Nat.zero_add] at hc'
      have hb1 := wf_i8 hw1
      have hb2 := wf_i32 hw2
      clear hset own row rowU hx hx' hzk hw1 hw2
      go_wp2
      go_roundw
      case rel => exact ⟨k + 1, by omega, by go_num, hset'.out.1, hset'.out.2⟩
      case measure => simp [intOf]; omega
    · have hH : Hid (half zs n k = zs) := half_all hl.out (by omega)
      rw [hH.out] at own
      have own' : Hid (Own .i32 21 wr w.heap.size (.slice (some ⟨w.heap.size, 0, none⟩) n n) zs) := own
      clear own row hH
      go_wp2
      go_ret2
      exact ⟨_, _, rfl, bel.size, Nat.le_refl _, bf_new own'.out rfl, bel.alloc bel.size _⟩
set_option maxHeartbeats 2000000 in
theorem conv_i16_i64 (B b : Nat) (h u c : Int) (zs : List Int) (w : World) (f : Bf .i16 51 95 w B b h u c zs) (hs : zs.length ≤ 1048576) (hwf : Wf .i64 zs) :
    Calls Try.prog 46 #[.pointer (some ⟨B, 0, none⟩)] w fun e w' => ∃ B' b', e = .returned (.tuple #[.pointer (some ⟨B', 0, none⟩), .int .i64 0]) ∧ w.heap.size ≤ B' ∧ w.heap.size ≤ b' ∧ Bf .i64 2 109 w' B' b' h u c zs ∧ Below w.heap.size w w' := by
  obtain ⟨n, cap, hB, own⟩ := f
  obtain ⟨cB, fB, zB⟩ := cells_at hB
  obtain ⟨hzl, -, -, hnc, hcm, row, -⟩ := own.facts
  rw [hzl] at hs
  have hl : Hid (zs.length = n) := hzl
  have hBk : Hid (∀ w', Below w.heap.size w w' → IRow .i16 w' (some ⟨b, 0, none⟩) n cap zs ∧ ∀ i, w'.cell? ⟨B, i, none⟩ = #[Value.int .i64 h, .int .i64 u, .int .i64 c, .slice (some ⟨b, 0, none⟩) n cap][i]?) :=
    fun w' q => ⟨row.below q, (cells_at ((q.block B zB).trans hB)).1⟩
  have own0 : Own .i64 2 (w.alloc (.cells (Array.replicate n (Value.int .i64 0)) 2)) w.heap.size (.slice (some ⟨w.heap.size, 0, none⟩) n n) (half zs n 0) := by
    have := own_lit .i64 2 w w.heap.size (List.replicate n 0) (wf_zeros .i64 n (by decide)) (by unfold maxLen; simp; omega) (Nat.le_refl _)
    rw [← rep_cells] at this
    rw [half_zero]
    simpa using this
  have own0' : Hid (Own .i64 2 (w.alloc (.cells (Array.replicate n (Value.int .i64 0)) 2)) w.heap.size (.slice (some ⟨w.heap.size, 0, none⟩) n n) (half zs n 0)) := own0
  have hwf' : Hid (Wf .i64 zs) := hwf
  clear hB own hzl row own0 hwf
  go_enter Try.func46, Try.ntmps46
  go_wp2_with (at_make; refine wpList_mak kt_i64 rfl (.tmp 13) rfl n _ rfl (by omega) (by omega) ?_; intro _)
  go_loopw [20] (fun i wr => ∃ k : Nat, k ≤ n ∧ i = .int .i64 k ∧ Own .i64 2 wr w.heap.size (.slice (some ⟨w.heap.size, 0, none⟩) n n) (half zs n k) ∧ Below w.heap.size w wr) (fun i _ => n - (intOf i).toNat)
  case atStart => exact ⟨0, Nat.zero_le _, rfl, own0'.out, bal _ _⟩
  case round =>
    obtain ⟨k, hk, rfl, own, bel⟩ := hrel
    clear own0' cB fB
    obtain ⟨row, cB⟩ := hBk.out _ bel
    by_cases hlt : k < n
    · obtain ⟨x, d, hx, hc, hw1, hzk, -⟩ := row.at hlt
      obtain rfl := Option.some.inj hx
      rw [Addr.add_lit, Nat.zero_add] at hc
      have hw2 := hwf'.out d (List.mem_of_getElem? hzk)
      have hset := own.set (i := k) hw2
      rw [half_set hl.out hzk] at hset
      have hset' : Hid (Own .i64 2 (wr.setCell ⟨w.heap.size, k, none⟩ (.int .i64 d)) w.heap.size (.slice (some ⟨w.heap.size, 0, none⟩) n n) (half zs n (k + 1)) ∧ Below w.heap.size w (wr.setCell ⟨w.heap.size, k, none⟩ (.int .i64 d))) := ⟨hset.1, bel.setCell (p := ⟨w.heap.size, k, none⟩) (Nat.le_refl _) _⟩
      obtain ⟨-, -, -, -, -, rowU, frU⟩ := own.facts
      obtain ⟨x', d', hx', hc', -, -, -⟩ := rowU.at hlt
      obtain rfl := Option.some.inj hx'
      rw [Addr.add_lit, Nat.zero_add] at hc'
      have hb1 := wf_i16 hw1
      have hb2 := wf_i64 hw2
      clear hset own row rowU hx hx' hzk hw1 hw2
      go_wp2
      go_roundw
      case rel => exact ⟨k + 1, by omega, by go_num, hset'.out.1, hset'.out.2⟩
      case measure => simp [intOf]; omega
    · have hH : Hid (half zs n k = zs) := half_all hl.out (by omega)
      rw [hH.out] at own
      have own' : Hid (Own .i64 2 wr w.heap.size (.slice (some ⟨w.heap.size, 0, none⟩) n n) zs) := own
      clear own row hH
      go_wp2
      go_ret2
      exact ⟨_, _, rfl, bel.size, Nat.le_refl _, bf_new own'.out rfl, bel.alloc bel.size _⟩
theorem wrap8 (d : Int) (h : ¬ (Lit.int .i8 d).wf = true) : ∃ d', IntKind.i8.wrap d = d' ∧ d' ≠ d ∧ (Lit.int .i8 d').wf = true := by
  have e : IntKind.i8.wrap d = (d + 128) % 256 - 128 := by
    simp only [IntKind.wrap, IntKind.bits, IntKind.signed]
    simp
    split <;> omega
  have hw : (Lit.int .i8 (IntKind.i8.wrap d)).wf = true := mk_i8 (by rw [e]; omega)
  exact ⟨_, rfl, fun q => h (by rw [← q]; exact hw), hw⟩
theorem wf_take_succ {k : IntKind} {zs : List Int} {i : Nat} {d : Int} (h : Wf k (zs.take i)) (hz : zs[i]? = some d) (hd : (Lit.int k d).wf = true) : Wf k (zs.take (i + 1)) := by
  rw [← take_snoc hz]; exact h.app (Wf.one hd)
set_option maxHeartbeats 2000000 in
theorem over_i16_i8 (B b : Nat) (h u c : Int) (zs : List Int) (w : World) (f : Bf .i16 51 95 w B b h u c zs) (hs : zs.length ≤ 1048576) (hwf : ¬ Wf .i8 zs) :
    Calls Try.prog 26 #[.pointer (some ⟨B, 0, none⟩)] w fun e w' => e = .returned (.tuple #[.pointer none, .int .i64 10]) ∧ Below w.heap.size w w' := by
  obtain ⟨n, cap, hB, own⟩ := f
  obtain ⟨cB, fB, zB⟩ := cells_at hB
  obtain ⟨hzl, -, -, hnc, hcm, row, -⟩ := own.facts
  rw [hzl] at hs
  have hl : Hid (zs.length = n) := hzl
  have hBk : Hid (∀ w', Below w.heap.size w w' → IRow .i16 w' (some ⟨b, 0, none⟩) n cap zs ∧ ∀ i, w'.cell? ⟨B, i, none⟩ = #[Value.int .i64 h, .int .i64 u, .int .i64 c, .slice (some ⟨b, 0, none⟩) n cap][i]?) :=
    fun w' q => ⟨row.below q, (cells_at ((q.block B zB).trans hB)).1⟩
  have own0 : Own .i8 31 (w.alloc (.cells (Array.replicate n (Value.int .i8 0)) 31)) w.heap.size (.slice (some ⟨w.heap.size, 0, none⟩) n n) (half zs n 0) := by
    have := own_lit .i8 31 w w.heap.size (List.replicate n 0) (wf_zeros .i8 n (by decide)) (by unfold maxLen; simp; omega) (Nat.le_refl _)
    rw [← rep_cells] at this
    rw [half_zero]
    simpa using this
  have own0' : Hid (Own .i8 31 (w.alloc (.cells (Array.replicate n (Value.int .i8 0)) 31)) w.heap.size (.slice (some ⟨w.heap.size, 0, none⟩) n n) (half zs n 0)) := own0
  have hwf' : Hid (¬ Wf .i8 zs) := hwf
  clear hB own hzl row own0 hwf
  go_enter Try.func26, Try.ntmps26
  go_wp2_with (at_make; refine wpList_mak kt_i8 rfl (.tmp 13) rfl n _ rfl (by omega) (by omega) ?_; intro _)
  go_loopw [20] (fun i wr => ∃ k : Nat, k ≤ n ∧ i = .int .i64 k ∧ Own .i8 31 wr w.heap.size (.slice (some ⟨w.heap.size, 0, none⟩) n n) (half zs n k) ∧ Wf .i8 (zs.take k) ∧ Below w.heap.size w wr) (fun i _ => n - (intOf i).toNat)
  case atStart => exact ⟨0, Nat.zero_le _, rfl, own0'.out, Wf.nil _, bal _ _⟩
  case round =>
    obtain ⟨k, hk, rfl, own, hwk, bel⟩ := hrel
    clear own0' cB fB
    obtain ⟨row, cB⟩ := hBk.out _ bel
    by_cases hlt : k < n
    · obtain ⟨x, d, hx, hc, hw1, hzk, -⟩ := row.at hlt
      obtain rfl := Option.some.inj hx
      rw [Addr.add_lit, Nat.zero_add] at hc
      obtain ⟨-, -, -, -, -, rowU, frU⟩ := own.facts
      obtain ⟨x', d', hx', hc', -, -, -⟩ := rowU.at hlt
      obtain rfl := Option.some.inj hx'
      rw [Addr.add_lit, Nat.zero_add] at hc'
      have hb1 := wf_i16 hw1
      by_cases hw2 : (Lit.int .i8 d).wf = true
      · have hset := own.set (i := k) hw2
        rw [half_set hl.out hzk] at hset
        have hset' : Hid (Own .i8 31 (wr.setCell ⟨w.heap.size, k, none⟩ (.int .i8 d)) w.heap.size (.slice (some ⟨w.heap.size, 0, none⟩) n n) (half zs n (k + 1)) ∧ Wf .i8 (zs.take (k + 1)) ∧ Below w.heap.size w (wr.setCell ⟨w.heap.size, k, none⟩ (.int .i8 d))) := ⟨hset.1, wf_take_succ hwk hzk hw2, bel.setCell (p := ⟨w.heap.size, k, none⟩) (Nat.le_refl _) _⟩
        have hb2 := wf_i8 hw2
        clear hset own row rowU hx hx' hzk hw1 hw2 hwk
        go_wp2
        go_roundw
        case rel => exact ⟨k + 1, by omega, by go_num, hset'.out⟩
        case measure => simp [intOf]; omega
      · obtain ⟨d2, hd2, hne, hw3⟩ := wrap8 d hw2
        have hb3 := wf_i8 hw3
        have hbel : Hid (Below w.heap.size w (wr.setCell ⟨w.heap.size, k, none⟩ (.int .i8 d2))) := bel.setCell (p := ⟨w.heap.size, k, none⟩) (Nat.le_refl _) _
        clear own row rowU hx hx' hzk hw1 hw2 hw3 hwk bel
        go_wp2
        go_ret2
        exact ⟨rfl, hbel.out⟩
    · exact absurd (by rw [List.take_of_length_le (by have := hl.out; omega)] at hwk; exact hwk) hwf'.out
end Go.Proofs.Ytedbcnkgembhbaa
