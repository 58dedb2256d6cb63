/- The document's form, numbers with a sign, copies, and a reader made. -/
import Derived.Test.YthlnhodfgmpabaaWqP
import Derived.Lib.SliceRun
namespace Go.Proofs.Ythlnhodfgmpabaa.Wr
open Go.ChangeShapes Go.WideShapes Go.ChangeAt Go.RowKit
set_option maxHeartbeats 2000000 in
set_option maxRecDepth 1000000 in
theorem refU_is (x : Nat) (w : World) (hx : x < 18446744073709551616) :
    Calls Try.prog 54 #[.int .u64 x] w fun e w' => ∃ v, e = .returned v ∧ Own w' w.heap.size v (putR x) ∧ Below w.heap.size w w' := by
  have own1 := own_none w w.heap.size
  go_enter Try.func54, Try.ntmps54
  go_wp2
  go_loopw [0, 3] (fun u out wr => ∃ (y : Nat) (ds : List Int), u = .int .u64 y ∧ y ≤ x ∧ ds ++ putR y = putR x ∧ Own wr w.heap.size out ds ∧ Below w.heap.size w wr) (fun u _ _ => (intOf u).toNat)
  case atStart => exact ⟨x, [], rfl, Nat.le_refl _, rfl, own1, Below.refl _ _⟩
  case round =>
    obtain ⟨y, ds, rfl, hy, hd, own2, b2⟩ := hrel
    have hlen : Hid (ds.length + (putR y).length ≤ 10) := by
      have h := putR_ten hx; rw [← hd, List.length_append] at h; exact h
    have hd' : Hid (ds ++ putR y = putR x) := hd
    clear hd own1
    by_cases hlt : y < 128
    · have hbz : 0 ≤ (y : Int) ∧ (y : Int) < 256 := by omega
      have own3 := own2.alloc (.cells #[.int .u8 y] 5)
      have b3 := b2.alloc b2.size (.cells #[.int .u8 y] 5)
      have hput := putR_lt hlt
      have hl1 : Hid (ds.length + [(y : Int)].length ≤ 140737488355328) := by
        have h1 := hlen.out; rw [hput] at h1; simp only [Hid, List.length_singleton] at *; omega
      have hd2 : Hid (ds ++ [(y : Int)] = putR x) := by rw [← hd'.out, hput]; rfl
      clear hput
      go_wp2_with (at_builtin; refine wpList_app rfl (.tmp 15) (.tmp 18) rfl w.heap.size _ _ [(y : Int)] rfl own3 _ _ _ rfl (row_one wr y hbz) hl1.out b3.size ?_; intro v4 w4 own4 gr4 nn4)
      go_ret
      exact ⟨_, rfl, hd2.out ▸ own4, own3.bel b3 gr4 b3.size⟩
    · have hbz : 0 ≤ (y : Int) % 128 + 128 ∧ (y : Int) % 128 + 128 < 256 := by omega
      have own3 := own2.alloc (.cells #[.int .u8 ((y : Int) % 128 + 128)] 5)
      have b3 := b2.alloc b2.size (.cells #[.int .u8 ((y : Int) % 128 + 128)] 5)
      have hput := putR_ge hlt
      have hl1 : Hid (ds.length + [(y : Int) % 128 + 128].length ≤ 140737488355328) := by
        have h1 := hlen.out; simp only [Hid, List.length_singleton] at *; omega
      have hd2 : Hid ((ds ++ [(y : Int) % 128 + 128]) ++ putR (y / 128) = putR x) := by rw [← hd'.out, hput]; simp [Hid]
      clear hput
      go_wp2_with (at_builtin; refine wpList_app rfl (.tmp 6) (.tmp 11) rfl w.heap.size _ _ [(y : Int) % 128 + 128] rfl own3 _ _ _ rfl (row_one wr _ hbz) hl1.out b3.size ?_; intro v4 w4 own4 gr4 nn4)
      go_roundw
      case rel => exact ⟨y / 128, ds ++ [(y : Int) % 128 + 128], by go_num, by omega, hd2.out, own4, own3.bel b3 gr4 b3.size⟩
      case measure => simp [intOf]; omega
/-- A number with a sign as one without. -/
def foldR (y : Int) : Nat := if 0 ≤ y then (2 * y).toNat else (-2 * y - 1).toNat
def unfR (u : Int) : Int := if u % 2 = 0 then u / 2 else -(u / 2) - 1
theorem foldR_lt {y : Int} (h1 : -9223372036854775808 ≤ y) (h2 : y ≤ 9223372036854775807) : foldR y < 18446744073709551616 := by
  unfold foldR; split <;> omega
theorem unfR_foldR (y : Int) : unfR (foldR y) = y := by
  unfold foldR unfR; split <;> split <;> omega
theorem ret_i {k : IntKind} {a b : Int} (h : a = b) : Ending.returned (.int k a) = .returned (.int k b) := by rw [h]
set_option maxHeartbeats 1000000 in
theorem fold_is (y : Int) (w : World) (h1 : -9223372036854775808 ≤ y) (h2 : y ≤ 9223372036854775807) :
    Calls Try.prog 68 #[.int .i64 y] w fun e w' => e = .returned (.int .u64 (foldR y)) ∧ w' = w := by
  by_cases h : 0 ≤ y
  · have F : Hid ((foldR y : Int) = 2 * y) := by simp only [Hid, foldR, if_pos h]; omega
    go_enter Try.func68, Try.ntmps68
    go_wp2
    go_ret
    exact ⟨ret_i F.out.symm, rfl⟩
  · have F : Hid ((foldR y : Int) = 2 * (-(y + 1)) + 1) := by simp only [Hid, foldR, if_neg h]; omega
    go_enter Try.func68, Try.ntmps68
    go_wp2
    go_ret
    exact ⟨ret_i F.out.symm, rfl⟩
set_option maxHeartbeats 1000000 in
theorem unfold_is (u : Int) (w : World) (h1 : 0 ≤ u) (h2 : u < 18446744073709551616) :
    Calls Try.prog 64 #[.int .u64 u] w fun e w' => e = .returned (.int .i64 (unfR u)) ∧ w' = w := by
  by_cases h : u % 2 = 0
  · have F : Hid (unfR u = u / 2) := by simp only [Hid, unfR, if_pos h]
    go_enter Try.func64, Try.ntmps64
    go_wp2
    go_ret
    exact ⟨ret_i F.out.symm, rfl⟩
  · have F : Hid (unfR u = -(u / 2) - 1) := by simp only [Hid, unfR, if_neg h]
    go_enter Try.func64, Try.ntmps64
    go_wp2
    go_ret
    exact ⟨ret_i F.out.symm, rfl⟩
theorem refS_is (y : Int) (w : World) (h1 : -9223372036854775808 ≤ y) (h2 : y ≤ 9223372036854775807) :
    Calls Try.prog 55 #[.int .i64 y] w fun e w' => ∃ v, e = .returned v ∧ Own w' w.heap.size v (putR (foldR y)) ∧ Below w.heap.size w w' := by
  have hl := foldR_lt h1 h2
  go_enter Try.func55, Try.ntmps55
  go_wp2_with fail
  refine (fold_is _ _ h1 h2).mono ?_
  rintro e w1 ⟨rfl, rfl⟩
  go_wp2_with fail
  refine (refU_is _ _ hl).mono ?_
  rintro e w1 ⟨v, rfl, own, b⟩
  go_wp2
  go_ret
  exact ⟨_, rfl, own, b⟩
theorem not64 (d : Nat) (hd : d < 18446744073709551616) : bits .xor .u64 IntKind.u64.max (d : Int) = 18446744073709551615 - d := by
  have h1 : BitVec.ofInt 64 IntKind.u64.max = BitVec.allOnes 64 := by decide
  show IntKind.u64.wrap ((BitVec.ofInt 64 IntKind.u64.max ^^^ BitVec.ofInt 64 (d : Int)).toNat : Int) = _
  rw [h1, BitVec.allOnes_xor, BitVec.toNat_not, ofInt_u64 d hd, IntKind.wrap_u64]
  omega
theorem fold_neg (y : Int) (h1 : -9223372036854775808 ≤ y) (h2 : y < 0) : bits .xor .u64 IntKind.u64.max (IntKind.u64.wrap (IntKind.u64.wrap y * 2)) = (foldR y : Int) := by
  have e : IntKind.u64.wrap (IntKind.u64.wrap y * 2) = (((2 * y + 18446744073709551616).toNat : Nat) : Int) := by rw [IntKind.wrap_u64, IntKind.wrap_u64]; omega
  rw [e, not64 _ (by omega), foldR, if_neg (by omega)]
  omega
set_option maxHeartbeats 1000000 in
theorem putS_is (a : Option Addr) (la ca : Nat) (xs : List Int) (y : Int) (w : World) (ha : Row w a la ca xs) (h1 : -9223372036854775808 ≤ y) (h2 : y ≤ 9223372036854775807) (hs : la + 10 ≤ 140737488355328) :
    Calls Try.prog 67 #[.slice a la ca, .int .i64 y] w fun e w' => ∃ v, e = .returned v ∧ Own w' w.heap.size v (xs ++ putR (foldR y)) ∧ v ≠ .slice none 0 0 ∧ Below w.heap.size w w' := by
  have hl : Hid (foldR y < 18446744073709551616) := foldR_lt h1 h2
  by_cases h : 0 ≤ y
  · have F : Hid (y * 2 = (foldR y : Int)) := by simp only [Hid, foldR, if_pos h]; omega
    go_enter Try.func67, Try.ntmps67
    go_wp2_with fail
    rw [F.out]
    refine (putU_is _ _ _ _ _ _ ha hl.out hs).mono ?_
    rintro e w1 ⟨v, rfl, own, nn, b⟩
    go_wp2
    go_ret
    exact ⟨_, rfl, own, nn, b⟩
  · have F : Hid (bits .xor .u64 IntKind.u64.max (IntKind.u64.wrap (IntKind.u64.wrap y * 2)) = (foldR y : Int)) := fold_neg y h1 (by omega)
    go_enter Try.func67, Try.ntmps67
    go_wp2_with fail
    rw [F.out]
    refine (putU_is _ _ _ _ _ _ ha hl.out hs).mono ?_
    rintro e w1 ⟨v, rfl, own, nn, b⟩
    go_wp2
    go_ret
    exact ⟨_, rfl, own, nn, b⟩
set_option maxHeartbeats 1000000 in
theorem clone_is (a : Option Addr) (la ca : Nat) (xs : List Int) (w : World) (ha : Row w a la ca xs) (hs : la ≤ 140737488355328) :
    Calls Try.prog 57 #[.slice a la ca] w fun e w' => ∃ v, e = .returned v ∧ Own w' w.heap.size v xs ∧ Below w.heap.size w w' := by
  have hxl : Hid (xs.length = la) := ha.1
  have q22 : ∀ (w : World) (a : Option Addr) (n c n' c' : Nat), (binOp .eql 27 (.slice a n c) (.slice none n' c')).run Try.prog w = .ok (.bool a.isNone) w := fun w a n c n' c' => Lib.run_eql_slice_nil w _ _ a n c n' c' Try.underlying27
  cases a with
  | none =>
    obtain rfl : ca = 0 := ha.2.2.2.2.1 rfl
    obtain rfl : la = 0 := Nat.le_zero.1 ha.2.1
    obtain rfl : xs = [] := List.eq_nil_of_length_eq_zero ha.1
    have own := own_none w w.heap.size
    go_enter Try.func57, Try.ntmps57
    go_wp2
    go_ret
    exact ⟨_, rfl, own, Below.refl _ _⟩
  | some p =>
    have own0 := own_empty w
    have b0 : Below w.heap.size w (w.alloc (.cells #[] 5)) := (Below.refl _ _).alloc (Nat.le_refl _) _
    go_enter Try.func57, Try.ntmps57
    go_wp2_with (at_builtin; refine wpList_app rfl (.tmp 5) (.tmp 6) rfl w.heap.size (.slice (some ⟨w.heap.size, 0, none⟩) 0 0) [] xs rfl own0 _ _ _ rfl (ha.below b0) (by have := hxl.out; simp; omega) (by simp) ?_; intro v1 w1 own1 gr1 nn1)
    go_ret
    exact ⟨_, rfl, own1, own0.bel b0 gr1 b0.size⟩
set_option maxHeartbeats 1000000 in
theorem new_is (a : Option Addr) (la ca : Nat) (xs : List Int) (w : World) (ha : Row w a la ca xs) (hs : la ≤ 140737488355328) :
    Calls Try.prog 44 #[.slice a la ca] w fun e w' => ∃ B, e = .returned (.pointer (some ⟨B, 0, none⟩)) ∧ Rd w' B 101 xs 0 ∧ w.heap.size ≤ B ∧ Below w.heap.size w w' := by
  go_enter Try.func44, Try.ntmps44
  go_wp2_with fail
  refine (clone_is _ _ _ _ _ ha hs).mono ?_
  rintro e w1 ⟨v, rfl, own, b⟩
  obtain ⟨a', c', rfl, row, hw⟩ := own.row
  have hw' : Hid (∀ x, a' = some x → x.block < w1.heap.size) := fun x hx => (hw x hx).2
  clear hw
  go_wp2
  go_ret
  refine ⟨w1.heap.size, rfl, ⟨a', _, c', heap_alloc_new w1 _, row.below ((Below.refl _ _).alloc (Nat.le_refl _) _), hw'.out⟩, b.size, b.alloc b.size _⟩
end Go.Proofs.Ythlnhodfgmpabaa.Wr
