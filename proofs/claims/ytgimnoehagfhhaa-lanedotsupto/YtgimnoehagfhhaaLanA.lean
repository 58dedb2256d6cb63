/- What lane's Add, Mul, Sum, and the document's Add and Mul of layer 20 return. -/
import Derived.Test.YtgimnoehagfhhaaLanP
import Derived.Test.YtgimnoehagfhhaaNumC
import Derived.Test.YtgimnoehagfhhaaBufA
namespace Go.Proofs.Ytgimnoehagfhhaa
open Go.ChangeShapes Go.WideShapes Go.ChangeAt Go.RowKit
set_option linter.unusedVariables false
theorem w64i {x : Int} (h : -9223372036854775808 ≤ x ∧ x ≤ 9223372036854775807) : IntKind.i64.wrap x = x := by rw [IntKind.wrap_i64]; omega
theorem nar_i16 (x : Int) (w : World) :
    Calls Try.prog 25 #[.int .i64 x] w fun e w' => e = .returned (.tuple #[.int .i16 (wrapN 32768 x), .bool (fitsN 32768 x)]) ∧ w' = w := by
  go_enter Try.func25, Try.ntmps25
  go_wp2
  go_ret2
  exact ⟨by rw [← fits16, ← lit16]; rfl, rfl⟩
theorem ladd_i16 (a b : Int) (w : World) (ha : -32768 ≤ a ∧ a ≤ 32767) (hb : -32768 ≤ b ∧ b ≤ 32767) :
    Calls Try.prog 9 #[.int .i16 a, .int .i16 b] w fun e w' => e = .returned (.tuple #[.int .i16 (wrapN 32768 (a + b)), .bool (fitsN 32768 (a + b))]) ∧ w' = w := by
  go_enter Try.func9, Try.ntmps9
  go_wp2_with fail
  refine (nar_i16 _ _).mono ?_
  rintro e w' ⟨rfl, rfl⟩
  go_wp2
  go_ret2
  exact ⟨rfl, rfl⟩
theorem lmul_i16 (a b : Int) (w : World) (ha : -32768 ≤ a ∧ a ≤ 32767) (hb : -32768 ≤ b ∧ b ≤ 32767) :
    Calls Try.prog 10 #[.int .i16 a, .int .i16 b] w fun e w' => e = .returned (.tuple #[.int .i16 (wrapN 32768 (a * b)), .bool (fitsN 32768 (a * b))]) ∧ w' = w := by
  have hp := mul_bd (A := 32768) (B := 32768) (a := a) (b := b) (by omega) (by omega)
  obtain ⟨p, hq⟩ : ∃ p, a * b = p := ⟨_, rfl⟩
  rw [hq] at hp ⊢
  have w1 : IntKind.i64.wrap p = p := w64i (by omega)
  go_enter Try.func10, Try.ntmps10
  go_wp2_with fail
  refine (nar_i16 _ _).mono ?_
  rintro e w' ⟨rfl, rfl⟩
  go_wp2
  go_ret2
  exact ⟨rfl, rfl⟩
set_option maxHeartbeats 1000000 in
theorem lsum_i16 (a : Option Addr) (len cap : Nat) (zs : List Int) (w : World) (hr : IRow .i16 w a len cap zs) :
    Calls Try.prog 16 #[.slice a len cap] w fun e w' => e = .returned (.tuple #[.int .i16 (suL 32768 0 0 zs).1, .int .i64 (suL 32768 0 0 zs).2]) ∧ w' = w := by
  have hl : Hid (zs.length = len) := hr.1
  have hcm := hr.2.1
  have hmm := hr.2.2.1
  unfold maxLen at hmm
  obtain ⟨F, hF⟩ : ∃ F, suL 32768 0 0 zs = F := ⟨_, rfl⟩
  rw [hF]
  have HF : Hid (suL 32768 0 0 zs = F) := hF
  clear hF
  go_enter Try.func16, Try.ntmps16
  go_wp2
  go_loopw [4, 5, 12] (fun v n i wr => ∃ (k : Nat) (r m : Int), k ≤ len ∧ i = .int .i64 k ∧ v = .int .i16 r ∧ n = .int .i64 m ∧ (-32768 ≤ r ∧ r ≤ 32767) ∧ (0 ≤ m ∧ m ≤ k) ∧ wr = w ∧ suL 32768 r m (zs.drop k) = F) (fun _ _ i _ => len - (intOf i).toNat)
  case atStart => exact ⟨0, 0, 0, Nat.zero_le _, rfl, rfl, rfl, by omega, by omega, rfl, HF.out⟩
  case round =>
    obtain ⟨k, r, m, hk, rfl, rfl, rfl, hrb, hmb, rfl, hs⟩ := hrel
    by_cases hlt : k < len
    · obtain ⟨x, d, rfl, hc, hwf, -, hdr⟩ := hr.at hlt
      have hdb := wf_i16 hwf
      have HS : Hid (suL 32768 (wrapN 32768 (r + d)) (m + bw 32768 (r + d)) (zs.drop (k + 1)) = F) := by rw [hdr] at hs; exact hs
      have hwb := wrapN_bd (N := 32768) (by omega) (r + d)
      clear hwf hdr hs
      cases hf : fitsN 32768 (r + d)
      · rw [show bw 32768 (r + d) = 1 by unfold bw bb; rw [hf]; rfl] at HS
        go_wp2_with fail
        refine (ladd_i16 _ _ _ hrb hdb).mono ?_
        rintro e w' ⟨rfl, rfl⟩
        rw [hf]
        go_wp2
        go_roundw
        case rel => exact ⟨k + 1, _, _, by omega, by go_num, rfl, rfl, by omega, by omega, trivial, HS.out⟩
        case measure => simp [intOf]; omega
      · rw [show bw 32768 (r + d) = 0 by unfold bw bb; rw [hf]; rfl] at HS
        go_wp2_with fail
        refine (ladd_i16 _ _ _ hrb hdb).mono ?_
        rintro e w' ⟨rfl, rfl⟩
        rw [hf]
        go_wp2
        go_roundw
        case rel => exact ⟨k + 1, _, m, by omega, by go_num, rfl, rfl, by omega, by omega, trivial, by have := HS.out; rw [Int.add_zero] at this; exact this⟩
        case measure => simp [intOf]; omega
    · have hT : zs.drop k = [] := List.drop_of_length_le (by have := hl.out; omega)
      rw [hT] at hs
      have HS : Hid ((r, m) = F) := hs
      clear hT hs
      go_wp2
      go_ret2
      exact ⟨by rw [← HS.out]; rfl, rfl⟩
theorem nar_i32 (x : Int) (w : World) :
    Calls Try.prog 26 #[.int .i64 x] w fun e w' => e = .returned (.tuple #[.int .i32 (wrapN 2147483648 x), .bool (fitsN 2147483648 x)]) ∧ w' = w := by
  go_enter Try.func26, Try.ntmps26
  go_wp2
  go_ret2
  exact ⟨by rw [← fits32, ← lit32]; rfl, rfl⟩
theorem ladd_i32 (a b : Int) (w : World) (ha : -2147483648 ≤ a ∧ a ≤ 2147483647) (hb : -2147483648 ≤ b ∧ b ≤ 2147483647) :
    Calls Try.prog 11 #[.int .i32 a, .int .i32 b] w fun e w' => e = .returned (.tuple #[.int .i32 (wrapN 2147483648 (a + b)), .bool (fitsN 2147483648 (a + b))]) ∧ w' = w := by
  go_enter Try.func11, Try.ntmps11
  go_wp2_with fail
  refine (nar_i32 _ _).mono ?_
  rintro e w' ⟨rfl, rfl⟩
  go_wp2
  go_ret2
  exact ⟨rfl, rfl⟩
theorem lmul_i32 (a b : Int) (w : World) (ha : -2147483648 ≤ a ∧ a ≤ 2147483647) (hb : -2147483648 ≤ b ∧ b ≤ 2147483647) :
    Calls Try.prog 12 #[.int .i32 a, .int .i32 b] w fun e w' => e = .returned (.tuple #[.int .i32 (wrapN 2147483648 (a * b)), .bool (fitsN 2147483648 (a * b))]) ∧ w' = w := by
  have hp := mul_bd (A := 2147483648) (B := 2147483648) (a := a) (b := b) (by omega) (by omega)
  obtain ⟨p, hq⟩ : ∃ p, a * b = p := ⟨_, rfl⟩
  rw [hq] at hp ⊢
  have w1 : IntKind.i64.wrap p = p := w64i (by omega)
  go_enter Try.func12, Try.ntmps12
  go_wp2_with fail
  refine (nar_i32 _ _).mono ?_
  rintro e w' ⟨rfl, rfl⟩
  go_wp2
  go_ret2
  exact ⟨rfl, rfl⟩
set_option maxHeartbeats 1000000 in
theorem lsum_i32 (a : Option Addr) (len cap : Nat) (zs : List Int) (w : World) (hr : IRow .i32 w a len cap zs) :
    Calls Try.prog 17 #[.slice a len cap] w fun e w' => e = .returned (.tuple #[.int .i32 (suL 2147483648 0 0 zs).1, .int .i64 (suL 2147483648 0 0 zs).2]) ∧ w' = w := by
  have hl : Hid (zs.length = len) := hr.1
  have hcm := hr.2.1
  have hmm := hr.2.2.1
  unfold maxLen at hmm
  obtain ⟨F, hF⟩ : ∃ F, suL 2147483648 0 0 zs = F := ⟨_, rfl⟩
  rw [hF]
  have HF : Hid (suL 2147483648 0 0 zs = F) := hF
  clear hF
  go_enter Try.func17, Try.ntmps17
  go_wp2
  go_loopw [4, 5, 12] (fun v n i wr => ∃ (k : Nat) (r m : Int), k ≤ len ∧ i = .int .i64 k ∧ v = .int .i32 r ∧ n = .int .i64 m ∧ (-2147483648 ≤ r ∧ r ≤ 2147483647) ∧ (0 ≤ m ∧ m ≤ k) ∧ wr = w ∧ suL 2147483648 r m (zs.drop k) = F) (fun _ _ i _ => len - (intOf i).toNat)
  case atStart => exact ⟨0, 0, 0, Nat.zero_le _, rfl, rfl, rfl, by omega, by omega, rfl, HF.out⟩
  case round =>
    obtain ⟨k, r, m, hk, rfl, rfl, rfl, hrb, hmb, rfl, hs⟩ := hrel
    by_cases hlt : k < len
    · obtain ⟨x, d, rfl, hc, hwf, -, hdr⟩ := hr.at hlt
      have hdb := wf_i32 hwf
      have HS : Hid (suL 2147483648 (wrapN 2147483648 (r + d)) (m + bw 2147483648 (r + d)) (zs.drop (k + 1)) = F) := by rw [hdr] at hs; exact hs
      have hwb := wrapN_bd (N := 2147483648) (by omega) (r + d)
      clear hwf hdr hs
      cases hf : fitsN 2147483648 (r + d)
      · rw [show bw 2147483648 (r + d) = 1 by unfold bw bb; rw [hf]; rfl] at HS
        go_wp2_with fail
        refine (ladd_i32 _ _ _ hrb hdb).mono ?_
        rintro e w' ⟨rfl, rfl⟩
        rw [hf]
        go_wp2
        go_roundw
        case rel => exact ⟨k + 1, _, _, by omega, by go_num, rfl, rfl, by omega, by omega, trivial, HS.out⟩
        case measure => simp [intOf]; omega
      · rw [show bw 2147483648 (r + d) = 0 by unfold bw bb; rw [hf]; rfl] at HS
        go_wp2_with fail
        refine (ladd_i32 _ _ _ hrb hdb).mono ?_
        rintro e w' ⟨rfl, rfl⟩
        rw [hf]
        go_wp2
        go_roundw
        case rel => exact ⟨k + 1, _, m, by omega, by go_num, rfl, rfl, by omega, by omega, trivial, by have := HS.out; rw [Int.add_zero] at this; exact this⟩
        case measure => simp [intOf]; omega
    · have hT : zs.drop k = [] := List.drop_of_length_le (by have := hl.out; omega)
      rw [hT] at hs
      have HS : Hid ((r, m) = F) := hs
      clear hT hs
      go_wp2
      go_ret2
      exact ⟨by rw [← HS.out]; rfl, rfl⟩
/-! ### The document's -/
theorem refadd_16 (a b : Int) (w : World) (ha : -2147483648 ≤ a ∧ a ≤ 2147483647) (hb : -2147483648 ≤ b ∧ b ≤ 2147483647) :
    Calls Try.prog 13 #[.int .i64 16, .int .i64 a, .int .i64 b] w fun e w' => e = .returned (.tuple #[.int .i64 (wrapN 32768 (a + b)), .bool (!fitsN 32768 (a + b))]) ∧ w' = w := by
  go_enter Try.func13, Try.ntmps13
  go_wp2_with fail
  refine (refwrap_16 _ _).mono ?_
  rintro e w' ⟨rfl, rfl⟩
  go_wp2_with fail
  refine (reffits_16 _ _).mono ?_
  rintro e w' ⟨rfl, rfl⟩
  go_wp2
  go_ret2
  exact ⟨rfl, rfl⟩
theorem refmul_16 (a b : Int) (w : World) (ha : -2147483648 ≤ a ∧ a ≤ 2147483647) (hb : -2147483648 ≤ b ∧ b ≤ 2147483647) :
    Calls Try.prog 14 #[.int .i64 16, .int .i64 a, .int .i64 b] w fun e w' => e = .returned (.tuple #[.int .i64 (wrapN 32768 (a * b)), .bool (!fitsN 32768 (a * b))]) ∧ w' = w := by
  have hp := mul_bd (A := 2147483648) (B := 2147483648) (a := a) (b := b) (by omega) (by omega)
  obtain ⟨p, hq⟩ : ∃ p, a * b = p := ⟨_, rfl⟩
  rw [hq] at hp ⊢
  have w1 : IntKind.i64.wrap p = p := w64i (by omega)
  go_enter Try.func14, Try.ntmps14
  go_wp2_with fail
  refine (refwrap_16 _ _).mono ?_
  rintro e w' ⟨rfl, rfl⟩
  go_wp2_with fail
  refine (reffits_16 _ _).mono ?_
  rintro e w' ⟨rfl, rfl⟩
  go_wp2
  go_ret2
  exact ⟨rfl, rfl⟩
theorem refadd_32 (a b : Int) (w : World) (ha : -2147483648 ≤ a ∧ a ≤ 2147483647) (hb : -2147483648 ≤ b ∧ b ≤ 2147483647) :
    Calls Try.prog 13 #[.int .i64 32, .int .i64 a, .int .i64 b] w fun e w' => e = .returned (.tuple #[.int .i64 (wrapN 2147483648 (a + b)), .bool (!fitsN 2147483648 (a + b))]) ∧ w' = w := by
  go_enter Try.func13, Try.ntmps13
  go_wp2_with fail
  refine (refwrap_32 _ _).mono ?_
  rintro e w' ⟨rfl, rfl⟩
  go_wp2_with fail
  refine (reffits_32 _ _).mono ?_
  rintro e w' ⟨rfl, rfl⟩
  go_wp2
  go_ret2
  exact ⟨rfl, rfl⟩
theorem refmul_32 (a b : Int) (w : World) (ha : -2147483648 ≤ a ∧ a ≤ 2147483647) (hb : -2147483648 ≤ b ∧ b ≤ 2147483647) :
    Calls Try.prog 14 #[.int .i64 32, .int .i64 a, .int .i64 b] w fun e w' => e = .returned (.tuple #[.int .i64 (wrapN 2147483648 (a * b)), .bool (!fitsN 2147483648 (a * b))]) ∧ w' = w := by
  have hp := mul_bd (A := 2147483648) (B := 2147483648) (a := a) (b := b) (by omega) (by omega)
  obtain ⟨p, hq⟩ : ∃ p, a * b = p := ⟨_, rfl⟩
  rw [hq] at hp ⊢
  have w1 : IntKind.i64.wrap p = p := w64i (by omega)
  go_enter Try.func14, Try.ntmps14
  go_wp2_with fail
  refine (refwrap_32 _ _).mono ?_
  rintro e w' ⟨rfl, rfl⟩
  go_wp2_with fail
  refine (reffits_32 _ _).mono ?_
  rintro e w' ⟨rfl, rfl⟩
  go_wp2
  go_ret2
  exact ⟨rfl, rfl⟩
end Go.Proofs.Ytgimnoehagfhhaa
