/- The writer of package pack: windows, lists, ops. -/
import Derived.Test.YthagdpiocmcbmaaPckW
namespace Go.Proofs.Ythagdpiocmcbmaa
open Wr
open Go.ChangeShapes Go.WideShapes Go.ChangeAt Go.RowKit
set_option linter.unusedVariables false
theorem Wt.lt {w : World} {Wb base : Nat} {xs : List Int} (h : Wt w Wb base xs) : Wb < w.heap.size := by obtain ⟨v, h1, -⟩ := h; exact lt_of_heap h1
theorem Wt.al {w : World} {Wb base : Nat} {xs : List Int} (h : Wt w Wb base xs) (o : Obj) : Wt (w.alloc o) Wb base xs := h.below (bal _ _)
theorem wk_al {w : World} {base Wb : Nat} (o : Obj) (hb : base ≤ w.heap.size) : Wk base Wb w (w.alloc o) := Wk.of (bal _ _) hb
set_option maxHeartbeats 1000000 in
theorem wwindow_any (Wb base : Nat) (xs : List Int) (a b c d p q r s : Int) (w : World) (h : Wt w Wb base xs) (hb : base ≤ Wb) (hs : xs.length + 1000 ≤ 140737488355328) :
    Calls Try.prog 40 #[(.pointer (some ⟨Wb, 0, none⟩)), .agg #[.int .i64 a, .int .i64 b, .int .i64 c, .int .i64 d, .int .i64 p, .int .i64 q, .int .i64 r, .int .i64 s]] w fun e w' => e = .returned (.tuple #[]) ∧ Wt w' Wb base (xs ++ eU [a, b, c, d, p, q, r, s]) ∧ Wk base Wb w w' := by
  have hlt := h.lt
  have H : Hid (Wt w Wb base xs) := h
  clear h
  go_enter Try.func40, Try.ntmps40
  go_wp2_with fail
  refine (unsigned_any Wb base (w.heap.size + 1) 4 xs [a, b, c, d] _ ((H.out.al _).al _) (by unfold Nums; simpa using heap_alloc_new (w.alloc _) _) rfl (by omega) hb (by omega) (by omega) trivial).mono ?_
  rintro e w1 ⟨rfl, T1, K1, -⟩
  have hB := K1.2 w.heap.size _ 44 (by omega) (by decide) (heap_alloc2_old w _ _)
  have k1 : Hid (Wk base Wb w w1) := (wk_al _ (by omega)).trans ((wk_al _ (by simp; omega)).trans K1)
  have z1 := k1.out.size
  have l1 : Hid (eU [a, b, c, d] ++ eU [p, q, r, s] = eU [a, b, c, d, p, q, r, s]) := (eU_app [a, b, c, d] [p, q, r, s]).symm
  have n1 := eU_le [a, b, c, d]
  obtain ⟨c1, f1, y1⟩ := cells_at hB
  have T1' : Hid (Wt w1 Wb base (xs ++ eU [a, b, c, d])) := T1
  have n2 : Hid ((xs ++ eU [a, b, c, d]).length + 10 * 4 ≤ 140737488355328) := by simp only [Hid, List.length_append, List.length_cons, List.length_nil] at *; omega
  clear K1 hB T1 n1
  go_wp2_with fail
  refine (unsigned_any Wb base w1.heap.size 4 (xs ++ eU [a, b, c, d]) [p, q, r, s] _ (T1'.out.al _) (heap_alloc_new w1 _) rfl (by omega) hb n2.out (by omega) trivial).mono ?_
  rintro e w2 ⟨rfl, T2, K2, -⟩
  have k2 : Hid (Wk base Wb w w2) := k1.out.trans ((wk_al _ (by omega)).trans K2)
  have t2 : Hid (Wt w2 Wb base (xs ++ eU [a, b, c, d, p, q, r, s])) := by unfold Hid; rw [← l1.out, ← List.append_assoc]; exact T2
  clear K2 T2 c1
  go_wp2
  go_end0
  exact ⟨rfl, t2.out, k2.out⟩
theorem i16_of {a : Int} (h : (Lit.int .i16 a).wf = true) : -32768 ≤ a ∧ a ≤ 32767 := by
  simp [Lit.wf, IntKind.min, IntKind.max, IntKind.bits, IntKind.signed] at h; omega
theorem i32_of {a : Int} (h : (Lit.int .i32 a).wf = true) : -2147483648 ≤ a ∧ a ≤ 2147483647 := by
  simp [Lit.wf, IntKind.min, IntKind.max, IntKind.bits, IntKind.signed] at h; omega
set_option maxHeartbeats 2000000 in
theorem put_i16 (Wb : Nat) (xs zs : List Int) (a : Option Addr) (len cap : Nat) (W w : World) (h : Wt w Wb W.heap.size xs) (hW : Below W.heap.size W w) (hr : IRow .i16 W a len cap zs) (hb : W.heap.size ≤ Wb) (hs : xs.length + 10 * len + 1000 ≤ 140737488355328) :
    Calls Try.prog 41 #[(.pointer (some ⟨Wb, 0, none⟩)), .slice a len cap] w fun e w' => e = .returned (.tuple #[]) ∧ Wt w' Wb W.heap.size (xs ++ (putR zs.length ++ eS zs)) ∧ Wk W.heap.size Wb w w' := by
  have hlt := h.lt
  have hl : Hid (zs.length = len) := hr.1
  have hc := hr.2.1
  have hm := hr.2.2.1
  unfold maxLen at hm
  have H : Hid (Wt w Wb W.heap.size xs) := h
  have HR : Hid (IRow .i16 W a len cap zs) := hr
  have HW : Hid (Below W.heap.size W w) := hW
  have hp : Hid (eU [(len : Int)] = putR zs.length) := by
    unfold Hid; rw [hl.out]; unfold eU; rw [List.flatMap_singleton, u64_of (by omega) (by omega), Int.toNat_natCast]
  have hpl : Hid ((putR zs.length).length ≤ 10) := by unfold Hid; exact putR_ten (by have := hl.out; omega)
  clear h hr hW
  go_enter Try.func41, Try.ntmps41
  go_wp2_with fail
  refine (unsigned_any Wb W.heap.size w.heap.size 1 xs [(len : Int)] _ (H.out.al _) (heap_alloc_new w _) rfl (by omega) hb (by omega) (by omega) trivial).mono ?_
  rintro e w1 ⟨rfl, T1, K1, -⟩
  have T1' : Hid (Wt w1 Wb W.heap.size (xs ++ (putR zs.length ++ eS (zs.take 0)))) := by unfold Hid; rw [hp.out] at T1; simpa [eS] using T1
  have k1 : Hid (Wk W.heap.size Wb w w1) := (wk_al _ (by omega)).trans K1
  have hlt1 := T1'.out.lt
  clear K1 T1
  go_wp2
  go_loopw [13] (fun i wr => ∃ k : Nat, k ≤ len ∧ i = .int .i64 k ∧ Wt wr Wb W.heap.size (xs ++ (putR zs.length ++ eS (zs.take k))) ∧ Wk W.heap.size Wb w wr) (fun i _ => len - (intOf i).toNat)
  case atStart => exact ⟨0, Nat.zero_le _, rfl, T1'.out, k1.out⟩
  case round =>
    obtain ⟨k, hk, rfl, hT, hK⟩ := hrel
    clear T1'
    have hltr := hT.lt
    have hT' : Hid (Wt wr Wb W.heap.size (xs ++ (putR zs.length ++ eS (zs.take k)))) := hT
    have hK' : Hid (Wk W.heap.size Wb w wr) := hK
    by_cases hlk : k < len
    · obtain ⟨x, y, rfl, hcx, hwf, hky, -⟩ := (HR.out.below (HW.out.trans hK.1)).at hlk
      have hyb := i16_of hwf
      have h64 : Hid (In64 [y]) := fun q hq => by simp at hq; subst hq; omega
      have hbd : Hid (In64 (zs.take k)) := fun q hq => by have := i16_of (HR.out.2.2.2.1 q (List.mem_of_mem_take hq)); omega
      have hlen : Hid ((xs ++ (putR zs.length ++ eS (zs.take k))).length + 10 * 1 ≤ 140737488355328) := by
        have := eS_le _ hbd.out; have := hpl.out; simp only [Hid, List.length_append, List.length_take] at *; omega
      have hnext : Hid (xs ++ (putR zs.length ++ eS (zs.take k)) ++ eS [y] = xs ++ (putR zs.length ++ eS (zs.take (k + 1)))) := by
        unfold Hid; rw [take_more hky, eS_app]; simp
      clear hT hK hky hwf
      go_wp2_with fail
      refine (signed_any Wb W.heap.size wr.heap.size 1 _ [y] _ (hT'.out.al _) (heap_alloc_new wr _) rfl (by omega) hb hlen.out (by omega) h64.out).mono ?_
      rintro e w2 ⟨rfl, T2, K2, -⟩
      have t2 : Hid (Wt w2 Wb W.heap.size (xs ++ (putR zs.length ++ eS (zs.take (k + 1))))) := by unfold Hid; rw [← hnext.out]; exact T2
      have k2 : Hid (Wk W.heap.size Wb w w2) := hK'.out.trans ((wk_al _ (by omega)).trans K2)
      clear T2 K2 hT'
      go_wp2
      go_roundw
      case rel => exact ⟨k + 1, by omega, by go_num, t2.out, k2.out⟩
      case measure => simp [intOf]; omega
    · have t2 : Hid (Wt wr Wb W.heap.size (xs ++ (putR zs.length ++ eS zs))) := by
        unfold Hid; rw [List.take_of_length_le (by rw [hl.out]; omega)] at hT; exact hT
      clear hT hK hT'
      go_wp2
      go_end0
      exact ⟨rfl, t2.out, hK'.out⟩
set_option maxHeartbeats 2000000 in
theorem put_i32 (Wb : Nat) (xs zs : List Int) (a : Option Addr) (len cap : Nat) (W w : World) (h : Wt w Wb W.heap.size xs) (hW : Below W.heap.size W w) (hr : IRow .i32 W a len cap zs) (hb : W.heap.size ≤ Wb) (hs : xs.length + 10 * len + 1000 ≤ 140737488355328) :
    Calls Try.prog 42 #[(.pointer (some ⟨Wb, 0, none⟩)), .slice a len cap] w fun e w' => e = .returned (.tuple #[]) ∧ Wt w' Wb W.heap.size (xs ++ (putR zs.length ++ eS zs)) ∧ Wk W.heap.size Wb w w' := by
  have hlt := h.lt
  have hl : Hid (zs.length = len) := hr.1
  have hc := hr.2.1
  have hm := hr.2.2.1
  unfold maxLen at hm
  have H : Hid (Wt w Wb W.heap.size xs) := h
  have HR : Hid (IRow .i32 W a len cap zs) := hr
  have HW : Hid (Below W.heap.size W w) := hW
  have hp : Hid (eU [(len : Int)] = putR zs.length) := by
    unfold Hid; rw [hl.out]; unfold eU; rw [List.flatMap_singleton, u64_of (by omega) (by omega), Int.toNat_natCast]
  have hpl : Hid ((putR zs.length).length ≤ 10) := by unfold Hid; exact putR_ten (by have := hl.out; omega)
  clear h hr hW
  go_enter Try.func42, Try.ntmps42
  go_wp2_with fail
  refine (unsigned_any Wb W.heap.size w.heap.size 1 xs [(len : Int)] _ (H.out.al _) (heap_alloc_new w _) rfl (by omega) hb (by omega) (by omega) trivial).mono ?_
  rintro e w1 ⟨rfl, T1, K1, -⟩
  have T1' : Hid (Wt w1 Wb W.heap.size (xs ++ (putR zs.length ++ eS (zs.take 0)))) := by unfold Hid; rw [hp.out] at T1; simpa [eS] using T1
  have k1 : Hid (Wk W.heap.size Wb w w1) := (wk_al _ (by omega)).trans K1
  have hlt1 := T1'.out.lt
  clear K1 T1
  go_wp2
  go_loopw [13] (fun i wr => ∃ k : Nat, k ≤ len ∧ i = .int .i64 k ∧ Wt wr Wb W.heap.size (xs ++ (putR zs.length ++ eS (zs.take k))) ∧ Wk W.heap.size Wb w wr) (fun i _ => len - (intOf i).toNat)
  case atStart => exact ⟨0, Nat.zero_le _, rfl, T1'.out, k1.out⟩
  case round =>
    obtain ⟨k, hk, rfl, hT, hK⟩ := hrel
    clear T1'
    have hltr := hT.lt
    have hT' : Hid (Wt wr Wb W.heap.size (xs ++ (putR zs.length ++ eS (zs.take k)))) := hT
    have hK' : Hid (Wk W.heap.size Wb w wr) := hK
    by_cases hlk : k < len
    · obtain ⟨x, y, rfl, hcx, hwf, hky, -⟩ := (HR.out.below (HW.out.trans hK.1)).at hlk
      have hyb := i32_of hwf
      have h64 : Hid (In64 [y]) := fun q hq => by simp at hq; subst hq; omega
      have hbd : Hid (In64 (zs.take k)) := fun q hq => by have := i32_of (HR.out.2.2.2.1 q (List.mem_of_mem_take hq)); omega
      have hlen : Hid ((xs ++ (putR zs.length ++ eS (zs.take k))).length + 10 * 1 ≤ 140737488355328) := by
        have := eS_le _ hbd.out; have := hpl.out; simp only [Hid, List.length_append, List.length_take] at *; omega
      have hnext : Hid (xs ++ (putR zs.length ++ eS (zs.take k)) ++ eS [y] = xs ++ (putR zs.length ++ eS (zs.take (k + 1)))) := by
        unfold Hid; rw [take_more hky, eS_app]; simp
      clear hT hK hky hwf
      go_wp2_with fail
      refine (signed_any Wb W.heap.size wr.heap.size 1 _ [y] _ (hT'.out.al _) (heap_alloc_new wr _) rfl (by omega) hb hlen.out (by omega) h64.out).mono ?_
      rintro e w2 ⟨rfl, T2, K2, -⟩
      have t2 : Hid (Wt w2 Wb W.heap.size (xs ++ (putR zs.length ++ eS (zs.take (k + 1))))) := by unfold Hid; rw [← hnext.out]; exact T2
      have k2 : Hid (Wk W.heap.size Wb w w2) := hK'.out.trans ((wk_al _ (by omega)).trans K2)
      clear T2 K2 hT'
      go_wp2
      go_roundw
      case rel => exact ⟨k + 1, by omega, by go_num, t2.out, k2.out⟩
      case measure => simp [intOf]; omega
    · have t2 : Hid (Wt wr Wb W.heap.size (xs ++ (putR zs.length ++ eS zs))) := by
        unfold Hid; rw [List.take_of_length_le (by rw [hl.out]; omega)] at hT; exact hT
      clear hT hK hT'
      go_wp2
      go_end0
      exact ⟨rfl, t2.out, hK'.out⟩
end Go.Proofs.Ythagdpiocmcbmaa
