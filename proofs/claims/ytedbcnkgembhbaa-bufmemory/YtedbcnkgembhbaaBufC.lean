/- New and From: each for every argument. -/
import Derived.Test.YtedbcnkgembhbaaBufB
namespace Go.Proofs.Ytedbcnkgembhbaa
open Go.ChangeShapes Go.WideShapes Go.ChangeAt Go.RowKit
theorem elems_nat {h u c : Int} (g : vS h u c = true) : ∃ n : Nat, h * u * c = (n : Int) ∧ (h * u * c).toNat = n ∧ 1 ≤ n ∧ n ≤ 16384 := by
  obtain ⟨⟨h1, h2⟩, ⟨u1, u2⟩, ⟨c1, c2⟩, hq⟩ := vS_yes g
  obtain ⟨p1, p2⟩ := mul_bd h1 h2 u1 u2
  obtain ⟨q1, q2⟩ := mul_bd p1 p2 c1 c2
  exact ⟨(h * u * c).toNat, by omega, rfl, by omega, by omega⟩
theorem wf_zeros (k : IntKind) (n : Nat) (h : (Lit.int k 0).wf = true) : Wf k (List.replicate n 0) := fun z hz => by
  rw [List.eq_of_mem_replicate hz]; exact h
/-- A buffer in two new blocks. -/
theorem bf_new {k : IntKind} {T TB : TypeId} {w : World} {B g n cap : Nat} {base : Nat} {h u c : Int} {zs : List Int} (own : Own k T w base (.slice (some ⟨g, 0, none⟩) n cap) zs) (hB : w.heap.size = B) :
    Bf k T TB (w.alloc (.cells #[.int .i64 h, .int .i64 u, .int .i64 c, .slice (some ⟨g, 0, none⟩) n cap] TB)) B g h u c zs :=
  ⟨n, cap, by rw [← hB]; exact heap_alloc_new w _, (own.alloc _).base (Nat.zero_le _)⟩
set_option maxHeartbeats 1000000 in
theorem new_ok (h u c : Int) (w : World) (g : vS h u c = true) :
    Calls Try.prog 8 #[.agg #[.int .i64 h, .int .i64 u, .int .i64 c]] w fun e w' => ∃ B b, e = .returned (.tuple #[.pointer (some ⟨B, 0, none⟩), .int .i64 0]) ∧ w.heap.size ≤ B ∧ w.heap.size ≤ b ∧ Bf .i8 31 81 w' B b h u c (List.replicate (h * u * c).toNat 0) ∧ Below w.heap.size w w' := by
  have hE := selems_any h u c
  rw [elR_ok g] at hE
  obtain ⟨n, hn, hn', n1, n2⟩ := elems_nat g
  rw [hn']
  rw [hn] at hE
  clear hn hn' g
  have hmk := run_mak kt_i8 n (by omega)
  go_enter Try.func8, Try.ntmps8
  go_wp2_with fail
  refine (hE _).mono ?_
  rintro e w1 ⟨rfl, b1⟩
  clear hE
  have s1 := (St.start w).new.call b1
  clear b1
  obtain ⟨c1, f1, z1, -⟩ := s1.rules
  have s1' : Hid (St w w1 [(w.heap.size, #[Value.int .i64 h, .int .i64 u, .int .i64 c], 23)]) := s1
  clear s1
  go_wp2
  go_region_held3 (fun w' => ∀ i, w'.cell? ⟨w.heap.size, i, none⟩ = #[Value.int .i64 h, .int .i64 u, .int .i64 c][i]?) ((intro i; simp [go_sem, *])) (fail)
  go_wp2
  go_ret2
  have own1 : Own .i8 31 (w1.alloc (.cells (Array.replicate n (Value.int .i8 0)) 31)) 0 (.slice (some ⟨w1.heap.size, 0, none⟩) n n) (List.replicate n 0) := by
    have := own_lit .i8 31 w1 0 (List.replicate n 0) (wf_zeros .i8 n (by decide)) (by unfold maxLen; simp; omega) (Nat.zero_le _)
    rw [← rep_cells] at this
    simpa using this
  exact ⟨_, _, rfl, by have := s1'.out.size; simp; omega, s1'.out.size, (bf_new own1 (by simp)).below (Below.refl _ _).drew, ((s1'.out.skip _).skip _).drew.below⟩
theorem new_no (h u c : Int) (w : World) (g : vS h u c = false) :
    Calls Try.prog 8 #[.agg #[.int .i64 h, .int .i64 u, .int .i64 c]] w fun e w' => e = .returned (.tuple #[.pointer none, .int .i64 50]) ∧ Below w.heap.size w w' := by
  have hE := selems_any h u c
  rw [elR_no g] at hE
  clear g
  go_enter Try.func8, Try.ntmps8
  go_wp2_with fail
  refine (hE _).mono ?_
  rintro e w1 ⟨rfl, b1⟩
  have s1 := (St.start w).new.call b1
  clear b1 hE
  go_wp2
  go_ret2
  exact ⟨rfl, s1.below⟩
theorem from_no_i8 (h u c : Int) (a : Option Addr) (len cap : Nat) (w : World) (g : vS h u c = false) :
    Calls Try.prog 10 #[.agg #[.int .i64 h, .int .i64 u, .int .i64 c], .slice a len cap] w fun e w' => e = .returned (.tuple #[.pointer none, .int .i64 50]) ∧ Below w.heap.size w w' := by
  have hE := selems_any h u c
  rw [elR_no g] at hE
  clear g
  go_enter Try.func10, Try.ntmps10
  go_wp2_with fail
  refine (hE _).mono ?_
  rintro e w1 ⟨rfl, b1⟩
  have s1 := (St.start w).new.call b1
  clear b1 hE
  go_wp2
  go_ret2
  exact ⟨rfl, s1.below⟩
theorem from_len_i8 (h u c : Int) (a : Option Addr) (len cap : Nat) (w : World) (g : vS h u c = true) (hl : len ≠ (h * u * c).toNat) :
    Calls Try.prog 10 #[.agg #[.int .i64 h, .int .i64 u, .int .i64 c], .slice a len cap] w fun e w' => e = .returned (.tuple #[.pointer none, .int .i64 70]) ∧ Below w.heap.size w w' := by
  have hE := selems_any h u c
  rw [elR_ok g] at hE
  obtain ⟨n, hn, hn', n1, n2⟩ := elems_nat g
  rw [hn'] at hl
  rw [hn] at hE
  clear hn hn' g
  have hl' : ¬ (len : Int) = (n : Int) := by omega
  go_enter Try.func10, Try.ntmps10
  go_wp2_with fail
  refine (hE _).mono ?_
  rintro e w1 ⟨rfl, b1⟩
  have s1 := (St.start w).new.call b1
  clear b1 hE
  go_wp2
  go_ret2
  exact ⟨rfl, s1.below⟩
set_option maxHeartbeats 1000000 in
theorem from_ok_i8 (h u c : Int) (a : Option Addr) (len cap : Nat) (zs : List Int) (w : World) (g : vS h u c = true) (hl : len = (h * u * c).toNat) (hr : IRow .i8 w a len cap zs) :
    Calls Try.prog 10 #[.agg #[.int .i64 h, .int .i64 u, .int .i64 c], .slice a len cap] w fun e w' => ∃ B b, e = .returned (.tuple #[.pointer (some ⟨B, 0, none⟩), .int .i64 0]) ∧ w.heap.size ≤ B ∧ w.heap.size ≤ b ∧ Bf .i8 31 81 w' B b h u c zs ∧ Below w.heap.size w w' := by
  have hE := selems_any h u c
  rw [elR_ok g] at hE
  obtain ⟨n, hn, hn', n1, n2⟩ := elems_nat g
  rw [hn'] at hl
  rw [hn] at hE
  clear hn hn' g
  subst hl
  go_enter Try.func10, Try.ntmps10
  go_wp2_with fail
  refine (hE _).mono ?_
  rintro e w1 ⟨rfl, b1⟩
  clear hE
  have s1 := (St.start w).new.call b1
  have hr1 := (hr.below (bal _ _)).below b1
  clear b1 hr
  obtain ⟨c1, f1, z1, -⟩ := s1.rules
  have s1' : Hid (St w w1 [(w.heap.size, #[Value.int .i64 h, .int .i64 u, .int .i64 c], 23)]) := s1
  have hr2 : Hid (IRow .i8 w1.drew a len cap zs) := hr1.below (Below.refl _ _).drew
  clear s1 hr1
  go_wp2
  go_region_held3 (fun w' => ∀ i, w'.cell? ⟨w.heap.size, i, none⟩ = #[Value.int .i64 h, .int .i64 u, .int .i64 c][i]?) ((intro i; simp [go_sem, *]))
    (first | (go_at_call 37; refine (copied_i8 _ _ _ _ _ hr2.out (by omega)).mono ?_; rintro e w2 ⟨gg, rfl, own2, b2⟩; obtain ⟨c2, f2, z2, -⟩ := (s1'.out.drew.call b2).rules; have own3 : Hid (Own .i8 31 w2 w.heap.size (.slice (some ⟨gg, 0, none⟩) len len) zs ∧ Below w1.heap.size w1 w2) := ⟨own2.base (by have := s1'.out.size; simpa using this), bt ((Below.refl _ _).drew) b2⟩; clear own2 b2))
  go_wp2
  go_ret2
  exact ⟨_, _, rfl, (s1'.out.call own3.out.2).size, own3.out.1.facts.2.1, bf_new own3.out.1 rfl, ((s1'.out.call own3.out.2).skip _).below⟩
theorem from_no_i16 (h u c : Int) (a : Option Addr) (len cap : Nat) (w : World) (g : vS h u c = false) :
    Calls Try.prog 16 #[.agg #[.int .i64 h, .int .i64 u, .int .i64 c], .slice a len cap] w fun e w' => e = .returned (.tuple #[.pointer none, .int .i64 50]) ∧ Below w.heap.size w w' := by
  have hE := selems_any h u c
  rw [elR_no g] at hE
  clear g
  go_enter Try.func16, Try.ntmps16
  go_wp2_with fail
  refine (hE _).mono ?_
  rintro e w1 ⟨rfl, b1⟩
  have s1 := (St.start w).new.call b1
  clear b1 hE
  go_wp2
  go_ret2
  exact ⟨rfl, s1.below⟩
theorem from_len_i16 (h u c : Int) (a : Option Addr) (len cap : Nat) (w : World) (g : vS h u c = true) (hl : len ≠ (h * u * c).toNat) :
    Calls Try.prog 16 #[.agg #[.int .i64 h, .int .i64 u, .int .i64 c], .slice a len cap] w fun e w' => e = .returned (.tuple #[.pointer none, .int .i64 70]) ∧ Below w.heap.size w w' := by
  have hE := selems_any h u c
  rw [elR_ok g] at hE
  obtain ⟨n, hn, hn', n1, n2⟩ := elems_nat g
  rw [hn'] at hl
  rw [hn] at hE
  clear hn hn' g
  have hl' : ¬ (len : Int) = (n : Int) := by omega
  go_enter Try.func16, Try.ntmps16
  go_wp2_with fail
  refine (hE _).mono ?_
  rintro e w1 ⟨rfl, b1⟩
  have s1 := (St.start w).new.call b1
  clear b1 hE
  go_wp2
  go_ret2
  exact ⟨rfl, s1.below⟩
set_option maxHeartbeats 1000000 in
theorem from_ok_i16 (h u c : Int) (a : Option Addr) (len cap : Nat) (zs : List Int) (w : World) (g : vS h u c = true) (hl : len = (h * u * c).toNat) (hr : IRow .i16 w a len cap zs) :
    Calls Try.prog 16 #[.agg #[.int .i64 h, .int .i64 u, .int .i64 c], .slice a len cap] w fun e w' => ∃ B b, e = .returned (.tuple #[.pointer (some ⟨B, 0, none⟩), .int .i64 0]) ∧ w.heap.size ≤ B ∧ w.heap.size ≤ b ∧ Bf .i16 51 95 w' B b h u c zs ∧ Below w.heap.size w w' := by
  have hE := selems_any h u c
  rw [elR_ok g] at hE
  obtain ⟨n, hn, hn', n1, n2⟩ := elems_nat g
  rw [hn'] at hl
  rw [hn] at hE
  clear hn hn' g
  subst hl
  go_enter Try.func16, Try.ntmps16
  go_wp2_with fail
  refine (hE _).mono ?_
  rintro e w1 ⟨rfl, b1⟩
  clear hE
  have s1 := (St.start w).new.call b1
  have hr1 := (hr.below (bal _ _)).below b1
  clear b1 hr
  obtain ⟨c1, f1, z1, -⟩ := s1.rules
  have s1' : Hid (St w w1 [(w.heap.size, #[Value.int .i64 h, .int .i64 u, .int .i64 c], 23)]) := s1
  have hr2 : Hid (IRow .i16 w1.drew a len cap zs) := hr1.below (Below.refl _ _).drew
  clear s1 hr1
  go_wp2
  go_region_held3 (fun w' => ∀ i, w'.cell? ⟨w.heap.size, i, none⟩ = #[Value.int .i64 h, .int .i64 u, .int .i64 c][i]?) ((intro i; simp [go_sem, *]))
    (first | (go_at_call 45; refine (copied_i16 _ _ _ _ _ hr2.out (by omega)).mono ?_; rintro e w2 ⟨gg, rfl, own2, b2⟩; obtain ⟨c2, f2, z2, -⟩ := (s1'.out.drew.call b2).rules; have own3 : Hid (Own .i16 51 w2 w.heap.size (.slice (some ⟨gg, 0, none⟩) len len) zs ∧ Below w1.heap.size w1 w2) := ⟨own2.base (by have := s1'.out.size; simpa using this), bt ((Below.refl _ _).drew) b2⟩; clear own2 b2))
  go_wp2
  go_ret2
  exact ⟨_, _, rfl, (s1'.out.call own3.out.2).size, own3.out.1.facts.2.1, bf_new own3.out.1 rfl, ((s1'.out.call own3.out.2).skip _).below⟩
end Go.Proofs.Ytedbcnkgembhbaa
