/- Decode of package pack: what it returns. -/
import Derived.Test.YthagdpiocmcbmaaPckB
import Derived.Defers
import Derived.Recover
namespace Go.Proofs.Ythagdpiocmcbmaa
open Wr
open Go.ChangeShapes Go.WideShapes Go.ChangeAt Go.RowKit
set_option linter.unusedVariables false
theorem catch_idle (p q : Addr) (w : World) :
    CallsD Try.prog 21 #[.pointer (some p), .pointer (some q)] .returning w fun e u' w' => e = .returned (.tuple #[]) ∧ u' = .returning ∧ w' = w := by
  refine callsD_of_wpS Try.func21 rfl fun c₀ cs hu => ?_
  apply wpS_seq
  apply wpS_region
  simp [wpOpsS, go_sem, recoverD, hu, Try.ntmps21, Exit.thenS]
  refine wpS_of_wp ?_
  have ht : (#[Value.pointer (some p), Value.pointer (some q)] ++ ((Array.replicate 7 undef).setIfInBounds 1 Value.nilIface).setIfInBounds 0 Value.nilIface) = #[.pointer (some p), .pointer (some q), .nilIface, .nilIface, undef, undef, undef, undef, undef] := rfl
  rw [ht]
  go_wp2
  cases c₀
  simp_all [bodyPostS, results, Try.results21]
/-- What was given up with is a fault. -/
theorem as_fault (v : Value) : ∀ W, (Instr.typeAssert (.iface 31 v) 20 31 false).run Try.prog W = .ok v W := by
  intro W
  simp [Instr.typeAssert, go_sem]
theorem drew_at {w : World} {N : Nat} {o : Obj} (h : w.heap[N]? = some o) : w.drew.heap[N]? = some o := h
theorem set73 {w : World} {N M base : Nat} {S T : TypeId} {o0 o1 o2 o3 o4 o5 o6 v0 v1 v2 v3 v4 v5 v6 p0 p1 p2 a b c : Value} (hN : w.heap[N]? = some (.cells #[o0, o1, o2, o3, o4, o5, o6] S (0, 0))) (hM : w.heap[M]? = some (.cells #[p0, p1, p2] T (0, 0))) (hne : N ≠ M) (h1 : base ≤ N) (h2 : base ≤ M) {w' : World}
    (hw : w' = (((((((((w.setCell ⟨N, 0, none⟩ v0).setCell ⟨N, 1, none⟩ v1).setCell ⟨N, 2, none⟩ v2).setCell ⟨N, 3, none⟩ v3).setCell ⟨N, 4, none⟩ v4).setCell ⟨N, 5, none⟩ v5).setCell ⟨N, 6, none⟩ v6).setCell ⟨M, 0, none⟩ a).setCell ⟨M, 1, none⟩ b).setCell ⟨M, 2, none⟩ c) :
    w'.heap[N]? = some (.cells #[v0, v1, v2, v3, v4, v5, v6] S (0, 0)) ∧ w'.heap[M]? = some (.cells #[a, b, c] T (0, 0)) ∧ Below base w w' ∧ ∀ k, k ≠ N → k ≠ M → w'.heap[k]? = w.heap[k]? := by
  subst hw
  have n1 : (w.setCell ⟨N, 0, none⟩ v0).heap[N]? = some (.cells #[v0, o1, o2, o3, o4, o5, o6] S (0, 0)) := heap_setCell_at hN
  have n2 : ((w.setCell ⟨N, 0, none⟩ v0).setCell ⟨N, 1, none⟩ v1).heap[N]? = some (.cells #[v0, v1, o2, o3, o4, o5, o6] S (0, 0)) := heap_setCell_at n1
  have n3 : (((w.setCell ⟨N, 0, none⟩ v0).setCell ⟨N, 1, none⟩ v1).setCell ⟨N, 2, none⟩ v2).heap[N]? = some (.cells #[v0, v1, v2, o3, o4, o5, o6] S (0, 0)) := heap_setCell_at n2
  have n4 : ((((w.setCell ⟨N, 0, none⟩ v0).setCell ⟨N, 1, none⟩ v1).setCell ⟨N, 2, none⟩ v2).setCell ⟨N, 3, none⟩ v3).heap[N]? = some (.cells #[v0, v1, v2, v3, o4, o5, o6] S (0, 0)) := heap_setCell_at n3
  have n5 : (((((w.setCell ⟨N, 0, none⟩ v0).setCell ⟨N, 1, none⟩ v1).setCell ⟨N, 2, none⟩ v2).setCell ⟨N, 3, none⟩ v3).setCell ⟨N, 4, none⟩ v4).heap[N]? = some (.cells #[v0, v1, v2, v3, v4, o5, o6] S (0, 0)) := heap_setCell_at n4
  have n6 : ((((((w.setCell ⟨N, 0, none⟩ v0).setCell ⟨N, 1, none⟩ v1).setCell ⟨N, 2, none⟩ v2).setCell ⟨N, 3, none⟩ v3).setCell ⟨N, 4, none⟩ v4).setCell ⟨N, 5, none⟩ v5).heap[N]? = some (.cells #[v0, v1, v2, v3, v4, v5, o6] S (0, 0)) := heap_setCell_at n5
  have n7 : (((((((w.setCell ⟨N, 0, none⟩ v0).setCell ⟨N, 1, none⟩ v1).setCell ⟨N, 2, none⟩ v2).setCell ⟨N, 3, none⟩ v3).setCell ⟨N, 4, none⟩ v4).setCell ⟨N, 5, none⟩ v5).setCell ⟨N, 6, none⟩ v6).heap[N]? = some (.cells #[v0, v1, v2, v3, v4, v5, v6] S (0, 0)) := heap_setCell_at n6
  have m1 : (((((((w.setCell ⟨N, 0, none⟩ v0).setCell ⟨N, 1, none⟩ v1).setCell ⟨N, 2, none⟩ v2).setCell ⟨N, 3, none⟩ v3).setCell ⟨N, 4, none⟩ v4).setCell ⟨N, 5, none⟩ v5).setCell ⟨N, 6, none⟩ v6).heap[M]? = some (.cells #[p0, p1, p2] T (0, 0)) := by
    rw [Below.heap_setCell _ _ _ _ hne.symm, Below.heap_setCell _ _ _ _ hne.symm, Below.heap_setCell _ _ _ _ hne.symm, Below.heap_setCell _ _ _ _ hne.symm, Below.heap_setCell _ _ _ _ hne.symm, Below.heap_setCell _ _ _ _ hne.symm, Below.heap_setCell _ _ _ _ hne.symm]
    exact hM
  have m2 : ((((((((w.setCell ⟨N, 0, none⟩ v0).setCell ⟨N, 1, none⟩ v1).setCell ⟨N, 2, none⟩ v2).setCell ⟨N, 3, none⟩ v3).setCell ⟨N, 4, none⟩ v4).setCell ⟨N, 5, none⟩ v5).setCell ⟨N, 6, none⟩ v6).setCell ⟨M, 0, none⟩ a).heap[M]? = some (.cells #[a, p1, p2] T (0, 0)) := heap_setCell_at m1
  have m3 : (((((((((w.setCell ⟨N, 0, none⟩ v0).setCell ⟨N, 1, none⟩ v1).setCell ⟨N, 2, none⟩ v2).setCell ⟨N, 3, none⟩ v3).setCell ⟨N, 4, none⟩ v4).setCell ⟨N, 5, none⟩ v5).setCell ⟨N, 6, none⟩ v6).setCell ⟨M, 0, none⟩ a).setCell ⟨M, 1, none⟩ b).heap[M]? = some (.cells #[a, b, p2] T (0, 0)) := heap_setCell_at m2
  have m4 : ((((((((((w.setCell ⟨N, 0, none⟩ v0).setCell ⟨N, 1, none⟩ v1).setCell ⟨N, 2, none⟩ v2).setCell ⟨N, 3, none⟩ v3).setCell ⟨N, 4, none⟩ v4).setCell ⟨N, 5, none⟩ v5).setCell ⟨N, 6, none⟩ v6).setCell ⟨M, 0, none⟩ a).setCell ⟨M, 1, none⟩ b).setCell ⟨M, 2, none⟩ c).heap[M]? = some (.cells #[a, b, c] T (0, 0)) := heap_setCell_at m3
  refine ⟨?_, m4, ?_, fun k k1 k2 => ?_⟩
  · rw [Below.heap_setCell _ _ _ _ hne, Below.heap_setCell _ _ _ _ hne, Below.heap_setCell _ _ _ _ hne]
    exact n7
  · exact set3b ((((((((Below.refl base w).setCell (p := ⟨N, 0, none⟩) h1 _).setCell (p := ⟨N, 1, none⟩) h1 _).setCell (p := ⟨N, 2, none⟩) h1 _).setCell (p := ⟨N, 3, none⟩) h1 _).setCell (p := ⟨N, 4, none⟩) h1 _).setCell (p := ⟨N, 5, none⟩) h1 _).setCell (p := ⟨N, 6, none⟩) h1 _) h2
  · rw [Below.heap_setCell _ _ _ _ k2, Below.heap_setCell _ _ _ _ k2, Below.heap_setCell _ _ _ _ k2, Below.heap_setCell _ _ _ _ k1, Below.heap_setCell _ _ _ _ k1, Below.heap_setCell _ _ _ _ k1, Below.heap_setCell _ _ _ _ k1, Below.heap_setCell _ _ _ _ k1, Below.heap_setCell _ _ _ _ k1, Below.heap_setCell _ _ _ _ k1]
set_option maxHeartbeats 1000000 in
theorem catch_panicking (N M base : Nat) (x t : Int) (older : List PanicEntry) (w : World) (hN : w.heap[N]? = some (.cells #[.int .i64 0, .int .i64 0, .int .i64 0, .int .i64 0, .int .i64 0, .slice none 0 0, .int .i64 0] 26 (0, 0))) (hM : w.heap[M]? = some (.cells #[.int .i64 0, .int .i64 0, .int .i64 0] 31 (0, 0))) (h1 : base ≤ N) (h2 : base ≤ M) :
    CallsD Try.prog 21 #[.pointer (some ⟨N, 0, none⟩), .pointer (some ⟨M, 0, none⟩)] (.panicking ({ v := .iface 31 (.agg #[.int .i64 x, .int .i64 t, .int .i64 0]), recovered := false } :: older)) w fun e u' w' =>
      e = .returned (.tuple #[]) ∧ u' = .panicking ({ v := .iface 31 (.agg #[.int .i64 x, .int .i64 t, .int .i64 0]), recovered := true } :: older) ∧ w'.heap[N]? = some (.cells #[.int .i64 0, .int .i64 0, .int .i64 0, .int .i64 0, .int .i64 0, .slice none 0 0, .int .i64 0] 26 (0, 0)) ∧ w'.heap[M]? = some (.cells #[.int .i64 x, .int .i64 t, .int .i64 0] 31 (0, 0)) ∧ Below base w w' := by
  refine callsD_of_wpS Try.func21 rfl fun c₀ cs hu => ?_
  apply wpS_seq
  apply wpS_region
  simp [wpOpsS, go_sem, recoverD, hu, Try.ntmps21, Exit.thenS]
  refine wpS_of_wp ?_
  have ht : (#[Value.pointer (some ⟨N, 0, none⟩), Value.pointer (some ⟨M, 0, none⟩)] ++ ((Array.replicate 7 undef).setIfInBounds 1 (.iface 31 (.agg #[.int .i64 x, .int .i64 t, .int .i64 0]))).setIfInBounds 0 (.iface 31 (.agg #[.int .i64 x, .int .i64 t, .int .i64 0]))) = #[.pointer (some ⟨N, 0, none⟩), .pointer (some ⟨M, 0, none⟩), .iface 31 (.agg #[.int .i64 x, .int .i64 t, .int .i64 0]), .iface 31 (.agg #[.int .i64 x, .int .i64 t, .int .i64 0]), undef, undef, undef, undef, undef] := rfl
  rw [ht]
  obtain ⟨c1, f1, z1⟩ := cells_at hN
  obtain ⟨c2, f2, z2⟩ := cells_at hM
  have ta := as_fault
  have ne1 : N ≠ M := ne_ty hM hN (by decide)
  have ne2 : M ≠ N := fun e => ne1 e.symm
  go_wp2
  go_region_law (fail)
  all_goals
    obtain ⟨q1, q2, q3, -⟩ := set73 (v0 := .int .i64 0) (v1 := .int .i64 0) (v2 := .int .i64 0) (v3 := .int .i64 0) (v4 := .int .i64 0) (v5 := .slice none 0 0) (v6 := .int .i64 0) (a := .int .i64 x) (b := .int .i64 t) (c := .int .i64 0) hN hM ne1 h1 h2 rfl
    exact ⟨rfl, _, rfl, .tuple #[], by simp [results, Try.results21], rfl, rfl, drew_at q1, drew_at q2, q3.drew⟩
/-- What Decode answers. -/
def Dec (zs : List Int) (w w' : World) (r : Ending) : Prop :=
  (∃ x t, pAll zs = .inl (x, t) ∧ r = .returned (.tuple #[.agg #[.int .i64 0, .int .i64 0, .int .i64 0, .int .i64 0, .int .i64 0, .slice none 0 0, .int .i64 0], .agg #[.int .i64 x, .int .i64 t, .int .i64 0]])) ∨
  ∃ (h0 w0 c0 lo hi ot : Int) (oa : Option Addr) (n oc : Nat) (O : Nat → Nat → Int) (Z Bs : Nat → List Int) (x t : Int) (L : List (Int × Int × Int)) (wk : Int), pAll zs = .inr (dMod h0 w0 c0 lo hi ot n O Z Bs) ∧ gtR O h0 w0 c0 lo hi ot n = (x, t, L, wk) ∧ Lens n O Z Bs ∧
    ((x ≠ 0 ∧ r = .returned (.tuple #[.agg #[.int .i64 0, .int .i64 0, .int .i64 0, .int .i64 0, .int .i64 0, .slice none 0 0, .int .i64 0], .agg #[.int .i64 x, .int .i64 t, .int .i64 0]])) ∨ x = 0 ∧ r = .returned (.tuple #[.agg #[.int .i64 h0, .int .i64 w0, .int .i64 c0, .int .i64 lo, .int .i64 hi, .slice oa n oc, .int .i64 ot], .agg #[.int .i64 0, .int .i64 0, .int .i64 0]]) ∧ CRow w' w.heap.size (.slice oa n oc) n O Z Bs)
set_option maxHeartbeats 4000000 in
set_option maxRecDepth 100000 in
theorem decode_any (a : Option Addr) (len cap : Nat) (zs : List Int) (w : World) (hr : Wr.Row w a len cap zs) (hs : len ≤ 140737488355328) :
    Calls Try.prog 14 #[.slice a len cap] w fun r w' => Dec zs w w' r ∧ Below w.heap.size w w' := by
  have hmf : ∀ (fn : Fn) (first cap : Array Value) (w : World), (Instr.makeFunc fn first cap).run Try.prog w = .ok (.func fn first cap) w := fun _ _ _ _ => rfl
  have s0 := ((St.start w).new (c := #[.int .i64 0, .int .i64 0, .int .i64 0, .int .i64 0, .int .i64 0, .slice none 0 0, .int .i64 0]) (t := 26)).new (c := #[.int .i64 0, .int .i64 0, .int .i64 0]) (t := 31)
  simp only [World.size_alloc] at s0
  have S0 : Hid (St w _ _) := s0
  have HR : Hid (Wr.Row _ a len cap zs) := hr.below s0.below
  clear hr s0
  go_enter_defers Try.func14, Try.ntmps14
  go_wp2_with fail
  refine Calls.mono (readall_any a len cap zs _ HR.out hs) ?_
  rintro r w1 (⟨x, hx, rfl, b1⟩ | ⟨h0, w0, c0, lo, hi, ot, oa, n, oc, O, Z, Bs, hx, hn, rfl, cr, b1⟩)
  · have S1 : Hid (St w w1 _) := S0.out.call b1
    unfold fpan
    clear hmf
    refine leaves_cons (f := 21) (args := #[.pointer (some ⟨w.heap.size, 0, none⟩), .pointer (some ⟨w.heap.size + 1, 0, none⟩)]) (by simp) (by simp [go_sem]) ?_
    refine (catch_panicking w.heap.size (w.heap.size + 1) w.heap.size x.1 x.2 [] _ S1.out.h2 S1.out.h1 (by omega) (by omega)).mono ?_
    rintro e u' w2 ⟨rfl, rfl, q1, q2, q3⟩
    obtain ⟨c1, f1, z1⟩ := cells_at q1
    obtain ⟨c2, f2, z2⟩ := cells_at q2
    simp [Leaves, settle, results, Try.results14, go_sem, c1, c2]
    exact ⟨.inl ⟨x.1, x.2, hx, rfl⟩, S1.out.below.trans q3⟩
  obtain ⟨x, t, L, wk, hg⟩ : ∃ x t L wk, gtR O h0 w0 c0 lo hi ot n = (x, t, L, wk) := ⟨_, _, _, _, rfl⟩
  have hz1 : w.heap.size + 1 < w1.heap.size := lt_of_heap (S0.out.call b1).h1
  have S1 := (S0.out.call b1).new (c := #[.int .i64 h0, .int .i64 w0, .int .i64 c0, .int .i64 lo, .int .i64 hi, .slice oa n oc, .int .i64 ot]) (t := 26)
  have hC : Hid _ := check_any h0 w0 c0 lo hi ot oa n oc O (w1.alloc (.cells #[.int .i64 h0, .int .i64 w0, .int .i64 c0, .int .i64 lo, .int .i64 hi, .slice oa n oc, .int .i64 ot] 26)) (cr.l.m.below (bal _ _))
  rw [hg] at hC
  simp only at hC
  simp only [World.size_alloc] at cr
  have cr1 : Hid (CRow w1 (w.heap.size + 1 + 1) (.slice oa n oc) n O Z Bs) := cr
  have hX : Hid (pAll zs = _) := hx
  have hLn : Hid (Lens n O Z Bs) := lens_of cr.l
  have hG : Hid (gtR O h0 w0 c0 lo hi ot n = (x, t, L, wk)) := hg
  have T1 : Hid (St w _ _) := S1
  obtain ⟨-, -, -, c2, f2, z2, c3, f3, z3, -⟩ := S1.rules
  clear hx hg cr b1 S1 S0 HR
  go_wp2_with fail
  refine Calls.mono hC.out ?_
  rintro r w2 ⟨rfl, b2⟩
  have s2 := T1.out.call b2
  have S2 : Hid (St w w2 _) := s2
  have cr2 : Hid (CRow w2 (w.heap.size + 1 + 1) (.slice oa n oc) n O Z Bs) := (cr1.out.below (bal _ _)).below b2
  clear c2 f2 z2 c3 f3 z3
  obtain ⟨c1, f1, z1, c2, f2, z2, c3, f3, z3, -⟩ := s2.rules
  clear b2 s2 T1 cr1 hC
  obtain ⟨w3, hw3⟩ : ∃ w3, w3 = ((w2.setCell ⟨w.heap.size + 1, 0, none⟩ (.int .i64 x)).setCell ⟨w.heap.size + 1, 1, none⟩ (.int .i64 t)).setCell ⟨w.heap.size + 1, 2, none⟩ (.int .i64 0) := ⟨_, rfl⟩
  have hne : w.heap.size ≠ w.heap.size + 1 := by omega
  have hN3 : w3.heap[w.heap.size]? = some (.cells #[.int .i64 0, .int .i64 0, .int .i64 0, .int .i64 0, .int .i64 0, .slice none 0 0, .int .i64 0] 26 (0, 0)) := by
    rw [hw3, Below.heap_setCell _ _ _ _ hne, Below.heap_setCell _ _ _ _ hne, Below.heap_setCell _ _ _ _ hne]; exact S2.out.h3
  have m1 : (w2.setCell ⟨w.heap.size + 1, 0, none⟩ (.int .i64 x)).heap[w.heap.size + 1]? = some (.cells #[.int .i64 x, .int .i64 0, .int .i64 0] 31 (0, 0)) := heap_setCell_at S2.out.h2
  have m2 : ((w2.setCell ⟨w.heap.size + 1, 0, none⟩ (.int .i64 x)).setCell ⟨w.heap.size + 1, 1, none⟩ (.int .i64 t)).heap[w.heap.size + 1]? = some (.cells #[.int .i64 x, .int .i64 t, .int .i64 0] 31 (0, 0)) := heap_setCell_at m1
  have hM3 : w3.heap[w.heap.size + 1]? = some (.cells #[.int .i64 x, .int .i64 t, .int .i64 0] 31 (0, 0)) := by rw [hw3]; exact heap_setCell_at m2
  have hO3 : ∀ k, k ≠ w.heap.size + 1 → w3.heap[k]? = w2.heap[k]? := fun k hk => by rw [hw3, Below.heap_setCell _ _ _ _ hk, Below.heap_setCell _ _ _ _ hk, Below.heap_setCell _ _ _ _ hk]
  have b3 : Hid (Below w.heap.size w w3) := by unfold Hid; rw [hw3]; exact set3b S2.out.below (by omega)
  have HM3 : Hid (w3.heap[w1.heap.size]? = some (.cells #[.int .i64 h0, .int .i64 w0, .int .i64 c0, .int .i64 lo, .int .i64 hi, .slice oa n oc, .int .i64 ot] 26 (0, 0))) := (hO3 _ (by omega)).trans S2.out.h1
  have cr3 : Hid (CRow w3 (w.heap.size + 1 + 1) (.slice oa n oc) n O Z Bs) := cr2.out.kept (L := [w.heap.size + 1]) ⟨by rw [hw3]; rfl, by rw [hw3]; rfl, by rw [hw3]; rfl, by rw [hw3]; simp, fun k _ hk => hO3 k (by simpa using hk)⟩ (by simp)
  have HN3 : Hid _ := hN3
  have HMM : Hid _ := hM3
  clear m1 m2 hO3 cr2
  by_cases hx0 : x = 0
  · subst hx0
    obtain ⟨-, rfl, -⟩ := gtR_st hG.out
    have n3 := neF 0 0 0 0 0 0 true (by simp)
    go_upto_region 6 with fail
    rw [← hw3]
    clear hw3 c1 f1 z1 c2 f2 z2 c3 f3 z3 n3
    obtain ⟨c1, f1, z1⟩ := cells_at hN3
    obtain ⟨c2, f2, z2⟩ := cells_at hM3
    obtain ⟨c3, f3, z3⟩ := cells_at HM3.out
    go_region_law (fail)
    all_goals
      obtain ⟨wz, hwz⟩ : ∃ wz, wz = ((((((((((w3.setCell ⟨w.heap.size, 0, none⟩ (.int .i64 h0)).setCell ⟨w.heap.size, 1, none⟩ (.int .i64 w0)).setCell ⟨w.heap.size, 2, none⟩ (.int .i64 c0)).setCell ⟨w.heap.size, 3, none⟩ (.int .i64 lo)).setCell ⟨w.heap.size, 4, none⟩ (.int .i64 hi)).setCell ⟨w.heap.size, 5, none⟩ (.slice oa n oc)).setCell ⟨w.heap.size, 6, none⟩ (.int .i64 ot)).setCell ⟨w.heap.size + 1, 0, none⟩ (.int .i64 0)).setCell ⟨w.heap.size + 1, 1, none⟩ (.int .i64 0)).setCell ⟨w.heap.size + 1, 2, none⟩ (.int .i64 0)) := ⟨_, rfl⟩
      rw [← hwz]
      obtain ⟨q1, q2, q3, q4⟩ := set73 hN3 hM3 hne (Nat.le_refl _) (Nat.le_succ _) hwz
      have Q3 : Hid (Below w.heap.size w wz) := b3.out.trans q3
      have Q4 : Hid (∀ k, k ≠ w.heap.size → k ≠ w.heap.size + 1 → wz.heap[k]? = w3.heap[k]?) := q4
      have QS : Hid (wz.os = w3.os ∧ wz.tape = w3.tape ∧ wz.output = w3.output ∧ w3.heap.size ≤ wz.heap.size) := ⟨q3.os, q3.tape, q3.output, q3.size⟩
      clear hwz q3 q4 c1 f1 z1 c2 f2 z2 c3 f3 z3 hN3 hM3
      obtain ⟨c1, f1, z1⟩ := cells_at q1
      obtain ⟨c2, f2, z2⟩ := cells_at q2
      go_wp2
      refine leaves_cons (f := 21) (args := #[.pointer (some ⟨w.heap.size, 0, none⟩), .pointer (some ⟨w.heap.size + 1, 0, none⟩)]) (by simp) (by simp [go_sem]) ?_
      refine (catch_idle _ _ _).mono ?_
      rintro e u' w5 ⟨rfl, rfl, hw5⟩
      obtain rfl := hw5.symm
      simp [Leaves, settle, results, Try.results14, go_sem, c1, c2]
      exact ⟨.inr ⟨h0, w0, c0, lo, hi, ot, oa, n, oc, O, Z, Bs, 0, 0, L, wk, hX.out, hG.out, hLn.out, .inr ⟨rfl, rfl, ((cr3.out.kept (L := [w.heap.size, w.heap.size + 1]) ⟨QS.out.1, QS.out.2.1, QS.out.2.2.1, QS.out.2.2.2, fun k _ hk => Q4.out k (fun e => hk (by simp [e])) (fun e => hk (by simp [e]))⟩ (by simp; omega)).below (Below.refl _ _).drew).base (by omega)⟩⟩, Q3.out.drew⟩
  · have n3 := neF x t 0 0 0 0 false (by simp [hx0])
    have hx0' : Hid (x ≠ 0) := hx0
    clear hx0
    go_upto_region 5 with fail
    rw [← hw3]
    clear hw3 c1 f1 z1 c2 f2 z2 c3 f3 z3 n3
    obtain ⟨c1, f1, z1⟩ := cells_at hN3
    obtain ⟨c2, f2, z2⟩ := cells_at hM3
    obtain ⟨c3, f3, z3⟩ := cells_at HM3.out
    refine wp_region_noPanic ?_
    go_region_law (fail)
    all_goals
      refine NoPanic.normal ?_
      obtain ⟨wz, hwz⟩ : ∃ wz, wz = ((((((((((w3.setCell ⟨w.heap.size, 0, none⟩ (.int .i64 0)).setCell ⟨w.heap.size, 1, none⟩ (.int .i64 0)).setCell ⟨w.heap.size, 2, none⟩ (.int .i64 0)).setCell ⟨w.heap.size, 3, none⟩ (.int .i64 0)).setCell ⟨w.heap.size, 4, none⟩ (.int .i64 0)).setCell ⟨w.heap.size, 5, none⟩ (.slice none 0 0)).setCell ⟨w.heap.size, 6, none⟩ (.int .i64 0)).setCell ⟨w.heap.size + 1, 0, none⟩ (.int .i64 x)).setCell ⟨w.heap.size + 1, 1, none⟩ (.int .i64 t)).setCell ⟨w.heap.size + 1, 2, none⟩ (.int .i64 0)) := ⟨_, rfl⟩
      rw [← hwz]
      obtain ⟨q1, q2, q3, q4⟩ := set73 hN3 hM3 hne (Nat.le_refl _) (Nat.le_succ _) hwz
      have Q3 : Hid (Below w.heap.size w wz) := b3.out.trans q3
      have Q4 : Hid (∀ k, k ≠ w.heap.size → k ≠ w.heap.size + 1 → wz.heap[k]? = w3.heap[k]?) := q4
      have QS : Hid (wz.os = w3.os ∧ wz.tape = w3.tape ∧ wz.output = w3.output ∧ w3.heap.size ≤ wz.heap.size) := ⟨q3.os, q3.tape, q3.output, q3.size⟩
      clear hwz q3 q4 c1 f1 z1 c2 f2 z2 c3 f3 z3 hN3 hM3
      obtain ⟨c1, f1, z1⟩ := cells_at q1
      obtain ⟨c2, f2, z2⟩ := cells_at q2
      go_wp2
      refine leaves_cons (f := 21) (args := #[.pointer (some ⟨w.heap.size, 0, none⟩), .pointer (some ⟨w.heap.size + 1, 0, none⟩)]) (by simp) (by simp [go_sem]) ?_
      refine (catch_idle _ _ _).mono ?_
      rintro e u' w5 ⟨rfl, rfl, hw5⟩
      obtain rfl := hw5.symm
      simp [Leaves, settle, results, Try.results14, go_sem, c1, c2]
      exact ⟨.inr ⟨h0, w0, c0, lo, hi, ot, oa, n, oc, O, Z, Bs, x, t, L, wk, hX.out, hG.out, hLn.out, .inl ⟨hx0'.out, rfl⟩⟩, Q3.out.drew⟩
end Go.Proofs.Ythagdpiocmcbmaa
