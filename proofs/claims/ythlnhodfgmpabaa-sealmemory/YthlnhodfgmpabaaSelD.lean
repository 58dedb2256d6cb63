/- Decode of package seal: what it returns. -/
import Derived.Test.YthlnhodfgmpabaaSelB
import Derived.Defers
import Derived.Recover
namespace Go.Proofs.Ythlnhodfgmpabaa.Sl
open Wr
open Go.ChangeShapes Go.WideShapes Go.ChangeAt Go.RowKit
set_option linter.unusedVariables false
theorem catch_idle (p q : Addr) (w : World) :
    CallsD Try.prog 24 #[.pointer (some p), .pointer (some q)] .returning w fun e u' w' => e = .returned (.tuple #[]) ∧ u' = .returning ∧ w' = w := by
  refine callsD_of_wpS Try.func24 rfl fun c₀ cs hu => ?_
  apply wpS_seq
  apply wpS_region
  simp [wpOpsS, go_sem, recoverD, hu, Try.ntmps24, Exit.thenS]
  refine wpS_of_wp ?_
  have ht : (#[Value.pointer (some p), Value.pointer (some q)] ++ ((Array.replicate 7 undef).setIfInBounds 1 Value.nilIface).setIfInBounds 0 Value.nilIface) = #[.pointer (some p), .pointer (some q), .nilIface, .nilIface, undef, undef, undef, undef, undef] := rfl
  rw [ht]
  go_wp2
  cases c₀
  simp_all [bodyPostS, results, Try.results24]
/-- What was given up with is a fault. -/
theorem as_fault (v : Value) : ∀ W, (Instr.typeAssert (.iface 30 v) 20 30 false).run Try.prog W = .ok v W := by
  intro W
  simp [Instr.typeAssert, go_sem]
theorem drew_at {w : World} {N : Nat} {o : Obj} (h : w.heap[N]? = some o) : w.drew.heap[N]? = some o := h
theorem set23 {w : World} {N M base : Nat} {S T : TypeId} {o0 o1 v0 v1 p0 p1 p2 a b c : Value} (hN : w.heap[N]? = some (.cells #[o0, o1] S (0, 0))) (hM : w.heap[M]? = some (.cells #[p0, p1, p2] T (0, 0))) (hne : N ≠ M) (h1 : base ≤ N) (h2 : base ≤ M) {w' : World}
    (hw : w' = ((((w.setCell ⟨N, 0, none⟩ v0).setCell ⟨N, 1, none⟩ v1).setCell ⟨M, 0, none⟩ a).setCell ⟨M, 1, none⟩ b).setCell ⟨M, 2, none⟩ c) :
    w'.heap[N]? = some (.cells #[v0, v1] S (0, 0)) ∧ w'.heap[M]? = some (.cells #[a, b, c] T (0, 0)) ∧ Below base w w' ∧ ∀ k, k ≠ N → k ≠ M → w'.heap[k]? = w.heap[k]? := by
  subst hw
  have n1 : (w.setCell ⟨N, 0, none⟩ v0).heap[N]? = some (.cells #[v0, o1] S (0, 0)) := heap_setCell_at hN
  have n2 : ((w.setCell ⟨N, 0, none⟩ v0).setCell ⟨N, 1, none⟩ v1).heap[N]? = some (.cells #[v0, v1] S (0, 0)) := heap_setCell_at n1
  have m1 : ((w.setCell ⟨N, 0, none⟩ v0).setCell ⟨N, 1, none⟩ v1).heap[M]? = some (.cells #[p0, p1, p2] T (0, 0)) := by
    rw [Below.heap_setCell _ _ _ _ hne.symm, Below.heap_setCell _ _ _ _ hne.symm]
    exact hM
  have m2 : (((w.setCell ⟨N, 0, none⟩ v0).setCell ⟨N, 1, none⟩ v1).setCell ⟨M, 0, none⟩ a).heap[M]? = some (.cells #[a, p1, p2] T (0, 0)) := heap_setCell_at m1
  have m3 : ((((w.setCell ⟨N, 0, none⟩ v0).setCell ⟨N, 1, none⟩ v1).setCell ⟨M, 0, none⟩ a).setCell ⟨M, 1, none⟩ b).heap[M]? = some (.cells #[a, b, p2] T (0, 0)) := heap_setCell_at m2
  refine ⟨?_, heap_setCell_at m3, ?_, fun k k1 k2 => ?_⟩
  · rw [Below.heap_setCell _ _ _ _ hne, Below.heap_setCell _ _ _ _ hne, Below.heap_setCell _ _ _ _ hne]
    exact n2
  · exact set3b (((Below.refl base w).setCell (p := ⟨N, 0, none⟩) h1 _).setCell (p := ⟨N, 1, none⟩) h1 _) h2
  · rw [Below.heap_setCell _ _ _ _ k2, Below.heap_setCell _ _ _ _ k2, Below.heap_setCell _ _ _ _ k2, Below.heap_setCell _ _ _ _ k1, Below.heap_setCell _ _ _ _ k1]
set_option maxHeartbeats 1000000 in
theorem catch_panicking (N M base : Nat) (x t1 t2 : Int) (older : List PanicEntry) (w : World) (hN : w.heap[N]? = some (.cells #[.slice none 0 0, .slice none 0 0] 25 (0, 0))) (hM : w.heap[M]? = some (.cells #[.int .i64 0, .int .i64 0, .int .i64 0] 30 (0, 0))) (h1 : base ≤ N) (h2 : base ≤ M) :
    CallsD Try.prog 24 #[.pointer (some ⟨N, 0, none⟩), .pointer (some ⟨M, 0, none⟩)] (.panicking ({ v := .iface 30 (.agg #[.int .i64 x, .int .i64 t1, .int .i64 t2]), recovered := false } :: older)) w fun e u' w' =>
      e = .returned (.tuple #[]) ∧ u' = .panicking ({ v := .iface 30 (.agg #[.int .i64 x, .int .i64 t1, .int .i64 t2]), recovered := true } :: older) ∧ w'.heap[N]? = some (.cells #[.slice none 0 0, .slice none 0 0] 25 (0, 0)) ∧ w'.heap[M]? = some (.cells #[.int .i64 x, .int .i64 t1, .int .i64 t2] 30 (0, 0)) ∧ Below base w w' := by
  refine callsD_of_wpS Try.func24 rfl fun c₀ cs hu => ?_
  apply wpS_seq
  apply wpS_region
  simp [wpOpsS, go_sem, recoverD, hu, Try.ntmps24, Exit.thenS]
  refine wpS_of_wp ?_
  have ht : (#[Value.pointer (some ⟨N, 0, none⟩), Value.pointer (some ⟨M, 0, none⟩)] ++ ((Array.replicate 7 undef).setIfInBounds 1 (.iface 30 (.agg #[.int .i64 x, .int .i64 t1, .int .i64 t2]))).setIfInBounds 0 (.iface 30 (.agg #[.int .i64 x, .int .i64 t1, .int .i64 t2]))) = #[.pointer (some ⟨N, 0, none⟩), .pointer (some ⟨M, 0, none⟩), .iface 30 (.agg #[.int .i64 x, .int .i64 t1, .int .i64 t2]), .iface 30 (.agg #[.int .i64 x, .int .i64 t1, .int .i64 t2]), undef, undef, undef, undef, undef] := rfl
  rw [ht]
  obtain ⟨c1, f1, z1⟩ := cells_at hN
  obtain ⟨c2, f2, z2⟩ := cells_at hM
  have ta := as_fault
  have ne1 : N ≠ M := ne_ty hM hN (by decide)
  have ne2 : M ≠ N := fun e => ne1 e.symm
  go_wp2
  go_region_law (fail)
  all_goals
    obtain ⟨q1, q2, q3, -⟩ := set23 (v0 := .slice none 0 0) (v1 := .slice none 0 0) (a := .int .i64 x) (b := .int .i64 t1) (c := .int .i64 t2) hN hM ne1 h1 h2 rfl
    exact ⟨rfl, _, rfl, .tuple #[], by simp [results, Try.results24], rfl, rfl, drew_at q1, drew_at q2, q3.drew⟩
/-- What Decode answers. -/
def Dec (zs : List Int) (w w' : World) (r : Ending) : Prop :=
  (∃ x t, pAll zs = .inl (x, t) ∧ r = .returned (.tuple #[.agg #[.slice none 0 0, .slice none 0 0], .agg #[.int .i64 x, .int .i64 (t / 4096), .int .i64 (t % 4096)]])) ∨
  ∃ (ra : Option Addr) (rn rc : Nat) (R : List (Int × Int)) (pa : Option Addr) (pn pc : Nat) (P : List (List Pl)), pAll zs = .inr (R, P) ∧ R.length = rn ∧ P.length = pn ∧ r = .returned (.tuple #[.agg #[.slice ra rn rc, .slice pa pn pc], .agg #[.int .i64 0, .int .i64 0, .int .i64 0]]) ∧
    w'.ownsRow w.heap.size 44 2 (.slice ra rn rc) rn (R.flatMap scs) ∧ QOwn w' w.heap.size (.slice pa pn pc) P
set_option maxHeartbeats 4000000 in
set_option maxRecDepth 100000 in
theorem decode_any (a : Option Addr) (len cap : Nat) (zs : List Int) (w : World) (hr : Wr.Row w a len cap zs) (hs : len ≤ 140737488355328) :
    Calls Try.prog 15 #[.slice a len cap] w fun r w' => Dec zs w w' r ∧ Below w.heap.size w w' := by
  have hmf : ∀ (fn : Fn) (first cap : Array Value) (w : World), (Instr.makeFunc fn first cap).run Try.prog w = .ok (.func fn first cap) w := fun _ _ _ _ => rfl
  have s0 := ((St.start w).new (c := #[.slice none 0 0, .slice none 0 0]) (t := 25)).new (c := #[.int .i64 0, .int .i64 0, .int .i64 0]) (t := 30)
  simp only [World.size_alloc] at s0
  have S0 : Hid (St w _ _) := s0
  have HR : Hid (Wr.Row _ a len cap zs) := hr.below s0.below
  clear hr s0
  go_enter_defers Try.func15, Try.ntmps15
  go_wp2_with fail
  refine Calls.mono (readall_any a len cap zs _ HR.out hs) ?_
  rintro r w1 (⟨x, hx, rfl, b1⟩ | ⟨ra, rn, rc, R, pa, pn, pc, P, hx, hR, hP, rfl, oR, oP, b1⟩)
  · have S1 : Hid (St w w1 _) := S0.out.call b1
    unfold fpan
    clear hmf
    refine leaves_cons (f := 24) (args := #[.pointer (some ⟨w.heap.size, 0, none⟩), .pointer (some ⟨w.heap.size + 1, 0, none⟩)]) (by simp) (by simp [go_sem]) ?_
    refine (catch_panicking w.heap.size (w.heap.size + 1) w.heap.size x.1 (x.2 / 4096) (x.2 % 4096) [] _ S1.out.h2 S1.out.h1 (by omega) (by omega)).mono ?_
    rintro e u' w2 ⟨rfl, rfl, q1, q2, q3⟩
    obtain ⟨c1, f1, z1⟩ := cells_at q1
    obtain ⟨c2, f2, z2⟩ := cells_at q2
    simp [Leaves, settle, results, Try.results15, go_sem, c1, c2]
    exact ⟨.inl ⟨x.1, x.2, hx, rfl⟩, S1.out.below.trans q3⟩
  simp only [World.size_alloc] at oR oP
  have s1 := S0.out.call b1
  obtain ⟨c1, f1, z1, c2, f2, z2, -⟩ := s1.rules
  have S1 : Hid (St w w1 _) := s1
  obtain ⟨w3, hw3⟩ : ∃ w3, w3 = ((((w1.setCell ⟨w.heap.size, 0, none⟩ (.slice ra rn rc)).setCell ⟨w.heap.size, 1, none⟩ (.slice pa pn pc)).setCell ⟨w.heap.size + 1, 0, none⟩ (.int .i64 0)).setCell ⟨w.heap.size + 1, 1, none⟩ (.int .i64 0)).setCell ⟨w.heap.size + 1, 2, none⟩ (.int .i64 0) := ⟨_, rfl⟩
  have hne : w.heap.size ≠ w.heap.size + 1 := by omega
  obtain ⟨q1, q2, q3, q4⟩ := set23 s1.h2 s1.h1 hne (Nat.le_refl _) (Nat.le_succ _) hw3
  have hk : Wr.Kept [w.heap.size, w.heap.size + 1] w1 w3 := ⟨q3.os, q3.tape, q3.output, q3.size, fun k _ hk => q4 k (fun e => hk (by simp [e])) (fun e => hk (by simp [e]))⟩
  have QR : Hid (w3.ownsRow w.heap.size 44 2 (.slice ra rn rc) rn (R.flatMap scs)) := owns_base (owns_kept oR hk (by simp; omega)) (by omega)
  have QP : Hid (QOwn w3 w.heap.size (.slice pa pn pc) P) := qown_base (qown_kept oP hk (by simp; omega)) (by omega)
  have Q3 : Hid (Below w.heap.size w w3) := s1.below.trans q3
  have Q1 : Hid (w3.heap[w.heap.size]? = some (.cells #[.slice ra rn rc, .slice pa pn pc] 25 (0, 0))) := q1
  have Q2 : Hid (w3.heap[w.heap.size + 1]? = some (.cells #[.int .i64 0, .int .i64 0, .int .i64 0] 30 (0, 0))) := q2
  have HX : Hid (pAll zs = .inr (R, P) ∧ R.length = rn ∧ P.length = pn) := ⟨hx, hR, hP⟩
  clear q1 q2 q3 q4 hk oR oP hx hR hP s1 b1
  go_wp2
  rw [← hw3]
  clear hw3 c1 f1 z1 c2 f2 z2
  obtain ⟨c1, f1, z1⟩ := cells_at Q1.out
  obtain ⟨c2, f2, z2⟩ := cells_at Q2.out
  refine leaves_cons (f := 24) (args := #[.pointer (some ⟨w.heap.size, 0, none⟩), .pointer (some ⟨w.heap.size + 1, 0, none⟩)]) (by simp) (by simp [go_sem]) ?_
  refine (catch_idle _ _ _).mono ?_
  rintro e u' w5 ⟨rfl, rfl, hw5⟩
  obtain rfl := hw5.symm
  simp [Leaves, settle, results, Try.results15, go_sem, c1, c2]
  exact ⟨.inr ⟨ra, rn, rc, R, pa, pn, pc, P, HX.out.1, HX.out.2.1, HX.out.2.2, rfl, QR.out, QP.out⟩, Q3.out⟩
/-- The bytes of a certificate, decoded. -/
theorem dec_back {zs : List Int} {w w' : World} {r : Ending} {R : List (Int × Int)} {P : List (List Pl)} (hd : Dec zs w w' r) (hF : CeF (R, P)) (hz : zs = eAll (R, P)) :
    ∃ (ra : Option Addr) (rc : Nat) (pa : Option Addr) (pc : Nat), r = .returned (.tuple #[.agg #[.slice ra R.length rc, .slice pa P.length pc], .agg #[.int .i64 0, .int .i64 0, .int .i64 0]]) ∧ w'.ownsRow w.heap.size 44 2 (.slice ra R.length rc) R.length (R.flatMap scs) ∧ QOwn w' w.heap.size (.slice pa P.length pc) P := by
  have hp : pAll zs = .inr (R, P) := by rw [hz]; exact all_back hF
  rcases hd with ⟨x, t, h1, -⟩ | ⟨ra, rn, rc, R', pa, pn, pc, P', h1, rfl, rfl, hr, oR, oP⟩
  · rw [hp] at h1; cases h1
  · rw [hp] at h1
    simp only [Sum.inr.injEq, Prod.mk.injEq] at h1
    obtain ⟨rfl, rfl⟩ := h1
    exact ⟨ra, rc, pa, pc, hr, oR, oP⟩
end Go.Proofs.Ythlnhodfgmpabaa.Sl
