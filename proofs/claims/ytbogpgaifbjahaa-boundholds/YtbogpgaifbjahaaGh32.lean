/- The four hulls in plain numbers: what is known of them, how they lie in one another, wider spans. BoundNests. Numbers that spans hold: sums, blocks and products of a row's terms (for BoundHolds). The walk of BoundHolds: errors. -/
import Derived.Test.YtbogpgaifbjahaaGr28
import Derived.Test.YtbogpgaifbjahaaGr29
import Derived.Test.YtbogpgaifbjahaaGh31
/- The four hulls in plain numbers: what is known of them, how they lie in one another, wider spans. -/
namespace Go.Proofs.Ytbogpgaifbjahaa
open Go.ChangeShapes Go.WideShapes Go.ChangeAt Go.RowKit
set_option linter.unusedVariables false
theorem spR_t {slo shi : Int} (h : vbB slo shi = true) (r : Int × Int) : spR slo shi r = (r.1, r.2, 0) := if_pos h
theorem spR_f {slo shi : Int} (h : vbB slo shi = false) (r : Int × Int) : spR slo shi r = (0, 0, 30) := if_neg (by rw [h]; decide)
end Go.Proofs.Ytbogpgaifbjahaa

/- BoundNests. -/
namespace Go.Proofs.Ytbogpgaifbjahaa
open Go.ChangeShapes Go.WideShapes Go.ChangeAt Go.RowKit
set_option linter.unusedVariables false
end Go.Proofs.Ytbogpgaifbjahaa

/- Numbers that spans hold: sums, blocks and products of a row's terms (for BoundHolds). -/
namespace Go.Proofs.Ytbogpgaifbjahaa
open Go.ChangeShapes Go.WideShapes Go.ChangeAt Go.RowKit
set_option linter.unusedVariables false
def PIn (x : Int) (s : Int × Int) : Prop := s.1 ≤ x ∧ x ≤ s.2
theorem PIn.add {x y : Int} {s e : Int × Int} (h : PIn x s) (g : PIn y e) : PIn (x + y) (plS s e) := by unfold PIn plS at *; simp only; omega
theorem PIn.has {x a b : Int} {s : Int × Int} (h : PIn x s) (g : Inn s (a, b)) : xhas a b x = true := decide_eq_true (by unfold PIn Inn at *; simp only at g; omega)
theorem PIn.bd {x : Int} {s : Int × Int} {M : Int} (h : PIn x s) (g : Vd M s) : -M ≤ x ∧ x ≤ M := by unfold PIn Vd at *; omega
theorem tmE_pad {lo hi p : Int} {t : Int × Int} (h : t.2 < 0) : PIn (t.1 * p) (tmE lo hi p t) := by
  unfold PIn tmE; rw [if_pos h, Int.mul_comm]; exact ⟨Int.le_refl _, Int.le_refl _⟩
theorem tmE_val {lo hi p v : Int} {t : Int × Int} (h : ¬ t.2 < 0) (hv : lo ≤ v ∧ v ≤ hi) : PIn (t.1 * v) (tmE lo hi p t) := by
  unfold PIn tmE; rw [if_neg h]; unfold xti
  split
  · rename_i g
    have h1 := Int.mul_le_mul_of_nonneg_right hv.1 (show 0 ≤ -t.1 by omega)
    have h2 := Int.mul_le_mul_of_nonneg_right hv.2 (show 0 ≤ -t.1 by omega)
    rw [Int.mul_neg, Int.mul_neg] at h1 h2
    rw [Int.mul_comm t.1 v]
    simp only
    omega
  · rename_i g
    have h1 := Int.mul_le_mul_of_nonneg_right hv.1 (show 0 ≤ t.1 by omega)
    have h2 := Int.mul_le_mul_of_nonneg_right hv.2 (show 0 ≤ t.1 by omega)
    rw [Int.mul_comm t.1 v]
    exact ⟨h1, h2⟩
theorem run_at (bi : Int) (R : Nat → List (Int × Int)) (N j : Nat) (hj : j < N) {k : Nat} (hk : k ≤ (R j).length) : Inn (suS (bi, bi) ((R j).take k)) (hbR bi R N) := hul_has (mem_piT.2 ⟨j, hj, mem_ruL.2 ⟨k, hk, rfl⟩⟩)
theorem tot_at (bi : Int) (R : Nat → List (Int × Int)) (N j : Nat) (hj : j < N) : Inn (suS (bi, bi) (R j)) (hbT bi R N) := hul_has (mem_piT.2 ⟨j, hj, List.mem_singleton_self _⟩)
theorem getD_in {E : List (Int × Int)} {k : Nat} (hk : k < E.length) : E.getD k (0, 0) ∈ E := by
  rw [List.getD_eq_getElem?_getD, List.getElem?_eq_getElem hk]; exact List.getElem_mem _
theorem prd_at (R : Nat → List (Int × Int)) (N j : Nat) (hj : j < N) {k : Nat} (hk : k < (R j).length) : Inn ((R j).getD k (0, 0)) (hbP R N) := hul_has (mem_piT.2 ⟨j, hj, getD_in hk⟩)
theorem prt_at {d : Nat} (hd : 0 < d) (R : Nat → List (Int × Int)) (N j : Nat) (hj : j < N) {k : Nat} (hk : k < (R j).length) : Inn (psm d (R j) k) (hbD d R N) ∧ Inn ((R j).getD k (0, 0)) (hbD d R N) :=
  ⟨hul_has (mem_piT.2 ⟨j, hj, List.mem_append_left _ ((mem_paL hd).2 ⟨k, hk, rfl⟩)⟩), hul_has (mem_piT.2 ⟨j, hj, List.mem_append_right _ (getD_in hk)⟩)⟩
/-- The sum ahead of the j-th term within its block. -/
def psU (d : Nat) (E : List (Int × Int)) (j : Nat) : Int × Int := if j = 0 then (0, 0) else psm d E (j - 1)
theorem psU_succ (d : Nat) (E : List (Int × Int)) (j : Nat) : psU d E (j + 1) = psm d E j := by unfold psU; rw [if_neg (by omega)]; rfl
theorem psm_0 {d : Nat} {E : List (Int × Int)} {j : Nat} (hd : 0 < d) (hj : j < E.length) (h : j % d = 0) {e : Int × Int} (he : E.getD j (0, 0) = e) : psm d E j = plS (0, 0) e := by
  unfold psm
  have e1 : j / d * d = j := by have := Nat.div_add_mod j d; rw [h, Nat.mul_comm] at this; omega
  rw [e1, h, suS_take (0, 0) (d := (0, 0)) (e := e) (by rw [List.length_drop]; omega) (by rw [List.getD_eq_getElem?_getD, List.getElem?_drop, Nat.add_zero, ← List.getD_eq_getElem?_getD, he])]
  simp [suS]
theorem psm_on {d : Nat} {E : List (Int × Int)} {j : Nat} (hd : 0 < d) (hj : j < E.length) (h : j % d ≠ 0) {e : Int × Int} (he : E.getD j (0, 0) = e) : psm d E j = plS (psU d E j) e := by
  have h0 : j ≠ 0 := fun q => h (by rw [q]; exact Nat.zero_mod d)
  have hm := Nat.mod_lt j hd
  have hdm := Nat.div_add_mod j d
  have e1 : (j - 1) / d = j / d := by
    have : j - 1 = d * (j / d) + (j % d - 1) := by omega
    rw [this, Nat.mul_add_div hd, Nat.div_eq_of_lt (show j % d - 1 < d by omega), Nat.add_zero]
  have e2 : (j - 1) % d + 1 = j % d := by
    have : j - 1 = d * (j / d) + (j % d - 1) := by omega
    rw [this, Nat.mul_add_mod, Nat.mod_eq_of_lt (show j % d - 1 < d by omega)]
    omega
  unfold psU
  rw [if_neg h0]
  unfold psm
  rw [e1, e2]
  rw [Nat.mul_comm] at hdm
  exact suS_take (0, 0) (d := (0, 0)) (by rw [List.length_drop]; omega) (by rw [List.getD_eq_getElem?_getD, List.getElem?_drop, hdm, ← List.getD_eq_getElem?_getD, he])
theorem psU_vd {E : List (Int × Int)} {d : Nat} (hE : Rb E) (hl : E.length ≤ 512) (j : Nat) : Vd 10000000000 (psU d E j) := by
  unfold psU
  split
  · unfold Vd; simp
  · exact psm_vd hE hl
theorem xhas_t {a b x : Int} (h : xhas a b x = true) (w : World) : Calls Try.prog 13 #[.agg #[.int .i64 a, .int .i64 b], .int .i64 x] w fun e w' => e = .returned (.bool true) ∧ Below w.heap.size w w' := by
  have := xhas_any a b x w
  rwa [h] at this
def RulesM (w : World) : List (Nat × Array Value × TypeId) → Prop
  | [] => True
  | (B, c, _) :: l => (∀ (n : Wd w []) i, n.w.cell? ⟨B, i, none⟩ = c[i]?) ∧ (∀ (n : Wd w []), B < n.w.heap.size) ∧ RulesM w l
theorem rulesM_of {w : World} : ∀ (l : List (Nat × Array Value × TypeId)), (∀ x ∈ l, w.heap[x.1]? = some (.cells x.2.1 x.2.2 (0, 0))) → RulesM w l
  | [], _ => trivial
  | (B, c, t) :: l, h => by
    have h0 : w.heap[B]? = some (.cells c t (0, 0)) := h (B, c, t) List.mem_cons_self
    have h1 : ∀ n : Wd w [], n.w.heap[B]? = some (.cells c t (0, 0)) := fun n => by rw [n.h.below.block _ (lt_of_heap h0)]; exact h0
    exact ⟨fun n i => by simp [World.cell?, h1 n], fun n => lt_of_heap (h1 n), rulesM_of l fun x hx => h x (List.mem_cons_of_mem _ hx)⟩
theorem St.rulesM {w0 w : World} {l : List (Nat × Array Value × TypeId)} (h : St w0 w l) : RulesM w l := rulesM_of l fun x hx => (h.2 x hx).1
theorem wd_old {W w : World} {b : List (Nat × Array Value × TypeId)} (s : St W w b) {ad : Addr} {v : Value} (h : W.cell? ad = some v) : ∀ m : Wd W b, m.w.cell? ad = some v := fun m => (m.h.below.cell (World.block_lt_of_cell? W _ h)).trans h
end Go.Proofs.Ytbogpgaifbjahaa

/- The walk of BoundHolds: errors. -/
namespace Go.Proofs.Ytbogpgaifbjahaa
open Go.ChangeShapes Go.WideShapes Go.ChangeAt Go.RowKit
set_option linter.unusedVariables false
set_option maxHeartbeats 8000000 in
set_option maxRecDepth 100000 in
theorem holds13_e (h w c lo hi : Int) (oa : Option Addr) (on oc : Nat) (ot op ch slo shi dp at' : Int) (ad : Option Addr) (n cap : Nat) (W : World) (T1 T2 R1 R2 P1 P2 EH Q1 Q2 F : Int) (HO : Hid (∀ W', Below W.heap.size W W' → Calls Try.prog 7 #[.agg #[.int .i64 h, .int .i64 w, .int .i64 c, .int .i64 lo, .int .i64 hi, .slice oa on oc, .int .i64 ot], .int .i64 op, .int .i64 ch, .int .i64 at'] W' fun e w' => (∃ (va : Option Addr) (vn vc : Nat) (u E : Int), e = .returned (.tuple #[.slice va vn vc, .int .i64 u, .int .i64 E]) ∧ (E ≠ 0 ∨ F ≠ 0)) ∧ Below W'.heap.size W' w')) (HT : Hid (∀ W', Below W.heap.size W W' → Calls Try.prog 8 #[.agg #[.int .i64 h, .int .i64 w, .int .i64 c, .int .i64 lo, .int .i64 hi, .slice oa on oc, .int .i64 ot], .int .i64 op, .int .i64 ch, .agg #[.int .i64 slo, .int .i64 shi]] W' fun e w' => e = .returned (.tuple #[.agg #[.int .i64 T1, .int .i64 T2], .int .i64 F]) ∧ Below W'.heap.size W' w')) (HR : Hid (∀ W', Below W.heap.size W W' → Calls Try.prog 9 #[.agg #[.int .i64 h, .int .i64 w, .int .i64 c, .int .i64 lo, .int .i64 hi, .slice oa on oc, .int .i64 ot], .int .i64 op, .int .i64 ch, .agg #[.int .i64 slo, .int .i64 shi]] W' fun e w' => e = .returned (.tuple #[.agg #[.int .i64 R1, .int .i64 R2], .int .i64 F]) ∧ Below W'.heap.size W' w')) (HP : Hid (∀ W', Below W.heap.size W W' → Calls Try.prog 10 #[.agg #[.int .i64 h, .int .i64 w, .int .i64 c, .int .i64 lo, .int .i64 hi, .slice oa on oc, .int .i64 ot], .int .i64 op, .int .i64 ch, .agg #[.int .i64 slo, .int .i64 shi], .int .i64 dp] W' fun e w' => e = .returned (.tuple #[.agg #[.int .i64 P1, .int .i64 P2], .int .i64 EH]) ∧ Below W'.heap.size W' w')) (HQ : Hid (∀ W', Below W.heap.size W W' → Calls Try.prog 11 #[.agg #[.int .i64 h, .int .i64 w, .int .i64 c, .int .i64 lo, .int .i64 hi, .slice oa on oc, .int .i64 ot], .int .i64 op, .int .i64 ch, .agg #[.int .i64 slo, .int .i64 shi]] W' fun e w' => e = .returned (.tuple #[.agg #[.int .i64 Q1, .int .i64 Q2], .int .i64 F]) ∧ Below W'.heap.size W' w')) (hF : F ≠ 0 → EH = F ∧ T1 = 0 ∧ T2 = 0) :
    Calls Try.prog 3 #[.agg #[.int .i64 h, .int .i64 w, .int .i64 c, .int .i64 lo, .int .i64 hi, .slice oa on oc, .int .i64 ot, .int .i64 op, .int .i64 ch, .int .i64 slo, .int .i64 shi, .int .i64 dp, .int .i64 at', .slice ad n cap]] W fun e w' => e = .returned (.bool true) ∧ Below W.heap.size W w' := by
  have s0 := (St.start W).new (c := #[.int .i64 h, .int .i64 w, .int .i64 c, .int .i64 lo, .int .i64 hi, .slice oa on oc, .int .i64 ot, .int .i64 op, .int .i64 ch, .int .i64 slo, .int .i64 shi, .int .i64 dp, .int .i64 at', .slice ad n cap]) (t := 31)
  have q1 := beqS 28 rfl 0 0 0 0 true (by decide)
  go_enter Try.func3, Try.ntmps3
  go_wp2_with fail
  refine (fixed13_any _).mono ?_
  rintro e w1 ⟨rfl, hb⟩
  have s1 := s0.call hb
  clear hb s0
  obtain ⟨c1, f1, z1, -⟩ := s1.rules
  go_wp2_with fail
  refine Calls.mono (HO.out _ s1.below) ?_
  rintro e w2 ⟨⟨va, vn, vc, u, E, rfl, hEF⟩, hb⟩
  have s2 := s1.call hb
  clear hb s1 HO c1 f1 z1
  obtain ⟨c1, f1, z1, -⟩ := s2.rules
  go_wp2_with fail
  refine Calls.mono (HT.out _ s2.below) ?_
  rintro e w3 ⟨rfl, hb⟩
  have s3 := (s2.call hb).new (c := #[.int .i64 T1, .int .i64 T2]) (t := 28)
  clear hb s2 HT c1 f1 z1
  obtain ⟨c1, f1, z1, c2, f2, z2, -⟩ := s3.rules
  go_wp2_with fail
  refine Calls.mono (HR.out _ s3.below) ?_
  rintro e w4 ⟨rfl, hb⟩
  have s4 := (s3.call hb).new (c := #[.int .i64 R1, .int .i64 R2]) (t := 28)
  clear hb s3 HR c1 f1 z1 c2 f2 z2
  obtain ⟨c1, f1, z1, c2, f2, z2, c3, f3, z3, -⟩ := s4.rules
  go_wp2_with fail
  refine Calls.mono (HP.out _ s4.below) ?_
  rintro e w5 ⟨rfl, hb⟩
  have s5 := (s4.call hb).new (c := #[.int .i64 P1, .int .i64 P2]) (t := 28)
  clear hb s4 HP c1 f1 z1 c2 f2 z2 c3 f3 z3
  obtain ⟨c1, f1, z1, c2, f2, z2, c3, f3, z3, c4, f4, z4, -⟩ := s5.rules
  go_wp2_with fail
  refine Calls.mono (HQ.out _ s5.below) ?_
  rintro e w6 ⟨rfl, hb⟩
  have s6 := (s5.call hb).new (c := #[.int .i64 Q1, .int .i64 Q2]) (t := 28)
  clear hb s5 HQ c1 f1 z1 c2 f2 z2 c3 f3 z3 c4 f4 z4
  obtain ⟨c1, f1, z1, c2, f2, z2, c3, f3, z3, c4, f4, z4, c5, f5, z5, -⟩ := s6.rules
  by_cases h0 : F = 0
  · subst h0
    have hE2 : ¬ E = 0 := by simpa using hEF
    have hE : (E == 0) = false := by simp [hE2]
    clear hEF hF
    go_wp2
    go_ret
    exact ⟨rfl, s6.below⟩
  · obtain ⟨rfl, rfl, rfl⟩ := hF h0
    have hE : (EH == 0) = false := by simp [h0]
    clear hEF hF
    by_cases h1 : E = 0
    · subst h1
      go_wp2
      go_ret
      exact ⟨rfl, s6.below⟩
    · have hE1 : (E == 0) = false := by simp [h1]
      go_wp2
      go_ret
      exact ⟨rfl, s6.below⟩
end Go.Proofs.Ytbogpgaifbjahaa
