/- The walk of KernPlain where all is asked well. The walk of KernPlain where layer 11's tensors have a fault, or where no such op or no such list of plans is there. Plain numbers of LaneWhole: what registers come to, up to a multiple; where nothing wraps. Where nothing wraps an op over registers makes what it makes in whole numbers (plain). -/
import Derived.Test.YtehofmkpgopmpaaGp21
import Derived.Test.YtehofmkpgopmpaaGp26
import Derived.Test.YtehofmkpgopmpaaGp27
import Derived.Test.YtehofmkpgopmpaaGp29
import Derived.Deep.DeepCutAuto
/- The walk of KernPlain where all is asked well. -/
namespace Go.Proofs.Ytehofmkpgopmpaa.Kr
open Go.ChangeShapes Go.WideShapes Go.ChangeAt Go.RowKit
set_option linter.unusedVariables false
theorem wl1 {P : Program} {ops : Array Oper} {rest : List Oper} {o : Oper} {a : Act} {w : World} {Q : Exit → Act → World → Prop} (hg : o.guard = none) (dst : Option Tmp) (hdst : o.dst = dst)
    (v : Value) (w' : World) (hrun : (execOp a.eval o).run P w = .ok (.value v) w') (h : wpList P ops Q rest (a.put dst v) w') : wpList P ops Q (o :: rest) a w := by
  subst hdst
  refine wpList_plain hg fun K hK => ?_
  unfold Oper.wp
  rw [hrun, Oper.upon_value]
  exact hK _ _ h
set_option maxHeartbeats 8000000 in
set_option maxRecDepth 100000 in
theorem plain_w (h w c lo hi ot : Int) (x : Addr) (on oc : Nat) (ra : Option Addr) (rn rc : Nat) (y : Addr) (qn qc : Nat) (ad : Option Addr) (n cap : Nat) (i : Nat) (o : Nat → Int) (wa : Option Addr) (lw cw : Nat) (ba : Option Addr) (lb cb : Nat) (W : World)
    (hil : i < on) (hon : on ≤ 64) (hoc : on ≤ oc) (hom : oc ≤ 9223372036854775807) (hiq : i < qn) (hqc : qn ≤ qc) (hqm : qc ≤ 9223372036854775807)
    (hop : ∀ q v, [.int .i64 (o 0), .int .i64 (o 1), .int .i64 (o 2), .int .i64 (o 3), .int .i64 (o 4), .int .i64 (o 5), .int .i64 (o 6), .int .i64 (o 7), .int .i64 (o 8), .int .i64 (o 9), .int .i64 (o 10), .int .i64 (o 11), .slice wa lw cw, .slice ba lb cb, .int .i64 (o 14), .int .i64 (o 15), .int .i64 (o 16), .int .i64 (o 17), .int .i64 (o 18), .int .i64 (o 19), .int .i64 (o 20), .int .i64 (o 21)][q]? = some v → W.cell? ((x.add (i * 22)).add q) = some v) (pa : Option Addr) (pl pc : Nat) (hpl : W.cell? (y.add i) = some (.slice pa pl pc))
    (Ts : List (List Int)) (hTl : Ts.length = on + 1) (ja jb : Nat) (hja : o 1 = (ja : Int)) (hjb : o 2 = (jb : Int)) (hja2 : ja ≤ i) (hjb2 : jb ≤ i)
    (hT : ∀ (W' : World), Below W.heap.size W W' → Calls Try.prog 7 #[.agg #[.int .i64 h, .int .i64 w, .int .i64 c, .int .i64 lo, .int .i64 hi, .slice (some x) on oc, .int .i64 ot], .slice ad n cap] W' fun e w' => (∃ v, e = .returned (.tuple #[v, .agg #[.int .i64 0, .int .i64 0, .int .i64 0]]) ∧ LLs w' W'.heap.size v Ts) ∧ Below W'.heap.size W' w')
    (T : Tr) (L : List Int) (F1 F2 F3 : Int) (hF : F1 ≠ 0 → L = [] ∧ T = Tr.z ∧ F2 = (i : Int) + 1) (hG : F1 = 0 → 0 ≤ T.w ∧ (T.w = 0 → L = Ts.getD (i + 1) []))
    (hOp : ∀ (W' : World), Below W.heap.size W W' → ∀ (a1 a2 : Option Addr) (c1 c2 : Nat), IRow .i8 W' a1 (Ts.getD ja []).length c1 (Ts.getD ja []) → IRow .i8 W' a2 (Ts.getD jb []).length c2 (Ts.getD jb []) →
      Calls Try.prog 8 #[.agg #[.int .i64 h, .int .i64 w, .int .i64 c, .int .i64 lo, .int .i64 hi, .slice (some x) on oc, .int .i64 ot], .int .i64 ((i : Int) + 1), .slice pa pl pc, .slice a1 (Ts.getD ja []).length c1, .slice a2 (Ts.getD jb []).length c2] W' fun e w' => (∃ v, e = .returned (.tuple #[v, .agg T.cs, .agg #[.int .i64 F1, .int .i64 F2, .int .i64 F3]]) ∧ Own .i8 63 w' W'.heap.size v L) ∧ Below W'.heap.size W' w') :
    Calls Try.prog 3 #[.agg #[.int .i64 h, .int .i64 w, .int .i64 c, .int .i64 lo, .int .i64 hi, .slice (some x) on oc, .int .i64 ot, .slice ra rn rc, .slice (some y) qn qc, .slice ad n cap], .int .i64 ((i : Int) + 1)] W fun e w' => e = .returned (.bool true) ∧ Below W.heap.size W w' := by
  have HOP : Hid (∀ (W' : World), Below W.heap.size W W' → _) := hOp
  have HT : Hid (∀ (W' : World), Below W.heap.size W W' → _) := hT
  have HF : Hid (F1 ≠ 0 → L = [] ∧ T = Tr.z ∧ F2 = (i : Int) + 1) := hF
  have HG : Hid (F1 = 0 → 0 ≤ T.w ∧ (T.w = 0 → L = Ts.getD (i + 1) [])) := hG
  have HC : Hid (∀ q v, [.int .i64 (o 0), .int .i64 (o 1), .int .i64 (o 2), .int .i64 (o 3), .int .i64 (o 4), .int .i64 (o 5), .int .i64 (o 6), .int .i64 (o 7), .int .i64 (o 8), .int .i64 (o 9), .int .i64 (o 10), .int .i64 (o 11), .slice wa lw cw, .slice ba lb cb, .int .i64 (o 14), .int .i64 (o 15), .int .i64 (o 16), .int .i64 (o 17), .int .i64 (o 18), .int .i64 (o 19), .int .i64 (o 20), .int .i64 (o 21)][q]? = some v → W.cell? ((x.add (i * 22)).add q) = some v) := hop
  have HP : Hid (W.cell? (y.add i) = some (.slice pa pl pc)) := hpl
  have HTL : Hid (Ts.length = on + 1) := hTl
  have HJ : Hid (o 1 = (ja : Int) ∧ o 2 = (jb : Int)) := ⟨hja, hjb⟩
  have HFX : Hid (∀ W, _) := fixed_any
  have s0 := (St.start W).new (c := #[.int .i64 h, .int .i64 w, .int .i64 c, .int .i64 lo, .int .i64 hi, .slice (some x) on oc, .int .i64 ot, .slice ra rn rc, .slice (some y) qn qc, .slice ad n cap]) (t := 33)
  clear hOp hT hF hG hop hpl hTl hja hjb
  go_enter Try.func3, Try.ntmps3
  go_wp2_with fail
  refine (HFX.out _).mono ?_
  rintro e w1 ⟨rfl, hb⟩
  have s1 := s0.call hb
  clear hb s0 HFX
  obtain ⟨c1, f1, z1, -⟩ := s1.rules
  go_wp2_with fail
  refine (HT.out _ s1.below).mono ?_
  rintro e w2 ⟨⟨v, rfl, hl⟩, hb⟩
  have hr := hl.rd
  obtain ⟨ta, tc, rfl, -⟩ := id hr
  have s2 := (s1.call hb).new (c := #[.int .i64 0, .int .i64 0, .int .i64 0]) (t := 38)
  have hr2 := hr.below (bal w2 (.cells #[.int .i64 0, .int .i64 0, .int .i64 0] 38))
  rw [HTL.out] at hr2 ⊢
  clear hb hl hr HT c1 f1 z1 s1
  go_upto_region 4 with fail
  obtain ⟨B6, hB6⟩ : ∃ B, w2.heap.size = B := ⟨_, rfl⟩
  obtain ⟨w3, hw3⟩ : ∃ w3, w2.alloc (.cells #[.int .i64 0, .int .i64 0, .int .i64 0] 38) = w3 := ⟨_, rfl⟩
  rw [hw3] at hr2
  rw [hB6, hw3] at s2
  rw [hB6, hw3]
  have S3 : Hid (St W w3 ((B6, #[.int .i64 0, .int .i64 0, .int .i64 0], 38) :: [(W.heap.size, #[.int .i64 h, .int .i64 w, .int .i64 c, .int .i64 lo, .int .i64 hi, .slice (some x) on oc, .int .i64 ot, .slice ra rn rc, .slice (some y) qn qc, .slice ad n cap], 33)])) := s2
  have R3 : Hid (TRd w3 (.slice ta (on + 1) tc) Ts) := hr2
  clear hw3 hB6 s2 hr2
  obtain ⟨c1, f1, z1, c2, f2, z2, -⟩ := S3.out.rules
  have ht1 := R3.out.len.2.1
  have ht2 := R3.out.len.2.2
  unfold maxLen at ht2
  have HC3 : Hid (∀ q v, [.int .i64 (o 0), .int .i64 (o 1), .int .i64 (o 2), .int .i64 (o 3), .int .i64 (o 4), .int .i64 (o 5), .int .i64 (o 6), .int .i64 (o 7), .int .i64 (o 8), .int .i64 (o 9), .int .i64 (o 10), .int .i64 (o 11), .slice wa lw cw, .slice ba lb cb, .int .i64 (o 14), .int .i64 (o 15), .int .i64 (o 16), .int .i64 (o 17), .int .i64 (o 18), .int .i64 (o 19), .int .i64 (o 20), .int .i64 (o 21)][q]? = some v → w3.cell? ((x.add (i * 22)).add q) = some v) := fun q v hq => (S3.out.below.cell (World.block_lt_of_cell? W _ (HC.out q v hq))).trans (HC.out q v hq)
  obtain ⟨vo, hvo⟩ : ∃ vo, Value.agg #[.int .i64 (o 0), .int .i64 (o 1), .int .i64 (o 2), .int .i64 (o 3), .int .i64 (o 4), .int .i64 (o 5), .int .i64 (o 6), .int .i64 (o 7), .int .i64 (o 8), .int .i64 (o 9), .int .i64 (o 10), .int .i64 (o 11), .slice wa lw cw, .slice ba lb cb, .int .i64 (o 14), .int .i64 (o 15), .int .i64 (o 16), .int .i64 (o 17), .int .i64 (o 18), .int .i64 (o 19), .int .i64 (o 20), .int .i64 (o 21)] = vo := ⟨_, rfl⟩
  have HVO : Hid (Value.agg #[.int .i64 (o 0), .int .i64 (o 1), .int .i64 (o 2), .int .i64 (o 3), .int .i64 (o 4), .int .i64 (o 5), .int .i64 (o 6), .int .i64 (o 7), .int .i64 (o 8), .int .i64 (o 9), .int .i64 (o 10), .int .i64 (o 11), .slice wa lw cw, .slice ba lb cb, .int .i64 (o 14), .int .i64 (o 15), .int .i64 (o 16), .int .i64 (o 17), .int .i64 (o 18), .int .i64 (o 19), .int .i64 (o 20), .int .i64 (o 21)] = vo) := hvo
  have s5 := S3.out.new (c := #[.int .i64 (o 0), .int .i64 (o 1), .int .i64 (o 2), .int .i64 (o 3), .int .i64 (o 4), .int .i64 (o 5), .int .i64 (o 6), .int .i64 (o 7), .int .i64 (o 8), .int .i64 (o 9), .int .i64 (o 10), .int .i64 (o 11), .slice wa lw cw, .slice ba lb cb, .int .i64 (o 14), .int .i64 (o 15), .int .i64 (o 16), .int .i64 (o 17), .int .i64 (o 18), .int .i64 (o 19), .int .i64 (o 20), .int .i64 (o 21)]) (t := 48)
  have r5 := R3.out.below (bal w3 (.cells #[.int .i64 (o 0), .int .i64 (o 1), .int .i64 (o 2), .int .i64 (o 3), .int .i64 (o 4), .int .i64 (o 5), .int .i64 (o 6), .int .i64 (o 7), .int .i64 (o 8), .int .i64 (o 9), .int .i64 (o 10), .int .i64 (o 11), .slice wa lw cw, .slice ba lb cb, .int .i64 (o 14), .int .i64 (o 15), .int .i64 (o 16), .int .i64 (o 17), .int .i64 (o 18), .int .i64 (o 19), .int .i64 (o 20), .int .i64 (o 21)] 48))
  go_upto_region 7 with ((refine wpList_load_any rfl 48 (.tmp 72) rfl (x.add (i * 22)) rfl [.int .i64 (o 0), .int .i64 (o 1), .int .i64 (o 2), .int .i64 (o 3), .int .i64 (o 4), .int .i64 (o 5), .int .i64 (o 6), .int .i64 (o 7), .int .i64 (o 8), .int .i64 (o 9), .int .i64 (o 10), .int .i64 (o 11), .slice wa lw cw, .slice ba lb cb, .int .i64 (o 14), .int .i64 (o 15), .int .i64 (o 16), .int .i64 (o 17), .int .i64 (o 18), .int .i64 (o 19), .int .i64 (o 20), .int .i64 (o 21)] _ HC3.out Try.underlying48 rfl (by kernel_rfl) ?_; (show wpList _ _ _ _ (Act.put _ _ (Value.agg #[.int .i64 (o 0), .int .i64 (o 1), .int .i64 (o 2), .int .i64 (o 3), .int .i64 (o 4), .int .i64 (o 5), .int .i64 (o 6), .int .i64 (o 7), .int .i64 (o 8), .int .i64 (o 9), .int .i64 (o 10), .int .i64 (o 11), .slice wa lw cw, .slice ba lb cb, .int .i64 (o 14), .int .i64 (o 15), .int .i64 (o 16), .int .i64 (o 17), .int .i64 (o 18), .int .i64 (o 19), .int .i64 (o 20), .int .i64 (o 21)])) _); rw [hvo]; clear hvo; refine wl1 rfl (some 7) rfl (.pointer (some ⟨w3.heap.size, 0, none⟩)) (w3.alloc (.cells #[.int .i64 0, .int .i64 0, .int .i64 0, .int .i64 0, .int .i64 0, .int .i64 0, .int .i64 0, .int .i64 0, .int .i64 0, .int .i64 0, .int .i64 0, .int .i64 0, .slice none 0 0, .slice none 0 0, .int .i64 0, .int .i64 0, .int .i64 0, .int .i64 0, .int .i64 0, .int .i64 0, .int .i64 0, .int .i64 0] 48)) (by kernel_rfl) ?_; refine wpList_st_new rfl 48 (.tmp 7) (.tmp 73) rfl w3 #[.int .i64 0, .int .i64 0, .int .i64 0, .int .i64 0, .int .i64 0, .int .i64 0, .int .i64 0, .int .i64 0, .int .i64 0, .int .i64 0, .int .i64 0, .int .i64 0, .slice none 0 0, .slice none 0 0, .int .i64 0, .int .i64 0, .int .i64 0, .int .i64 0, .int .i64 0, .int .i64 0, .int .i64 0, .int .i64 0] #[.int .i64 (o 0), .int .i64 (o 1), .int .i64 (o 2), .int .i64 (o 3), .int .i64 (o 4), .int .i64 (o 5), .int .i64 (o 6), .int .i64 (o 7), .int .i64 (o 8), .int .i64 (o 9), .int .i64 (o 10), .int .i64 (o 11), .slice wa lw cw, .slice ba lb cb, .int .i64 (o 14), .int .i64 (o 15), .int .i64 (o 16), .int .i64 (o 17), .int .i64 (o 18), .int .i64 (o 19), .int .i64 (o 20), .int .i64 (o 21)] (by kernel_rfl) (Eq.trans (by kernel_rfl : _ = vo) HVO.out.symm) (by kernel_rfl) rfl (by simp [Value.oneCell']) ?_; (obtain ⟨w5, hw5⟩ : ∃ w5, w3.alloc (.cells #[.int .i64 (o 0), .int .i64 (o 1), .int .i64 (o 2), .int .i64 (o 3), .int .i64 (o 4), .int .i64 (o 5), .int .i64 (o 6), .int .i64 (o 7), .int .i64 (o 8), .int .i64 (o 9), .int .i64 (o 10), .int .i64 (o 11), .slice wa lw cw, .slice ba lb cb, .int .i64 (o 14), .int .i64 (o 15), .int .i64 (o 16), .int .i64 (o 17), .int .i64 (o 18), .int .i64 (o 19), .int .i64 (o 20), .int .i64 (o 21)] 48) = w5 := ⟨_, rfl⟩); rw [hw5] at s5 r5 ⊢; clear hw5))
  obtain ⟨B7, hB7⟩ : ∃ B, w3.heap.size = B := ⟨_, rfl⟩
  rw [hB7] at s5 ⊢
  have S5 : Hid (St W w5 ((B7, #[.int .i64 (o 0), .int .i64 (o 1), .int .i64 (o 2), .int .i64 (o 3), .int .i64 (o 4), .int .i64 (o 5), .int .i64 (o 6), .int .i64 (o 7), .int .i64 (o 8), .int .i64 (o 9), .int .i64 (o 10), .int .i64 (o 11), .slice wa lw cw, .slice ba lb cb, .int .i64 (o 14), .int .i64 (o 15), .int .i64 (o 16), .int .i64 (o 17), .int .i64 (o 18), .int .i64 (o 19), .int .i64 (o 20), .int .i64 (o 21)], 48) :: (B6, #[.int .i64 0, .int .i64 0, .int .i64 0], 38) :: [(W.heap.size, #[.int .i64 h, .int .i64 w, .int .i64 c, .int .i64 lo, .int .i64 hi, .slice (some x) on oc, .int .i64 ot, .slice ra rn rc, .slice (some y) qn qc, .slice ad n cap], 33)])) := s5
  obtain ⟨tg, a1, d1, rfl, t1, t2⟩ := r5.at (i := ja) (by omega)
  obtain ⟨tg', a2, d2, te, t3, t4⟩ := r5.at (i := jb) (by omega)
  simp only [Option.some.injEq, Addr.mk.injEq, and_true] at te
  subst te
  have RT : Hid (∀ w', Below w5.heap.size w5 w' → TRd w' (.slice (some ⟨tg, 0, none⟩) (on + 1) tc) Ts) := fun w' q => r5.below q
  have HC1 : Hid (∀ w', Below w5.heap.size w5 w' → w'.cell? ⟨tg, ja, none⟩ = some (.slice a1 (Ts.getD ja []).length d1)) := fun w' q => (q.cell (World.block_lt_of_cell? w5 _ t1)).trans t1
  have HC2 : Hid (∀ w', Below w5.heap.size w5 w' → w'.cell? ⟨tg, jb, none⟩ = some (.slice a2 (Ts.getD jb []).length d2)) := fun w' q => (q.cell (World.block_lt_of_cell? w5 _ t3)).trans t3
  have HR1 : Hid (∀ w', Below w5.heap.size w5 w' → IRow .i8 w' a1 (Ts.getD ja []).length d1 (Ts.getD ja []) ∧ IRow .i8 w' a2 (Ts.getD jb []).length d2 (Ts.getD jb []) ∧ Below W.heap.size W w') := fun w' q => ⟨t2.below q, t4.below q, (S5.out.call q).below⟩
  have HGB : Hid (∀ w', Below w5.heap.size w5 w' → w'.heap[W.heap.size]? = some (.cells #[.int .i64 h, .int .i64 w, .int .i64 c, .int .i64 lo, .int .i64 hi, .slice (some x) on oc, .int .i64 ot, .slice ra rn rc, .slice (some y) qn qc, .slice ad n cap] 33 (0, 0))) := fun w' q => (S5.out.call q).2 (W.heap.size, #[.int .i64 h, .int .i64 w, .int .i64 c, .int .i64 lo, .int .i64 hi, .slice (some x) on oc, .int .i64 ot, .slice ra rn rc, .slice (some y) qn qc, .slice ad n cap], 33) (by simp) |>.1
  have HG7 : Hid (∀ w', Below w5.heap.size w5 w' → w'.heap[B7]? = some (.cells #[.int .i64 (o 0), .int .i64 (o 1), .int .i64 (o 2), .int .i64 (o 3), .int .i64 (o 4), .int .i64 (o 5), .int .i64 (o 6), .int .i64 (o 7), .int .i64 (o 8), .int .i64 (o 9), .int .i64 (o 10), .int .i64 (o 11), .slice wa lw cw, .slice ba lb cb, .int .i64 (o 14), .int .i64 (o 15), .int .i64 (o 16), .int .i64 (o 17), .int .i64 (o 18), .int .i64 (o 19), .int .i64 (o 20), .int .i64 (o 21)] 48 (0, 0))) := fun w' q => (S5.out.call q).2 (B7, #[.int .i64 (o 0), .int .i64 (o 1), .int .i64 (o 2), .int .i64 (o 3), .int .i64 (o 4), .int .i64 (o 5), .int .i64 (o 6), .int .i64 (o 7), .int .i64 (o 8), .int .i64 (o 9), .int .i64 (o 10), .int .i64 (o 11), .slice wa lw cw, .slice ba lb cb, .int .i64 (o 14), .int .i64 (o 15), .int .i64 (o 16), .int .i64 (o 17), .int .i64 (o 18), .int .i64 (o 19), .int .i64 (o 20), .int .i64 (o 21)], 48) (by simp) |>.1
  have HPQ : Hid (∀ w', Below w5.heap.size w5 w' → w'.cell? (y.add i) = some (.slice pa pl pc)) := fun w' q => ((HR1.out w' q).2.2.cell (World.block_lt_of_cell? W _ HP.out)).trans HP.out
  clear s5 r5 t1 t2 t3 t4 hB7 S3 R3 HC3 c1 f1 z1 c2 f2 z2 HVO
  have HWR : Hid (IntKind.i64.wrap (i : Int) = (i : Int)) := by unfold Hid; rw [IntKind.wrap_i64]; omega
  go_simp
  go_cut [8, 9, 10] from 74 to 98 (fun sa sb sc wx => ∃ (p q : Nat) (v : Value), v = sa ∧ sb = .pointer (some ⟨p, 0, none⟩) ∧ sc = .pointer (some ⟨q, 0, none⟩) ∧ Below w5.heap.size w5 wx ∧ wx.heap[p]? = some (.cells T.cs 50 (0, 0)) ∧ wx.heap[q]? = some (.cells #[.int .i64 F1, .int .i64 F2, .int .i64 F3] 38 (0, 0)) ∧ Own .i8 63 wx w5.heap.size v L)
  case first =>
    refine regionC (fun w' => Below w5.heap.size w5 w') (by kernel_rfl) ?_
    obtain ⟨wd, hwd⟩ : ∃ wd, w5.drew = wd := ⟨_, rfl⟩
    have HD : Hid (Below w5.heap.size w5 wd) := by unfold Hid; rw [← hwd]; exact (Below.refl _ _).drew
    rw [hwd]
    clear hwd
    have K0 : Hid (∀ w', Below w5.heap.size w5 w' → ∀ q v, [.int .i64 h, .int .i64 w, .int .i64 c, .int .i64 lo, .int .i64 hi, .slice (some x) on oc, .int .i64 ot][q]? = some v → w'.cell? ((⟨W.heap.size, 0, none⟩ : Addr).add q) = some v) := fun w' hw' => lcells (HGB.out w' hw') (fun q v hq => by
        rcases q with _ | _ | _ | _ | _ | _ | _ | q <;> simp at hq <;> subst hq <;> rfl)
    refine takeC 0 (v := .pointer (some ⟨W.heap.size, 0, none⟩)) rfl rfl (by kernel_rfl) (by kernel_rfl) (by kernel_rfl) (fun _ _ _ h => h) (fun _ => rfl) rfl (fun w' hw' => by go_simp) ?_
    refine takeC 1 (v := .agg #[.int .i64 h, .int .i64 w, .int .i64 c, .int .i64 lo, .int .i64 hi, .slice (some x) on oc, .int .i64 ot]) rfl rfl (by kernel_rfl) (by kernel_rfl) (by kernel_rfl) (fun _ _ _ h => h) (fun _ => rfl) rfl (fun w' hw' => run_la 26 (.tmp 75) rfl ⟨W.heap.size, 0, none⟩ (by kernel_rfl) [.int .i64 h, .int .i64 w, .int .i64 c, .int .i64 lo, .int .i64 hi, .slice (some x) on oc, .int .i64 ot] _ (K0.out w' hw') Try.underlying26 rfl (by kernel_rfl)) ?_
    refine takeC 2 (v := .int .i64 ((i : Int) + 1)) rfl rfl (by kernel_rfl) (by kernel_rfl) (by kernel_rfl) (fun _ _ _ h => h) (fun _ => rfl) rfl (fun w' hw' => by go_simp) ?_
    refine takeC 3 (v := .pointer (some ⟨W.heap.size, 7, none⟩)) rfl rfl (by kernel_rfl) (by kernel_rfl) (by kernel_rfl) (fun _ _ _ h => h) (fun _ => rfl) rfl (fun w' hw' => by go_simp) ?_
    refine takeC 4 (v := .pointer (some ⟨W.heap.size, 8, none⟩)) rfl rfl (by kernel_rfl) (by kernel_rfl) (by kernel_rfl) (fun _ _ _ h => h) (fun _ => rfl) rfl (fun w' hw' => by go_simp) ?_
    refine takeC 5 (v := .slice (some y) qn qc) rfl rfl (by kernel_rfl) (by kernel_rfl) (by kernel_rfl) (fun _ _ _ h => h) (fun _ => rfl) rfl (fun w' hw' => by have hc := (cells_at (HGB.out w' hw')).1 8; go_simp) ?_
    refine takeC 6 (v := .int .i64 ((i : Int) + 1)) rfl rfl (by kernel_rfl) (by kernel_rfl) (by kernel_rfl) (fun _ _ _ h => h) (fun _ => rfl) rfl (fun w' hw' => by go_simp) ?_
    refine takeC 7 (v := .int .i64 (i : Int)) rfl rfl (by kernel_rfl) (by kernel_rfl) (by kernel_rfl) (fun _ _ _ h => h) (fun _ => rfl) rfl (fun w' hw' => by go_simp; exact HWR.out) ?_
    refine takeC 8 (v := .pointer (some (y.add i))) rfl rfl (by kernel_rfl) (by kernel_rfl) (by kernel_rfl) (fun _ _ _ h => h) (fun _ => rfl) rfl (fun w' hw' => by go_simp; try omega) ?_
    refine takeC 9 (v := .slice pa pl pc) rfl rfl (by kernel_rfl) (by kernel_rfl) (by kernel_rfl) (fun _ _ _ h => h) (fun _ => rfl) rfl (fun w' hw' => by have hc := HPQ.out w' hw'; go_simp) ?_
    refine takeC 10 (v := .slice (some ⟨tg, 0, none⟩) (on + 1) tc) rfl rfl (by kernel_rfl) (by kernel_rfl) (by kernel_rfl) (fun _ _ _ h => h) (fun _ => rfl) rfl (fun w' hw' => by go_simp) ?_
    refine takeC 11 (v := .pointer (some ⟨B7, 1, none⟩)) rfl rfl (by kernel_rfl) (by kernel_rfl) (by kernel_rfl) (fun _ _ _ h => h) (fun _ => rfl) rfl (fun w' hw' => by go_simp) ?_
    refine takeC 12 (v := .int .i64 (ja : Int)) rfl rfl (by kernel_rfl) (by kernel_rfl) (by kernel_rfl) (fun _ _ _ h => h) (fun _ => rfl) rfl (fun w' hw' => by have hc : w'.cell? ⟨B7, 1, none⟩ = some (.int .i64 (ja : Int)) := (by rw [(cells_at (HG7.out w' hw')).1, ← HJ.out.1]; rfl); go_simp) ?_
    refine takeC 13 (v := .pointer (some ⟨tg, ja, none⟩)) rfl rfl (by kernel_rfl) (by kernel_rfl) (by kernel_rfl) (fun _ _ _ h => h) (fun _ => rfl) rfl (fun w' hw' => by go_simp; try omega) ?_
    refine takeC 14 (v := .slice a1 (Ts.getD ja []).length d1) rfl rfl (by kernel_rfl) (by kernel_rfl) (by kernel_rfl) (fun _ _ _ h => h) (fun _ => rfl) rfl (fun w' hw' => by have hc := HC1.out w' hw'; go_simp) ?_
    refine takeC 15 (v := .slice (some ⟨tg, 0, none⟩) (on + 1) tc) rfl rfl (by kernel_rfl) (by kernel_rfl) (by kernel_rfl) (fun _ _ _ h => h) (fun _ => rfl) rfl (fun w' hw' => by go_simp) ?_
    refine takeC 16 (v := .pointer (some ⟨B7, 2, none⟩)) rfl rfl (by kernel_rfl) (by kernel_rfl) (by kernel_rfl) (fun _ _ _ h => h) (fun _ => rfl) rfl (fun w' hw' => by go_simp) ?_
    refine takeC 17 (v := .int .i64 (jb : Int)) rfl rfl (by kernel_rfl) (by kernel_rfl) (by kernel_rfl) (fun _ _ _ h => h) (fun _ => rfl) rfl (fun w' hw' => by have hc : w'.cell? ⟨B7, 2, none⟩ = some (.int .i64 (jb : Int)) := (by rw [(cells_at (HG7.out w' hw')).1, ← HJ.out.2]; rfl); go_simp) ?_
    refine takeC 18 (v := .pointer (some ⟨tg, jb, none⟩)) rfl rfl (by kernel_rfl) (by kernel_rfl) (by kernel_rfl) (fun _ _ _ h => h) (fun _ => rfl) rfl (fun w' hw' => by go_simp; try omega) ?_
    refine takeC 19 (v := .slice a2 (Ts.getD jb []).length d2) rfl rfl (by kernel_rfl) (by kernel_rfl) (by kernel_rfl) (fun _ _ _ h => h) (fun _ => rfl) rfl (fun w' hw' => by have hc := HC2.out w' hw'; go_simp) ?_
    refine threeC 20 25 26 HD.out (by kernel_rfl) ?_ ?_ ?_
    · refine opK rfl rfl 8 #[.agg #[.int .i64 h, .int .i64 w, .int .i64 c, .int .i64 lo, .int .i64 hi, .slice (some x) on oc, .int .i64 ot], .int .i64 ((i : Int) + 1), .slice pa pl pc, .slice a1 (Ts.getD ja []).length d1, .slice a2 (Ts.getD jb []).length d2] (by kernel_rfl) (HOP.out _ (HR1.out _ HD.out).2.2 a1 a2 d1 d2 (HR1.out _ HD.out).1 (HR1.out _ HD.out).2.1) ?_
      rintro e wz ⟨⟨vz, rfl, hoz⟩, hbz⟩
      have HB1 : Hid (Below w5.heap.size w5 wz) := btr HD.out hbz
      have O1 : Hid (Own .i8 63 wz w5.heap.size vz L) := hoz.base (HD.out.size)
      clear hoz hbz
      refine ⟨_, rfl, ?_⟩
      refine takeC 21 (v := .tuple #[vz, .agg T.cs, .agg #[.int .i64 F1, .int .i64 F2, .int .i64 F3]]) rfl rfl (by kernel_rfl) (by kernel_rfl) (by kernel_rfl) (fun _ _ _ h => h) (fun _ => rfl) rfl (fun w' hw' => by kernel_rfl) ?_
      refine takeC 22 (v := vz) rfl rfl (by kernel_rfl) (by kernel_rfl) (by kernel_rfl) (fun _ _ _ h => h) (fun _ => rfl) rfl (fun w' hw' => by kernel_rfl) ?_
      refine takeC 23 (v := .agg T.cs) rfl rfl (by kernel_rfl) (by kernel_rfl) (by kernel_rfl) (fun _ _ _ h => h) (fun _ => rfl) rfl (fun w' hw' => by kernel_rfl) ?_
      refine takeC 24 (v := .agg #[.int .i64 F1, .int .i64 F2, .int .i64 F3]) rfl rfl (by kernel_rfl) (by kernel_rfl) (by kernel_rfl) (fun _ _ _ h => h) (fun _ => rfl) rfl (fun w' hw' => by kernel_rfl) ?_
      refine twoC 25 26 HB1.out (by kernel_rfl) ?_ ?_
      · refine opR rfl rfl (.pointer (some ⟨(wz).heap.size, 0, none⟩)) ((wz).alloc (.cells Tr.z.cs 50)) (by kernel_rfl) ?_
        have HB2 : Hid (Below w5.heap.size w5 ((wz).alloc (.cells Tr.z.cs 50))) := btr HB1.out (bal _ _)
        have G62 : Hid (((wz).alloc (.cells Tr.z.cs 50)).heap[(wz).heap.size]? = some (.cells Tr.z.cs 50 (0, 0))) := heap_alloc_new _ _
        have O2 : Hid (Own .i8 63 ((wz).alloc (.cells Tr.z.cs 50)) w5.heap.size vz L) := O1.out.alloc _
        refine stepR 26 HB2.out (by kernel_rfl) rfl rfl (.pointer (some ⟨((wz).alloc (.cells Tr.z.cs 50)).heap.size, 0, none⟩)) (((wz).alloc (.cells Tr.z.cs 50)).alloc (.cells #[.int .i64 0, .int .i64 0, .int .i64 0] 38)) (by kernel_rfl) ?_
        have HB3 : Hid (Below w5.heap.size w5 (((wz).alloc (.cells Tr.z.cs 50)).alloc (.cells #[.int .i64 0, .int .i64 0, .int .i64 0] 38))) := btr HB2.out (bal _ _)
        have G73 : Hid ((((wz).alloc (.cells Tr.z.cs 50)).alloc (.cells #[.int .i64 0, .int .i64 0, .int .i64 0] 38)).heap[((wz).alloc (.cells Tr.z.cs 50)).heap.size]? = some (.cells #[.int .i64 0, .int .i64 0, .int .i64 0] 38 (0, 0))) := heap_alloc_new _ _
        have G63 : Hid ((((wz).alloc (.cells Tr.z.cs 50)).alloc (.cells #[.int .i64 0, .int .i64 0, .int .i64 0] 38)).heap[(wz).heap.size]? = some (.cells Tr.z.cs 50 (0, 0))) := ((bal _ _).block _ (lt_of_heap G62.out)).trans G62.out
        have O3 : Hid (Own .i8 63 (((wz).alloc (.cells Tr.z.cs 50)).alloc (.cells #[.int .i64 0, .int .i64 0, .int .i64 0] 38)) w5.heap.size vz L) := O2.out.alloc _
        have P6 : Hid (w5.heap.size ≤ (wz).heap.size) := HB1.out.size
        have P7 : Hid (w5.heap.size ≤ ((wz).alloc (.cells Tr.z.cs 50)).heap.size) := HB2.out.size
        have NE : Hid ((wz).heap.size ≠ ((wz).alloc (.cells Tr.z.cs 50)).heap.size) := ne_of_ty G63.out G73.out (by decide)
        refine stepR 27 HB3.out (by kernel_rfl) rfl rfl vz (((wz).alloc (.cells Tr.z.cs 50)).alloc (.cells #[.int .i64 0, .int .i64 0, .int .i64 0] 38)) (by kernel_rfl) ?_
        refine stepS 28 HB3.out (by kernel_rfl) rfl rfl 50 (.tmp 9) (.tmp 97) rfl ((wz).heap.size) T.cs (by kernel_rfl) (by kernel_rfl) 50 Tr.z.cs G63.out (by kernel_rfl) rfl (by kernel_rfl) ?_
        have HS1 : Hid (Below w5.heap.size w5 ((((wz).alloc (.cells Tr.z.cs 50)).alloc (.cells #[.int .i64 0, .int .i64 0, .int .i64 0] 38)).setRow ((wz).heap.size) T.cs)) := below_setRow HB3.out P6.out _
        have GS1 : Hid (((((wz).alloc (.cells Tr.z.cs 50)).alloc (.cells #[.int .i64 0, .int .i64 0, .int .i64 0] 38)).setRow ((wz).heap.size) T.cs).heap[((wz).alloc (.cells Tr.z.cs 50)).heap.size]? = some (.cells #[.int .i64 0, .int .i64 0, .int .i64 0] 38 (0, 0))) := (setRow_other _ _ _ _ (fun q => NE.out q.symm)).trans G73.out
        have GT1 : Hid (((((wz).alloc (.cells Tr.z.cs 50)).alloc (.cells #[.int .i64 0, .int .i64 0, .int .i64 0] 38)).setRow ((wz).heap.size) T.cs).heap[(wz).heap.size]? = some (.cells T.cs 50 (0, 0))) := setRow_heap _ _ _ _ _ _ G63.out
        have OS1 : Hid (Own .i8 63 ((((wz).alloc (.cells Tr.z.cs 50)).alloc (.cells #[.int .i64 0, .int .i64 0, .int .i64 0] 38)).setRow ((wz).heap.size) T.cs) w5.heap.size vz L) := Own.setRow O3.out G63.out (by decide) (by decide)
        refine stepS 29 HS1.out (by kernel_rfl) rfl rfl 38 (.tmp 10) (.tmp 98) rfl (((wz).alloc (.cells Tr.z.cs 50)).heap.size) #[.int .i64 F1, .int .i64 F2, .int .i64 F3] (by kernel_rfl) (by kernel_rfl) 38 #[.int .i64 0, .int .i64 0, .int .i64 0] GS1.out (by kernel_rfl) rfl (by simp [Value.oneCell']) ?_
        have HS2 : Hid (Below w5.heap.size w5 (((((wz).alloc (.cells Tr.z.cs 50)).alloc (.cells #[.int .i64 0, .int .i64 0, .int .i64 0] 38)).setRow ((wz).heap.size) T.cs).setRow (((wz).alloc (.cells Tr.z.cs 50)).heap.size) #[.int .i64 F1, .int .i64 F2, .int .i64 F3])) := below_setRow HS1.out P7.out _
        refine doneC HS2.out (by kernel_rfl) ?_ _
        refine (show ∀ a' w', Met _ a' w' → _ from by assumption) _ _ ?_
        refine Met.intro ?_
        go_step
        exact ⟨vz, .pointer (some ⟨(wz).heap.size, 0, none⟩), .pointer (some ⟨((wz).alloc (.cells Tr.z.cs 50)).heap.size, 0, none⟩), .tuple #[vz, .agg T.cs, .agg #[.int .i64 F1, .int .i64 F2, .int .i64 F3]], .pointer (some ⟨W.heap.size, 0, none⟩), .agg #[.int .i64 h, .int .i64 w, .int .i64 c, .int .i64 lo, .int .i64 hi, .slice (some x) on oc, .int .i64 ot], .int .i64 ((i : Int) + 1), .pointer (some ⟨W.heap.size, 7, none⟩), .pointer (some ⟨W.heap.size, 8, none⟩), .slice (some y) qn qc, .int .i64 ((i : Int) + 1), .int .i64 (i : Int), .pointer (some (y.add i)), .slice pa pl pc, .slice (some ⟨tg, 0, none⟩) (on + 1) tc, .pointer (some ⟨B7, 1, none⟩), .int .i64 (ja : Int), .pointer (some ⟨tg, ja, none⟩), .slice a1 (Ts.getD ja []).length d1, .slice (some ⟨tg, 0, none⟩) (on + 1) tc, .pointer (some ⟨B7, 2, none⟩), .int .i64 (jb : Int), .pointer (some ⟨tg, jb, none⟩), .slice a2 (Ts.getD jb []).length d2, .tuple #[vz, .agg T.cs, .agg #[.int .i64 F1, .int .i64 F2, .int .i64 F3]], vz, .agg T.cs, .agg #[.int .i64 F1, .int .i64 F2, .int .i64 F3], ⟨(wz).heap.size, ((wz).alloc (.cells Tr.z.cs 50)).heap.size, vz, rfl, rfl, rfl, HS2.out, (setRow_other _ _ _ _ NE.out).trans GT1.out, setRow_heap _ _ _ _ _ _ GS1.out, Own.setRow OS1.out GS1.out (by decide) (by decide)⟩, by kernel_rfl⟩
      · refine opR rfl rfl (.pointer (some ⟨(wz).heap.size, 0, none⟩)) ((wz).alloc (.cells #[.int .i64 0, .int .i64 0, .int .i64 0] 38)) (by kernel_rfl) ?_
        have HB4 : Hid (Below w5.heap.size w5 ((wz).alloc (.cells #[.int .i64 0, .int .i64 0, .int .i64 0] 38))) := btr HB1.out (bal _ _)
        have G74 : Hid (((wz).alloc (.cells #[.int .i64 0, .int .i64 0, .int .i64 0] 38)).heap[(wz).heap.size]? = some (.cells #[.int .i64 0, .int .i64 0, .int .i64 0] 38 (0, 0))) := heap_alloc_new _ _
        have O4 : Hid (Own .i8 63 ((wz).alloc (.cells #[.int .i64 0, .int .i64 0, .int .i64 0] 38)) w5.heap.size vz L) := O1.out.alloc _
        refine stepR 25 HB4.out (by kernel_rfl) rfl rfl (.pointer (some ⟨((wz).alloc (.cells #[.int .i64 0, .int .i64 0, .int .i64 0] 38)).heap.size, 0, none⟩)) (((wz).alloc (.cells #[.int .i64 0, .int .i64 0, .int .i64 0] 38)).alloc (.cells Tr.z.cs 50)) (by kernel_rfl) ?_
        have HB5 : Hid (Below w5.heap.size w5 (((wz).alloc (.cells #[.int .i64 0, .int .i64 0, .int .i64 0] 38)).alloc (.cells Tr.z.cs 50))) := btr HB4.out (bal _ _)
        have G65 : Hid ((((wz).alloc (.cells #[.int .i64 0, .int .i64 0, .int .i64 0] 38)).alloc (.cells Tr.z.cs 50)).heap[((wz).alloc (.cells #[.int .i64 0, .int .i64 0, .int .i64 0] 38)).heap.size]? = some (.cells Tr.z.cs 50 (0, 0))) := heap_alloc_new _ _
        have G75 : Hid ((((wz).alloc (.cells #[.int .i64 0, .int .i64 0, .int .i64 0] 38)).alloc (.cells Tr.z.cs 50)).heap[(wz).heap.size]? = some (.cells #[.int .i64 0, .int .i64 0, .int .i64 0] 38 (0, 0))) := ((bal _ _).block _ (lt_of_heap G74.out)).trans G74.out
        have O5 : Hid (Own .i8 63 (((wz).alloc (.cells #[.int .i64 0, .int .i64 0, .int .i64 0] 38)).alloc (.cells Tr.z.cs 50)) w5.heap.size vz L) := O4.out.alloc _
        have P6 : Hid (w5.heap.size ≤ ((wz).alloc (.cells #[.int .i64 0, .int .i64 0, .int .i64 0] 38)).heap.size) := HB4.out.size
        have P7 : Hid (w5.heap.size ≤ (wz).heap.size) := HB1.out.size
        have NE : Hid (((wz).alloc (.cells #[.int .i64 0, .int .i64 0, .int .i64 0] 38)).heap.size ≠ (wz).heap.size) := ne_of_ty G65.out G75.out (by decide)
        refine stepR 27 HB5.out (by kernel_rfl) rfl rfl vz (((wz).alloc (.cells #[.int .i64 0, .int .i64 0, .int .i64 0] 38)).alloc (.cells Tr.z.cs 50)) (by kernel_rfl) ?_
        refine stepS 28 HB5.out (by kernel_rfl) rfl rfl 50 (.tmp 9) (.tmp 97) rfl (((wz).alloc (.cells #[.int .i64 0, .int .i64 0, .int .i64 0] 38)).heap.size) T.cs (by kernel_rfl) (by kernel_rfl) 50 Tr.z.cs G65.out (by kernel_rfl) rfl (by kernel_rfl) ?_
        have HS1 : Hid (Below w5.heap.size w5 ((((wz).alloc (.cells #[.int .i64 0, .int .i64 0, .int .i64 0] 38)).alloc (.cells Tr.z.cs 50)).setRow (((wz).alloc (.cells #[.int .i64 0, .int .i64 0, .int .i64 0] 38)).heap.size) T.cs)) := below_setRow HB5.out P6.out _
        have GS1 : Hid (((((wz).alloc (.cells #[.int .i64 0, .int .i64 0, .int .i64 0] 38)).alloc (.cells Tr.z.cs 50)).setRow (((wz).alloc (.cells #[.int .i64 0, .int .i64 0, .int .i64 0] 38)).heap.size) T.cs).heap[(wz).heap.size]? = some (.cells #[.int .i64 0, .int .i64 0, .int .i64 0] 38 (0, 0))) := (setRow_other _ _ _ _ (fun q => NE.out q.symm)).trans G75.out
        have GT1 : Hid (((((wz).alloc (.cells #[.int .i64 0, .int .i64 0, .int .i64 0] 38)).alloc (.cells Tr.z.cs 50)).setRow (((wz).alloc (.cells #[.int .i64 0, .int .i64 0, .int .i64 0] 38)).heap.size) T.cs).heap[((wz).alloc (.cells #[.int .i64 0, .int .i64 0, .int .i64 0] 38)).heap.size]? = some (.cells T.cs 50 (0, 0))) := setRow_heap _ _ _ _ _ _ G65.out
        have OS1 : Hid (Own .i8 63 ((((wz).alloc (.cells #[.int .i64 0, .int .i64 0, .int .i64 0] 38)).alloc (.cells Tr.z.cs 50)).setRow (((wz).alloc (.cells #[.int .i64 0, .int .i64 0, .int .i64 0] 38)).heap.size) T.cs) w5.heap.size vz L) := Own.setRow O5.out G65.out (by decide) (by decide)
        refine stepS 29 HS1.out (by kernel_rfl) rfl rfl 38 (.tmp 10) (.tmp 98) rfl ((wz).heap.size) #[.int .i64 F1, .int .i64 F2, .int .i64 F3] (by kernel_rfl) (by kernel_rfl) 38 #[.int .i64 0, .int .i64 0, .int .i64 0] GS1.out (by kernel_rfl) rfl (by simp [Value.oneCell']) ?_
        have HS2 : Hid (Below w5.heap.size w5 (((((wz).alloc (.cells #[.int .i64 0, .int .i64 0, .int .i64 0] 38)).alloc (.cells Tr.z.cs 50)).setRow (((wz).alloc (.cells #[.int .i64 0, .int .i64 0, .int .i64 0] 38)).heap.size) T.cs).setRow ((wz).heap.size) #[.int .i64 F1, .int .i64 F2, .int .i64 F3])) := below_setRow HS1.out P7.out _
        refine doneC HS2.out (by kernel_rfl) ?_ _
        refine (show ∀ a' w', Met _ a' w' → _ from by assumption) _ _ ?_
        refine Met.intro ?_
        go_step
        exact ⟨vz, .pointer (some ⟨((wz).alloc (.cells #[.int .i64 0, .int .i64 0, .int .i64 0] 38)).heap.size, 0, none⟩), .pointer (some ⟨(wz).heap.size, 0, none⟩), .tuple #[vz, .agg T.cs, .agg #[.int .i64 F1, .int .i64 F2, .int .i64 F3]], .pointer (some ⟨W.heap.size, 0, none⟩), .agg #[.int .i64 h, .int .i64 w, .int .i64 c, .int .i64 lo, .int .i64 hi, .slice (some x) on oc, .int .i64 ot], .int .i64 ((i : Int) + 1), .pointer (some ⟨W.heap.size, 7, none⟩), .pointer (some ⟨W.heap.size, 8, none⟩), .slice (some y) qn qc, .int .i64 ((i : Int) + 1), .int .i64 (i : Int), .pointer (some (y.add i)), .slice pa pl pc, .slice (some ⟨tg, 0, none⟩) (on + 1) tc, .pointer (some ⟨B7, 1, none⟩), .int .i64 (ja : Int), .pointer (some ⟨tg, ja, none⟩), .slice a1 (Ts.getD ja []).length d1, .slice (some ⟨tg, 0, none⟩) (on + 1) tc, .pointer (some ⟨B7, 2, none⟩), .int .i64 (jb : Int), .pointer (some ⟨tg, jb, none⟩), .slice a2 (Ts.getD jb []).length d2, .tuple #[vz, .agg T.cs, .agg #[.int .i64 F1, .int .i64 F2, .int .i64 F3]], vz, .agg T.cs, .agg #[.int .i64 F1, .int .i64 F2, .int .i64 F3], ⟨((wz).alloc (.cells #[.int .i64 0, .int .i64 0, .int .i64 0] 38)).heap.size, (wz).heap.size, vz, rfl, rfl, rfl, HS2.out, (setRow_other _ _ _ _ NE.out).trans GT1.out, setRow_heap _ _ _ _ _ _ GS1.out, Own.setRow OS1.out GS1.out (by decide) (by decide)⟩, by kernel_rfl⟩
    · refine opR rfl rfl (.pointer (some ⟨(wd).heap.size, 0, none⟩)) ((wd).alloc (.cells Tr.z.cs 50)) (by kernel_rfl) ?_
      have HB6 : Hid (Below w5.heap.size w5 ((wd).alloc (.cells Tr.z.cs 50))) := btr HD.out (bal _ _)
      have G66 : Hid (((wd).alloc (.cells Tr.z.cs 50)).heap[(wd).heap.size]? = some (.cells Tr.z.cs 50 (0, 0))) := heap_alloc_new _ _
      refine twoC 20 26 HB6.out (by kernel_rfl) ?_ ?_
      · refine opK rfl rfl 8 #[.agg #[.int .i64 h, .int .i64 w, .int .i64 c, .int .i64 lo, .int .i64 hi, .slice (some x) on oc, .int .i64 ot], .int .i64 ((i : Int) + 1), .slice pa pl pc, .slice a1 (Ts.getD ja []).length d1, .slice a2 (Ts.getD jb []).length d2] (by kernel_rfl) (HOP.out _ (HR1.out _ HB6.out).2.2 a1 a2 d1 d2 (HR1.out _ HB6.out).1 (HR1.out _ HB6.out).2.1) ?_
        rintro e wz ⟨⟨vz, rfl, hoz⟩, hbz⟩
        have HB7 : Hid (Below w5.heap.size w5 wz) := btr HB6.out hbz
        have O7 : Hid (Own .i8 63 wz w5.heap.size vz L) := hoz.base (HB6.out.size)
        have G67 : Hid (wz.heap[(wd).heap.size]? = some (.cells Tr.z.cs 50 (0, 0))) := (hbz.block _ (lt_of_heap G66.out)).trans G66.out
        clear hoz hbz
        refine ⟨_, rfl, ?_⟩
        refine takeC 21 (v := .tuple #[vz, .agg T.cs, .agg #[.int .i64 F1, .int .i64 F2, .int .i64 F3]]) rfl rfl (by kernel_rfl) (by kernel_rfl) (by kernel_rfl) (fun _ _ _ h => h) (fun _ => rfl) rfl (fun w' hw' => by kernel_rfl) ?_
        refine takeC 22 (v := vz) rfl rfl (by kernel_rfl) (by kernel_rfl) (by kernel_rfl) (fun _ _ _ h => h) (fun _ => rfl) rfl (fun w' hw' => by kernel_rfl) ?_
        refine takeC 23 (v := .agg T.cs) rfl rfl (by kernel_rfl) (by kernel_rfl) (by kernel_rfl) (fun _ _ _ h => h) (fun _ => rfl) rfl (fun w' hw' => by kernel_rfl) ?_
        refine takeC 24 (v := .agg #[.int .i64 F1, .int .i64 F2, .int .i64 F3]) rfl rfl (by kernel_rfl) (by kernel_rfl) (by kernel_rfl) (fun _ _ _ h => h) (fun _ => rfl) rfl (fun w' hw' => by kernel_rfl) ?_
        refine stepR 26 HB7.out (by kernel_rfl) rfl rfl (.pointer (some ⟨(wz).heap.size, 0, none⟩)) ((wz).alloc (.cells #[.int .i64 0, .int .i64 0, .int .i64 0] 38)) (by kernel_rfl) ?_
        have HB8 : Hid (Below w5.heap.size w5 ((wz).alloc (.cells #[.int .i64 0, .int .i64 0, .int .i64 0] 38))) := btr HB7.out (bal _ _)
        have G78 : Hid (((wz).alloc (.cells #[.int .i64 0, .int .i64 0, .int .i64 0] 38)).heap[(wz).heap.size]? = some (.cells #[.int .i64 0, .int .i64 0, .int .i64 0] 38 (0, 0))) := heap_alloc_new _ _
        have G68 : Hid (((wz).alloc (.cells #[.int .i64 0, .int .i64 0, .int .i64 0] 38)).heap[(wd).heap.size]? = some (.cells Tr.z.cs 50 (0, 0))) := ((bal _ _).block _ (lt_of_heap G67.out)).trans G67.out
        have O8 : Hid (Own .i8 63 ((wz).alloc (.cells #[.int .i64 0, .int .i64 0, .int .i64 0] 38)) w5.heap.size vz L) := O7.out.alloc _
        have P6 : Hid (w5.heap.size ≤ (wd).heap.size) := HD.out.size
        have P7 : Hid (w5.heap.size ≤ (wz).heap.size) := HB7.out.size
        have NE : Hid ((wd).heap.size ≠ (wz).heap.size) := ne_of_ty G68.out G78.out (by decide)
        refine stepR 27 HB8.out (by kernel_rfl) rfl rfl vz ((wz).alloc (.cells #[.int .i64 0, .int .i64 0, .int .i64 0] 38)) (by kernel_rfl) ?_
        refine stepS 28 HB8.out (by kernel_rfl) rfl rfl 50 (.tmp 9) (.tmp 97) rfl ((wd).heap.size) T.cs (by kernel_rfl) (by kernel_rfl) 50 Tr.z.cs G68.out (by kernel_rfl) rfl (by kernel_rfl) ?_
        have HS1 : Hid (Below w5.heap.size w5 (((wz).alloc (.cells #[.int .i64 0, .int .i64 0, .int .i64 0] 38)).setRow ((wd).heap.size) T.cs)) := below_setRow HB8.out P6.out _
        have GS1 : Hid ((((wz).alloc (.cells #[.int .i64 0, .int .i64 0, .int .i64 0] 38)).setRow ((wd).heap.size) T.cs).heap[(wz).heap.size]? = some (.cells #[.int .i64 0, .int .i64 0, .int .i64 0] 38 (0, 0))) := (setRow_other _ _ _ _ (fun q => NE.out q.symm)).trans G78.out
        have GT1 : Hid ((((wz).alloc (.cells #[.int .i64 0, .int .i64 0, .int .i64 0] 38)).setRow ((wd).heap.size) T.cs).heap[(wd).heap.size]? = some (.cells T.cs 50 (0, 0))) := setRow_heap _ _ _ _ _ _ G68.out
        have OS1 : Hid (Own .i8 63 (((wz).alloc (.cells #[.int .i64 0, .int .i64 0, .int .i64 0] 38)).setRow ((wd).heap.size) T.cs) w5.heap.size vz L) := Own.setRow O8.out G68.out (by decide) (by decide)
        refine stepS 29 HS1.out (by kernel_rfl) rfl rfl 38 (.tmp 10) (.tmp 98) rfl ((wz).heap.size) #[.int .i64 F1, .int .i64 F2, .int .i64 F3] (by kernel_rfl) (by kernel_rfl) 38 #[.int .i64 0, .int .i64 0, .int .i64 0] GS1.out (by kernel_rfl) rfl (by simp [Value.oneCell']) ?_
        have HS2 : Hid (Below w5.heap.size w5 ((((wz).alloc (.cells #[.int .i64 0, .int .i64 0, .int .i64 0] 38)).setRow ((wd).heap.size) T.cs).setRow ((wz).heap.size) #[.int .i64 F1, .int .i64 F2, .int .i64 F3])) := below_setRow HS1.out P7.out _
        refine doneC HS2.out (by kernel_rfl) ?_ _
        refine (show ∀ a' w', Met _ a' w' → _ from by assumption) _ _ ?_
        refine Met.intro ?_
        go_step
        exact ⟨vz, .pointer (some ⟨(wd).heap.size, 0, none⟩), .pointer (some ⟨(wz).heap.size, 0, none⟩), .tuple #[vz, .agg T.cs, .agg #[.int .i64 F1, .int .i64 F2, .int .i64 F3]], .pointer (some ⟨W.heap.size, 0, none⟩), .agg #[.int .i64 h, .int .i64 w, .int .i64 c, .int .i64 lo, .int .i64 hi, .slice (some x) on oc, .int .i64 ot], .int .i64 ((i : Int) + 1), .pointer (some ⟨W.heap.size, 7, none⟩), .pointer (some ⟨W.heap.size, 8, none⟩), .slice (some y) qn qc, .int .i64 ((i : Int) + 1), .int .i64 (i : Int), .pointer (some (y.add i)), .slice pa pl pc, .slice (some ⟨tg, 0, none⟩) (on + 1) tc, .pointer (some ⟨B7, 1, none⟩), .int .i64 (ja : Int), .pointer (some ⟨tg, ja, none⟩), .slice a1 (Ts.getD ja []).length d1, .slice (some ⟨tg, 0, none⟩) (on + 1) tc, .pointer (some ⟨B7, 2, none⟩), .int .i64 (jb : Int), .pointer (some ⟨tg, jb, none⟩), .slice a2 (Ts.getD jb []).length d2, .tuple #[vz, .agg T.cs, .agg #[.int .i64 F1, .int .i64 F2, .int .i64 F3]], vz, .agg T.cs, .agg #[.int .i64 F1, .int .i64 F2, .int .i64 F3], ⟨(wd).heap.size, (wz).heap.size, vz, rfl, rfl, rfl, HS2.out, (setRow_other _ _ _ _ NE.out).trans GT1.out, setRow_heap _ _ _ _ _ _ GS1.out, Own.setRow OS1.out GS1.out (by decide) (by decide)⟩, by kernel_rfl⟩
      · refine opR rfl rfl (.pointer (some ⟨((wd).alloc (.cells Tr.z.cs 50)).heap.size, 0, none⟩)) (((wd).alloc (.cells Tr.z.cs 50)).alloc (.cells #[.int .i64 0, .int .i64 0, .int .i64 0] 38)) (by kernel_rfl) ?_
        have HB9 : Hid (Below w5.heap.size w5 (((wd).alloc (.cells Tr.z.cs 50)).alloc (.cells #[.int .i64 0, .int .i64 0, .int .i64 0] 38))) := btr HB6.out (bal _ _)
        have G79 : Hid ((((wd).alloc (.cells Tr.z.cs 50)).alloc (.cells #[.int .i64 0, .int .i64 0, .int .i64 0] 38)).heap[((wd).alloc (.cells Tr.z.cs 50)).heap.size]? = some (.cells #[.int .i64 0, .int .i64 0, .int .i64 0] 38 (0, 0))) := heap_alloc_new _ _
        have G69 : Hid ((((wd).alloc (.cells Tr.z.cs 50)).alloc (.cells #[.int .i64 0, .int .i64 0, .int .i64 0] 38)).heap[(wd).heap.size]? = some (.cells Tr.z.cs 50 (0, 0))) := ((bal _ _).block _ (lt_of_heap G66.out)).trans G66.out
        refine stepK 20 HB9.out (by kernel_rfl) rfl rfl 8 #[.agg #[.int .i64 h, .int .i64 w, .int .i64 c, .int .i64 lo, .int .i64 hi, .slice (some x) on oc, .int .i64 ot], .int .i64 ((i : Int) + 1), .slice pa pl pc, .slice a1 (Ts.getD ja []).length d1, .slice a2 (Ts.getD jb []).length d2] (by kernel_rfl) (HOP.out _ (HR1.out _ HB9.out).2.2 a1 a2 d1 d2 (HR1.out _ HB9.out).1 (HR1.out _ HB9.out).2.1) ?_
        rintro e wz ⟨⟨vz, rfl, hoz⟩, hbz⟩
        have HB10 : Hid (Below w5.heap.size w5 wz) := btr HB9.out hbz
        have O10 : Hid (Own .i8 63 wz w5.heap.size vz L) := hoz.base (HB9.out.size)
        have G610 : Hid (wz.heap[(wd).heap.size]? = some (.cells Tr.z.cs 50 (0, 0))) := (hbz.block _ (lt_of_heap G69.out)).trans G69.out
        have G710 : Hid (wz.heap[((wd).alloc (.cells Tr.z.cs 50)).heap.size]? = some (.cells #[.int .i64 0, .int .i64 0, .int .i64 0] 38 (0, 0))) := (hbz.block _ (lt_of_heap G79.out)).trans G79.out
        clear hoz hbz
        refine ⟨_, rfl, ?_⟩
        refine takeC 21 (v := .tuple #[vz, .agg T.cs, .agg #[.int .i64 F1, .int .i64 F2, .int .i64 F3]]) rfl rfl (by kernel_rfl) (by kernel_rfl) (by kernel_rfl) (fun _ _ _ h => h) (fun _ => rfl) rfl (fun w' hw' => by kernel_rfl) ?_
        refine takeC 22 (v := vz) rfl rfl (by kernel_rfl) (by kernel_rfl) (by kernel_rfl) (fun _ _ _ h => h) (fun _ => rfl) rfl (fun w' hw' => by kernel_rfl) ?_
        refine takeC 23 (v := .agg T.cs) rfl rfl (by kernel_rfl) (by kernel_rfl) (by kernel_rfl) (fun _ _ _ h => h) (fun _ => rfl) rfl (fun w' hw' => by kernel_rfl) ?_
        refine takeC 24 (v := .agg #[.int .i64 F1, .int .i64 F2, .int .i64 F3]) rfl rfl (by kernel_rfl) (by kernel_rfl) (by kernel_rfl) (fun _ _ _ h => h) (fun _ => rfl) rfl (fun w' hw' => by kernel_rfl) ?_
        have P6 : Hid (w5.heap.size ≤ (wd).heap.size) := HD.out.size
        have P7 : Hid (w5.heap.size ≤ ((wd).alloc (.cells Tr.z.cs 50)).heap.size) := HB6.out.size
        have NE : Hid ((wd).heap.size ≠ ((wd).alloc (.cells Tr.z.cs 50)).heap.size) := ne_of_ty G610.out G710.out (by decide)
        refine stepR 27 HB10.out (by kernel_rfl) rfl rfl vz (wz) (by kernel_rfl) ?_
        refine stepS 28 HB10.out (by kernel_rfl) rfl rfl 50 (.tmp 9) (.tmp 97) rfl ((wd).heap.size) T.cs (by kernel_rfl) (by kernel_rfl) 50 Tr.z.cs G610.out (by kernel_rfl) rfl (by kernel_rfl) ?_
        have HS1 : Hid (Below w5.heap.size w5 ((wz).setRow ((wd).heap.size) T.cs)) := below_setRow HB10.out P6.out _
        have GS1 : Hid (((wz).setRow ((wd).heap.size) T.cs).heap[((wd).alloc (.cells Tr.z.cs 50)).heap.size]? = some (.cells #[.int .i64 0, .int .i64 0, .int .i64 0] 38 (0, 0))) := (setRow_other _ _ _ _ (fun q => NE.out q.symm)).trans G710.out
        have GT1 : Hid (((wz).setRow ((wd).heap.size) T.cs).heap[(wd).heap.size]? = some (.cells T.cs 50 (0, 0))) := setRow_heap _ _ _ _ _ _ G610.out
        have OS1 : Hid (Own .i8 63 ((wz).setRow ((wd).heap.size) T.cs) w5.heap.size vz L) := Own.setRow O10.out G610.out (by decide) (by decide)
        refine stepS 29 HS1.out (by kernel_rfl) rfl rfl 38 (.tmp 10) (.tmp 98) rfl (((wd).alloc (.cells Tr.z.cs 50)).heap.size) #[.int .i64 F1, .int .i64 F2, .int .i64 F3] (by kernel_rfl) (by kernel_rfl) 38 #[.int .i64 0, .int .i64 0, .int .i64 0] GS1.out (by kernel_rfl) rfl (by simp [Value.oneCell']) ?_
        have HS2 : Hid (Below w5.heap.size w5 (((wz).setRow ((wd).heap.size) T.cs).setRow (((wd).alloc (.cells Tr.z.cs 50)).heap.size) #[.int .i64 F1, .int .i64 F2, .int .i64 F3])) := below_setRow HS1.out P7.out _
        refine doneC HS2.out (by kernel_rfl) ?_ _
        refine (show ∀ a' w', Met _ a' w' → _ from by assumption) _ _ ?_
        refine Met.intro ?_
        go_step
        exact ⟨vz, .pointer (some ⟨(wd).heap.size, 0, none⟩), .pointer (some ⟨((wd).alloc (.cells Tr.z.cs 50)).heap.size, 0, none⟩), .tuple #[vz, .agg T.cs, .agg #[.int .i64 F1, .int .i64 F2, .int .i64 F3]], .pointer (some ⟨W.heap.size, 0, none⟩), .agg #[.int .i64 h, .int .i64 w, .int .i64 c, .int .i64 lo, .int .i64 hi, .slice (some x) on oc, .int .i64 ot], .int .i64 ((i : Int) + 1), .pointer (some ⟨W.heap.size, 7, none⟩), .pointer (some ⟨W.heap.size, 8, none⟩), .slice (some y) qn qc, .int .i64 ((i : Int) + 1), .int .i64 (i : Int), .pointer (some (y.add i)), .slice pa pl pc, .slice (some ⟨tg, 0, none⟩) (on + 1) tc, .pointer (some ⟨B7, 1, none⟩), .int .i64 (ja : Int), .pointer (some ⟨tg, ja, none⟩), .slice a1 (Ts.getD ja []).length d1, .slice (some ⟨tg, 0, none⟩) (on + 1) tc, .pointer (some ⟨B7, 2, none⟩), .int .i64 (jb : Int), .pointer (some ⟨tg, jb, none⟩), .slice a2 (Ts.getD jb []).length d2, .tuple #[vz, .agg T.cs, .agg #[.int .i64 F1, .int .i64 F2, .int .i64 F3]], vz, .agg T.cs, .agg #[.int .i64 F1, .int .i64 F2, .int .i64 F3], ⟨(wd).heap.size, ((wd).alloc (.cells Tr.z.cs 50)).heap.size, vz, rfl, rfl, rfl, HS2.out, (setRow_other _ _ _ _ NE.out).trans GT1.out, setRow_heap _ _ _ _ _ _ GS1.out, Own.setRow OS1.out GS1.out (by decide) (by decide)⟩, by kernel_rfl⟩
    · refine opR rfl rfl (.pointer (some ⟨(wd).heap.size, 0, none⟩)) ((wd).alloc (.cells #[.int .i64 0, .int .i64 0, .int .i64 0] 38)) (by kernel_rfl) ?_
      have HB11 : Hid (Below w5.heap.size w5 ((wd).alloc (.cells #[.int .i64 0, .int .i64 0, .int .i64 0] 38))) := btr HD.out (bal _ _)
      have G711 : Hid (((wd).alloc (.cells #[.int .i64 0, .int .i64 0, .int .i64 0] 38)).heap[(wd).heap.size]? = some (.cells #[.int .i64 0, .int .i64 0, .int .i64 0] 38 (0, 0))) := heap_alloc_new _ _
      refine twoC 20 25 HB11.out (by kernel_rfl) ?_ ?_
      · refine opK rfl rfl 8 #[.agg #[.int .i64 h, .int .i64 w, .int .i64 c, .int .i64 lo, .int .i64 hi, .slice (some x) on oc, .int .i64 ot], .int .i64 ((i : Int) + 1), .slice pa pl pc, .slice a1 (Ts.getD ja []).length d1, .slice a2 (Ts.getD jb []).length d2] (by kernel_rfl) (HOP.out _ (HR1.out _ HB11.out).2.2 a1 a2 d1 d2 (HR1.out _ HB11.out).1 (HR1.out _ HB11.out).2.1) ?_
        rintro e wz ⟨⟨vz, rfl, hoz⟩, hbz⟩
        have HB12 : Hid (Below w5.heap.size w5 wz) := btr HB11.out hbz
        have O12 : Hid (Own .i8 63 wz w5.heap.size vz L) := hoz.base (HB11.out.size)
        have G712 : Hid (wz.heap[(wd).heap.size]? = some (.cells #[.int .i64 0, .int .i64 0, .int .i64 0] 38 (0, 0))) := (hbz.block _ (lt_of_heap G711.out)).trans G711.out
        clear hoz hbz
        refine ⟨_, rfl, ?_⟩
        refine takeC 21 (v := .tuple #[vz, .agg T.cs, .agg #[.int .i64 F1, .int .i64 F2, .int .i64 F3]]) rfl rfl (by kernel_rfl) (by kernel_rfl) (by kernel_rfl) (fun _ _ _ h => h) (fun _ => rfl) rfl (fun w' hw' => by kernel_rfl) ?_
        refine takeC 22 (v := vz) rfl rfl (by kernel_rfl) (by kernel_rfl) (by kernel_rfl) (fun _ _ _ h => h) (fun _ => rfl) rfl (fun w' hw' => by kernel_rfl) ?_
        refine takeC 23 (v := .agg T.cs) rfl rfl (by kernel_rfl) (by kernel_rfl) (by kernel_rfl) (fun _ _ _ h => h) (fun _ => rfl) rfl (fun w' hw' => by kernel_rfl) ?_
        refine takeC 24 (v := .agg #[.int .i64 F1, .int .i64 F2, .int .i64 F3]) rfl rfl (by kernel_rfl) (by kernel_rfl) (by kernel_rfl) (fun _ _ _ h => h) (fun _ => rfl) rfl (fun w' hw' => by kernel_rfl) ?_
        refine stepR 25 HB12.out (by kernel_rfl) rfl rfl (.pointer (some ⟨(wz).heap.size, 0, none⟩)) ((wz).alloc (.cells Tr.z.cs 50)) (by kernel_rfl) ?_
        have HB13 : Hid (Below w5.heap.size w5 ((wz).alloc (.cells Tr.z.cs 50))) := btr HB12.out (bal _ _)
        have G613 : Hid (((wz).alloc (.cells Tr.z.cs 50)).heap[(wz).heap.size]? = some (.cells Tr.z.cs 50 (0, 0))) := heap_alloc_new _ _
        have G713 : Hid (((wz).alloc (.cells Tr.z.cs 50)).heap[(wd).heap.size]? = some (.cells #[.int .i64 0, .int .i64 0, .int .i64 0] 38 (0, 0))) := ((bal _ _).block _ (lt_of_heap G712.out)).trans G712.out
        have O13 : Hid (Own .i8 63 ((wz).alloc (.cells Tr.z.cs 50)) w5.heap.size vz L) := O12.out.alloc _
        have P6 : Hid (w5.heap.size ≤ (wz).heap.size) := HB12.out.size
        have P7 : Hid (w5.heap.size ≤ (wd).heap.size) := HD.out.size
        have NE : Hid ((wz).heap.size ≠ (wd).heap.size) := ne_of_ty G613.out G713.out (by decide)
        refine stepR 27 HB13.out (by kernel_rfl) rfl rfl vz ((wz).alloc (.cells Tr.z.cs 50)) (by kernel_rfl) ?_
        refine stepS 28 HB13.out (by kernel_rfl) rfl rfl 50 (.tmp 9) (.tmp 97) rfl ((wz).heap.size) T.cs (by kernel_rfl) (by kernel_rfl) 50 Tr.z.cs G613.out (by kernel_rfl) rfl (by kernel_rfl) ?_
        have HS1 : Hid (Below w5.heap.size w5 (((wz).alloc (.cells Tr.z.cs 50)).setRow ((wz).heap.size) T.cs)) := below_setRow HB13.out P6.out _
        have GS1 : Hid ((((wz).alloc (.cells Tr.z.cs 50)).setRow ((wz).heap.size) T.cs).heap[(wd).heap.size]? = some (.cells #[.int .i64 0, .int .i64 0, .int .i64 0] 38 (0, 0))) := (setRow_other _ _ _ _ (fun q => NE.out q.symm)).trans G713.out
        have GT1 : Hid ((((wz).alloc (.cells Tr.z.cs 50)).setRow ((wz).heap.size) T.cs).heap[(wz).heap.size]? = some (.cells T.cs 50 (0, 0))) := setRow_heap _ _ _ _ _ _ G613.out
        have OS1 : Hid (Own .i8 63 (((wz).alloc (.cells Tr.z.cs 50)).setRow ((wz).heap.size) T.cs) w5.heap.size vz L) := Own.setRow O13.out G613.out (by decide) (by decide)
        refine stepS 29 HS1.out (by kernel_rfl) rfl rfl 38 (.tmp 10) (.tmp 98) rfl ((wd).heap.size) #[.int .i64 F1, .int .i64 F2, .int .i64 F3] (by kernel_rfl) (by kernel_rfl) 38 #[.int .i64 0, .int .i64 0, .int .i64 0] GS1.out (by kernel_rfl) rfl (by simp [Value.oneCell']) ?_
        have HS2 : Hid (Below w5.heap.size w5 ((((wz).alloc (.cells Tr.z.cs 50)).setRow ((wz).heap.size) T.cs).setRow ((wd).heap.size) #[.int .i64 F1, .int .i64 F2, .int .i64 F3])) := below_setRow HS1.out P7.out _
        refine doneC HS2.out (by kernel_rfl) ?_ _
        refine (show ∀ a' w', Met _ a' w' → _ from by assumption) _ _ ?_
        refine Met.intro ?_
        go_step
        exact ⟨vz, .pointer (some ⟨(wz).heap.size, 0, none⟩), .pointer (some ⟨(wd).heap.size, 0, none⟩), .tuple #[vz, .agg T.cs, .agg #[.int .i64 F1, .int .i64 F2, .int .i64 F3]], .pointer (some ⟨W.heap.size, 0, none⟩), .agg #[.int .i64 h, .int .i64 w, .int .i64 c, .int .i64 lo, .int .i64 hi, .slice (some x) on oc, .int .i64 ot], .int .i64 ((i : Int) + 1), .pointer (some ⟨W.heap.size, 7, none⟩), .pointer (some ⟨W.heap.size, 8, none⟩), .slice (some y) qn qc, .int .i64 ((i : Int) + 1), .int .i64 (i : Int), .pointer (some (y.add i)), .slice pa pl pc, .slice (some ⟨tg, 0, none⟩) (on + 1) tc, .pointer (some ⟨B7, 1, none⟩), .int .i64 (ja : Int), .pointer (some ⟨tg, ja, none⟩), .slice a1 (Ts.getD ja []).length d1, .slice (some ⟨tg, 0, none⟩) (on + 1) tc, .pointer (some ⟨B7, 2, none⟩), .int .i64 (jb : Int), .pointer (some ⟨tg, jb, none⟩), .slice a2 (Ts.getD jb []).length d2, .tuple #[vz, .agg T.cs, .agg #[.int .i64 F1, .int .i64 F2, .int .i64 F3]], vz, .agg T.cs, .agg #[.int .i64 F1, .int .i64 F2, .int .i64 F3], ⟨(wz).heap.size, (wd).heap.size, vz, rfl, rfl, rfl, HS2.out, (setRow_other _ _ _ _ NE.out).trans GT1.out, setRow_heap _ _ _ _ _ _ GS1.out, Own.setRow OS1.out GS1.out (by decide) (by decide)⟩, by kernel_rfl⟩
      · refine opR rfl rfl (.pointer (some ⟨((wd).alloc (.cells #[.int .i64 0, .int .i64 0, .int .i64 0] 38)).heap.size, 0, none⟩)) (((wd).alloc (.cells #[.int .i64 0, .int .i64 0, .int .i64 0] 38)).alloc (.cells Tr.z.cs 50)) (by kernel_rfl) ?_
        have HB14 : Hid (Below w5.heap.size w5 (((wd).alloc (.cells #[.int .i64 0, .int .i64 0, .int .i64 0] 38)).alloc (.cells Tr.z.cs 50))) := btr HB11.out (bal _ _)
        have G614 : Hid ((((wd).alloc (.cells #[.int .i64 0, .int .i64 0, .int .i64 0] 38)).alloc (.cells Tr.z.cs 50)).heap[((wd).alloc (.cells #[.int .i64 0, .int .i64 0, .int .i64 0] 38)).heap.size]? = some (.cells Tr.z.cs 50 (0, 0))) := heap_alloc_new _ _
        have G714 : Hid ((((wd).alloc (.cells #[.int .i64 0, .int .i64 0, .int .i64 0] 38)).alloc (.cells Tr.z.cs 50)).heap[(wd).heap.size]? = some (.cells #[.int .i64 0, .int .i64 0, .int .i64 0] 38 (0, 0))) := ((bal _ _).block _ (lt_of_heap G711.out)).trans G711.out
        refine stepK 20 HB14.out (by kernel_rfl) rfl rfl 8 #[.agg #[.int .i64 h, .int .i64 w, .int .i64 c, .int .i64 lo, .int .i64 hi, .slice (some x) on oc, .int .i64 ot], .int .i64 ((i : Int) + 1), .slice pa pl pc, .slice a1 (Ts.getD ja []).length d1, .slice a2 (Ts.getD jb []).length d2] (by kernel_rfl) (HOP.out _ (HR1.out _ HB14.out).2.2 a1 a2 d1 d2 (HR1.out _ HB14.out).1 (HR1.out _ HB14.out).2.1) ?_
        rintro e wz ⟨⟨vz, rfl, hoz⟩, hbz⟩
        have HB15 : Hid (Below w5.heap.size w5 wz) := btr HB14.out hbz
        have O15 : Hid (Own .i8 63 wz w5.heap.size vz L) := hoz.base (HB14.out.size)
        have G615 : Hid (wz.heap[((wd).alloc (.cells #[.int .i64 0, .int .i64 0, .int .i64 0] 38)).heap.size]? = some (.cells Tr.z.cs 50 (0, 0))) := (hbz.block _ (lt_of_heap G614.out)).trans G614.out
        have G715 : Hid (wz.heap[(wd).heap.size]? = some (.cells #[.int .i64 0, .int .i64 0, .int .i64 0] 38 (0, 0))) := (hbz.block _ (lt_of_heap G714.out)).trans G714.out
        clear hoz hbz
        refine ⟨_, rfl, ?_⟩
        refine takeC 21 (v := .tuple #[vz, .agg T.cs, .agg #[.int .i64 F1, .int .i64 F2, .int .i64 F3]]) rfl rfl (by kernel_rfl) (by kernel_rfl) (by kernel_rfl) (fun _ _ _ h => h) (fun _ => rfl) rfl (fun w' hw' => by kernel_rfl) ?_
        refine takeC 22 (v := vz) rfl rfl (by kernel_rfl) (by kernel_rfl) (by kernel_rfl) (fun _ _ _ h => h) (fun _ => rfl) rfl (fun w' hw' => by kernel_rfl) ?_
        refine takeC 23 (v := .agg T.cs) rfl rfl (by kernel_rfl) (by kernel_rfl) (by kernel_rfl) (fun _ _ _ h => h) (fun _ => rfl) rfl (fun w' hw' => by kernel_rfl) ?_
        refine takeC 24 (v := .agg #[.int .i64 F1, .int .i64 F2, .int .i64 F3]) rfl rfl (by kernel_rfl) (by kernel_rfl) (by kernel_rfl) (fun _ _ _ h => h) (fun _ => rfl) rfl (fun w' hw' => by kernel_rfl) ?_
        have P6 : Hid (w5.heap.size ≤ ((wd).alloc (.cells #[.int .i64 0, .int .i64 0, .int .i64 0] 38)).heap.size) := HB11.out.size
        have P7 : Hid (w5.heap.size ≤ (wd).heap.size) := HD.out.size
        have NE : Hid (((wd).alloc (.cells #[.int .i64 0, .int .i64 0, .int .i64 0] 38)).heap.size ≠ (wd).heap.size) := ne_of_ty G615.out G715.out (by decide)
        refine stepR 27 HB15.out (by kernel_rfl) rfl rfl vz (wz) (by kernel_rfl) ?_
        refine stepS 28 HB15.out (by kernel_rfl) rfl rfl 50 (.tmp 9) (.tmp 97) rfl (((wd).alloc (.cells #[.int .i64 0, .int .i64 0, .int .i64 0] 38)).heap.size) T.cs (by kernel_rfl) (by kernel_rfl) 50 Tr.z.cs G615.out (by kernel_rfl) rfl (by kernel_rfl) ?_
        have HS1 : Hid (Below w5.heap.size w5 ((wz).setRow (((wd).alloc (.cells #[.int .i64 0, .int .i64 0, .int .i64 0] 38)).heap.size) T.cs)) := below_setRow HB15.out P6.out _
        have GS1 : Hid (((wz).setRow (((wd).alloc (.cells #[.int .i64 0, .int .i64 0, .int .i64 0] 38)).heap.size) T.cs).heap[(wd).heap.size]? = some (.cells #[.int .i64 0, .int .i64 0, .int .i64 0] 38 (0, 0))) := (setRow_other _ _ _ _ (fun q => NE.out q.symm)).trans G715.out
        have GT1 : Hid (((wz).setRow (((wd).alloc (.cells #[.int .i64 0, .int .i64 0, .int .i64 0] 38)).heap.size) T.cs).heap[((wd).alloc (.cells #[.int .i64 0, .int .i64 0, .int .i64 0] 38)).heap.size]? = some (.cells T.cs 50 (0, 0))) := setRow_heap _ _ _ _ _ _ G615.out
        have OS1 : Hid (Own .i8 63 ((wz).setRow (((wd).alloc (.cells #[.int .i64 0, .int .i64 0, .int .i64 0] 38)).heap.size) T.cs) w5.heap.size vz L) := Own.setRow O15.out G615.out (by decide) (by decide)
        refine stepS 29 HS1.out (by kernel_rfl) rfl rfl 38 (.tmp 10) (.tmp 98) rfl ((wd).heap.size) #[.int .i64 F1, .int .i64 F2, .int .i64 F3] (by kernel_rfl) (by kernel_rfl) 38 #[.int .i64 0, .int .i64 0, .int .i64 0] GS1.out (by kernel_rfl) rfl (by simp [Value.oneCell']) ?_
        have HS2 : Hid (Below w5.heap.size w5 (((wz).setRow (((wd).alloc (.cells #[.int .i64 0, .int .i64 0, .int .i64 0] 38)).heap.size) T.cs).setRow ((wd).heap.size) #[.int .i64 F1, .int .i64 F2, .int .i64 F3])) := below_setRow HS1.out P7.out _
        refine doneC HS2.out (by kernel_rfl) ?_ _
        refine (show ∀ a' w', Met _ a' w' → _ from by assumption) _ _ ?_
        refine Met.intro ?_
        go_step
        exact ⟨vz, .pointer (some ⟨((wd).alloc (.cells #[.int .i64 0, .int .i64 0, .int .i64 0] 38)).heap.size, 0, none⟩), .pointer (some ⟨(wd).heap.size, 0, none⟩), .tuple #[vz, .agg T.cs, .agg #[.int .i64 F1, .int .i64 F2, .int .i64 F3]], .pointer (some ⟨W.heap.size, 0, none⟩), .agg #[.int .i64 h, .int .i64 w, .int .i64 c, .int .i64 lo, .int .i64 hi, .slice (some x) on oc, .int .i64 ot], .int .i64 ((i : Int) + 1), .pointer (some ⟨W.heap.size, 7, none⟩), .pointer (some ⟨W.heap.size, 8, none⟩), .slice (some y) qn qc, .int .i64 ((i : Int) + 1), .int .i64 (i : Int), .pointer (some (y.add i)), .slice pa pl pc, .slice (some ⟨tg, 0, none⟩) (on + 1) tc, .pointer (some ⟨B7, 1, none⟩), .int .i64 (ja : Int), .pointer (some ⟨tg, ja, none⟩), .slice a1 (Ts.getD ja []).length d1, .slice (some ⟨tg, 0, none⟩) (on + 1) tc, .pointer (some ⟨B7, 2, none⟩), .int .i64 (jb : Int), .pointer (some ⟨tg, jb, none⟩), .slice a2 (Ts.getD jb []).length d2, .tuple #[vz, .agg T.cs, .agg #[.int .i64 F1, .int .i64 F2, .int .i64 F3]], vz, .agg T.cs, .agg #[.int .i64 F1, .int .i64 F2, .int .i64 F3], ⟨((wd).alloc (.cells #[.int .i64 0, .int .i64 0, .int .i64 0] 38)).heap.size, (wd).heap.size, vz, rfl, rfl, rfl, HS2.out, (setRow_other _ _ _ _ NE.out).trans GT1.out, setRow_heap _ _ _ _ _ _ GS1.out, Own.setRow OS1.out GS1.out (by decide) (by decide)⟩, by kernel_rfl⟩
  obtain ⟨b9, b10, v8, rfl, rfl, rfl, h1, h2, h3, h4⟩ := hcut
  obtain ⟨w6, rfl⟩ : ∃ w', w' = wc := ⟨_, rfl⟩
  have Bw6 : Hid (Below w5.heap.size w5 w6) := h1
  have Hw6 : Hid (w6.heap[b9]? = some (.cells T.cs 50 (0, 0)) ∧ w6.heap[b10]? = some (.cells #[.int .i64 F1, .int .i64 F2, .int .i64 F3] 38 (0, 0))) := ⟨h2, h3⟩
  have Ow6 : Hid (Own .i8 63 w6 w5.heap.size v8 L) := h4
  clear h1 h2 h3 h4
  have hc10 : ∀ j, w6.cell? ⟨b10, j, none⟩ = #[.int .i64 F1, .int .i64 F2, .int .i64 F3][j]? := (cells_at Hw6.out.2).1
  have hc9 : ∀ j, w6.cell? ⟨b9, j, none⟩ = T.cs[j]? := (cells_at Hw6.out.1).1
  have RT6 : Hid (IRow .i8 w6 a1 (Ts.getD ja []).length d1 (Ts.getD ja [])) := (HR1.out _ Bw6.out).1
  have HB6 : Hid (Below W.heap.size W w6) := (HR1.out _ Bw6.out).2.2
  obtain ⟨ya, yc, rfl, yr, -⟩ := Ow6.out.row
  have YR : Hid (IRow .i8 w6 ya L.length yc L) := yr
  clear yr
  by_cases hE : F1 ≠ 0
  · obtain ⟨rfl, rfl, rfl⟩ := HF.out hE
    have hE1 : (F1 == 0) = false := by simp [hE]
    have hE2 : (F1 != 0) = true := by simp [hE]
    have qt := eqTr 0 0 0 0 0 0 0 0 0
    simp only [Tr.cs, Tr.z] at hc9
    go_wp2
    go_ret
    exact ⟨rfl, HB6.out⟩
  obtain rfl : F1 = 0 := by omega
  obtain ⟨hw0, hw1⟩ := HG.out rfl
  have HW1 : Hid (T.w = 0 → L = Ts.getD (i + 1) []) := hw1
  clear hw1 hE
  simp only [Tr.cs] at hc9
  by_cases hwz : T.w = 0
  · obtain rfl := HW1.out hwz
    obtain ⟨g', a3, d3, te, t5, t6⟩ := (RT.out w6 Bw6.out).at (i := i + 1) (by omega)
    simp only [Option.some.injEq, Addr.mk.injEq, and_true] at te
    subst te
    have T6 : Hid (IRow .i8 w6 a3 (Ts.getD (i + 1) []).length d3 (Ts.getD (i + 1) [])) := t6
    rw [hwz] at hc9
    clear t6 hw0
    go_wp2_with fail
    refine (same8_b ya a3 _ yc d3 _ w6 YR.out T6.out).mono ?_
    rintro e w7 ⟨rfl, hb7⟩
    have HB : Hid (Below W.heap.size W w7) := (HR1.out _ (btr Bw6.out hb7)).2.2
    go_wp2
    go_ret
    exact ⟨rfl, HB.out⟩
  · have hw2 : 0 < T.w := by omega
    go_wp2
    go_ret
    exact ⟨rfl, HB6.out⟩
end Go.Proofs.Ytehofmkpgopmpaa.Kr

/- The walk of KernPlain where layer 11's tensors have a fault, or where no such op or no such list of plans is there. -/
namespace Go.Proofs.Ytehofmkpgopmpaa.Kr
open Go.ChangeShapes Go.WideShapes Go.ChangeAt Go.RowKit
set_option linter.unusedVariables false
set_option maxHeartbeats 8000000 in
set_option maxRecDepth 100000 in
theorem plain_err (h w c lo hi ot : Int) (oa : Option Addr) (on oc : Nat) (ra : Option Addr) (rn rc : Nat) (qa : Option Addr) (qn qc : Nat) (ad : Option Addr) (n cap : Nat) (op : Int) (W : World) (E A : Int) (hE : E ≠ 0)
    (hT : ∀ (W' : World), Below W.heap.size W W' → Calls Try.prog 7 #[.agg #[.int .i64 h, .int .i64 w, .int .i64 c, .int .i64 lo, .int .i64 hi, .slice oa on oc, .int .i64 ot], .slice ad n cap] W' fun e w' => e = .returned (.tuple #[.slice none 0 0, .agg #[.int .i64 E, .int .i64 A, .int .i64 0]]) ∧ Below W'.heap.size W' w') :
    Calls Try.prog 3 #[.agg #[.int .i64 h, .int .i64 w, .int .i64 c, .int .i64 lo, .int .i64 hi, .slice oa on oc, .int .i64 ot, .slice ra rn rc, .slice qa qn qc, .slice ad n cap], .int .i64 op] W fun e w' => e = .returned (.bool true) ∧ Below W.heap.size W w' := by
  have HT : Hid (∀ (W' : World), Below W.heap.size W W' → _) := hT
  have HFX : Hid (∀ W, _) := fixed_any
  have s0 := (St.start W).new (c := #[.int .i64 h, .int .i64 w, .int .i64 c, .int .i64 lo, .int .i64 hi, .slice oa on oc, .int .i64 ot, .slice ra rn rc, .slice qa qn qc, .slice ad n cap]) (t := 33)
  have hE1 : (E == 0) = false := by simp [hE]
  have hE2 : (E != 0) = true := by simp [hE]
  clear hT
  go_enter Try.func3, Try.ntmps3
  go_wp2_with fail
  refine (HFX.out _).mono ?_
  rintro e w1 ⟨rfl, hb⟩
  have s1 := s0.call hb
  clear hb s0 HFX
  obtain ⟨c1, f1, z1, -⟩ := s1.rules
  go_wp2_with fail
  refine (HT.out _ s1.below).mono ?_
  rintro e w2 ⟨rfl, hb⟩
  have s2 := (s1.call hb).new (c := #[.int .i64 E, .int .i64 A, .int .i64 0]) (t := 38)
  clear hb HT c1 f1 z1 s1
  go_upto_region 4 with fail
  obtain ⟨B6, hB6⟩ : ∃ B, w2.heap.size = B := ⟨_, rfl⟩
  obtain ⟨w3, hw3⟩ : ∃ w3, w2.alloc (.cells #[.int .i64 E, .int .i64 A, .int .i64 0] 38) = w3 := ⟨_, rfl⟩
  rw [hB6, hw3] at s2
  rw [hB6, hw3]
  have S3 : Hid (St W w3 ((B6, #[.int .i64 E, .int .i64 A, .int .i64 0], 38) :: [(W.heap.size, #[.int .i64 h, .int .i64 w, .int .i64 c, .int .i64 lo, .int .i64 hi, .slice oa on oc, .int .i64 ot, .slice ra rn rc, .slice qa qn qc, .slice ad n cap], 33)])) := s2
  clear hw3 hB6 s2
  obtain ⟨c1, f1, z1, c2, f2, z2, -⟩ := S3.out.rules
  go_wp2
  go_ret
  exact ⟨rfl, S3.out.below⟩
set_option maxHeartbeats 8000000 in
set_option maxRecDepth 100000 in
theorem plain_rng (h w c lo hi ot : Int) (oa : Option Addr) (on oc : Nat) (ra : Option Addr) (rn rc : Nat) (qa : Option Addr) (qn qc : Nat) (ad : Option Addr) (n cap : Nat) (op : Int) (W : World) (hon : on ≤ 64) (hqm : qn ≤ 9223372036854775807) (ho : op < 1 ∨ (on : Int) < op ∨ (qn : Int) < op) (Ts : List (List Int)) (hTl : Ts.length = on + 1)
    (hT : ∀ (W' : World), Below W.heap.size W W' → Calls Try.prog 7 #[.agg #[.int .i64 h, .int .i64 w, .int .i64 c, .int .i64 lo, .int .i64 hi, .slice oa on oc, .int .i64 ot], .slice ad n cap] W' fun e w' => (∃ v, e = .returned (.tuple #[v, .agg #[.int .i64 0, .int .i64 0, .int .i64 0]]) ∧ LLs w' W'.heap.size v Ts) ∧ Below W'.heap.size W' w') :
    Calls Try.prog 3 #[.agg #[.int .i64 h, .int .i64 w, .int .i64 c, .int .i64 lo, .int .i64 hi, .slice oa on oc, .int .i64 ot, .slice ra rn rc, .slice qa qn qc, .slice ad n cap], .int .i64 op] W fun e w' => e = .returned (.bool true) ∧ Below W.heap.size W w' := by
  have HT : Hid (∀ (W' : World), Below W.heap.size W W' → _) := hT
  have HTL : Hid (Ts.length = on + 1) := hTl
  have HFX : Hid (∀ W, _) := fixed_any
  have s0 := (St.start W).new (c := #[.int .i64 h, .int .i64 w, .int .i64 c, .int .i64 lo, .int .i64 hi, .slice oa on oc, .int .i64 ot, .slice ra rn rc, .slice qa qn qc, .slice ad n cap]) (t := 33)
  clear hT hTl
  go_enter Try.func3, Try.ntmps3
  go_wp2_with fail
  refine (HFX.out _).mono ?_
  rintro e w1 ⟨rfl, hb⟩
  have s1 := s0.call hb
  clear hb s0 HFX
  obtain ⟨c1, f1, z1, -⟩ := s1.rules
  go_wp2_with fail
  refine (HT.out _ s1.below).mono ?_
  rintro e w2 ⟨⟨v, rfl, hl⟩, hb⟩
  have hr := hl.rd
  obtain ⟨ta, tc, rfl, -⟩ := id hr
  have s2 := (s1.call hb).new (c := #[.int .i64 0, .int .i64 0, .int .i64 0]) (t := 38)
  rw [HTL.out]
  clear hb hl hr HT c1 f1 z1 s1
  go_upto_region 4 with fail
  obtain ⟨B6, hB6⟩ : ∃ B, w2.heap.size = B := ⟨_, rfl⟩
  obtain ⟨w3, hw3⟩ : ∃ w3, w2.alloc (.cells #[.int .i64 0, .int .i64 0, .int .i64 0] 38) = w3 := ⟨_, rfl⟩
  rw [hB6, hw3] at s2
  rw [hB6, hw3]
  have S3 : Hid (St W w3 ((B6, #[.int .i64 0, .int .i64 0, .int .i64 0], 38) :: [(W.heap.size, #[.int .i64 h, .int .i64 w, .int .i64 c, .int .i64 lo, .int .i64 hi, .slice oa on oc, .int .i64 ot, .slice ra rn rc, .slice qa qn qc, .slice ad n cap], 33)])) := s2
  clear hw3 hB6 s2
  obtain ⟨c1, f1, z1, c2, f2, z2, -⟩ := S3.out.rules
  by_cases o1 : op < 1
  · clear ho
    go_wp2
    go_ret
    exact ⟨rfl, S3.out.below⟩
  by_cases o2 : (on : Int) < op
  · clear ho
    go_wp2
    go_ret
    exact ⟨rfl, S3.out.below⟩
  · have o3 : (qn : Int) < op := by omega
    clear ho
    go_wp2
    go_ret
    exact ⟨rfl, S3.out.below⟩
end Go.Proofs.Ytehofmkpgopmpaa.Kr

/- Plain numbers of LaneWhole: what registers come to, up to a multiple; where nothing wraps. -/
namespace Go.Proofs.Ytehofmkpgopmpaa
open Go.ChangeShapes Go.WideShapes Go.ChangeAt Go.RowKit
set_option linter.unusedVariables false
/-- A whole sum. -/
def smI : Int → List Int → Int
  | s, [] => s
  | s, p :: ps => smI (s + p) ps
theorem wrapN_dvd (N x : Int) : (2 * N) ∣ x - wrapN N x := by
  unfold wrapN
  have h := Int.emod_add_mul_ediv (x + N) (2 * N)
  exact ⟨(x + N) / (2 * N), by omega⟩
theorem dvd_3 {m a b c : Int} (h1 : m ∣ a) (h2 : m ∣ b) (h3 : m ∣ c) : m ∣ a + b + c := Int.dvd_add (Int.dvd_add h1 h2) h3
theorem gaT_dvd {N : Int} : ∀ (ps : List Int) (t : Ty) (r S : Int), (2 * N) ∣ S - r → (2 * N) ∣ smI S ps - (gaT N t r ps).2
  | [], _, _, _, h => h
  | p :: ps, t, r, S, h => by
    refine gaT_dvd ps _ _ (S + p) ?_
    have := dvd_3 h (wrapN_dvd N p) (wrapN_dvd N (r + wrapN N p))
    rw [show S + p - wrapN N (r + wrapN N p) = S - r + (p - wrapN N p) + (r + wrapN N p - wrapN N (r + wrapN N p)) by omega]
    exact this
theorem elT_dvd {d : Nat} : ∀ (ps : List Int) (j : Nat) (s l : Ty) (r q S : Int), (65536 : Int) ∣ S - (r + q) → (ps ≠ [] ∨ q = 0) → (65536 : Int) ∣ smI S ps - (elT d j s l r q ps).2.2
  | [], j, s, l, r, q, S, h, g => by
    have hq : q = 0 := g.elim (fun e => absurd rfl e) id
    rw [hq, Int.add_zero] at h
    exact h
  | p :: ps, j, s, l, r, q, S, h, _ => by
    have h1 := wrapN_dvd 32768 p
    have h2 := wrapN_dvd 32768 (q + wrapN 32768 p)
    have h3 := wrapN_dvd 2147483648 (r + wrapN 32768 (q + wrapN 32768 p))
    have h4 : (65536 : Int) ∣ r + wrapN 32768 (q + wrapN 32768 p) - wrapN 2147483648 (r + wrapN 32768 (q + wrapN 32768 p)) := Int.dvd_trans ⟨65536, by omega⟩ h3
    rw [elT]
    split
    · refine elT_dvd ps 0 _ _ _ 0 (S + p) ?_ (.inr rfl)
      have := Int.dvd_add (dvd_3 h h1 h2) h4
      rw [show S + p - (wrapN 2147483648 (r + wrapN 32768 (q + wrapN 32768 p)) + 0) = S - (r + q) + (p - wrapN 32768 p) + (q + wrapN 32768 p - wrapN 32768 (q + wrapN 32768 p)) + (r + wrapN 32768 (q + wrapN 32768 p) - wrapN 2147483648 (r + wrapN 32768 (q + wrapN 32768 p))) by omega]
      exact this
    · rename_i hn
      refine elT_dvd ps (j + 1) _ _ r _ (S + p) ?_ (.inl fun e => hn (.inr e))
      have := dvd_3 h h1 h2
      rw [show S + p - (r + wrapN 32768 (q + wrapN 32768 p)) = S - (r + q) + (p - wrapN 32768 p) + (q + wrapN 32768 p - wrapN 32768 (q + wrapN 32768 p)) by omega]
      exact this
/-! ### Wraps are counted -/
theorem ma_w (N r p : Int) (t : Ty) : (t.ma N r p).w = t.w + bw N p + bw N (r + wrapN N p) := rfl
theorem ad_w (N x : Int) (t : Ty) : (t.ad N x).w = t.w + bw N x := rfl
theorem bw_wrap {N x : Int} (h : bw N x = 0) : wrapN N x = x := wrapN_in (bw_0.1 h)
theorem gaT_w {N : Int} : ∀ (ps : List Int) (t : Ty) (r : Int), t.w ≤ (gaT N t r ps).1.w ∧ ((gaT N t r ps).1.w = t.w → (gaT N t r ps).2 = smI r ps)
  | [], _, _ => ⟨Int.le_refl _, fun _ => rfl⟩
  | p :: ps, t, r => by
    have h := gaT_w (N := N) ps (t.ma N r p) (wrapN N (r + wrapN N p))
    have h1 := bw_bd N p
    have h2 := bw_bd N (r + wrapN N p)
    have h3 := ma_w N r p t
    simp only [gaT]
    refine ⟨by omega, fun e => ?_⟩
    have e1 := bw_wrap (show bw N p = 0 by omega)
    have e2 := bw_wrap (show bw N (r + wrapN N p) = 0 by omega)
    rw [h.2 (by omega), e2, e1]
    rfl
theorem elT_w {d : Nat} : ∀ (ps : List Int) (j : Nat) (s l : Ty) (r q : Int), s.w ≤ (elT d j s l r q ps).1.w ∧ l.w ≤ (elT d j s l r q ps).2.1.w ∧ ((ps ≠ [] ∨ q = 0) → (elT d j s l r q ps).1.w = s.w → (elT d j s l r q ps).2.1.w = l.w → (elT d j s l r q ps).2.2 = smI (r + q) ps)
  | [], j, s, l, r, q => ⟨Int.le_refl _, Int.le_refl _, fun h _ _ => by
      have hq : q = 0 := h.elim (fun e => absurd rfl e) id
      rw [hq, Int.add_zero]; rfl⟩
  | p :: ps, j, s, l, r, q => by
    have h1 := bw_bd 32768 p
    have h2 := bw_bd 32768 (q + wrapN 32768 p)
    have h3 := ma_w 32768 q p s
    have h4 := bw_bd 2147483648 (r + wrapN 32768 (q + wrapN 32768 p))
    have h5 := ad_w 2147483648 (r + wrapN 32768 (q + wrapN 32768 p)) l
    rw [elT]
    split
    · have h := elT_w (d := d) ps 0 (s.ma 32768 q p) (l.ad 2147483648 (r + wrapN 32768 (q + wrapN 32768 p))) (wrapN 2147483648 (r + wrapN 32768 (q + wrapN 32768 p))) 0
      refine ⟨by omega, by omega, fun _ e g => ?_⟩
      have e1 := bw_wrap (show bw 32768 p = 0 by omega)
      have e2 := bw_wrap (show bw 32768 (q + wrapN 32768 p) = 0 by omega)
      have e3 := bw_wrap (show bw 2147483648 (r + wrapN 32768 (q + wrapN 32768 p)) = 0 by omega)
      rw [h.2.2 (.inr rfl) (by omega) (by omega), e3, e2, e1]
      show smI (r + (q + p) + 0) ps = smI (r + q + p) ps
      rw [Int.add_zero, Int.add_assoc]
    · rename_i hn
      have h := elT_w (d := d) ps (j + 1) (s.ma 32768 q p) l r (wrapN 32768 (q + wrapN 32768 p))
      refine ⟨by omega, h.2.1, fun _ e g => ?_⟩
      have e1 := bw_wrap (show bw 32768 p = 0 by omega)
      have e2 := bw_wrap (show bw 32768 (q + wrapN 32768 p) = 0 by omega)
      rw [h.2.2 (.inl fun e => hn (.inr e)) (by omega) (by omega), e2, e1]
      show smI (r + (q + p)) ps = smI (r + q + p) ps
      rw [Int.add_assoc]
/-- No more wraps than sums and products. -/
def Ty.few (t : Ty) : Prop := t.w ≤ t.m + t.a
theorem Ty.few.ma {N : Int} {t : Ty} (h : t.few) (r p : Int) : (t.ma N r p).few := by
  have h1 := bw_bd N p
  have h2 := bw_bd N (r + wrapN N p)
  unfold Ty.few at *
  show t.w + bw N p + bw N (r + wrapN N p) ≤ t.m + 1 + (t.a + 1)
  omega
theorem Ty.few.ad {N : Int} {t : Ty} (h : t.few) (x : Int) : (t.ad N x).few := by
  have h1 := bw_bd N x
  unfold Ty.few at *
  show t.w + bw N x ≤ t.m + (t.a + 1)
  omega
theorem Ty.few_z : Ty.z.few := by unfold Ty.few Ty.z; simp
theorem gaT_few {N : Int} : ∀ (ps : List Int) (t : Ty) (r : Int), t.few → (gaT N t r ps).1.few
  | [], _, _, h => h
  | p :: ps, t, r, h => gaT_few ps _ _ (h.ma r p)
theorem elT_few {d : Nat} : ∀ (ps : List Int) (j : Nat) (s l : Ty) (r q : Int), s.few → l.few → (elT d j s l r q ps).1.few ∧ (elT d j s l r q ps).2.1.few
  | [], _, _, _, _, _, h, g => ⟨h, g⟩
  | p :: ps, j, s, l, r, q, h, g => by
    rw [elT]
    split
    · exact elT_few ps 0 _ _ _ _ (h.ma q p) (g.ad _)
    · exact elT_few ps _ _ _ _ _ (h.ma q p) g
/-- What LaneWhole asks. -/
theorem dtR_whole {n : Nat} {wd dp bi : Int} (ps : List Int) (hE : rfE n n wd dp = 0) (hb : -2147483648 ≤ bi ∧ bi ≤ 2147483647) :
    (wd = 32 → (smI bi ps - (dtR wd dp bi ps).2.2).tmod 4294967296 = 0) ∧ (wd ≠ 32 → (smI bi ps - (dtR wd dp bi ps).2.2).tmod 65536 = 0) ∧
    ((dtR wd dp bi ps).1.w + (dtR wd dp bi ps).2.1.w = 0 → smI bi ps = (dtR wd dp bi ps).2.2) ∧ 0 ≤ (dtR wd dp bi ps).1.w + (dtR wd dp bi ps).2.1.w ∧
    (dtR wd dp bi ps).1.w + (dtR wd dp bi ps).2.1.w ≤ (dtR wd dp bi ps).1.m + (dtR wd dp bi ps).1.a + (dtR wd dp bi ps).2.1.m + (dtR wd dp bi ps).2.1.a := by
  unfold dtR
  by_cases h : wd = 32
  · rw [if_pos h]
    have h1 := gaT_dvd (N := 2147483648) ps Ty.z bi bi ⟨0, by omega⟩
    have h2 := gaT_w (N := 2147483648) ps Ty.z bi
    have h3 := gaT_few (N := 2147483648) ps Ty.z bi Ty.few_z
    unfold Ty.few at h3
    have hz : Ty.z.w = 0 ∧ Ty.z.m = 0 ∧ Ty.z.a = 0 := ⟨rfl, rfl, rfl⟩
    simp only
    refine ⟨fun _ => Int.tmod_eq_zero_of_dvd h1, fun g => absurd h g, fun e => ?_, by omega, by omega⟩
    rw [h2.2 (by omega)]
  · rw [if_neg h]
    have h1 := elT_dvd (d := dp.toNat) ps 0 Ty.z Ty.z bi 0 bi ⟨0, by omega⟩ (.inr rfl)
    have h2 := elT_w (d := dp.toNat) ps 0 Ty.z Ty.z bi 0
    have h3 := elT_few (d := dp.toNat) ps 0 Ty.z Ty.z bi 0 Ty.few_z Ty.few_z
    unfold Ty.few at h3
    have hz : Ty.z.w = 0 ∧ Ty.z.m = 0 ∧ Ty.z.a = 0 := ⟨rfl, rfl, rfl⟩
    refine ⟨fun g => absurd g h, fun _ => Int.tmod_eq_zero_of_dvd h1, fun e => ?_, by omega, by omega⟩
    rw [h2.2.2 (.inr rfl) (by omega) (by omega), Int.add_zero]
end Go.Proofs.Ytehofmkpgopmpaa

/- Where nothing wraps an op over registers makes what it makes in whole numbers (plain). -/
namespace Go.Proofs.Ytehofmkpgopmpaa.Kr
open Go.ChangeShapes Go.WideShapes Go.ChangeAt Go.RowKit
set_option linter.unusedVariables false
theorem smI_sm (p : Int) (x : List Int) : ∀ (l : List (Int × Int)) (b : Int), smI b (l.map (smT p x)) = b + smV p x l
  | [], b => by simp [smI, smV]
  | t :: l, b => by
    simp only [List.map_cons, smI, smV, smI_sm p x l (b + smT p x t)]
    omega
theorem dsF_whole {k kh kw sh sw tp lf bt rt h w c C p : Int} {zs bs x : List Int} {P : List Pl} {N : Nat} (hN : 1 ≤ N) (hok : Pok N C P) (hb : ∀ v ∈ bs, (Lit.int .i32 v).wf = true) {ch : Int} (hch : 1 ≤ ch ∧ ch ≤ C) (at' : Int) :
    0 ≤ (Tr.of (dsF k kh kw sh sw tp lf bt rt h w c C p zs bs x P ch at').1 (dsF k kh kw sh sw tp lf bt rt h w c C p zs bs x P ch at').2.1).w ∧ ((Tr.of (dsF k kh kw sh sw tp lf bt rt h w c C p zs bs x P ch at').1 (dsF k kh kw sh sw tp lf bt rt h w c C p zs bs x P ch at').2.1).w = 0 → (dsF k kh kw sh sw tp lf bt rt h w c C p zs bs x P ch at').2.2 = suA k kh kw sh sw tp lf bt rt h w c p zs bs x ch at') := by
  have hl := hok.1
  have hE := rfE_of hN (hok.2 (ch - 1).toNat (by omega))
  have h2 := dtR_whole (bi := biA k ch bs) ((siL k kh kw sh sw tp lf bt rt h w c ch at' zs).map (smT p x)) hE (biA_bd hb)
  refine ⟨h2.2.2.2.1, fun h0 => ?_⟩
  have h3 := h2.2.2.1 h0
  rw [smI_sm] at h3
  unfold suA
  rw [h3]
  rfl
theorem dsT_w {k kh kw sh sw tp lf bt rt h w c C p : Int} {zs bs x : List Int} {P : List Pl} {N : Nat} (hC : 0 < C) (hN : 1 ≤ N) (hok : Pok N C P) (hb : ∀ v ∈ bs, (Lit.int .i32 v).wf = true) :
    ∀ n : Nat, 0 ≤ (dsT k kh kw sh sw tp lf bt rt h w c C p zs bs x P n).w ∧ ((dsT k kh kw sh sw tp lf bt rt h w c C p zs bs x P n).w = 0 → dsL k kh kw sh sw tp lf bt rt h w c C p zs bs x P n = suL k kh kw sh sw tp lf bt rt h w c C p zs bs x n)
  | 0 => ⟨Int.le_refl _, fun _ => rfl⟩
  | n + 1 => by
    have e1 := Int.emod_nonneg (n : Int) (show C ≠ 0 by omega)
    have e2 := Int.emod_lt_of_pos (n : Int) hC
    obtain ⟨h1, h2⟩ := dsF_whole (k := k) (kh := kh) (kw := kw) (sh := sh) (sw := sw) (tp := tp) (lf := lf) (bt := bt) (rt := rt) (h := h) (w := w) (c := c) (p := p) (zs := zs) (x := x) hN hok hb (ch := (n : Int) % C + 1) ⟨by omega, by omega⟩ ((n : Int) / C)
    obtain ⟨g1, g2⟩ := dsT_w (k := k) (kh := kh) (kw := kw) (sh := sh) (sw := sw) (tp := tp) (lf := lf) (bt := bt) (rt := rt) (h := h) (w := w) (c := c) (p := p) (zs := zs) (x := x) hC hN hok hb n
    have e : (dsT k kh kw sh sw tp lf bt rt h w c C p zs bs x P (n + 1)).w = (dsT k kh kw sh sw tp lf bt rt h w c C p zs bs x P n).w + (Tr.of (dsF k kh kw sh sw tp lf bt rt h w c C p zs bs x P ((n : Int) % C + 1) ((n : Int) / C)).1 (dsF k kh kw sh sw tp lf bt rt h w c C p zs bs x P ((n : Int) % C + 1) ((n : Int) / C)).2.1).w := rfl
    rw [e]
    refine ⟨by omega, fun h0 => ?_⟩
    rw [dsL_succ, suL_succ, g2 (by omega), h2 (by omega)]
theorem vaK_va {k kh kw sh sw tp lf bt rt sm ss um us p h w c H V C : Int} {zs bs x y SS : List Int} (hk : 1 ≤ k) (hS : k ≤ 4 → SS = suL k kh kw sh sw tp lf bt rt h w c C p zs bs x (H * V * C).toNat) :
    vaK k kh kw sh sw sm ss um us w c V C (stR k kh kw h w c) (H * V * C).toNat SS x y = vaL k kh kw sh sw tp lf bt rt sm ss um us p h w c H V C zs bs x y := by
  unfold vaK vaL
  by_cases h3 : k ≤ 3
  · rw [if_pos h3, if_pos h3, hS (by omega)]
  · rw [if_neg h3, if_neg h3]
    by_cases h4 : k = 4
    · rw [if_pos h4, if_pos h4, hS (by omega)]
      subst h4
      rfl
    · rw [if_neg h4, if_neg h4]
theorem oNm_whole {o : Nat → Int} {A Q : Int × Int × Int} {lw lb : Nat} {zs bs xs ys : List Int} {PS : List Pl} (s : Opd (o 0) (o 2) (o 3) (o 4) (o 5) (o 6) (o 7) (o 8) (o 9) (o 10) (o 11) lw lb (o 14) (o 15) (o 16) (o 17) (o 18) (o 19) (o 20) (o 21) A.1 A.2.1 A.2.2 Q.1 Q.2.1 Q.2.2)
    (hb : ∀ v ∈ bs, (Lit.int .i32 v).wf = true) (hok : o 0 ≤ 4 → Pok (stR (o 0) (o 4) (o 5) A.1 A.2.1 A.2.2) Q.2.2 PS) :
    0 ≤ (oTk o A Q zs bs xs PS).w ∧ ((oTk o A Q zs bs xs PS).w = 0 → oNm o A Q zs bs xs ys PS = opT o zs bs A Q xs ys) := by
  have hC := (vS_yes s.hB).2.2.1
  have hk := s.hk
  unfold oTk oNm opT teL
  by_cases h4 : o 0 ≤ 4
  · have n1 := (s.si h4).2.2.2.2.2.2.2.2.1
    obtain ⟨N, hN⟩ : ∃ N : Nat, stR (o 0) (o 4) (o 5) A.1 A.2.1 A.2.2 = (N : Int) := ⟨(stR (o 0) (o 4) (o 5) A.1 A.2.1 A.2.2).toNat, by omega⟩
    have hok' := hok h4
    rw [hN] at hok'
    obtain ⟨g1, g2⟩ := dsT_w (k := o 0) (kh := o 4) (kw := o 5) (sh := o 6) (sw := o 7) (tp := o 8) (lf := o 9) (bt := o 10) (rt := o 11) (h := A.1) (w := A.2.1) (c := A.2.2) (p := o 19) (zs := zs) (x := xs) (by omega) (by omega) hok' hb (Q.1 * Q.2.1 * Q.2.2).toNat
    rw [if_pos h4]
    exact ⟨g1, fun h0 => by rw [vaK_va hk.1 (fun _ => g2 h0)]⟩
  · rw [if_neg h4]
    exact ⟨Int.le_refl _, fun _ => by rw [vaK_va hk.1 (fun q => absurd q h4)]⟩
end Go.Proofs.Ytehofmkpgopmpaa.Kr
