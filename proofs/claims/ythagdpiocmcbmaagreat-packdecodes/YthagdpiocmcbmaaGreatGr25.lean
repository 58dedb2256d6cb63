/- The document's bytes of a model: numbers behind bytes; Check. The document's Decode. Written by tools/gen/PdG.py. -/
import Derived.Test.YthagdpiocmcbmaaGreatGr19
import Derived.Test.YthagdpiocmcbmaaGreatGr20
import Derived.Test.YthagdpiocmcbmaaGreatGr24
/- The document's bytes of a model: numbers behind bytes; Check. -/
namespace Go.Proofs.YthagdpiocmcbmaaGreat
open Wr
open Go.ChangeShapes Go.WideShapes Go.ChangeAt Go.RowKit
set_option linter.unusedVariables false
set_option maxHeartbeats 2000000 in
theorem rcheck_any (h w c lo hi ot : Int) (oa : Option Addr) (on oc : Nat) (O : Nat → Nat → Int) (Z B : Nat → List Int) (W : World) (hL : LRow W oa on oc O Z B) (hon : on ≤ 1000000000000) :
    Calls Tryz.prog 19 #[.agg #[.int .i64 h, .int .i64 w, .int .i64 c, .int .i64 lo, .int .i64 hi, .slice oa on oc, .int .i64 ot]] W fun e w' => e = .returned (.agg #[.int .i64 (gtR O h w c lo hi ot on).1, .int .i64 (gtR O h w c lo hi ot on).2.1, .int .i64 0]) ∧ Below W.heap.size W w' := by
  have hG : Hid (∀ W, LRow W oa on oc O Z B → _) := fun W hW => look_any h w c lo hi ot oa on oc O Z B W hW hon
  obtain ⟨Re, Ra, RL, Rw, hR⟩ : ∃ Re Ra RL Rw, gtR O h w c lo hi ot on = (Re, Ra, RL, Rw) := ⟨_, _, _, _, rfl⟩
  rw [hR] at hG ⊢
  simp only
  have hM2 : Hid (LRow W oa on oc O Z B) := hL
  clear hR hL
  go_enter Tryz.func19, Tryz.ntmps19
  go_wp2_with fail
  refine Calls.mono (hG.out _ (hM2.out.below (St.start W).new.new.below)) ?_
  rintro e w1 ⟨v, rfl, hS, hb⟩
  obtain ⟨va, vc, rfl⟩ := hS.slice
  have s1 := ((St.start W).new.new).call hb
  simp only [World.size_alloc] at s1
  obtain ⟨c1, f1, z1, c2, f2, z2, -⟩ := s1.rules
  have hs1 : Hid (Below W.heap.size W w1) := s1.below
  clear hb hS s1
  go_wp2
  exact bodyPost_ret (v := .agg #[.int .i64 Re, .int .i64 Ra, .int .i64 0]) (by simp [results, Tryz.results19, go_sem, *]) rfl ⟨rfl, bt (set3b hs1.out (by omega)) (bal _ _)⟩
/-- 'append' of bytes to a writer's. -/
theorem wpList_appW {w : World} {ops : Array Oper} {rest : List Oper} {o : Oper} {a : Act} {Q : Exit → Act → World → Prop} (hgd : o.guard = none) (s x : Operand)
    (ho : o.op = .call { callee := .builtin .append, args := #[s, x], argTypes := #[22, 22] })
    (base : Nat) (v : Value) (xs ys : List Int) (hs : a.eval s = v) (hown : Wo w base v xs) (ad : Addr) (m c : Nat) (hx : a.eval x = .slice (some ad) m c) (hy : Wr.Row w (some ad) m c ys) (hm0 : 0 < ys.length)
    (hlen : xs.length + ys.length ≤ 140737488355328) (hbase : base ≤ w.heap.size)
    (hK : ∀ v' w', Wr.Own w' base v' (xs ++ ys) → v' ≠ .slice none 0 0 → Wk0 base w w' → wpList Tryz.prog ops Q rest (a.put o.dst v') w') : wpList Tryz.prog ops Q (o :: rest) a w := by
  refine wpList_plain hgd fun K hK' => ?_
  have := step_appW (ops := ops) (o := o) (a := a) (w := w) (K := K) (Q := Q) (E := False) hgd s x ho base v xs ys hs hown ad m c hx hy hm0 hlen hbase (fun v' w' h1 h2 h3 => hK' _ _ (hK v' w' h1 h2 h3))
  rwa [if_pos (by simp [Region.wanted, hgd])] at this
theorem Wk0.refl (base : Nat) (w : World) : Wk0 base w w := ⟨Below.refl _ _, fun _ _ _ _ h => h⟩
theorem Wk0.trans {base : Nat} {a b c : World} (h : Wk0 base a b) (k : Wk0 base b c) : Wk0 base a c := ⟨h.1.trans k.1, fun i cs T h1 h2 => k.2 i cs T h1 (h.2 i cs T h1 h2)⟩
theorem Wk0.of {base : Nat} {w w' : World} (h : Below w.heap.size w w') (hb : base ≤ w.heap.size) : Wk0 base w w' := ⟨h.mono hb, fun k c T _ hk => (h.block k (lt_of_heap hk)).trans hk⟩
theorem Wk0.size {base : Nat} {w w' : World} (h : Wk0 base w w') : w.heap.size ≤ w'.heap.size := h.1.size
theorem own_pos {w : World} {base : Nat} {v : Value} {zs : List Int} (h : Wr.Own w base v zs) (hp : 0 < zs.length) : v ≠ .slice none 0 0 := by
  rcases h.shape with ⟨-, h0⟩ | ⟨g, cap, e, -⟩
  · rw [h0] at hp; simp at hp
  · rw [e]; simp
end Go.Proofs.YthagdpiocmcbmaaGreat

/- The document's Decode. Written by tools/gen/PdG.py. -/
namespace Go.Proofs.YthagdpiocmcbmaaGreat
open Wr
open Go.ChangeShapes Go.WideShapes Go.ChangeAt Go.RowKit
set_option linter.unusedVariables false
set_option maxHeartbeats 8000000 in
set_option maxRecDepth 100000 in
theorem ddecode_any (a : Option Addr) (len cap : Nat) (zs : List Int) (w : World) (hr : Wr.Row w a len cap zs) (hs : len ≤ 140737488355328) :
    Calls Tryz.prog 5 #[.slice a len cap] w fun r w' => Dec zs w w' r ∧ Below w.heap.size w w' := by
  have s0 := ((St.start w).new (c := #[.int .i64 0, .int .i64 0, .int .i64 0, .int .i64 0, .int .i64 0, .slice none 0 0, .int .i64 0]) (t := 27)).new (c := #[.int .i64 0, .int .i64 0, .int .i64 0]) (t := 30)
  simp only [World.size_alloc] at s0
  have S0 : Hid (St w _ _) := s0
  have HR : Hid (Wr.Row _ a len cap zs) := hr.below s0.below
  clear hr s0
  go_enter Tryz.func5, Tryz.ntmps5
  go_wp2_with fail
  refine Calls.mono (dfront_any a len cap zs _ HR.out) ?_
  rintro r wf ⟨⟨hf, rfl⟩ | ⟨hf, a', rfl, hR, ha⟩, b1⟩
  · have hE : Hid (pAll zs = .inl (frontE zs, 0)) := front_e hf
    have s1 := S0.out.call b1
    have hf' : Hid (frontE zs ≠ 0) := hf
    obtain ⟨fe, hfe⟩ : ∃ fe, frontE zs = fe := ⟨_, rfl⟩
    rw [hfe] at hE hf' ⊢
    have hB1 : Hid (Below w.heap.size w wf) := s1.below
    have hN := s1.h2
    have hM := s1.h1
    have hne : w.heap.size ≠ w.heap.size + 1 := by omega
    obtain ⟨c1, f1, z1⟩ := cells_at hN
    obtain ⟨c2, f2, z2⟩ := cells_at hM
    clear b1 hf s1 S0 HR hfe
    have hx2 : (fe == 0) = false := by simpa using hf'.out
    have hx3 : (fe != 0) = true := by simpa using hf'.out
    go_wp2
    obtain ⟨wz, hwz⟩ : ∃ wz, wz = ((((((((((wf.setCell ⟨w.heap.size, 0, none⟩ (.int .i64 0)).setCell ⟨w.heap.size, 1, none⟩ (.int .i64 0)).setCell ⟨w.heap.size, 2, none⟩ (.int .i64 0)).setCell ⟨w.heap.size, 3, none⟩ (.int .i64 0)).setCell ⟨w.heap.size, 4, none⟩ (.int .i64 0)).setCell ⟨w.heap.size, 5, none⟩ (.slice none 0 0)).setCell ⟨w.heap.size, 6, none⟩ (.int .i64 0)).setCell ⟨w.heap.size + 1, 0, none⟩ (.int .i64 fe)).setCell ⟨w.heap.size + 1, 1, none⟩ (.int .i64 0)).setCell ⟨w.heap.size + 1, 2, none⟩ (.int .i64 0)) := ⟨_, rfl⟩
    rw [← hwz]
    obtain ⟨q1, q2, q3, q4⟩ := set73 hN hM hne (Nat.le_refl _) (Nat.le_succ _) hwz
    have Q3 : Hid (Below w.heap.size w wz) := hB1.out.trans q3
    have QS : Hid (Wr.Kept [w.heap.size, w.heap.size + 1] wf wz) := ⟨q3.os, q3.tape, q3.output, q3.size, fun k _ hk => q4 k (fun e => hk (by simp [e])) (fun e => hk (by simp [e]))⟩
    clear hwz q3 q4 c1 f1 z1 c2 f2 z2 hN hM
    obtain ⟨c1, f1, z1⟩ := cells_at q1
    obtain ⟨c2, f2, z2⟩ := cells_at q2
    try go_wp2
    exact bodyPost_ret (v := .tuple #[.agg #[.int .i64 0, .int .i64 0, .int .i64 0, .int .i64 0, .int .i64 0, .slice none 0 0, .int .i64 0], .agg #[.int .i64 fe, .int .i64 0, .int .i64 0]]) (by simp [results, Tryz.results5, go_sem, c1, c2]) rfl ⟨.inl ⟨fe, 0, hE.out, rfl⟩, Q3.out⟩

  have hz1 : w.heap.size + 2 ≤ wf.heap.size := by have := lt_of_heap (S0.out.call b1).h1; omega
  have S1 : Hid (St w wf _) := S0.out.call b1
  have hP : Hid (pAll zs = _) := front_0 hf
  have hlow := front_low HR.out hf ha b1.size
  have i0 : InR ((wf.alloc (.cells #[.slice a' (len - 4) (cap - 4), .int .i64 0, .int .i64 0, .int .i64 0, .int .i64 0, .int .i64 0] 45)).alloc (.cells #[.int .i64 0, .int .i64 0, .int .i64 0, .int .i64 0, .int .i64 0, .slice none 0 0, .int .i64 0] 27)) wf.heap.size (zs.drop 4) 0 0 0 0 := ⟨a', len - 4, cap - 4, ((bal (wf.alloc (.cells #[.slice a' (len - 4) (cap - 4), .int .i64 0, .int .i64 0, .int .i64 0, .int .i64 0, .int .i64 0] 45)) _).block _ (by simp)).trans (heap_alloc_new wf _), hR.below (bt (bal wf _) (bal _ _)), hlow⟩
  have p0 : Hid (InQ ((wf.alloc (.cells #[.slice a' (len - 4) (cap - 4), .int .i64 0, .int .i64 0, .int .i64 0, .int .i64 0, .int .i64 0] 45)).alloc (.cells #[.int .i64 0, .int .i64 0, .int .i64 0, .int .i64 0, .int .i64 0, .slice none 0 0, .int .i64 0] 27)) wf.heap.size 0 (.inr (zs.drop 4))) := i0
  have k0 : Hid (Wr.Kept [wf.heap.size] wf ((wf.alloc (.cells #[.slice a' (len - 4) (cap - 4), .int .i64 0, .int .i64 0, .int .i64 0, .int .i64 0, .int .i64 0] 45)).alloc (.cells #[.int .i64 0, .int .i64 0, .int .i64 0, .int .i64 0, .int .i64 0, .slice none 0 0, .int .i64 0] 27))) := (Kept.of (bal _ _)).trans (Kept.of (bal _ _))
  have d0 : Hid (((wf.alloc (.cells #[.slice a' (len - 4) (cap - 4), .int .i64 0, .int .i64 0, .int .i64 0, .int .i64 0, .int .i64 0] 45)).alloc (.cells #[.int .i64 0, .int .i64 0, .int .i64 0, .int .i64 0, .int .i64 0, .slice none 0 0, .int .i64 0] 27)).heap[wf.heap.size + 1]? = some (.cells #[.int .i64 0, .int .i64 0, .int .i64 0, .int .i64 0, .int .i64 0, .slice none 0 0, .int .i64 0] 27 (0, 0))) := by
    have := heap_alloc_new (wf.alloc (.cells #[.slice a' (len - 4) (cap - 4), .int .i64 0, .int .i64 0, .int .i64 0, .int .i64 0, .int .i64 0] 45)) (.cells #[.int .i64 0, .int .i64 0, .int .i64 0, .int .i64 0, .int .i64 0, .slice none 0 0, .int .i64 0] 27)
    rw [show (wf.alloc (.cells #[.slice a' (len - 4) (cap - 4), .int .i64 0, .int .i64 0, .int .i64 0, .int .i64 0, .int .i64 0] 45)).heap.size = wf.heap.size + 1 by simp] at this
    exact this
  clear i0 hlow hR ha b1 HR S0 hf
  go_wp2_with fail
  refine Calls.mono (inU_any wf.heap.size 0 _ _ p0.out) ?_
  rintro r w1 ⟨h0, s1, rfl, st, p, k⟩
  have h1 : Hid (Stp (pU 0) (.inr (zs.drop 4)) h0 s1) := st
  have d1' := (k.2.2.2.2 _ (lt_of_heap d0.out) (by simp)).trans d0.out
  have p1 : Hid (InQ (w1.setCell ⟨wf.heap.size + 1, 0, none⟩ (.int .i64 h0)) wf.heap.size 0 s1) := (p.keep (below_set (by omega)))
  have k1 : Hid (Wr.Kept [wf.heap.size] wf (w1.setCell ⟨wf.heap.size + 1, 0, none⟩ (.int .i64 h0))) := kept_set (k0.out.trans k) (by omega)
  have d1 : Hid ((w1.setCell ⟨wf.heap.size + 1, 0, none⟩ (.int .i64 h0)).heap[wf.heap.size + 1]? = some (.cells #[.int .i64 h0, .int .i64 0, .int .i64 0, .int .i64 0, .int .i64 0, .slice none 0 0, .int .i64 0] 27 (0, 0))) := set_at (i := 0) (v := .int .i64 h0) (d1')
  obtain ⟨cB1, fB1, zB1⟩ := cells_at d1'
  clear st p k p0 k0 d0 d1' 
  go_wp2_with fail
  refine Calls.mono (inU_any wf.heap.size 0 _ _ p1.out) ?_
  rintro r w2 ⟨w0, s2, rfl, st, p, k⟩
  have h2 : Hid (Stp (pU 0) s1 w0 s2) := st
  have d2' := (k.2.2.2.2 _ (lt_of_heap d1.out) (by simp)).trans d1.out
  have p2 : Hid (InQ (w2.setCell ⟨wf.heap.size + 1, 1, none⟩ (.int .i64 w0)) wf.heap.size 0 s2) := (p.keep (below_set (by omega)))
  have k2 : Hid (Wr.Kept [wf.heap.size] wf (w2.setCell ⟨wf.heap.size + 1, 1, none⟩ (.int .i64 w0))) := kept_set (k1.out.trans k) (by omega)
  have d2 : Hid ((w2.setCell ⟨wf.heap.size + 1, 1, none⟩ (.int .i64 w0)).heap[wf.heap.size + 1]? = some (.cells #[.int .i64 h0, .int .i64 w0, .int .i64 0, .int .i64 0, .int .i64 0, .slice none 0 0, .int .i64 0] 27 (0, 0))) := set_at (i := 1) (v := .int .i64 w0) (d2')
  obtain ⟨cB2, fB2, zB2⟩ := cells_at d2'
  clear st p k p1 k1 d1 d2' cB1 fB1 zB1
  go_wp2_with fail
  refine Calls.mono (inU_any wf.heap.size 0 _ _ p2.out) ?_
  rintro r w3 ⟨c0, s3, rfl, st, p, k⟩
  have h3 : Hid (Stp (pU 0) s2 c0 s3) := st
  have d3' := (k.2.2.2.2 _ (lt_of_heap d2.out) (by simp)).trans d2.out
  have p3 : Hid (InQ (w3.setCell ⟨wf.heap.size + 1, 2, none⟩ (.int .i64 c0)) wf.heap.size 0 s3) := (p.keep (below_set (by omega)))
  have k3 : Hid (Wr.Kept [wf.heap.size] wf (w3.setCell ⟨wf.heap.size + 1, 2, none⟩ (.int .i64 c0))) := kept_set (k2.out.trans k) (by omega)
  have d3 : Hid ((w3.setCell ⟨wf.heap.size + 1, 2, none⟩ (.int .i64 c0)).heap[wf.heap.size + 1]? = some (.cells #[.int .i64 h0, .int .i64 w0, .int .i64 c0, .int .i64 0, .int .i64 0, .slice none 0 0, .int .i64 0] 27 (0, 0))) := set_at (i := 2) (v := .int .i64 c0) (d3')
  obtain ⟨cB3, fB3, zB3⟩ := cells_at d3'
  clear st p k p2 k2 d2 d3' cB2 fB2 zB2
  go_wp2_with fail
  refine Calls.mono (inS32_any wf.heap.size 0 _ _ p3.out) ?_
  rintro r w4 ⟨lo, s4, rfl, -, st, p, k⟩
  have h4 : Hid (Stp (p32 0) s3 lo s4) := st
  have d4' := (k.2.2.2.2 _ (lt_of_heap d3.out) (by simp)).trans d3.out
  have p4 : Hid (InQ (w4.setCell ⟨wf.heap.size + 1, 3, none⟩ (.int .i64 lo)) wf.heap.size 0 s4) := (p.keep (below_set (by omega)))
  have k4 : Hid (Wr.Kept [wf.heap.size] wf (w4.setCell ⟨wf.heap.size + 1, 3, none⟩ (.int .i64 lo))) := kept_set (k3.out.trans k) (by omega)
  have d4 : Hid ((w4.setCell ⟨wf.heap.size + 1, 3, none⟩ (.int .i64 lo)).heap[wf.heap.size + 1]? = some (.cells #[.int .i64 h0, .int .i64 w0, .int .i64 c0, .int .i64 lo, .int .i64 0, .slice none 0 0, .int .i64 0] 27 (0, 0))) := set_at (i := 3) (v := .int .i64 lo) (d4')
  obtain ⟨cB4, fB4, zB4⟩ := cells_at d4'
  clear st p k p3 k3 d3 d4' cB3 fB3 zB3
  go_wp2_with fail
  refine Calls.mono (inS32_any wf.heap.size 0 _ _ p4.out) ?_
  rintro r w5 ⟨hi, s5, rfl, -, st, p, k⟩
  have h5 : Hid (Stp (p32 0) s4 hi s5) := st
  have d5' := (k.2.2.2.2 _ (lt_of_heap d4.out) (by simp)).trans d4.out
  have p5 : Hid (InQ (w5.setCell ⟨wf.heap.size + 1, 4, none⟩ (.int .i64 hi)) wf.heap.size 0 s5) := (p.keep (below_set (by omega)))
  have k5 : Hid (Wr.Kept [wf.heap.size] wf (w5.setCell ⟨wf.heap.size + 1, 4, none⟩ (.int .i64 hi))) := kept_set (k4.out.trans k) (by omega)
  have d5 : Hid ((w5.setCell ⟨wf.heap.size + 1, 4, none⟩ (.int .i64 hi)).heap[wf.heap.size + 1]? = some (.cells #[.int .i64 h0, .int .i64 w0, .int .i64 c0, .int .i64 lo, .int .i64 hi, .slice none 0 0, .int .i64 0] 27 (0, 0))) := set_at (i := 4) (v := .int .i64 hi) (d5')
  obtain ⟨cB5, fB5, zB5⟩ := cells_at d5'
  clear st p k p4 k4 d4 d5' cB4 fB4 zB4
  go_wp2_with fail
  refine Calls.mono (inN_any wf.heap.size 0 64 _ _ p5.out (by omega) (by omega)) ?_
  rintro r w6 ⟨n, s6, rfl, hn, st, p, k⟩
  have h6 : Hid (Stp (pN 0 64) s5 (n : Int) s6) := st
  have d6' := (k.2.2.2.2 _ (lt_of_heap d5.out) (by simp)).trans d5.out
  have p6 : Hid (InQ w6 wf.heap.size 0 s6) := p
  have k6 : Hid (Wr.Kept [wf.heap.size] wf w6) := k5.out.trans k
  have d6 : Hid (w6.heap[wf.heap.size + 1]? = some (.cells #[.int .i64 h0, .int .i64 w0, .int .i64 c0, .int .i64 lo, .int .i64 hi, .slice none 0 0, .int .i64 0] 27 (0, 0))) := d6'
  clear st p k p5 k5 d5 d6' cB5 fB5 zB5
  have z6 : wf.heap.size + 2 ≤ w6.heap.size := by have := lt_of_heap d6.out; omega
  have hn64 : n ≤ 64 := by omega
  clear hn
  go_upto_block 0 with fail
  go_cut [] (fun wx => ∃ (O : Nat → Nat → Int) (Z Bs : Nat → List Int) (s7 : Sum (Int × Int) (List Int)) (oa : Option Addr) (on oc : Nat) (tt : Int), on ≤ 64 ∧ Stp (pOps n 0) s6 (dOps O Z Bs on) s7 ∧ CRow wx (wf.heap.size + 2) (.slice oa on oc) on O Z Bs ∧ InQ wx wf.heap.size tt s7 ∧ Wr.Kept [wf.heap.size] wf wx ∧ wx.heap[wf.heap.size + 1]? = some (.cells #[.int .i64 h0, .int .i64 w0, .int .i64 c0, .int .i64 lo, .int .i64 hi, .slice oa on oc, .int .i64 0] 27 (0, 0)))
  case first =>
    go_wp2_with fail
    go_loopw [9] (fun i wr => ∃ (k : Nat) (O : Nat → Nat → Int) (Z Bs : Nat → List Int) (s : Sum (Int × Int) (List Int)) (la : Option Addr) (lc : Nat) (tt : Int), k ≤ n ∧ i = .int .i64 k ∧ Stp (pOps k 0) s6 (dOps O Z Bs k) s ∧ CRow wr w6.heap.size (.slice la k lc) k O Z Bs ∧ InQ wr wf.heap.size tt s ∧ Wr.Kept [wf.heap.size, wf.heap.size + 1] w6 wr ∧ wr.heap[wf.heap.size + 1]? = some (.cells #[.int .i64 h0, .int .i64 w0, .int .i64 c0, .int .i64 lo, .int .i64 hi, .slice la k lc, .int .i64 0] 27 (0, 0))) (fun i _ => n - (intOf i).toNat)
    case atStart => exact ⟨0, fun _ _ => 0, fun _ => [], fun _ => [], s6, none, 0, 0, Nat.zero_le _, rfl, Stp.nilO _, CRow.nil _ _ _ _ _, p6.out, Kept.of (Below.refl _ _), d6.out⟩
    case round =>
      obtain ⟨k, O, Z, Bs, s, la, lc, tt, hk, rfl, hS, hC, hQ, hK, hd⟩ := hrel
      have hS' : Hid (Stp (pOps k 0) s6 (dOps O Z Bs k) s) := hS
      have hC' : Hid (CRow wr w6.heap.size (.slice la k lc) k O Z Bs) := hC
      have hQ' : Hid (InQ wr wf.heap.size tt s) := hQ
      have hK' : Hid (Wr.Kept [wf.heap.size, wf.heap.size + 1] w6 wr) := hK
      have hd' : Hid (wr.heap[wf.heap.size + 1]? = some (.cells #[.int .i64 h0, .int .i64 w0, .int .i64 c0, .int .i64 lo, .int .i64 hi, .slice la k lc, .int .i64 0] 27 (0, 0))) := hd
      have EX : Hid ((k = n ∨ ∃ e, s = .inl e) → ∃ (O : Nat → Nat → Int) (Z Bs : Nat → List Int) (s7 : Sum (Int × Int) (List Int)) (oa : Option Addr) (on oc : Nat) (tt : Int), on ≤ 64 ∧ Stp (pOps n 0) s6 (dOps O Z Bs on) s7 ∧ CRow wr (wf.heap.size + 2) (.slice oa on oc) on O Z Bs ∧ InQ wr wf.heap.size tt s7 ∧ Wr.Kept [wf.heap.size] wf wr ∧ wr.heap[wf.heap.size + 1]? = some (.cells #[.int .i64 h0, .int .i64 w0, .int .i64 c0, .int .i64 lo, .int .i64 hi, .slice oa on oc, .int .i64 0] 27 (0, 0))) := fun hx =>
        ⟨O, Z, Bs, s, la, k, lc, tt, by omega, by rcases hx with rfl | ⟨e, rfl⟩; exact hS; exact hS.moreO hk, hC.base z6, hQ, kept_two k6.out hK (by omega), hd⟩
      obtain ⟨zz, f, qe, qt, hi, hs⟩ := hQ.split
      obtain ⟨ra, rl, rc, hB, -, -⟩ := hi
      obtain ⟨cP, fP, zP⟩ := cells_at hB
      obtain ⟨cO, fO, zO⟩ := cells_at hd
      clear hS hC hQ hK hd hB
      by_cases hlk : k < n
      · by_cases hqe : qe = 0
        · subst hqe
          have qD : Hid (InQ (wr.setCell ⟨wf.heap.size, 2, none⟩ (.int .i64 ((k : Int) + 1))).drew wf.heap.size ((k : Int) + 1) s) := (hQ'.out.op ((k : Int) + 1)).below (Below.refl _ _).drew
          have kD : Hid (Wr.Kept [wf.heap.size, wf.heap.size + 1] w6 (wr.setCell ⟨wf.heap.size, 2, none⟩ (.int .i64 ((k : Int) + 1))).drew) := (hK'.out.trans ((Kept.set (B := wf.heap.size)).wide (by simp))).trans (Kept.of (Below.refl _ _).drew)
          have cD : Hid (CRow (wr.setCell ⟨wf.heap.size, 2, none⟩ (.int .i64 ((k : Int) + 1))).drew w6.heap.size (.slice la k lc) k O Z Bs) := (hC'.out.kept (L := [wf.heap.size]) Kept.set (by simp; omega)).below (Below.refl _ _).drew
          have dD : Hid ((wr.setCell ⟨wf.heap.size, 2, none⟩ (.int .i64 ((k : Int) + 1))).drew.heap[wf.heap.size + 1]? = some (.cells #[.int .i64 h0, .int .i64 w0, .int .i64 c0, .int .i64 lo, .int .i64 hi, .slice la k lc, .int .i64 0] 27 (0, 0))) := (Below.heap_setCell _ _ _ _ (by simp)).trans hd'.out
          clear EX hs hQ' hK' hC'
          go_wp2
          go_region_law (first
            | (go_simp; go_at_call 16; refine (inop_any wf.heap.size ((k : Int) + 1) s _ qD.out).mono ?_; rintro e w1 ⟨o, z, b, wa, lw, cw, ba, lb, cb, s1, rfl, o12, o13, l1, l2, st, oz, ob, q1, k1⟩; have hd1 := (k1.2.2.2.2 _ (lt_of_heap dD.out) (by simp)).trans dD.out; obtain ⟨cQ, fQ, zQ⟩ := cells_at hd1; have hz1' : w6.heap.size ≤ w1.heap.size := (by have := k1.2.2.2.1; have := kD.out.2.2.2.1; omega); have hC1 := cD.out.kept k1 (by simp; omega); have oz1 := oz.base (c := w6.heap.size) (by have := kD.out.2.2.2.1; omega); have ob1 := ob.base (c := w6.heap.size) (by have := kD.out.2.2.2.1; omega); clear oz ob)
            | (refine step_appC rfl (.tmp 64) (.tmp 67) rfl rfl rfl hC1 (by omega) hz1' o12 o13 l1 l2 oz1 ob1 ?_; intro la3 lc3 w3 C3 hb3; have hd3 := (hb3.block _ (by omega)).trans hd1; obtain ⟨cS, fS, zS⟩ := cells_at hd3))
          all_goals
            have hE : Hid (Stp (pOps (k + 1) 0) s6 (dOps (upA O k o) (upA Z k z) (upA Bs k b) (k + 1)) s1 ∧ CRow (w3.setCell ⟨wf.heap.size + 1, 5, none⟩ (.slice la3 (k + 1) lc3)) w6.heap.size (.slice la3 (k + 1) lc3) (k + 1) (upA O k o) (upA Z k z) (upA Bs k b) ∧ InQ (w3.setCell ⟨wf.heap.size + 1, 5, none⟩ (.slice la3 (k + 1) lc3)) wf.heap.size ((k : Int) + 1) s1 ∧ Wr.Kept [wf.heap.size, wf.heap.size + 1] w6 (w3.setCell ⟨wf.heap.size + 1, 5, none⟩ (.slice la3 (k + 1) lc3)) ∧ (w3.setCell ⟨wf.heap.size + 1, 5, none⟩ (.slice la3 (k + 1) lc3)).heap[wf.heap.size + 1]? = some (.cells #[.int .i64 h0, .int .i64 w0, .int .i64 c0, .int .i64 lo, .int .i64 hi, .slice la3 (k + 1) lc3, .int .i64 0] 27 (0, 0))) :=
              ⟨by rw [dOps_up]; exact hS'.out.snocO st, C3.kept (L := [wf.heap.size + 1]) Kept.set (by simp; omega), (q1.keep (hb3.mono (by omega))).keep (below_set (by omega)), (kept_belowL (kD.out.trans (k1.wide (by simp))) hb3).trans ((Kept.set (B := wf.heap.size + 1)).wide (by simp)), set_at hd3⟩
            clear st q1 k1 C3 hb3 hd3 cS hd1 cQ cO oz1 ob1 hC1
            go_wp2
            go_roundw
            case rel => exact ⟨k + 1, _, _, _, s1, la3, lc3, _, by omega, by go_num, hE.out.1, hE.out.2.1, hE.out.2.2.1, hE.out.2.2.2.1, hE.out.2.2.2.2⟩
            case measure => simp [intOf]; omega
        · have hb : (qe == 0) = false := by simpa using hqe
          have EX' : Hid _ := EX.out (.inr (by rcases hs with ⟨rfl, -⟩ | ⟨-, h, -⟩; exact ⟨_, rfl⟩; exact absurd h hqe))
          clear EX hs
          go_wp2
          go_meet
          exact EX'.out
      · have EX' : Hid _ := EX.out (.inl (by omega))
        clear EX hs
        go_wp2
        go_meet
        exact EX'.out
  case rest =>
  obtain ⟨O, Z, Bs, s7, oa, on, oc, tt, hon, st, cr, p, k, hdd⟩ := hcut
  obtain ⟨w7, rfl⟩ : ∃ wo, wo = wc := ⟨_, rfl⟩
  have h7 : Hid (Stp (pOps n 0) s6 (dOps O Z Bs on) s7) := st
  have p7 : Hid (InQ (w7.setCell ⟨wf.heap.size, 2, none⟩ (.int .i64 0)) wf.heap.size 0 s7) := p.op 0
  have k7 : Hid (Wr.Kept [wf.heap.size] wf (w7.setCell ⟨wf.heap.size, 2, none⟩ (.int .i64 0))) := k.trans Kept.set
  have d7 : Hid ((w7.setCell ⟨wf.heap.size, 2, none⟩ (.int .i64 0)).heap[wf.heap.size + 1]? = some (.cells #[.int .i64 h0, .int .i64 w0, .int .i64 c0, .int .i64 lo, .int .i64 hi, .slice oa on oc, .int .i64 0] 27 (0, 0))) := (Below.heap_setCell _ _ _ _ (by simp)).trans hdd
  have r7 : Hid (CRow (w7.setCell ⟨wf.heap.size, 2, none⟩ (.int .i64 0)) (wf.heap.size + 2) (.slice oa on oc) on O Z Bs) := cr.kept (L := [wf.heap.size]) Kept.set (by simp)
  obtain ⟨zz, ff, qe, qt, hi, -⟩ := p.split
  obtain ⟨ra, rl, rc, hB, -, -⟩ := hi
  obtain ⟨cP, fP, zP⟩ := cells_at hB
  clear st cr p k hdd p6 k6 d6 z6 hB
  go_wp2_with fail
  refine Calls.mono (inU_any wf.heap.size 0 _ _ p7.out) ?_
  rintro r w8 ⟨ot, s8, rfl, st, p, k⟩
  have h8 : Hid (Stp (pU 0) s7 ot s8) := st
  have d8' := (k.2.2.2.2 _ (lt_of_heap d7.out) (by simp)).trans d7.out
  have p8 : Hid (InQ (w8.setCell ⟨wf.heap.size + 1, 6, none⟩ (.int .i64 ot)) wf.heap.size 0 s8) := (p.keep (below_set (by omega)))
  have k8 : Hid (Wr.Kept [wf.heap.size] wf (w8.setCell ⟨wf.heap.size + 1, 6, none⟩ (.int .i64 ot))) := kept_set (k7.out.trans k) (by omega)
  have d8 : Hid ((w8.setCell ⟨wf.heap.size + 1, 6, none⟩ (.int .i64 ot)).heap[wf.heap.size + 1]? = some (.cells #[.int .i64 h0, .int .i64 w0, .int .i64 c0, .int .i64 lo, .int .i64 hi, .slice oa on oc, .int .i64 ot] 27 (0, 0))) := set_at (i := 6) (v := .int .i64 ot) (d8')
  obtain ⟨cB8, fB8, zB8⟩ := cells_at d8'
  clear st p p7 k7 d7 d8' cP fP zP zz ff qe qt ra rl rc
  have r8 : Hid (CRow (w8.setCell ⟨wf.heap.size + 1, 6, none⟩ (.int .i64 ot)) (wf.heap.size + 2) (.slice oa on oc) on O Z Bs) := (r7.out.kept k (by simp)).kept (L := [wf.heap.size + 1]) Kept.set (by simp)
  clear k r7
  have hM : Hid (Stp pMod (.inr (zs.drop 4)) (dMod h0 w0 c0 lo hi ot on O Z Bs) s8) := stp_mod h1.out h2.out h3.out h4.out h5.out h6.out h7.out h8.out
  clear h1 h2 h3 h4 h5 h6 h7 h8
  obtain ⟨z8, f8, qe, qt, i8, hs8⟩ := p8.out.split
  have I8 : Hid (InR (w8.setCell ⟨wf.heap.size + 1, 6, none⟩ (.int .i64 ot)) wf.heap.size z8 f8 0 qe qt) := i8
  have hEnd : Hid ((ntE (endR z8 f8) qe ≠ 0 ∧ pAll zs = .inl (ntE (endR z8 f8) qe, ntT (endR z8 f8) qe 0 qt)) ∨ (ntE (endR z8 f8) qe = 0 ∧ pAll zs = .inr (dMod h0 w0 c0 lo hi ot on O Z Bs))) := stp_end hP.out hM.out hs8
  clear p8 hM hs8 hP i8
  go_wp2_with fail
  refine Calls.mono (dEnd_is wf.heap.size z8 f8 0 qe qt _ I8.out) ?_
  rintro r we ⟨rfl, rfl⟩
  clear cB8 fB8 zB8
  go_wp2_with fail
  refine Calls.mono (note_any wf.heap.size z8 f8 0 qe qt (endR z8 f8) _ I8.out) ?_
  rintro r w9 ⟨rfl, i9, k⟩
  have i9' : InR w9 wf.heap.size z8 f8 0 (ntE (endR z8 f8) qe) (ntT (endR z8 f8) qe 0 qt) := i9
  obtain ⟨ee, hee⟩ : ∃ ee, ntE (endR z8 f8) qe = ee := ⟨_, rfl⟩
  obtain ⟨te, hte⟩ : ∃ te, ntT (endR z8 f8) qe 0 qt = te := ⟨_, rfl⟩
  rw [hee, hte] at hEnd i9'
  clear hee hte
  have d9 := (k.2.2.2.2 _ (lt_of_heap d8.out) (by simp)).trans d8.out
  have k9 : Hid (Wr.Kept [wf.heap.size] wf w9) := k8.out.trans k
  have r9 : Hid (CRow w9 (wf.heap.size + 2) (.slice oa on oc) on O Z Bs) := r8.out.kept k (by simp)
  have D9 : Hid (w9.heap[wf.heap.size + 1]? = some (.cells #[.int .i64 h0, .int .i64 w0, .int .i64 c0, .int .i64 lo, .int .i64 hi, .slice oa on oc, .int .i64 ot] 27 (0, 0))) := d9
  obtain ⟨ra, rl, rc, hB, -, -⟩ := i9'
  obtain ⟨cP, fP, zP⟩ := cells_at hB
  clear i9 k k8 r8 d8 I8 hB
  have hN : w9.heap[w.heap.size]? = some (.cells #[.int .i64 0, .int .i64 0, .int .i64 0, .int .i64 0, .int .i64 0, .slice none 0 0, .int .i64 0] 27 (0, 0)) := (k9.out.2.2.2.2 _ (by omega) (by simp; omega)).trans S1.out.h2
  have hM : w9.heap[w.heap.size + 1]? = some (.cells #[.int .i64 0, .int .i64 0, .int .i64 0] 30 (0, 0)) := (k9.out.2.2.2.2 _ (by omega) (by simp; omega)).trans S1.out.h1
  have hB9 : Hid (Below w.heap.size w w9) := S1.out.below.trans ⟨k9.out.1, k9.out.2.1, k9.out.2.2.1, k9.out.2.2.2.1, fun i hi => k9.out.2.2.2.2 i (by omega) (by simp; omega)⟩
  have hne : w.heap.size ≠ w.heap.size + 1 := by omega
  have hz9 : wf.heap.size + 1 < w9.heap.size := lt_of_heap D9.out
  clear S1 k9
  by_cases hee : ¬ ee = 0
  · have hA : Hid (pAll zs = .inl (ee, te)) := by rcases hEnd.out with ⟨-, h⟩ | ⟨h, -⟩; exact h; exact absurd h hee
    have hx3 : (ee != 0) = true := by simpa using hee
    have hx2 : (ee == 0) = false := by simpa using hee
    obtain ⟨c1, f1, z1⟩ := cells_at hN
    obtain ⟨c2, f2, z2⟩ := cells_at hM
    clear hEnd D9 r9 hee
    go_wp2
    go_region_law (fail)
    all_goals
      obtain ⟨wz, hwz⟩ : ∃ wz, wz = ((((((((((w9.setCell ⟨w.heap.size, 0, none⟩ (.int .i64 0)).setCell ⟨w.heap.size, 1, none⟩ (.int .i64 0)).setCell ⟨w.heap.size, 2, none⟩ (.int .i64 0)).setCell ⟨w.heap.size, 3, none⟩ (.int .i64 0)).setCell ⟨w.heap.size, 4, none⟩ (.int .i64 0)).setCell ⟨w.heap.size, 5, none⟩ (.slice none 0 0)).setCell ⟨w.heap.size, 6, none⟩ (.int .i64 0)).setCell ⟨w.heap.size + 1, 0, none⟩ (.int .i64 ee)).setCell ⟨w.heap.size + 1, 1, none⟩ (.int .i64 te)).setCell ⟨w.heap.size + 1, 2, none⟩ (.int .i64 0)) := ⟨_, rfl⟩
      rw [← hwz]
      obtain ⟨q1, q2, q3, q4⟩ := set73 hN hM hne (Nat.le_refl _) (Nat.le_succ _) hwz
      have Q3 : Hid (Below w.heap.size w wz) := hB9.out.trans q3
      have QS : Hid (Wr.Kept [w.heap.size, w.heap.size + 1] w9 wz) := ⟨q3.os, q3.tape, q3.output, q3.size, fun k _ hk => q4 k (fun e => hk (by simp [e])) (fun e => hk (by simp [e]))⟩
      clear hwz q3 q4 c1 f1 z1 c2 f2 z2 hN hM
      obtain ⟨c1, f1, z1⟩ := cells_at q1
      obtain ⟨c2, f2, z2⟩ := cells_at q2
      go_wp2
      exact bodyPost_ret (v := .tuple #[.agg #[.int .i64 0, .int .i64 0, .int .i64 0, .int .i64 0, .int .i64 0, .slice none 0 0, .int .i64 0], .agg #[.int .i64 ee, .int .i64 te, .int .i64 0]]) (by simp [results, Tryz.results5, go_sem, c1, c2]) rfl ⟨.inl ⟨ee, te, hA.out, rfl⟩, Q3.out.drew⟩

  obtain rfl : ee = 0 := Decidable.not_not.1 hee
  clear hee
  have hA : Hid (pAll zs = .inr (dMod h0 w0 c0 lo hi ot on O Z Bs)) := by rcases hEnd.out with ⟨h, -⟩ | ⟨-, h⟩; exact absurd rfl h; exact h
  obtain ⟨x, t, L, wk, hg⟩ : ∃ x t L wk, gtR O h0 w0 c0 lo hi ot on = (x, t, L, wk) := ⟨_, _, _, _, rfl⟩
  have hC : Hid _ := rcheck_any h0 w0 c0 lo hi ot oa on oc O Z Bs w9 r9.out.l (by omega)
  rw [hg] at hC
  simp only at hC
  have hG : Hid (gtR O h0 w0 c0 lo hi ot on = (x, t, L, wk)) := hg
  have hLn : Hid (Lens on O Z Bs) := lens_of r9.out.l
  obtain ⟨c3, f3, z3⟩ := cells_at D9.out
  have HN : Hid (w9.heap[w.heap.size]? = some (.cells #[.int .i64 0, .int .i64 0, .int .i64 0, .int .i64 0, .int .i64 0, .slice none 0 0, .int .i64 0] 27 (0, 0))) := hN
  have HM : Hid (w9.heap[w.heap.size + 1]? = some (.cells #[.int .i64 0, .int .i64 0, .int .i64 0] 30 (0, 0))) := hM
  clear hg hEnd hN hM
  go_wp2_with fail
  refine Calls.mono hC.out ?_
  rintro r w10 ⟨rfl, b10⟩
  have hB10 : Hid (Below w9.heap.size w9 w10) := b10
  clear c3 f3 z3 cP fP zP hC
  obtain ⟨wA, hwA⟩ : ∃ wA, wA = w10.alloc (.cells #[.int .i64 x, .int .i64 t, .int .i64 0] 30) := ⟨_, rfl⟩
  have hZ10 : w9.heap.size ≤ w10.heap.size := b10.size
  have bA : Below w9.heap.size w9 wA := by rw [hwA]; exact bt b10 (bal _ _)
  have rA : Hid (CRow wA (wf.heap.size + 2) (.slice oa on oc) on O Z Bs) := r9.out.below bA
  have BA : Hid (Below w.heap.size w wA) := hB9.out.trans (bA.mono (by omega))
  have hN := (bA.block _ (by omega)).trans HN.out
  have hM := (bA.block _ (by omega)).trans HM.out
  have hD := (bA.block _ (by omega)).trans D9.out
  have hF : wA.heap[w10.heap.size]? = some (.cells #[.int .i64 x, .int .i64 t, .int .i64 0] 30 (0, 0)) := by rw [hwA]; exact heap_alloc_new w10 _
  clear b10 bA r9 hB9 HN HM D9 hB10
  obtain ⟨c1, f1, z1⟩ := cells_at hN
  obtain ⟨c2, f2, z2⟩ := cells_at hM
  obtain ⟨c4, f4, z4⟩ := cells_at hF
  by_cases hx : ¬ x = 0
  · have hx' : Hid (x ≠ 0) := hx
    have hx3 : (x != 0) = true := by simpa using hx
    have hx2 : (x == 0) = false := by simpa using hx
    clear hx hD
    go_upto_region 23 with fail
    rw [← hwA]
    clear hwA hF
    go_wp2
    go_region_law (fail)
    all_goals
      obtain ⟨wz, hwz⟩ : ∃ wz, wz = ((((((((((wA.setCell ⟨w.heap.size, 0, none⟩ (.int .i64 0)).setCell ⟨w.heap.size, 1, none⟩ (.int .i64 0)).setCell ⟨w.heap.size, 2, none⟩ (.int .i64 0)).setCell ⟨w.heap.size, 3, none⟩ (.int .i64 0)).setCell ⟨w.heap.size, 4, none⟩ (.int .i64 0)).setCell ⟨w.heap.size, 5, none⟩ (.slice none 0 0)).setCell ⟨w.heap.size, 6, none⟩ (.int .i64 0)).setCell ⟨w.heap.size + 1, 0, none⟩ (.int .i64 x)).setCell ⟨w.heap.size + 1, 1, none⟩ (.int .i64 t)).setCell ⟨w.heap.size + 1, 2, none⟩ (.int .i64 0)) := ⟨_, rfl⟩
      rw [← hwz]
      obtain ⟨q1, q2, q3, q4⟩ := set73 hN hM hne (Nat.le_refl _) (Nat.le_succ _) hwz
      have Q3 : Hid (Below w.heap.size w wz) := BA.out.trans q3
      have QS : Hid (Wr.Kept [w.heap.size, w.heap.size + 1] wA wz) := ⟨q3.os, q3.tape, q3.output, q3.size, fun k _ hk => q4 k (fun e => hk (by simp [e])) (fun e => hk (by simp [e]))⟩
      clear hwz q3 q4 c1 f1 z1 c2 f2 z2 hN hM
      obtain ⟨c1, f1, z1⟩ := cells_at q1
      obtain ⟨c2, f2, z2⟩ := cells_at q2
      go_wp2
      exact bodyPost_ret (v := .tuple #[.agg #[.int .i64 0, .int .i64 0, .int .i64 0, .int .i64 0, .int .i64 0, .slice none 0 0, .int .i64 0], .agg #[.int .i64 x, .int .i64 t, .int .i64 0]]) (by simp [results, Tryz.results5, go_sem, c1, c2]) rfl ⟨.inr ⟨h0, w0, c0, lo, hi, ot, oa, on, oc, O, Z, Bs, x, t, L, wk, hA.out, hG.out, hLn.out, .inl ⟨hx'.out, rfl⟩⟩, Q3.out.drew⟩

  obtain rfl : x = 0 := Decidable.not_not.1 hx
  obtain ⟨-, rfl, -⟩ := gtR_st hG.out
  obtain ⟨c3, f3, z3⟩ := cells_at hD
  clear hx hD
  go_upto_region 23 with fail
  rw [← hwA]
  clear hwA hF
  go_wp2
  obtain ⟨wz, hwz⟩ : ∃ wz, wz = ((((((((((wA.setCell ⟨w.heap.size, 0, none⟩ (.int .i64 h0)).setCell ⟨w.heap.size, 1, none⟩ (.int .i64 w0)).setCell ⟨w.heap.size, 2, none⟩ (.int .i64 c0)).setCell ⟨w.heap.size, 3, none⟩ (.int .i64 lo)).setCell ⟨w.heap.size, 4, none⟩ (.int .i64 hi)).setCell ⟨w.heap.size, 5, none⟩ (.slice oa on oc)).setCell ⟨w.heap.size, 6, none⟩ (.int .i64 ot)).setCell ⟨w.heap.size + 1, 0, none⟩ (.int .i64 0)).setCell ⟨w.heap.size + 1, 1, none⟩ (.int .i64 0)).setCell ⟨w.heap.size + 1, 2, none⟩ (.int .i64 0)) := ⟨_, rfl⟩
  rw [← hwz]
  obtain ⟨q1, q2, q3, q4⟩ := set73 hN hM hne (Nat.le_refl _) (Nat.le_succ _) hwz
  have Q3 : Hid (Below w.heap.size w wz) := BA.out.trans q3
  have QS : Hid (Wr.Kept [w.heap.size, w.heap.size + 1] wA wz) := ⟨q3.os, q3.tape, q3.output, q3.size, fun k _ hk => q4 k (fun e => hk (by simp [e])) (fun e => hk (by simp [e]))⟩
  clear hwz q3 q4 c1 f1 z1 c2 f2 z2 hN hM
  obtain ⟨c1, f1, z1⟩ := cells_at q1
  obtain ⟨c2, f2, z2⟩ := cells_at q2
  try go_wp2
  exact bodyPost_ret (v := .tuple #[.agg #[.int .i64 h0, .int .i64 w0, .int .i64 c0, .int .i64 lo, .int .i64 hi, .slice oa on oc, .int .i64 ot], .agg #[.int .i64 0, .int .i64 0, .int .i64 0]]) (by simp [results, Tryz.results5, go_sem, c1, c2]) rfl ⟨.inr ⟨h0, w0, c0, lo, hi, ot, oa, on, oc, O, Z, Bs, 0, 0, L, wk, hA.out, hG.out, hLn.out, .inr ⟨rfl, rfl, (rA.out.kept QS.out (by simp; omega)).base (by omega)⟩⟩, Q3.out⟩

end Go.Proofs.YthagdpiocmcbmaaGreat
