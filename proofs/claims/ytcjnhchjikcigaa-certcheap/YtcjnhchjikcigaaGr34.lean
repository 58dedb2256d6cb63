/- The walk of CertCheap: its body. -/
import Derived.Test.YtcjnhchjikcigaaGr33
/- The walk of CertCheap: its body. -/
namespace Go.Proofs.Ytcjnhchjikcigaa
open Go.ChangeShapes Go.WideShapes Go.ChangeAt Go.RowKit
set_option linter.unusedVariables false
theorem St.off {w0 w : World} {b i : Nat} {cur : Array Value} {T : TypeId} {v : Value} {l : List (Nat × Array Value × TypeId)} (h : St w0 w l) (hb : w.heap[b]? = some (.cells cur T (0, 0))) (hB : w0.heap.size ≤ b) (hT : ∀ x ∈ l, x.2.2 ≠ T) : St w0 (w.setCell ⟨b, i, none⟩ v) l :=
  ⟨h.1.setCell (p := ⟨b, i, none⟩) hB v, fun x hx => ⟨by rw [Below.heap_setCell _ _ _ _ (ne_of_ty (h.2 x hx).1 hb (hT x hx))]; exact (h.2 x hx).1, (h.2 x hx).2⟩⟩
set_option maxHeartbeats 16000000 in
set_option maxRecDepth 100000 in
theorem certCheap_w (h w c lo hi ot : Int) (oa : Option Addr) (on oc : Nat) (O : Nat → Nat → Int) (Z B : Nat → List Int) (ra : Option Addr) (rn rc : Nat) (R : List (Int × Int)) (pa : Option Addr) (pn pc : Nat) (P : List (List Pl)) (op ch dp : Int) (W : World) (hL : LRow W oa on oc O Z B) (hr : on * 208 ≤ 140737488351232) (hR : ERow 2 scs W ra rn rc R) (hP : QRow W pa pn pc P) (hrn : rn * 16 ≤ 140737488351232) (hpn : pn * 24 ≤ 140737488351232) (wop : -9223372036854775808 ≤ op ∧ op ≤ 9223372036854775807) (wch : -9223372036854775808 ≤ ch ∧ ch ≤ 9223372036854775807) :
    Calls Try.prog 6 #[.agg #[.int .i64 h, .int .i64 w, .int .i64 c, .int .i64 lo, .int .i64 hi, .slice oa on oc, .int .i64 ot, .slice ra rn rc, .slice pa pn pc, .int .i64 op, .int .i64 ch, .int .i64 dp]] W fun e w' => e = .returned (.bool true) ∧ Below W.heap.size W w' := by
  obtain ⟨Re, Ra, RL, Rw, hG⟩ : ∃ Re Ra RL Rw, gtR O h w c lo hi ot on = (Re, Ra, RL, Rw) := ⟨_, _, _, _, rfl⟩
  obtain ⟨x1, x2, x3, hX⟩ : ∃ x1 x2 x3, foE Re Ra on (nuP O RL) R P = (x1, x2, x3) := ⟨_, _, _, rfl⟩
  obtain ⟨y1, y2, y3, y4, e1, e2, e3, hY⟩ : ∃ y1 y2 y3 y4 e1 e2 e3, csE (x1, x2, x3) (leN O RL) (poN RL) P = ((y1, y2, y3, y4), e1, e2, e3) := ⟨_, _, _, _, _, _, _, rfl⟩
  have A1 : Hid (∀ w', Below W.heap.size W w' → _) := fun w' hb => ccost_any h w c lo hi ot oa on oc O Z B ra rn rc R pa pn pc P w' (hL.below hb) (hR.below hb) (hP.below hb) (by omega) (by omega) Re Ra Rw RL hG x1 x2 x3 hX y1 y2 y3 y4 e1 e2 e3 hY
  have A2 : Hid (∀ w', Below W.heap.size W w' → _) := fun w' hb => work_any h w c lo hi ot oa on oc O w' (hL.m.below hb)
  rw [hG] at A2
  simp only at A2
  have A3 : Hid (∀ w', Below W.heap.size W w' → _) := fun w' hb => ccopy_any ra rn rc R pa pn pc P w' (hR.below hb) (hP.below hb) hrn hpn
  have HL : Hid (LRow W oa on oc O Z B) := hL
  have HP : Hid (QRow W pa pn pc P) := hP
  have HG : Hid (gtR O h w c lo hi ot on = (Re, Ra, RL, Rw)) := hG
  have HX : Hid (foE Re Ra on (nuP O RL) R P = (x1, x2, x3)) := hX
  have HY : Hid (csE (x1, x2, x3) (leN O RL) (poN RL) P = ((y1, y2, y3, y4), e1, e2, e3)) := hY
  have HRL : Hid (R.length = rn) := hR.1
  have m5 := hP.2.1
  have m6 := hP.2.2.1
  unfold maxLen at m6
  clear hG hX hY hL hR hP
  have s0 := (St.start W).new (c := #[.int .i64 h, .int .i64 w, .int .i64 c, .int .i64 lo, .int .i64 hi, .slice oa on oc, .int .i64 ot, .slice ra rn rc, .slice pa pn pc, .int .i64 op, .int .i64 ch, .int .i64 dp]) (t := 53)
  go_enter Try.func6, Try.ntmps6
  go_upto_region 1 with fail
  have s1 := s0.drew
  clear s0
  refine regionC (fun w' => w'.heap[W.heap.size]? = some (.cells #[.int .i64 h, .int .i64 w, .int .i64 c, .int .i64 lo, .int .i64 hi, .slice oa on oc, .int .i64 ot, .slice ra rn rc, .slice pa pn pc, .int .i64 op, .int .i64 ch, .int .i64 dp] 53 (0, 0))) (by kernel_rfl) ?_
  generalize World.drew _ = w1 at s1 ⊢
  refine takeC 0 (v := .pointer (some ⟨W.heap.size, 0, none⟩)) rfl rfl (by kernel_rfl) (by kernel_rfl) (by kernel_rfl) (fun _ _ _ h => h) (fun _ => by kernel_rfl) (by kernel_rfl) (fun w' hw' => by kernel_rfl) ?_
  refine takeC 1 (v := .agg #[.int .i64 h, .int .i64 w, .int .i64 c, .int .i64 lo, .int .i64 hi, .slice oa on oc, .int .i64 ot, .slice ra rn rc, .slice pa pn pc]) rfl rfl (by kernel_rfl) (by kernel_rfl) (by kernel_rfl) (fun _ _ _ h => h) (fun _ => by kernel_rfl) (by kernel_rfl) (fun w' hw' => run_la 32 (.tmp 15) rfl ⟨W.heap.size, 0, none⟩ (by kernel_rfl) [.int .i64 h, .int .i64 w, .int .i64 c, .int .i64 lo, .int .i64 hi, .slice oa on oc, .int .i64 ot, .slice ra rn rc, .slice pa pn pc] _ (part_cells hw' 0 [.int .i64 h, .int .i64 w, .int .i64 c, .int .i64 lo, .int .i64 hi, .slice oa on oc, .int .i64 ot, .slice ra rn rc, .slice pa pn pc] (sub_at [] [.int .i64 h, .int .i64 w, .int .i64 c, .int .i64 lo, .int .i64 hi, .slice oa on oc, .int .i64 ot, .slice ra rn rc, .slice pa pn pc] [.int .i64 op, .int .i64 ch, .int .i64 dp])) Try.underlying32 rfl (by kernel_rfl)) ?_
  refine takeC 2 (v := .pointer (some ⟨W.heap.size, 9, none⟩)) rfl rfl (by kernel_rfl) (by kernel_rfl) (by kernel_rfl) (fun _ _ _ h => h) (fun _ => by kernel_rfl) (by kernel_rfl) (fun w' hw' => by kernel_rfl) ?_
  refine takeC 3 (v := .int .i64 op) rfl rfl (by kernel_rfl) (by kernel_rfl) (by kernel_rfl) (fun _ _ _ h => h) (fun _ => by kernel_rfl) (by kernel_rfl) (fun w' hw' => by have hc := (cells_at hw').1 9; go_simp) ?_
  refine takeC 4 (v := .pointer (some ⟨W.heap.size, 10, none⟩)) rfl rfl (by kernel_rfl) (by kernel_rfl) (by kernel_rfl) (fun _ _ _ h => h) (fun _ => by kernel_rfl) (by kernel_rfl) (fun w' hw' => by kernel_rfl) ?_
  refine takeC 5 (v := .int .i64 ch) rfl rfl (by kernel_rfl) (by kernel_rfl) (by kernel_rfl) (fun _ _ _ h => h) (fun _ => by kernel_rfl) (by kernel_rfl) (fun w' hw' => by have hc := (cells_at hw').1 10; go_simp) ?_
  refine takeC 6 (v := .pointer (some ⟨W.heap.size, 11, none⟩)) rfl rfl (by kernel_rfl) (by kernel_rfl) (by kernel_rfl) (fun _ _ _ h => h) (fun _ => by kernel_rfl) (by kernel_rfl) (fun w' hw' => by kernel_rfl) ?_
  refine takeC 7 (v := .int .i64 dp) rfl rfl (by kernel_rfl) (by kernel_rfl) (by kernel_rfl) (fun _ _ _ h => h) (fun _ => by kernel_rfl) (by kernel_rfl) (fun w' hw' => by have hc := (cells_at hw').1 11; go_simp) ?_
  refine zR 8 s1.h1 (by kernel_rfl) rfl rfl (.pointer (some ⟨w1.heap.size, 0, none⟩)) (w1.alloc (.cells #[.int .i64 0, .int .i64 0, .int .i64 0, .int .i64 0, .int .i64 0, .slice none 0 0, .int .i64 0, .slice none 0 0, .slice none 0 0] 32)) (by kernel_rfl) ?_
  have s2 := s1.new (c := #[.int .i64 0, .int .i64 0, .int .i64 0, .int .i64 0, .int .i64 0, .slice none 0 0, .int .i64 0, .slice none 0 0, .slice none 0 0]) (t := 32)
  obtain ⟨B3, hB3⟩ : ∃ B3, w1.heap.size = B3 := ⟨_, rfl⟩
  obtain ⟨w2, hw2⟩ : ∃ w2, w1.alloc (.cells #[.int .i64 0, .int .i64 0, .int .i64 0, .int .i64 0, .int .i64 0, .slice none 0 0, .int .i64 0, .slice none 0 0, .slice none 0 0] 32) = w2 := ⟨_, rfl⟩
  rw [hw2, hB3] at s2
  rw [hw2, hB3]
  clear hw2 hB3 s1
  refine zS 9 s2.h2 (by kernel_rfl) rfl rfl 32 (.tmp 3) (.tmp 16) rfl B3 #[.int .i64 h, .int .i64 w, .int .i64 c, .int .i64 lo, .int .i64 hi, .slice oa on oc, .int .i64 ot, .slice ra rn rc, .slice pa pn pc] (by kernel_rfl) (by kernel_rfl) 32 #[.int .i64 0, .int .i64 0, .int .i64 0, .int .i64 0, .int .i64 0, .slice none 0 0, .int .i64 0, .slice none 0 0, .slice none 0 0] s2.h1 (by kernel_rfl) rfl (by simp [Value.oneCell']) ?_
  have s3 := s2.row #[.int .i64 h, .int .i64 w, .int .i64 c, .int .i64 lo, .int .i64 hi, .slice oa on oc, .int .i64 ot, .slice ra rn rc, .slice pa pn pc] (fun x hx => by simp only [List.mem_cons, List.not_mem_nil, or_false] at hx; subst hx; exact ne_of_ty s2.h2 s2.h1 (by decide))
  generalize World.setRow _ _ _ = w3 at s3 ⊢
  clear s2
  refine takeC 10 (v := .int .i64 op) rfl rfl (by kernel_rfl) (by kernel_rfl) (by kernel_rfl) (fun _ _ _ h => h) (fun _ => by kernel_rfl) (by kernel_rfl) (fun w' hw' => by kernel_rfl) ?_
  refine takeC 11 (v := .int .i64 ch) rfl rfl (by kernel_rfl) (by kernel_rfl) (by kernel_rfl) (fun _ _ _ h => h) (fun _ => by kernel_rfl) (by kernel_rfl) (fun w' hw' => by kernel_rfl) ?_
  refine takeC 12 (v := .int .i64 dp) rfl rfl (by kernel_rfl) (by kernel_rfl) (by kernel_rfl) (fun _ _ _ h => h) (fun _ => by kernel_rfl) (by kernel_rfl) (fun w' hw' => by kernel_rfl) ?_
  refine doneC s3.h2 (by kernel_rfl) ?_ _
  go_wp2_with fail
  refine (fixed15_any _).mono ?_
  rintro e' w4 ⟨rfl, hb⟩
  have s4 := s3.call hb
  clear hb s3
  obtain ⟨c3, f3, z3, c1, f1, z1, -⟩ := s4.rules
  go_wp2_with fail
  refine (A1.out _ s4.below).mono ?_
  rintro e' w5 ⟨rfl, hb⟩
  have s6 := ((s4.call hb).new (c := #[.int .i64 y1, .int .i64 y2, .int .i64 y3, .int .i64 y4, .int .i64 0, .int .i64 0, .int .i64 0, .int .i64 0, .int .i64 0]) (t := 36)).new (c := #[.int .i64 e1, .int .i64 e2, .int .i64 e3]) (t := 39)
  simp only [World.size_alloc] at s6
  clear hb c3 f3 z3 c1 f1 z1 A1 s4
  go_upto_region 5 with fail
  obtain ⟨B7, hB7⟩ : ∃ B7, w5.heap.size = B7 := ⟨_, rfl⟩
  obtain ⟨w6, hw6⟩ : ∃ w6, (w5.alloc (.cells #[.int .i64 y1, .int .i64 y2, .int .i64 y3, .int .i64 y4, .int .i64 0, .int .i64 0, .int .i64 0, .int .i64 0, .int .i64 0] 36)).alloc (.cells #[.int .i64 e1, .int .i64 e2, .int .i64 e3] 39) = w6 := ⟨_, rfl⟩
  rw [hw6, hB7] at s6
  rw [hw6, hB7]
  clear hw6 hB7
  have S6 : Hid (St W w6 _) := s6
  by_cases he : e1 = 0
  rotate_left
  · have hz := csE_e (show (csE (x1, x2, x3) (leN O RL) (poN RL) P).2.1 ≠ 0 by rw [HY.out]; exact he)
    rw [HY.out] at hz
    simp only [Prod.mk.injEq] at hz
    obtain ⟨rfl, rfl, rfl, rfl⟩ := hz
    have qT := eqT9 0 0 0 0
    have he1 : (e1 == 0) = false := by simp [he]
    obtain ⟨c8, f8, z8, c7, f7, z7, c3, f3, z3, c1, f1, z1, -⟩ := s6.rules
    clear s6
    go_wp2
    go_ret
    exact ⟨rfl, S6.out.below⟩
  · subst he
    obtain ⟨rfl, rfl, hX0, hY0, rfl, k1, k2, k3, k4, k5, k6, k7, k8⟩ := cs_ok HG.out HX.out HY.out
    clear HX HY
    have HX0 : Hid (foE 0 0 on (nuP O RL) R P = (0, 0, 0)) := hX0
    have HY0 : Hid (coP (leN O RL) (poN RL) P 0 (0, 0, 0, 0) = ((y1, y1, y3, y4), 0, 0, 0)) := hY0
    clear hX0 hY0 k8
    obtain ⟨c8, f8, z8, c7, f7, z7, c3, f3, z3, c1, f1, z1, -⟩ := s6.rules
    clear s6
    go_wp2_with fail
    refine (A2.out _ S6.out.below).mono ?_
    rintro e' w7 ⟨rfl, hb⟩
    have s8 := (S6.out.call hb).new (c := #[.int .i64 0, .int .i64 0, .int .i64 0]) (t := 39)
    clear hb c8 f8 z8 c7 f7 z7 c3 f3 z3 c1 f1 z1 A2 S6
    go_upto_region 8 with fail
    obtain ⟨B10, hB10⟩ : ∃ B10, w7.heap.size = B10 := ⟨_, rfl⟩
    obtain ⟨w8, hw8⟩ : ∃ w8, w7.alloc (.cells #[.int .i64 0, .int .i64 0, .int .i64 0] 39) = w8 := ⟨_, rfl⟩
    rw [hw8, hB10] at s8
    rw [hw8, hB10]
    clear hw8 hB10
    have S8 : Hid (St W w8 _) := s8
    obtain ⟨c10, f10, z10, c8, f8, z8, c7, f7, z7, c3, f3, z3, c1, f1, z1, -⟩ := s8.rules
    clear s8
    go_upto_region 10 with fail
    have hpon : Hid (pn = on) := by have := HP.out.1; unfold Hid; omega
    have hp64 : pn ≤ 64 := by have := HP.out.1; omega
    by_cases q1 : op < 1
    · clear c10 f10 c8 f8 c7 f7
      go_wp2
      go_ret
      exact ⟨rfl, S8.out.below⟩
    by_cases q2 : (pn : Int) < op
    · clear c10 f10 c8 f8 c7 f7
      go_wp2
      go_ret
      exact ⟨rfl, S8.out.below⟩
    obtain ⟨o, rfl⟩ : ∃ o : Nat, op = (o : Int) + 1 := ⟨(op - 1).toNat, by omega⟩
    have ho : o < pn := by omega
    by_cases q3 : ch < 1
    · clear c10 f10 c8 f8 c7 f7
      go_wp2
      go_ret
      exact ⟨rfl, S8.out.below⟩
    obtain ⟨x, l, ca, cc, rfl, hPo, -, hcl, hE, -⟩ := (HP.out.below S8.out.below).at ho
    obtain ⟨ln, hln⟩ : ∃ ln, l.length = ln := ⟨_, rfl⟩
    rw [hln] at hcl
    have HLN : Hid (l.length = ln) := hln
    have HPO : Hid (P[o]? = some l) := hPo
    have l1 := hE.2.1
    have l2 := hE.2.2.1
    unfold maxLen at l2
    rw [hln] at l1
    clear hE hln hPo q1 q2
    by_cases q4 : (ln : Int) < ch
    · clear c10 f10 c8 f8 c7 f7
      go_wp2
      go_ret
      exact ⟨rfl, S8.out.below⟩
    obtain ⟨k, rfl⟩ : ∃ k : Nat, ch = (k : Int) + 1 := ⟨(ch - 1).toNat, by omega⟩
    have hk : k < ln := by omega
    obtain ⟨p, hpk⟩ : ∃ p, l[k]? = some p := ⟨_, List.getElem?_eq_getElem (by rw [HLN.out]; exact hk)⟩
    obtain ⟨p1, p2, p3, p4, p5, p6⟩ := p
    have HPK : Hid (l[k]? = some (p1, p2, p3, p4, p5, p6)) := hpk
    clear hpk q3 q4
    go_wp2_with fail
    refine (A3.out _ S8.out.below).mono ?_
    rintro e' w9 ⟨ra', rc', pa', pc', rfl, hE2, hQ2, hb⟩
    have s10 := (S8.out.call hb).new (c := #[.slice ra' rn rc', .slice pa' pn pc']) (t := 30)
    have hE3 := owns_below hE2 (bal w9 (.cells #[.slice ra' rn rc', .slice pa' pn pc'] 30))
    have hQ3 := hQ2.below (bal w9 (.cells #[.slice ra' rn rc', .slice pa' pn pc'] 30))
    have hsz : W.heap.size ≤ w8.heap.size := S8.out.size
    clear hb c10 f10 z10 c8 f8 z8 c7 f7 z7 c3 f3 z3 c1 f1 z1 A3 hcl hE2 hQ2 S8
    go_upto_region 13 with fail
    obtain ⟨B11, hB11⟩ : ∃ B11, w9.heap.size = B11 := ⟨_, rfl⟩
    obtain ⟨wA, hwA⟩ : ∃ wA, w9.alloc (.cells #[.slice ra' rn rc', .slice pa' pn pc'] 30) = wA := ⟨_, rfl⟩
    rw [hwA, hB11] at s10
    rw [hwA] at hE3 hQ3
    rw [hwA, hB11]
    clear hwA hB11
    obtain ⟨x', cc', b, cur, rfl, hcell, hn, hm, hfz, hcs, hbase, hhb, hQ4⟩ := hQ3.put HPO.out HPK.out dp
    rw [HLN.out] at hcell hn
    unfold maxLen at hm
    have k0 := hcs 0 _ rfl
    have k1' := hcs 1 _ rfl
    rw [Nat.add_zero] at k0
    have SA : Hid (St W wA _) := s10
    have HQ4 : Hid (QRow (wA.setCell ⟨b, k * 6 + 1, none⟩ (.int .i64 dp)) (some x') pn pc' (P.set o (l.set k (p1, dp, p3, p4, p5, p6)))) := hQ4
    have HE3 : Hid (wA.ownsRow w8.heap.size 59 2 (.slice ra' rn rc') rn (R.flatMap scs)) := hE3
    have HHB : Hid (wA.heap[b]? = some (.cells cur 61 (0, 0))) := hhb
    have hpc := HQ4.out.2.1
    have hpm := HQ4.out.2.2.1
    unfold maxLen at hpm
    obtain ⟨c11, f11, z11, c10, f10, z10, c8, f8, z8, c7, f7, z7, c3, f3, z3, c1, f1, z1, -⟩ := s10.rules
    have hbz := lt_of_heap hhb
    clear s10 hE3 hQ3 hQ4 hcs hhb
    have fk := hfz (k * 6 + 1)
    have hne : b ≠ B11 := ne_of_ty HHB.out SA.out.h1 (by decide)
    by_cases r1 : p1 = 16
    rotate_left
    · have r1' : (p1 != 16) = true := by simp [r1]
      clear c10 f10 c8 f8 c7 f7 c3 f3
      go_wp2
      go_ret
      exact ⟨rfl, SA.out.below⟩
    subst r1
    by_cases r2 : dp < p2
    · clear c10 f10 c8 f8 c7 f7 c3 f3
      go_wp2
      go_ret
      exact ⟨rfl, SA.out.below⟩
    go_upto_region 17 with fail
    have sB := SA.out.off (i := k * 6 + 1) (v := .int .i64 dp) HHB.out (Nat.le_trans hsz hbase) (by simp)
    have hE5 := owns_erow scs_len (owns_other HE3.out (w' := wA.setCell ⟨b, k * 6 + 1, none⟩ (.int .i64 dp)) (fun g c hg => by rw [Below.heap_setCell _ _ _ _ (ne_of_ty hg HHB.out (by decide))]; exact hg)) HRL.out
    clear c11 f11 z11 c10 f10 z10 c8 f8 z8 c7 f7 z7 c3 f3 z3 c1 f1 z1 SA HE3 hfz fk k0 k1' hcell
    obtain ⟨wB, hwB⟩ : ∃ wB, wA.setCell ⟨b, k * 6 + 1, none⟩ (.int .i64 dp) = wB := ⟨_, rfl⟩
    rw [hwB] at sB hE5 HQ4
    rw [hwB]
    clear hwB
    have SB : Hid (St W wB _) := sB
    obtain ⟨hX2, u1, u2, u3, u4, g1, g2, g3, hU, hcase⟩ := cs_deep HG.out HX0.out HY0.out HPO.out HPK.out rfl dp (by simp only; omega)
    simp only at hX2 hU
    have A4 : Hid (Calls Try.prog 9 #[.agg #[.int .i64 h, .int .i64 w, .int .i64 c, .int .i64 lo, .int .i64 hi, .slice oa on oc, .int .i64 ot], .agg #[.slice ra' rn rc', .slice (some x') pn pc']] wB _) := ccost_any h w c lo hi ot oa on oc O Z B ra' rn rc' R (some x') pn pc' _ wB (HL.out.below sB.below) hE5 HQ4.out (by omega) (by omega) 0 0 Rw RL HG.out 0 0 0 hX2 u1 u2 u3 u4 g1 g2 g3 hU
    obtain ⟨c11, f11, z11, c10, f10, z10, c8, f8, z8, c7, f7, z7, c3, f3, z3, c1, f1, z1, -⟩ := sB.rules
    clear sB hE5 HQ4 hX2 hU HX0 HY0 HHB hbz hne
    go_wp2_with fail
    refine A4.out.mono ?_
    rintro e' wC ⟨rfl, hb⟩
    have sC := ((SB.out.call hb).new (c := #[.int .i64 u1, .int .i64 u2, .int .i64 u3, .int .i64 u4, .int .i64 0, .int .i64 0, .int .i64 0, .int .i64 0, .int .i64 0]) (t := 36)).new (c := #[.int .i64 g1, .int .i64 g2, .int .i64 g3]) (t := 39)
    simp only [World.size_alloc] at sC
    clear hb c11 f11 z11 c10 f10 z10 c8 f8 z8 c7 f7 z7 c3 f3 z3 c1 f1 z1 A4 SB
    go_upto_region 18 with fail
    obtain ⟨B13, hB13⟩ : ∃ B13, wC.heap.size = B13 := ⟨_, rfl⟩
    obtain ⟨wD, hwD⟩ : ∃ wD, (wC.alloc (.cells #[.int .i64 u1, .int .i64 u2, .int .i64 u3, .int .i64 u4, .int .i64 0, .int .i64 0, .int .i64 0, .int .i64 0, .int .i64 0] 36)).alloc (.cells #[.int .i64 g1, .int .i64 g2, .int .i64 g3] 39) = wD := ⟨_, rfl⟩
    rw [hwD, hB13] at sC
    rw [hwD, hB13]
    clear hwD hB13
    have SD : Hid (St W wD _) := sC
    obtain ⟨c14, f14, z14, c13, f13, z13, c11, f11, z11, c10, f10, z10, c8, f8, z8, c7, f7, z7, c3, f3, z3, c1, f1, z1, -⟩ := sC.rules
    clear sC
    rcases hcase with ⟨rfl, rfl, rfl⟩ | ⟨rfl, rfl, rfl, hu⟩
    · have qF := eqF3 151 ((o : Int) + 1) ((k : Int) + 1)
      clear c13 f13 c11 f11 c10 f10 c8 f8 c7 f7 c3 f3
      go_wp2
      go_ret
      exact ⟨rfl, SD.out.below⟩
    · clear c11 f11 c10 f10 c8 f8 c3 f3
      go_wp2
      go_ret
      exact ⟨rfl, SD.out.below⟩
theorem certCheap_walk (h w c lo hi : Int) (oa : Option Addr) (on oc : Nat) (ot : Int) (ra : Option Addr) (rn rc : Nat) (pa : Option Addr) (pn pc : Nat) (op ch dp : Int) (W : World) (_ : (Lit.int .i64 h).wf = true) (_ : (Lit.int .i64 w).wf = true) (_ : (Lit.int .i64 c).wf = true) (_ : (Lit.int .i64 lo).wf = true) (_ : (Lit.int .i64 hi).wf = true) (wo : ORow 22 (OpIn W) W oa on oc) (hr : on * 208 ≤ 140737488351232) (_ : (Lit.int .i64 ot).wf = true) (h1 : ORow 2 (fun cs => ∃ (b0 : Int) (b1 : Int), cs = [.int .i64 b0, .int .i64 b1] ∧ (Lit.int .i64 b0).wf = true ∧ (Lit.int .i64 b1).wf = true) W ra rn rc) (r1 : rn * 16 ≤ 140737488351232) (h2 : ORow 1 (PlIn W) W pa pn pc) (r2 : pn * 24 ≤ 140737488351232) (w1 : (Lit.int .i64 op).wf = true) (w2 : (Lit.int .i64 ch).wf = true) (_ : (Lit.int .i64 dp).wf = true) :
    Calls Try.prog 6 #[.agg #[.int .i64 h, .int .i64 w, .int .i64 c, .int .i64 lo, .int .i64 hi, .slice oa on oc, .int .i64 ot, .slice ra rn rc, .slice pa pn pc, .int .i64 op, .int .i64 ch, .int .i64 dp]] W fun e w' => e = .returned (.bool true) ∧ Below W.heap.size W w' := by
  obtain ⟨O, Z, B, hL⟩ := lrow_of wo
  obtain ⟨R, g1⟩ := spans_of h1
  obtain ⟨P, g2⟩ := plans_of h2
  exact certCheap_w h w c lo hi ot oa on oc O Z B ra rn rc R pa pn pc P op ch dp W hL hr g1 g2 r1 r2 (wf_i64 w1) (wf_i64 w2)
end Go.Proofs.Ytcjnhchjikcigaa
