/- The walk of KernWide. The walk of KernWide, in the form of the frame. -/
import Derived.Test.YtgofmooidlejlaaGr27
/- The walk of KernWide. -/
namespace Go.Proofs.Ytgofmooidlejlaa.Kr
open Go.ChangeShapes Go.WideShapes Go.ChangeAt Go.RowKit
set_option linter.unusedVariables false
def w32 (P : List Pl) : Bool := P.all fun q => q.1 == (32 : Int)
theorem w32_yes {P : List Pl} (h : w32 P = true) : ∀ q ∈ P, q.1 = 32 := fun q hq => by
  unfold w32 at h
  rw [List.all_eq_true] at h
  simpa using h q hq
set_option maxHeartbeats 8000000 in
set_option maxRecDepth 100000 in
theorem wide_w (h w c lo hi ot : Int) (oa : Option Addr) (on oc : Nat) (op : Int) (pa : Option Addr) (pl pc : Nat) (PS : List Pl) (ad : Option Addr) (n cap : Nat) (xs : List Int) (bd : Option Addr) (nb capb : Nat) (ys : List Int) (l u : Int) (W : World)
    (hPS : ERow 6 pcs W pa pl pc PS) (hrp : pl * 48 ≤ 140737488351232) (T : Tr) (L : List Int) (F1 F2 F3 : Int) (hwd : (∀ q ∈ PS, q.1 = 32) → T.wd)
    (hOp : ∀ (W' : World), Below W.heap.size W W' → ∀ (pa' : Option Addr) (pc' : Nat) (P' : List Pl), (P' = PS ∨ P' = PS.map (cm l u)) → ERow 6 pcs W' pa' pl pc' P' →
      Calls Try.prog 8 #[.agg #[.int .i64 h, .int .i64 w, .int .i64 c, .int .i64 lo, .int .i64 hi, .slice oa on oc, .int .i64 ot], .int .i64 op, .slice pa' pl pc', .slice ad n cap, .slice bd nb capb] W' fun e w' => (∃ v, e = .returned (.tuple #[v, .agg T.cs, .agg #[.int .i64 F1, .int .i64 F2, .int .i64 F3]]) ∧ Own .i8 63 w' W'.heap.size v L) ∧ Below W'.heap.size W' w') :
    Calls Try.prog 4 #[.agg #[.int .i64 h, .int .i64 w, .int .i64 c, .int .i64 lo, .int .i64 hi, .slice oa on oc, .int .i64 ot, .int .i64 op, .slice pa pl pc, .slice ad n cap, .slice bd nb capb], .agg #[.int .i64 l, .int .i64 u]] W fun e w' => e = .returned (.bool true) ∧ Below W.heap.size W w' := by
  have s0 := ((St.start W).new (c := #[.int .i64 h, .int .i64 w, .int .i64 c, .int .i64 lo, .int .i64 hi, .slice oa on oc, .int .i64 ot, .int .i64 op, .slice pa pl pc, .slice ad n cap, .slice bd nb capb]) (t := 57)).new (c := #[.int .i64 l, .int .i64 u]) (t := 59)
  simp only [World.size_alloc] at s0
  have HPS : Hid (ERow 6 pcs W pa pl pc PS) := hPS
  have HOP : Hid (∀ (W' : World), Below W.heap.size W W' → _) := hOp
  have HWD : Hid ((∀ q ∈ PS, q.1 = 32) → T.wd) := hwd
  have HFX : Hid (∀ W, _) := fixed_any
  have HPL : Hid (PS.length = pl) := hPS.1
  clear hPS hOp hwd
  obtain ⟨a1, a2, a3, a4, a5, a6, a7, a8, a9⟩ := T
  simp only [Tr.cs] at HOP
  have qf := eqFt F1 F2 F3 F1 F2 F3 true (by simp)
  have qt := eqTr a1 a2 a3 a4 a5 a6 a7 a8 a9
  go_enter Try.func4, Try.ntmps4
  go_wp2_with fail
  refine (HFX.out _).mono ?_
  rintro e w1 ⟨rfl, hb⟩
  have s1 := s0.call hb
  clear hb s0 HFX
  obtain ⟨c1, f1, z1, c2, f2, z2, -⟩ := s1.rules
  go_wp2_with fail
  refine (HOP.out _ s1.below pa pc PS (.inl rfl) (HPS.out.below s1.below)).mono ?_
  rintro e w2 ⟨⟨v1, rfl, hO1⟩, hb2⟩
  have s2 := ((s1.call hb2).new (c := #[.int .i64 a1, .int .i64 a2, .int .i64 a3, .int .i64 a4, .int .i64 a5, .int .i64 a6, .int .i64 a7, .int .i64 a8, .int .i64 a9]) (t := 50)).new (c := #[.int .i64 F1, .int .i64 F2, .int .i64 F3]) (t := 38)
  simp only [World.size_alloc] at s2
  have o2 := ((hO1.base s1.size).alloc (.cells #[.int .i64 a1, .int .i64 a2, .int .i64 a3, .int .i64 a4, .int .i64 a5, .int .i64 a6, .int .i64 a7, .int .i64 a8, .int .i64 a9] 50)).alloc (.cells #[.int .i64 F1, .int .i64 F2, .int .i64 F3] 38)
  clear hO1 hb2 c1 f1 z1 c2 f2 z2 s1
  go_upto_region 4 with fail
  obtain ⟨t6, ht6⟩ : ∃ t6, w2.heap.size = t6 := ⟨_, rfl⟩
  obtain ⟨w3, hw3⟩ : ∃ w3, (w2.alloc (.cells #[.int .i64 a1, .int .i64 a2, .int .i64 a3, .int .i64 a4, .int .i64 a5, .int .i64 a6, .int .i64 a7, .int .i64 a8, .int .i64 a9] 50)).alloc (.cells #[.int .i64 F1, .int .i64 F2, .int .i64 F3] 38) = w3 := ⟨_, rfl⟩
  rw [hw3, ht6] at s2
  rw [hw3] at o2
  rw [hw3, ht6]
  have S3 : Hid (St W w3 ((t6 + 1, #[.int .i64 F1, .int .i64 F2, .int .i64 F3], 38) :: (t6, #[.int .i64 a1, .int .i64 a2, .int .i64 a3, .int .i64 a4, .int .i64 a5, .int .i64 a6, .int .i64 a7, .int .i64 a8, .int .i64 a9], 50) :: (W.heap.size + 1, #[.int .i64 l, .int .i64 u], 59) :: (W.heap.size, #[.int .i64 h, .int .i64 w, .int .i64 c, .int .i64 lo, .int .i64 hi, .slice oa on oc, .int .i64 ot, .int .i64 op, .slice pa pl pc, .slice ad n cap, .slice bd nb capb], 57) :: [])) := s2
  have O3 : Hid (Own .i8 63 w3 W.heap.size v1 L) := o2
  clear hw3 ht6 s2 o2
  obtain ⟨c1, f1, z1, c2, f2, z2, c3, f3, z3, c4, f4, z4, -⟩ := S3.out.rules
  go_upto_region 5 with (at_builtin; refine wpList_appE (zv := .agg #[.int .i64 0, .int .i64 0, .int .i64 0, .int .i64 0, .int .i64 0, .int .i64 0]) (T := 61) (S := 53) (by8 := 48) pcs pcs_len pcs_one Try.underlying53 (by kernel_rfl) rfl (by decide) (by decide) rfl (.tmp 31) (.tmp 33) rfl W.heap.size (.slice (some ⟨w3.heap.size, 0, none⟩) 0 0) PS rfl (lit6' w3 W.heap.size S3.out.size) pa pl pc rfl ((HPS.out.below S3.out.below).below (bal _ _)) hrp (Nat.le_trans S3.out.size (bal _ _).size) ?_; intro v4 w4 hO4 hg4 hnn; have S4 : Hid (St W w4 ((t6 + 1, #[.int .i64 F1, .int .i64 F2, .int .i64 F3], 38) :: (t6, #[.int .i64 a1, .int .i64 a2, .int .i64 a3, .int .i64 a4, .int .i64 a5, .int .i64 a6, .int .i64 a7, .int .i64 a8, .int .i64 a9], 50) :: (W.heap.size + 1, #[.int .i64 l, .int .i64 u], 59) :: (W.heap.size, #[.int .i64 h, .int .i64 w, .int .i64 c, .int .i64 lo, .int .i64 hi, .slice oa on oc, .int .i64 ot, .int .i64 op, .slice pa pl pc, .slice ad n cap, .slice bd nb capb], 57) :: [])) := (S3.out.skip (.cells #[] 61)).grown hg4 (fun b e => by simp [Value.ownBlock] at e; have := S3.out.size; omega) (fun x hx e => by simp [Value.ownBlock] at e; have := lt_of_heap (S3.out.2 x hx).1; omega); have O4 : Hid (Own .i8 63 w4 W.heap.size v1 L) := O3.out.below (app_below hg4); have H4 : Hid (w4.ownsRow W.heap.size 61 6 v4 pl (PS.flatMap pcs)) := hO4; clear hO4 hg4 hnn S3 O3 c1 f1 z1 c2 f2 z2 c3 f3 z3 c4 f4 z4)
  obtain ⟨a4', cp4, rfl⟩ := owns_slice H4.out
  have HE4 : Hid (ERow 6 pcs w4 a4' pl cp4 PS) := owns_erow pcs_len H4.out HPL.out
  have HG4 : Hid (∀ x, a4' = some x → ∃ (g : Nat) (cur : Array Value), x = ⟨g, 0, none⟩ ∧ W.heap.size ≤ g ∧ w4.heap[g]? = some (.cells cur 61 (0, 0)) ∧ pl * 6 ≤ cur.size) := fun x hx => by
    rcases H4.out.2 with ⟨q, -⟩ | ⟨g, cap', cur, q1, q2, q3, q4, q5, q6, q7⟩
    · simp only [Value.slice.injEq] at q
      rw [q.1] at hx; cases hx
    · simp only [Value.slice.injEq] at q1
      obtain ⟨rfl, -, rfl⟩ := q1
      cases hx
      exact ⟨g, cur, rfl, q2, q3, by rw [q6]; omega⟩
  have hcp := HE4.out.2.1
  have hcm := HE4.out.2.2.1
  unfold maxLen at hcm
  clear H4
  go_wp2
  go_loopw [9, 37] (fun b j wr => ∃ y : Nat, y ≤ pl ∧ j = .int .i64 y ∧ b = .bool (w32 (PS.take y)) ∧ St W wr ((t6 + 1, #[.int .i64 F1, .int .i64 F2, .int .i64 F3], 38) :: (t6, #[.int .i64 a1, .int .i64 a2, .int .i64 a3, .int .i64 a4, .int .i64 a5, .int .i64 a6, .int .i64 a7, .int .i64 a8, .int .i64 a9], 50) :: (W.heap.size + 1, #[.int .i64 l, .int .i64 u], 59) :: (W.heap.size, #[.int .i64 h, .int .i64 w, .int .i64 c, .int .i64 lo, .int .i64 hi, .slice oa on oc, .int .i64 ot, .int .i64 op, .slice pa pl pc, .slice ad n cap, .slice bd nb capb], 57) :: []) ∧ ERow 6 pcs wr a4' pl cp4 ((PS.take y).map (cm l u) ++ PS.drop y) ∧ (∀ x, a4' = some x → ∃ (g : Nat) (cur : Array Value), x = ⟨g, 0, none⟩ ∧ W.heap.size ≤ g ∧ wr.heap[g]? = some (.cells cur 61 (0, 0)) ∧ pl * 6 ≤ cur.size) ∧ Own .i8 63 wr W.heap.size v1 L) (fun _ j _ => pl - (intOf j).toNat)
  case atStart => exact ⟨0, Nat.zero_le _, rfl, by simp [w32], S4.out, by simpa using HE4.out, HG4.out, O4.out⟩
  case round =>
    obtain ⟨y, hy, rfl, rfl, sr, hE, hGB, hO⟩ := hrel
    clear S4 HE4 HG4 O4
    have SR : Hid (St W wr ((t6 + 1, #[.int .i64 F1, .int .i64 F2, .int .i64 F3], 38) :: (t6, #[.int .i64 a1, .int .i64 a2, .int .i64 a3, .int .i64 a4, .int .i64 a5, .int .i64 a6, .int .i64 a7, .int .i64 a8, .int .i64 a9], 50) :: (W.heap.size + 1, #[.int .i64 l, .int .i64 u], 59) :: (W.heap.size, #[.int .i64 h, .int .i64 w, .int .i64 c, .int .i64 lo, .int .i64 hi, .slice oa on oc, .int .i64 ot, .int .i64 op, .slice pa pl pc, .slice ad n cap, .slice bd nb capb], 57) :: [])) := sr
    have HE : Hid (ERow 6 pcs wr a4' pl cp4 ((PS.take y).map (cm l u) ++ PS.drop y)) := hE
    have HGB : Hid ((∀ x, a4' = some x → ∃ (g : Nat) (cur : Array Value), x = ⟨g, 0, none⟩ ∧ W.heap.size ≤ g ∧ wr.heap[g]? = some (.cells cur 61 (0, 0)) ∧ pl * 6 ≤ cur.size)) := hGB
    have HO : Hid (Own .i8 63 wr W.heap.size v1 L) := hO
    obtain ⟨c1, f1, z1, c2, f2, z2, c3, f3, z3, c4, f4, z4, -⟩ := sr.rules
    clear sr hE hGB hO
    by_cases hlt : y < pl
    · obtain ⟨x, q, rfl, hq, -, hcq⟩ := HE.out.at hlt
      obtain ⟨g, cur, rfl, hgW, hgh, hgs⟩ := HGB.out x rfl
      have hqP : PS[y]? = some q := by
        have hl : ((PS.take y).map (cm l u)).length = y := by rw [List.length_map, List.length_take, HPL.out]; omega
        rw [List.getElem?_append_right (by omega), hl, Nat.sub_self, List.getElem?_drop] at hq
        simpa using hq
      obtain ⟨hm1, hm2⟩ := mix_next (l := l) (u := u) hqP
      obtain ⟨hE5, cur5, hg5, hs5⟩ := erow_claim (l := l) (u := u) HE.out hgh hgs hlt hm1
      rw [hm2] at hE5
      have HE5 : Hid (ERow 6 pcs _ (some ⟨g, 0, none⟩) pl cp4 _) := hE5
      have HG5 : Hid (_ = some (Obj.cells cur5 61 (0, 0))) := hg5
      have htk : PS.take (y + 1) = PS.take y ++ [q] := by rw [List.take_add_one, hqP]; rfl
      have HTK : Hid (w32 (PS.take (y + 1)) = (w32 (PS.take y) && (q.1 == 32))) := by
        unfold Hid
        rw [htk]
        simp [w32]
      obtain ⟨p1, p2, p3, p4, p5, p6⟩ := q
      have hp1 : wr.cell? ⟨g, y * 6, none⟩ = some (.int .i64 p1) := by
        have := hcq 0 _ rfl
        rwa [Addr.add_lit, Addr.add_lit, Nat.zero_add, Nat.add_zero] at this
      obtain ⟨cg, fg, zg⟩ := cells_at hgh
      have k2 : wr.cell? ⟨g, y * 6 + 2, none⟩ = some (.int .i64 p3) := by have := hcq 2 _ rfl; rwa [Addr.add_lit, Addr.add_lit, Nat.zero_add] at this
      have k3 : wr.cell? ⟨g, y * 6 + 3, none⟩ = some (.int .i64 p4) := by have := hcq 3 _ rfl; rwa [Addr.add_lit, Addr.add_lit, Nat.zero_add] at this
      have k4 : wr.cell? ⟨g, y * 6 + 4, none⟩ = some (.int .i64 p5) := by have := hcq 4 _ rfl; rwa [Addr.add_lit, Addr.add_lit, Nat.zero_add] at this
      have k5 : wr.cell? ⟨g, y * 6 + 5, none⟩ = some (.int .i64 p6) := by have := hcq 5 _ rfl; rwa [Addr.add_lit, Addr.add_lit, Nat.zero_add] at this
      have hne : ∀ z ∈ (((t6 + 1, #[.int .i64 F1, .int .i64 F2, .int .i64 F3], 38) :: (t6, #[.int .i64 a1, .int .i64 a2, .int .i64 a3, .int .i64 a4, .int .i64 a5, .int .i64 a6, .int .i64 a7, .int .i64 a8, .int .i64 a9], 50) :: (W.heap.size + 1, #[.int .i64 l, .int .i64 u], 59) :: (W.heap.size, #[.int .i64 h, .int .i64 w, .int .i64 c, .int .i64 lo, .int .i64 hi, .slice oa on oc, .int .i64 ot, .int .i64 op, .slice pa pl pc, .slice ad n cap, .slice bd nb capb], 57) :: []) : List (Nat × Array Value × TypeId)), z.1 ≠ g := fun z hz => ne_of_ty (SR.out.2 z hz).1 hgh (by
        simp only [List.mem_cons, List.not_mem_nil, or_false] at hz
        rcases hz with rfl | rfl | rfl | rfl <;> simp only <;> decide)
      have ng1 : W.heap.size + 1 ≠ g := hne (W.heap.size + 1, #[.int .i64 l, .int .i64 u], 59) (by simp)
      have S5 : Hid (St W ((((wr.setCell ⟨g, y * 6 + 2, none⟩ (.int .i64 l)).setCell ⟨g, y * 6 + 3, none⟩ (.int .i64 u)).setCell ⟨g, y * 6 + 4, none⟩ (.int .i64 l)).setCell ⟨g, y * 6 + 5, none⟩ (.int .i64 u)) ((t6 + 1, #[.int .i64 F1, .int .i64 F2, .int .i64 F3], 38) :: (t6, #[.int .i64 a1, .int .i64 a2, .int .i64 a3, .int .i64 a4, .int .i64 a5, .int .i64 a6, .int .i64 a7, .int .i64 a8, .int .i64 a9], 50) :: (W.heap.size + 1, #[.int .i64 l, .int .i64 u], 59) :: (W.heap.size, #[.int .i64 h, .int .i64 w, .int .i64 c, .int .i64 lo, .int .i64 hi, .slice oa on oc, .int .i64 ot, .int .i64 op, .slice pa pl pc, .slice ad n cap, .slice bd nb capb], 57) :: [])) := (((SR.out.setX hgW hne).setX hgW hne).setX hgW hne).setX hgW hne
      have hno := own_ne HO.out.1 hgh (by decide)
      have O5 : Hid (Own .i8 63 ((((wr.setCell ⟨g, y * 6 + 2, none⟩ (.int .i64 l)).setCell ⟨g, y * 6 + 3, none⟩ (.int .i64 u)).setCell ⟨g, y * 6 + 4, none⟩ (.int .i64 l)).setCell ⟨g, y * 6 + 5, none⟩ (.int .i64 u)) W.heap.size v1 L) := own_mv HO.out ((((Mv.refl wr g g).setp.setp).setp).setp) hno hno
      clear hcq hq hm1 hm2 hE5 hg5 htk hqP hne hno hgh cg SR HE HGB HO
      cases hb : w32 (PS.take y) with
      | false =>
        rw [hb] at HTK
        have HT2 : Hid (w32 (PS.take (y + 1)) = false) := HTK.out
        clear HTK hb
        go_wp2
        go_region_law (fail)
        all_goals
          obtain ⟨w8, hw8⟩ : ∃ w8, ((((wr.setCell ⟨g, y * 6 + 2, none⟩ (.int .i64 l)).setCell ⟨g, y * 6 + 2 + 1, none⟩ (.int .i64 u)).setCell ⟨g, y * 6 + 4, none⟩ (.int .i64 l)).setCell ⟨g, y * 6 + 4 + 1, none⟩ (.int .i64 u)).drew = w8 := ⟨_, rfl⟩
          have S8 : Hid (St W w8 ((t6 + 1, #[.int .i64 F1, .int .i64 F2, .int .i64 F3], 38) :: (t6, #[.int .i64 a1, .int .i64 a2, .int .i64 a3, .int .i64 a4, .int .i64 a5, .int .i64 a6, .int .i64 a7, .int .i64 a8, .int .i64 a9], 50) :: (W.heap.size + 1, #[.int .i64 l, .int .i64 u], 59) :: (W.heap.size, #[.int .i64 h, .int .i64 w, .int .i64 c, .int .i64 lo, .int .i64 hi, .slice oa on oc, .int .i64 ot, .int .i64 op, .slice pa pl pc, .slice ad n cap, .slice bd nb capb], 57) :: [])) := by unfold Hid; rw [← hw8]; exact S5.out.drew
          have E8 : Hid (ERow 6 pcs w8 (some ⟨g, 0, none⟩) pl cp4 ((PS.take (y + 1)).map (cm l u) ++ PS.drop (y + 1))) := by unfold Hid; rw [← hw8]; exact HE5.out.below (Below.refl _ _).drew
          have G8 : w8.heap[g]? = some (.cells cur5 61 (0, 0)) := by rw [← hw8]; exact HG5.out
          have O8 : Hid (Own .i8 63 w8 W.heap.size v1 L) := by unfold Hid; rw [← hw8]; exact O5.out.below (Below.refl _ _).drew
          have HG8 : Hid (w8.heap[g]? = some (.cells cur5 61 (0, 0))) := G8
          rw [hw8]
          clear hw8 S5 HE5 HG5 O5 G8 c1 f1 z1 c2 f2 z2 c3 f3 z3 c4 f4 z4 fg k2 k3 k4 k5 hp1
          go_wp2
          go_roundw
          case rel => exact ⟨y + 1, by omega, by go_num, by rw [HT2.out], S8.out, E8.out, fun x hx => by cases hx; exact ⟨g, cur5, rfl, hgW, HG8.out, hs5⟩, O8.out⟩
          case measure => simp [intOf]; omega
      | true =>
        rw [hb] at HTK
        by_cases h32 : p1 = 32
        · have HT2 : Hid (w32 (PS.take (y + 1)) = true) := by unfold Hid; rw [HTK.out]; simp [h32]
          have n32 : (p1 == 32) = true := by simp [h32]
          subst h32
          clear HTK hb
          go_wp2
          go_region_law (fail)
          all_goals
            obtain ⟨w8, hw8⟩ : ∃ w8, ((((wr.setCell ⟨g, y * 6 + 2, none⟩ (.int .i64 l)).setCell ⟨g, y * 6 + 2 + 1, none⟩ (.int .i64 u)).setCell ⟨g, y * 6 + 4, none⟩ (.int .i64 l)).setCell ⟨g, y * 6 + 4 + 1, none⟩ (.int .i64 u)).drew = w8 := ⟨_, rfl⟩
            have S8 : Hid (St W w8 ((t6 + 1, #[.int .i64 F1, .int .i64 F2, .int .i64 F3], 38) :: (t6, #[.int .i64 a1, .int .i64 a2, .int .i64 a3, .int .i64 a4, .int .i64 a5, .int .i64 a6, .int .i64 a7, .int .i64 a8, .int .i64 a9], 50) :: (W.heap.size + 1, #[.int .i64 l, .int .i64 u], 59) :: (W.heap.size, #[.int .i64 h, .int .i64 w, .int .i64 c, .int .i64 lo, .int .i64 hi, .slice oa on oc, .int .i64 ot, .int .i64 op, .slice pa pl pc, .slice ad n cap, .slice bd nb capb], 57) :: [])) := by unfold Hid; rw [← hw8]; exact S5.out.drew
            have E8 : Hid (ERow 6 pcs w8 (some ⟨g, 0, none⟩) pl cp4 ((PS.take (y + 1)).map (cm l u) ++ PS.drop (y + 1))) := by unfold Hid; rw [← hw8]; exact HE5.out.below (Below.refl _ _).drew
            have G8 : w8.heap[g]? = some (.cells cur5 61 (0, 0)) := by rw [← hw8]; exact HG5.out
            have O8 : Hid (Own .i8 63 w8 W.heap.size v1 L) := by unfold Hid; rw [← hw8]; exact O5.out.below (Below.refl _ _).drew
            have HG8 : Hid (w8.heap[g]? = some (.cells cur5 61 (0, 0))) := G8
            rw [hw8]
            clear hw8 S5 HE5 HG5 O5 G8 c1 f1 z1 c2 f2 z2 c3 f3 z3 c4 f4 z4 fg k2 k3 k4 k5 hp1
            go_wp2
            go_roundw
            case rel => exact ⟨y + 1, by omega, by go_num, by rw [HT2.out], S8.out, E8.out, fun x hx => by cases hx; exact ⟨g, cur5, rfl, hgW, HG8.out, hs5⟩, O8.out⟩
            case measure => simp [intOf]; omega
        · have HT2 : Hid (w32 (PS.take (y + 1)) = false) := by unfold Hid; rw [HTK.out]; simp [h32]
          have n32 : (p1 == 32) = false := by simp [h32]
          clear HTK hb
          go_wp2
          go_region_law (fail)
          all_goals
            obtain ⟨w8, hw8⟩ : ∃ w8, ((((wr.setCell ⟨g, y * 6 + 2, none⟩ (.int .i64 l)).setCell ⟨g, y * 6 + 2 + 1, none⟩ (.int .i64 u)).setCell ⟨g, y * 6 + 4, none⟩ (.int .i64 l)).setCell ⟨g, y * 6 + 4 + 1, none⟩ (.int .i64 u)).drew = w8 := ⟨_, rfl⟩
            have S8 : Hid (St W w8 ((t6 + 1, #[.int .i64 F1, .int .i64 F2, .int .i64 F3], 38) :: (t6, #[.int .i64 a1, .int .i64 a2, .int .i64 a3, .int .i64 a4, .int .i64 a5, .int .i64 a6, .int .i64 a7, .int .i64 a8, .int .i64 a9], 50) :: (W.heap.size + 1, #[.int .i64 l, .int .i64 u], 59) :: (W.heap.size, #[.int .i64 h, .int .i64 w, .int .i64 c, .int .i64 lo, .int .i64 hi, .slice oa on oc, .int .i64 ot, .int .i64 op, .slice pa pl pc, .slice ad n cap, .slice bd nb capb], 57) :: [])) := by unfold Hid; rw [← hw8]; exact S5.out.drew
            have E8 : Hid (ERow 6 pcs w8 (some ⟨g, 0, none⟩) pl cp4 ((PS.take (y + 1)).map (cm l u) ++ PS.drop (y + 1))) := by unfold Hid; rw [← hw8]; exact HE5.out.below (Below.refl _ _).drew
            have G8 : w8.heap[g]? = some (.cells cur5 61 (0, 0)) := by rw [← hw8]; exact HG5.out
            have O8 : Hid (Own .i8 63 w8 W.heap.size v1 L) := by unfold Hid; rw [← hw8]; exact O5.out.below (Below.refl _ _).drew
            have HG8 : Hid (w8.heap[g]? = some (.cells cur5 61 (0, 0))) := G8
            rw [hw8]
            clear hw8 S5 HE5 HG5 O5 G8 c1 f1 z1 c2 f2 z2 c3 f3 z3 c4 f4 z4 fg k2 k3 k4 k5 hp1
            go_wp2
            go_roundw
            case rel => exact ⟨y + 1, by omega, by go_num, by rw [HT2.out], S8.out, E8.out, fun x hx => by cases hx; exact ⟨g, cur5, rfl, hgW, HG8.out, hs5⟩, O8.out⟩
            case measure => simp [intOf]; omega
    · obtain rfl : pl = y := by omega
      have hall : PS.take pl = PS := by rw [List.take_of_length_le (by rw [HPL.out]; omega)]
      have hmix : ((PS.take pl).map (cm l u) ++ PS.drop pl) = PS.map (cm l u) := by rw [hall, List.drop_of_length_le (by rw [HPL.out]; omega), List.append_nil]
      have hE6 := HE.out
      rw [hmix] at hE6
      rw [hall]
      have HE6 : Hid (ERow 6 pcs wr a4' pl cp4 (PS.map (cm l u))) := hE6
      clear hall hmix hE6 HE HGB
      obtain ⟨va, vc, rfl, -, -⟩ := HO.out.row
      go_wp2_with fail
      refine (HOP.out _ SR.out.below a4' cp4 (PS.map (cm l u)) (.inr rfl) HE6.out).mono ?_
      rintro e w7 ⟨⟨v7, rfl, hO7⟩, hb7⟩
      have s8 := ((SR.out.call hb7).new (c := #[.int .i64 a1, .int .i64 a2, .int .i64 a3, .int .i64 a4, .int .i64 a5, .int .i64 a6, .int .i64 a7, .int .i64 a8, .int .i64 a9]) (t := 50)).new (c := #[.int .i64 F1, .int .i64 F2, .int .i64 F3]) (t := 38)
      simp only [World.size_alloc] at s8
      have o7 := ((hO7.base SR.out.size).alloc (.cells #[.int .i64 a1, .int .i64 a2, .int .i64 a3, .int .i64 a4, .int .i64 a5, .int .i64 a6, .int .i64 a7, .int .i64 a8, .int .i64 a9] 50)).alloc (.cells #[.int .i64 F1, .int .i64 F2, .int .i64 F3] 38)
      have o1 := ((HO.out.below hb7).alloc (.cells #[.int .i64 a1, .int .i64 a2, .int .i64 a3, .int .i64 a4, .int .i64 a5, .int .i64 a6, .int .i64 a7, .int .i64 a8, .int .i64 a9] 50)).alloc (.cells #[.int .i64 F1, .int .i64 F2, .int .i64 F3] 38)
      obtain ⟨vb, vd, rfl, -, -⟩ := o7.row
      clear hO7 hb7 HO SR HE6 HOP c1 f1 z1 c2 f2 z2 c3 f3 z3 c4 f4 z4
      go_upto_region 13 with fail
      obtain ⟨tt, htt⟩ : ∃ tt, w7.heap.size = tt := ⟨_, rfl⟩
      obtain ⟨w8, hw8⟩ : ∃ w8, (w7.alloc (.cells #[.int .i64 a1, .int .i64 a2, .int .i64 a3, .int .i64 a4, .int .i64 a5, .int .i64 a6, .int .i64 a7, .int .i64 a8, .int .i64 a9] 50)).alloc (.cells #[.int .i64 F1, .int .i64 F2, .int .i64 F3] 38) = w8 := ⟨_, rfl⟩
      rw [hw8, htt] at s8
      rw [hw8] at o7 o1
      rw [hw8, htt]
      have S8 : Hid (St W w8 ((tt + 1, #[.int .i64 F1, .int .i64 F2, .int .i64 F3], 38) :: (tt, #[.int .i64 a1, .int .i64 a2, .int .i64 a3, .int .i64 a4, .int .i64 a5, .int .i64 a6, .int .i64 a7, .int .i64 a8, .int .i64 a9], 50) :: ((t6 + 1, #[.int .i64 F1, .int .i64 F2, .int .i64 F3], 38) :: (t6, #[.int .i64 a1, .int .i64 a2, .int .i64 a3, .int .i64 a4, .int .i64 a5, .int .i64 a6, .int .i64 a7, .int .i64 a8, .int .i64 a9], 50) :: (W.heap.size + 1, #[.int .i64 l, .int .i64 u], 59) :: (W.heap.size, #[.int .i64 h, .int .i64 w, .int .i64 c, .int .i64 lo, .int .i64 hi, .slice oa on oc, .int .i64 ot, .int .i64 op, .slice pa pl pc, .slice ad n cap, .slice bd nb capb], 57) :: []))) := s8
      obtain ⟨ra, rc, re, r1, -⟩ := o1.row
      simp only [Value.slice.injEq, true_and] at re
      obtain ⟨rfl, rfl⟩ := re
      obtain ⟨ra, rc, re, r2, -⟩ := o7.row
      simp only [Value.slice.injEq, true_and] at re
      obtain ⟨rfl, rfl⟩ := re
      have R1 : Hid (IRow .i8 w8 va L.length vc L) := r1
      have R2 : Hid (IRow .i8 w8 vb L.length vd L) := r2
      clear hw8 htt s8 o7 o1 r1 r2
      obtain ⟨c1, f1, z1, c2, f2, z2, c3, f3, z3, c4, f4, z4, -⟩ := S8.out.rules
      cases hw : w32 PS with
      | true =>
        obtain ⟨h1, h2, h3, h4, h5⟩ := HWD.out (w32_yes hw)
        simp only at h1 h2 h3 h4 h5
        subst h1 h2 h3 h4 h5
        clear HWD hw
        go_wp2_with fail
        refine (same8_any _ _ _ _ _ L _ R1.out R2.out).mono ?_
        rintro e w9 ⟨rfl, q, rfl⟩
        have s9 := S8.out.call (dbel w8 q)
        have D9 : Hid (Below W.heap.size W (w8.drewN q)) := s9.below
        clear c1 f1 z1 c2 f2 z2 c3 f3 z3 c4 f4 z4
        obtain ⟨c1, f1, z1, c2, f2, z2, c3, f3, z3, c4, f4, z4, -⟩ := s9.rules
        clear s9 S8
        go_wp2
        go_ret
        exact ⟨rfl, D9.out⟩
      | false =>
        clear HWD hw
        go_wp2_with fail
        refine (same8_any _ _ _ _ _ L _ R1.out R2.out).mono ?_
        rintro e w9 ⟨rfl, q, rfl⟩
        have D9 : Hid (Below W.heap.size W (w8.drewN q)) := S8.out.below.trans ((dbel w8 q).mono S8.out.size)
        go_wp2
        go_ret
        exact ⟨rfl, D9.out⟩
end Go.Proofs.Ytgofmooidlejlaa.Kr

/- The walk of KernWide, in the form of the frame. -/
namespace Go.Proofs.Ytgofmooidlejlaa
open Go.ChangeShapes Go.WideShapes Go.ChangeAt Go.RowKit
set_option linter.unusedVariables false
theorem kernWide_walk (h w c lo hi : Int) (oa : Option Addr) (on oc : Nat) (ot op : Int) (pa : Option Addr) (pl pc : Nat) (ad : Option Addr) (n cap : Nat) (xs : List Int) (bd : Option Addr) (nb capb : Nat) (ys : List Int) (l u : Int) (W : World)
    (_ : (Lit.int .i64 h).wf = true) (_ : (Lit.int .i64 w).wf = true) (_ : (Lit.int .i64 c).wf = true) (_ : (Lit.int .i64 lo).wf = true) (_ : (Lit.int .i64 hi).wf = true) (wo : ORow 22 (OpIn W) W oa on oc) (_ : on * 208 ≤ 140737488351232) (_ : (Lit.int .i64 ot).wf = true) (_ : (Lit.int .i64 op).wf = true)
    (wp : ORow 6 Kr.PlIn W pa pl pc) (hrp : pl * 48 ≤ 140737488351232) (hX : IRow .i8 W ad n cap xs) (_ : n * 1 ≤ 140737488351232) (hY : IRow .i8 W bd nb capb ys) (_ : nb * 1 ≤ 140737488351232) (_ : (Lit.int .i64 l).wf = true) (_ : (Lit.int .i64 u).wf = true) :
    Calls Try.prog 4 #[.agg #[.int .i64 h, .int .i64 w, .int .i64 c, .int .i64 lo, .int .i64 hi, .slice oa on oc, .int .i64 ot, .int .i64 op, .slice pa pl pc, .slice ad n cap, .slice bd nb capb], .agg #[.int .i64 l, .int .i64 u]] W fun e w' => e = .returned (.bool true) ∧ Below W.heap.size W w' := by
  obtain ⟨O, Z, B, hL⟩ := lrow_of wo
  obtain ⟨PS, hPS⟩ := Kr.chans_of wp
  obtain ⟨T, L, F1, F2, F3, hwd, hOp⟩ := Kr.op_fix h w c lo hi ot oa on oc O Z B W hL op PS pl hPS.1 ad n cap xs hX bd nb capb ys hY l u
  exact Kr.wide_w h w c lo hi ot oa on oc op pa pl pc PS ad n cap xs bd nb capb ys l u W hPS hrp T L F1 F2 F3 hwd hOp
end Go.Proofs.Ytgofmooidlejlaa
