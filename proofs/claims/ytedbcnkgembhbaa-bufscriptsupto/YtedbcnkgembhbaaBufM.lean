/- The walk of BufScripts. -/
import Derived.Test.YtedbcnkgembhbaaBufL
import Derived.Test.YtedbcnkgembhbaaOpo
namespace Go.Proofs.Ytedbcnkgembhbaa
open Go.ChangeShapes Go.WideShapes Go.ChangeAt Go.RowKit Go.BigFrame
theorem play_is (k1 : Int) (B b X x : Nat) (h u c : Int) (zs : List Int) (at1 n1 v1 : Int) (o1 : Bool) (w : World) (f : Bf .i8 31 81 w B b h u c zs) (d : Bf .i64 2 36 w X x h u c zs) (h1 : 1 ≤ zs.length) (hs : zs.length ≤ 1048576) (hv : (Lit.int .i8 v1).wf = true) :
    Calls Try.prog 15 #[.pointer (some ⟨B, 0, none⟩), .pointer (some ⟨X, 0, none⟩), .agg #[.int .i64 k1, .int .i64 at1, .int .i64 n1, .int .i8 v1, .bool o1]] w fun e w' => Plyd w B b X x h u c zs e w' := by
  by_cases e1 : k1 = 1
  · subst e1; exact play_1 B b X x h u c zs at1 n1 v1 o1 w f d h1 hs hv
  by_cases e2 : k1 = 2
  · subst e2; exact play_2 B b X x h u c zs at1 n1 v1 o1 w f d h1 hs hv
  by_cases e3 : k1 = 3
  · subst e3; exact play_3 B b X x h u c zs at1 n1 v1 o1 w f d h1 hs hv
  by_cases e4 : k1 = 4
  · subst e4; exact play_4 B b X x h u c zs at1 n1 v1 o1 w f d h1 hs hv
  by_cases e5 : k1 = 5
  · subst e5; exact play_5 B b X x h u c zs at1 n1 v1 o1 w f d h1 hs hv
  by_cases e6 : k1 = 6
  · subst e6; exact play_6 B b X x h u c zs at1 n1 v1 o1 w f d h1 hs hv
  by_cases e7 : k1 = 7
  · subst e7; exact play_7 B b X x h u c zs at1 n1 v1 o1 w f d h1 hs hv
  by_cases e8 : k1 = 8
  · subst e8; exact play_8 B b X x h u c zs at1 n1 v1 o1 w f d h1 hs hv
  exact play_0 k1 B b X x h u c zs at1 n1 v1 o1 w f d h1 hs hv e1 e2 e3 e4 e5 e6 e7 e8
theorem ORow.at {w w' : World} {R : List Value → Prop} {a : Option Addr} {len cap : Nat} (h : ORow 5 R w a len cap) (k : Below w.heap.size w w') {i : Nat} (hi : i < len) :
    ∃ x v0 v1 v2 v3 v4, a = some x ∧ R [v0, v1, v2, v3, v4] ∧ w'.cell? (x.add (i * 5)) = some v0 ∧ w'.cell? ⟨(x.add (i * 5)).block, (x.add (i * 5)).off + 1, none⟩ = some v1 ∧ w'.cell? ⟨(x.add (i * 5)).block, (x.add (i * 5)).off + 2, none⟩ = some v2 ∧ w'.cell? ⟨(x.add (i * 5)).block, (x.add (i * 5)).off + 3, none⟩ = some v3 ∧ w'.cell? ⟨(x.add (i * 5)).block, (x.add (i * 5)).off + 4, none⟩ = some v4 := by
  obtain ⟨h1, h2, h3, h4⟩ := h
  cases a with
  | none => have := h3 rfl; omega
  | some x =>
    obtain ⟨cs, hl, hR, hc⟩ := h4 x rfl i hi
    match cs, hl with
    | [v0, v1, v2, v3, v4], _ =>
      have g : ∀ j v, j < 5 → [v0, v1, v2, v3, v4][j]? = some v → w'.cell? (x.add (i * 5 + j)) = some v := fun j v hj hv => by
        have := (hc j hj).trans hv
        exact (k.cell (World.block_lt_of_cell? w _ this)).trans this
      have g0 := g 0 v0 (by omega) rfl
      have g1 := g 1 v1 (by omega) rfl
      have g2 := g 2 v2 (by omega) rfl
      have g3 := g 3 v3 (by omega) rfl
      have g4 := g 4 v4 (by omega) rfl
      rw [← Addr.add_add] at g1 g2 g3 g4
      exact ⟨x, v0, v1, v2, v3, v4, rfl, hR, g0, g1, g2, g3, g4⟩
theorem bf_st {w0 w : World} {X x n cap base : Nat} {h u c : Int} {k : IntKind} {T TB : TypeId} {zs : List Int} {l : List (Nat × Array Value × TypeId)} (s : St w0 w ((X, #[.int .i64 h, .int .i64 u, .int .i64 c, .slice (some ⟨x, 0, none⟩) n cap], TB) :: l)) (own : Own k T w base (.slice (some ⟨x, 0, none⟩) n cap) zs) : Bf k T TB w X x h u c zs :=
  ⟨n, cap, (s.2 _ List.mem_cons_self).1, own.base (Nat.zero_le _)⟩
theorem rowz (W : World) (m g : Nat) (hm : m ≤ 16384) (hg : W.heap.size = g) : IRow .i64 (W.alloc (.cells (Array.replicate m (Value.int .i64 0)) 2)) (some ⟨g, 0, none⟩) m m (List.replicate m 0) := by
  have := own_lit .i64 2 W 0 (List.replicate m 0) (wf_zeros .i64 m (by decide)) (by unfold maxLen; simp; omega) (Nat.zero_le _)
  rw [← rep_cells] at this
  have := this.facts.2.2.2.2.2.1
  rw [List.length_replicate] at this
  subst hg
  exact this
set_option maxHeartbeats 8000000 in
set_option maxRecDepth 100000 in
theorem bufScripts_walk (h u c : Int) (a1 : Option Addr) (len1 cap1 : Nat) (z1 : List Int) (a2 : Option Addr) (len2 cap2 : Nat) (w : World) (_w0_0 : (Lit.int .i64 h).wf = true) (_w0_1 : (Lit.int .i64 u).wf = true) (_w0_2 : (Lit.int .i64 c).wf = true) (w1 : IRow .i8 w a1 len1 cap1 z1)
    (w2 : ORow 5 (fun cs => ∃ (b0 : Int) (b1 : Int) (b2 : Int) (b3 : Int) (b4 : Bool), cs = [.int .i64 b0, .int .i64 b1, .int .i64 b2, .int .i8 b3, .bool b4] ∧ (Lit.int .i64 b0).wf = true ∧ (Lit.int .i64 b1).wf = true ∧ (Lit.int .i64 b2).wf = true ∧ (Lit.int .i8 b3).wf = true) w a2 len2 cap2) (hu : len1 + len2 ≤ 1048576) :
    Calls Try.prog 3 #[.agg #[.int .i64 h, .int .i64 u, .int .i64 c], .slice a1 len1 cap1, .slice a2 len2 cap2] w fun e w' => e = .returned (.bool true) ∧ Below w.heap.size w w' := by
  clear _w0_0 _w0_1 _w0_2
  have hl : Hid (z1.length = len1) := w1.1
  have hrow : Hid (∀ w', Below w.heap.size w w' → IRow .i8 w' a1 len1 cap1 z1) := fun w' q => w1.below q
  have hV := rvalid_any h u c
  have hlc2 := w2.1
  have hcm2 := w2.2.1
  unfold maxLen at hcm2
  have w2' : Hid (ORow 5 (fun cs => ∃ (b0 : Int) (b1 : Int) (b2 : Int) (b3 : Int) (b4 : Bool), cs = [.int .i64 b0, .int .i64 b1, .int .i64 b2, .int .i8 b3, .bool b4] ∧ (Lit.int .i64 b0).wf = true ∧ (Lit.int .i64 b1).wf = true ∧ (Lit.int .i64 b2).wf = true ∧ (Lit.int .i8 b3).wf = true) w a2 len2 cap2) := w2
  clear w1 w2
  cases g : vS h u c with
  | false =>
    rw [g] at hV
    go_enter Try.func3, Try.ntmps3
    go_wp2_with fail
    refine (fixed_is _).mono ?_
    rintro e w1 ⟨rfl, b1⟩
    have s1 := (St.start w).new.call b1
    obtain ⟨c1, f1, zz1, -⟩ := s1.rules
    clear b1
    go_wp2_with fail
    refine (new_no h u c _ g).mono ?_
    rintro e w2 ⟨rfl, b2⟩
    have s2 := s1.call b2
    clear c1 f1 zz1 b2 s1
    obtain ⟨c1, f1, zz1, -⟩ := s2.rules
    go_wp2_with fail
    refine (hV _).mono ?_
    rintro e w3 ⟨rfl, b3⟩
    have s3 := s2.call b3
    clear c1 f1 zz1 b3 s2
    obtain ⟨c1, f1, zz1, -⟩ := s3.rules
    go_wp2_with fail
    refine (from_no_i8 h u c a1 len1 cap1 _ g).mono ?_
    rintro e w4 ⟨rfl, b4⟩
    have s4 : Hid (Below w.heap.size w w4) := (s3.call b4).below
    clear c1 f1 zz1 b4 s3
    go_wp2
    go_ret
    exact ⟨rfl, s4.out⟩
  | true =>
    rw [g] at hV
    have hEl := fun W => relems_is h u c W g
    have hN := fun W => new_ok h u c W g
    have hF := fun W r => rfrom_ok h u c (some ⟨r, 0, none⟩) ((h * u * c).toNat) ((h * u * c).toNat) (List.replicate (h * u * c).toNat 0) W g rfl
    obtain ⟨m, hm, hm', m1, m2⟩ := elems_nat g
    simp only [hm] at hEl
    simp only [hm'] at hF hN
    have hm0 : Hid ((h * u * c).toNat = m) := hm'
    clear hm hm' g
    have hmk := run_mak kt_i64 m (by omega)
    go_enter Try.func3, Try.ntmps3
    go_wp2_with fail
    refine (fixed_is _).mono ?_
    rintro e w1 ⟨rfl, b1⟩
    have s1 := (St.start w).new.call b1
    obtain ⟨c1, f1, zz1, -⟩ := s1.rules
    clear b1
    go_wp2_with fail
    refine (hN _).mono ?_
    rintro e w2 ⟨A, bA, rfl, hA1, hA2, fA, b2⟩
    have s2 := s1.call b2
    clear c1 f1 zz1 b2
    obtain ⟨c1, f1, zz1, -⟩ := s2.rules
    go_wp2_with fail
    refine (hV _).mono ?_
    rintro e w3 ⟨rfl, b3⟩
    have s3 := s2.call b3
    have fA3 := fA.below b3
    clear c1 f1 zz1 b3 hN hV
    obtain ⟨c1, f1, zz1, -⟩ := s3.rules
    go_wp2_with fail
    refine (from_any_i8 h u c a1 len1 cap1 z1 _ (hrow.out _ s3.below)).mono ?_
    rintro e w4 ⟨p, rfl, P4, b4⟩
    have s4 := s3.call b4
    have ltA := fA3.lt
    have fA4 := fA3.below b4
    have hwA : w.heap.size ≤ A := Nat.le_trans s1.size hA1
    have hwa : w.heap.size ≤ bA := Nat.le_trans s1.size hA2
    have hw3 := s3.size
    have hw34 := b4.size
    have hfp : Hid (∀ w', Below w4.heap.size w4 w' → Bf .i8 31 81 w' A bA h u c (List.replicate m 0) ∧ PrgF_i8 w' w3.heap.size h u c len1 z1 p) := fun w' q => ⟨fA4.below q, P4.below q⟩
    clear c1 f1 zz1 b4 s1 s2 s3 fA fA3 fA4 P4 hA1 hA2
    obtain ⟨c1, f1, zz1, -⟩ := s4.rules
    obtain ⟨E, hE⟩ : ∃ E, frE h u c len1 = E := ⟨_, rfl⟩
    have hE' : Hid (frE h u c len1 = E) := hE
    rw [hE]
    clear hE
    have s4' : Hid (St w w4 [(w.heap.size, #[Value.int .i64 h, .int .i64 u, .int .i64 c], 23)]) := s4
    go_upto_region 8 with fail
    go_cut [13, 14] from 56 to 63 (fun x13 x14 wx => ∃ X x : Nat, x13 = .pointer (some ⟨X, 0, none⟩) ∧ x14 = .int .i64 0 ∧ St w wx [(w.heap.size, #[Value.int .i64 h, .int .i64 u, .int .i64 c], 23)] ∧ Bf .i64 2 36 wx X x h u c (List.replicate m 0) ∧ Below w4.heap.size w4 wx ∧ w4.heap.size ≤ X ∧ w4.heap.size ≤ x)
    case first =>
      have hD := s4.drew
      have hB : Below w4.heap.size w4 w4.drew := (Below.refl _ _).drew
      have hDa : St w (w4.alloc (.cells #[.int .i64 0, .int .i64 0, .int .i64 0, .slice none 0 0] 36)).drew [(w4.heap.size, #[.int .i64 0, .int .i64 0, .int .i64 0, .slice none 0 0], 36), (w.heap.size, #[Value.int .i64 h, .int .i64 u, .int .i64 c], 23)] := s4'.out.new.drew
      have hBa : Below w4.heap.size w4 (w4.alloc (.cells #[.int .i64 0, .int .i64 0, .int .i64 0, .slice none 0 0] 36)).drew := (bal _ _).drew
      clear s4
      go_region_held3 (fun w' => (∀ i, w'.cell? ⟨w.heap.size, i, none⟩ = #[Value.int .i64 h, .int .i64 u, .int .i64 c][i]?))
        (first | with_reducible exact hD.cell1 | with_reducible exact hDa.cell2 | with_reducible exact (hD.skip _).cell1 | with_reducible exact (hDa.skip _).cell2 | with_reducible exact ((hD.skip _).skip _).cell1 | with_reducible exact (hDa.set4 hM).cell2)
        (first
          | (go_at_call 12; refine (hEl _).mono ?_; rintro e w5 ⟨rfl, b5⟩; (first | (replace hD := hD.call (w1 := w5) (by with_reducible exact b5); replace hB := bt (c := w5) hB (by with_reducible exact b5); clear hDa hBa) | (replace hDa := hDa.call (w1 := w5) (by with_reducible exact b5); replace hBa := bt (c := w5) hBa (by with_reducible exact b5); clear hD hB; have hzM := hDa.rules.2.2.1)); have hz5 : w4.heap.size ≤ w5.heap.size := (by first | exact hB.size | exact hBa.size); clear b5)
          | (go_at_call 11; refine (hF _ _ ?_).mono ?_; (first | with_reducible exact rowz w5 m _ m2 rfl | with_reducible exact rowz (w5.alloc (.cells #[.int .i64 0, .int .i64 0, .int .i64 0, .slice none 0 0] 36)) m _ m2 (by simp) | with_reducible exact (rowz w5 m _ m2 rfl).below (bal _ _)); rintro e w6 ⟨x, cx, rfl, own6, b6⟩;
              (first
                | (replace hD := (hD.skip (.cells (Array.replicate m (Value.int .i64 0)) 2)).call (w1 := w6) (by with_reducible exact b6); replace hB := bt (c := w6) (bt hB (bal _ (.cells (Array.replicate m (Value.int .i64 0)) 2))) (by with_reducible exact b6))
                | (replace hDa := (hDa.skip (.cells (Array.replicate m (Value.int .i64 0)) 2)).call (w1 := w6) (by with_reducible exact b6); replace hBa := bt (c := w6) (bt hBa (bal _ (.cells (Array.replicate m (Value.int .i64 0)) 2))) (by with_reducible exact b6); obtain ⟨cM, fM, zM, -⟩ := hDa.rules; have hM := hDa.two (by omega))
                | (have hDa := (hD.new.skip (.cells (Array.replicate m (Value.int .i64 0)) 2)).call (w1 := w6) (by with_reducible exact b6); have hBa := bt (c := w6) (bt (bt hB (bal _ (.cells #[.int .i64 0, .int .i64 0, .int .i64 0, .slice none 0 0] 36))) (bal _ (.cells (Array.replicate m (Value.int .i64 0)) 2))) (by with_reducible exact b6); clear hD hB; obtain ⟨cM, fM, zM, -⟩ := hDa.rules; have hM := hDa.two (by omega))
                | (have hDa := ((hD.skip (.cells (Array.replicate m (Value.int .i64 0)) 2)).new).call (w1 := w6) (by with_reducible exact b6); simp only [World.size_alloc] at hDa; have hBa := bt (c := w6) (bt (bt hB (bal _ (.cells (Array.replicate m (Value.int .i64 0)) 2))) (bal _ (.cells #[.int .i64 0, .int .i64 0, .int .i64 0, .slice none 0 0] 36))) (by with_reducible exact b6); clear hD hB; obtain ⟨cM, fM, zM, -⟩ := hDa.rules; have hM := hDa.two (by omega))); have hx6 := own6.facts.2.1; have hxz := b6.size; clear b6))
      all_goals
        simp only [World.size_alloc] at hx6 hxz
        refine (show ∀ a' w', Met _ a' w' → _ from by assumption) _ _ ?_
        go_meet
        first
          | exact ⟨w6.heap.size, x, rfl, rfl, hD.skip _, bf_new own6 rfl, hB.alloc hB.size _, hB.size, by omega⟩
          | exact ⟨_, x, rfl, rfl, (hDa.set4 hM).tail, bf_st (hDa.set4 hM) (own6.keep (((Kept.set.trans Kept.set).trans Kept.set).trans Kept.set) (by simp; omega)), set4 hBa (by omega), by omega, by omega⟩
    case rest =>
    obtain ⟨X, x, rfl, rfl, s5, dX, b5, hX1, hX2⟩ := hcut
    have hfp5 := hfp.out _ b5
    have ltX := dX.lt
    obtain ⟨w5, rfl⟩ : ∃ w5, w5 = wc := ⟨_, rfl⟩
    have hw45 := b5.size
    clear hfp b5 s4 s4' c1 f1 zz1 hEl hF hmk
    have hf : ∀ a cap W, IRow .i64 W a z1.length cap z1 → Hid (Calls Try.prog 11 #[.agg #[.int .i64 h, .int .i64 u, .int .i64 c], .slice a z1.length cap] W fun e w' => ∃ H U C va vn vc, e = .returned (.tuple #[.agg #[.int .i64 H, .int .i64 U, .int .i64 C, .slice va vn vc], .int .i64 E]) ∧ DocF w' W.heap.size h u c len1 z1 H U C va vn vc ∧ Below W.heap.size W w') := by
      intro a cap W r
      have := rfrom_any h u c a z1.length cap z1 W r
      rw [hl.out, hE'.out] at this
      unfold Hid
      rw [hl.out]
      exact this
    obtain ⟨c1, f1, zz1, -⟩ := s5.rules
    have s5' : Hid (St w w5 [(w.heap.size, #[Value.int .i64 h, .int .i64 u, .int .i64 c], 23)]) := s5
    have hfd : Hid (∀ w', Below w5.heap.size w5 w' → Bf .i8 31 81 w' A bA h u c (List.replicate m 0) ∧ PrgF_i8 w' w3.heap.size h u c len1 z1 p ∧ Bf .i64 2 36 w' X x h u c (List.replicate m 0)) := fun w' q => ⟨hfp5.1.below q, hfp5.2.below q, dX.below q⟩
    clear hfp5 dX
    go_upto_region 9 with fail
    go_cut [15, 16] from 64 to 70 (fun x15 x16 wx => ∃ (Y : Nat) (H U C : Int) (va : Option Addr) (vn vc : Nat), x15 = .pointer (some ⟨Y, 0, none⟩) ∧ x16 = .int .i64 E ∧ St w wx [(Y, #[.int .i64 H, .int .i64 U, .int .i64 C, .slice va vn vc], 36)] ∧ DocF wx w5.heap.size h u c len1 z1 H U C va vn vc ∧ Below w5.heap.size w5 wx ∧ w5.heap.size ≤ Y)
    case first =>
      have hD := s5.drew
      have hB : Below w5.heap.size w5 w5.drew := (Below.refl _ _).drew
      have hDa : St w (w5.alloc (.cells #[.int .i64 0, .int .i64 0, .int .i64 0, .slice none 0 0] 36)).drew [(w5.heap.size, #[.int .i64 0, .int .i64 0, .int .i64 0, .slice none 0 0], 36), (w.heap.size, #[Value.int .i64 h, .int .i64 u, .int .i64 c], 23)] := s5'.out.new.drew
      have hBa : Below w5.heap.size w5 (w5.alloc (.cells #[.int .i64 0, .int .i64 0, .int .i64 0, .slice none 0 0] 36)).drew := (bal _ _).drew
      clear s5
      go_region_held3 (fun w' => (∀ i, w'.cell? ⟨w.heap.size, i, none⟩ = #[Value.int .i64 h, .int .i64 u, .int .i64 c][i]?))
        (first | with_reducible exact hD.cell1 | with_reducible exact hDa.cell2 | with_reducible exact (hD.skip _).cell1 | with_reducible exact (hDa.set4 hM).cell2)
        (first
          | (go_at_call 13; refine (wide_i8 _ _ _ z1 _ ?_ (by omega)).mono ?_; (first | with_reducible exact hrow.out _ hD.below | with_reducible exact hrow.out _ hDa.below); rintro e w6 ⟨v6, rfl, own6, b6⟩; (first | (replace hD := hD.call (w1 := w6) (by with_reducible exact b6); replace hB := bt (c := w6) hB (by with_reducible exact b6); clear hDa hBa) | (replace hDa := hDa.call (w1 := w6) (by with_reducible exact b6); replace hBa := bt (c := w6) hBa (by with_reducible exact b6); clear hD hB; have hzM := hDa.rules.2.2.1)); have hz6 : w5.heap.size ≤ w6.heap.size := (by first | exact hB.size | exact hBa.size); clear b6; obtain ⟨a6, cap6, rfl, row6, -⟩ := own6.row; clear own6)
          | (go_at_call 11; refine (hf _ _ _ ?_).out.mono ?_; (first | with_reducible exact row6 | with_reducible exact row6.below (bal _ _)); rintro e w7 ⟨H, U, C, va, vn, vc, rfl, D7, b7⟩; (first | (replace hD := hD.call (w1 := w7) (by with_reducible exact b7); replace hB := bt (c := w7) hB (by with_reducible exact b7)) | (replace hDa := hDa.call (w1 := w7) (by with_reducible exact b7); replace hBa := bt (c := w7) hBa (by with_reducible exact b7); obtain ⟨cM, fM, zM, -⟩ := hDa.rules; have hM := hDa.two (by omega)) | (have hDa := (hD.new (c := #[.int .i64 0, .int .i64 0, .int .i64 0, .slice none 0 0]) (t := 36)).call (w1 := w7) (by with_reducible exact b7); have hBa := bt (c := w7) (bt hB (bal _ _)) (by with_reducible exact b7); clear hD hB; obtain ⟨cM, fM, zM, -⟩ := hDa.rules; have hM := hDa.two (by omega))); clear b7))
      all_goals
        refine (show ∀ a' w', Met _ a' w' → _ from by assumption) _ _ ?_
        go_meet
        first
          | exact ⟨_, H, U, C, va, vn, vc, rfl, rfl, hD.new.sub (by simp), (D7.base (by omega)).below (bal _ _), hB.alloc hB.size _, hB.size⟩
          | exact ⟨_, H, U, C, va, vn, vc, rfl, rfl, (hDa.set4 hM).sub (by simp), (D7.set4 (by first | omega | (simp; done))).base (by first | omega | (simp; omega)), set4 hBa (by omega), by omega⟩
    case rest =>
    obtain ⟨Y, H, U, C, va, vn, vc, rfl, rfl, s6, D6, b6, hY⟩ := hcut
    obtain ⟨w6, rfl⟩ : ∃ w6, w6 = wc := ⟨_, rfl⟩
    obtain ⟨fA6, P6, dX6⟩ := hfd.out _ b6
    have hw56 := b6.size
    clear hfd s5 s5' c1 f1 zz1 hf b6 hrow
    obtain ⟨c1, f1, zz1, -⟩ := s6.rules
    obtain ⟨nX, capX, hXX, ownX⟩ := dX6
    have hnX : Hid (nX = m) := by have := ownX.len; rw [List.length_replicate] at this; exact this.symm
    have dX6 : Bf .i64 2 36 w6 X x h u c (List.replicate m 0) := ⟨nX, capX, hXX, ownX⟩
    have rX := ownX.facts.2.2.2.2.2.1
    obtain ⟨cX, -, -⟩ := cells_at hXX
    have hsX : nX ≤ 1048576 := by have := hnX.out; omega
    have hwX : w.heap.size ≤ X := by omega
    have hwx : w.heap.size ≤ x := by omega
    rcases P6 with ⟨hne, rfl⟩ | ⟨e0, B, b, rfl, hB1, hB2, fB⟩
    · rw [hE'.out] at hne
      have hne1 : (E != 0) = true := by simp [hne]
      have hne2 : (E == 0) = false := by simp [hne]
      clear D6 hE' ownX hXX
      go_wp2_with fail
      refine (is_i8 A bA h u c _ _ _ _ w6 fA6 rX hsX).mono ?_
      rintro e w7 ⟨rfl, b7⟩
      have fA7 := fA6.below b7
      have dX7 := dX6.below b7
      have hb7 := (s6.call b7).below
      clear b7 fA6 dX6 s6 rX c1 f1 zz1 cX
      go_wp2
      go_loopw [93] (fun i wr => ∃ (k : Nat) (zs : List Int), k ≤ len2 ∧ i = .int .i64 k ∧ zs.length = m ∧ Bf .i8 31 81 wr A bA h u c zs ∧ Bf .i64 2 36 wr X x h u c zs ∧ Below w.heap.size w wr) (fun i _ => len2 - (intOf i).toNat)
      case atStart => exact ⟨0, _, Nat.zero_le _, rfl, List.length_replicate, fA7, dX7, hb7⟩
      case round =>
        obtain ⟨k, zs, hk, rfl, hzs, hf, hd, hb⟩ := hrel
        clear fA7 dX7 hb7
        have hzs' : Hid (zs.length = m) := hzs
        clear hzs
        by_cases hlt : k < len2
        · obtain ⟨y, v0, v1, v2, v3, v4, rfl, ⟨b0, b1, b2, b3, b4, hcs, -, -, -, hv3⟩, q0, q1, q2, q3, q4⟩ := w2'.out.at hb hlt
          simp only [List.cons.injEq, and_true] at hcs
          obtain ⟨rfl, rfl, rfl, rfl, rfl⟩ := hcs
          have hfl := hf.lt.2
          have hdl := hd.lt.2
          have bal1 := bal wr (.cells #[.int .i64 b0, .int .i64 b1, .int .i64 b2, .int .i8 b3, .bool b4] 43)
          have hf1 := hf.below bal1
          have hd1 := hd.below bal1
          have hb1 := bt hb bal1
          have hP := play_is b0 A bA X x h u c zs b1 b2 b3 b4 _ hf1 hd1 (by have := hzs'.out; omega) (by have := hzs'.out; omega) hv3
          have H1 : Hid (Bf .i8 31 81 (wr.alloc (.cells #[.int .i64 b0, .int .i64 b1, .int .i64 b2, .int .i8 b3, .bool b4] 43)) A bA h u c zs ∧ Bf .i64 2 36 (wr.alloc (.cells #[.int .i64 b0, .int .i64 b1, .int .i64 b2, .int .i8 b3, .bool b4] 43)) X x h u c zs ∧ Below w.heap.size w (wr.alloc (.cells #[.int .i64 b0, .int .i64 b1, .int .i64 b2, .int .i8 b3, .bool b4] 43))) := ⟨hf1, hd1, hb1⟩
          clear hf hd hb bal1 hf1 hd1 hb1
          cases b4 with
          | false =>
            go_wp2_with fail
            refine hP.mono ?_
            rintro e w8 ⟨rfl, ys, hys, hf2, hd2, k2⟩
            have hb2 := k2.below H1.out.2.2 H1.out.2.2.size (by simpa using ⟨hwa, hwx⟩)
            have H2 : Hid (ys.length = m ∧ Bf .i8 31 81 w8 A bA h u c ys ∧ Bf .i64 2 36 w8 X x h u c ys ∧ Below w.heap.size w w8) := ⟨hys.trans hzs'.out, hf2, hd2, hb2⟩
            have cl : ∀ i, w8.cell? ⟨wr.heap.size, i, none⟩ = #[Value.int .i64 b0, .int .i64 b1, .int .i64 b2, .int .i8 b3, .bool false][i]? := by
              have e1 := k2.2.2.2.2 wr.heap.size (by simp) (by simp; omega)
              exact (cells_at (e1.trans (heap_alloc_new wr _))).1
            clear hP hys hf2 hd2 k2 hb2 H1
            go_wp2
            go_roundw
            case rel => exact ⟨k + 1, ys, by omega, by go_num, H2.out⟩
            case measure => simp [intOf]; omega
          | true =>
            clear hP
            go_wp2
            go_roundw
            case rel => exact ⟨k + 1, zs, by omega, by go_num, hzs'.out, H1.out⟩
            case measure => simp [intOf]; omega
        · obtain ⟨nZ, capZ, hZZ, ownZ⟩ := hd
          have rZ := ownZ.facts.2.2.2.2.2.1
          have hsZ : nZ ≤ 1048576 := by have := ownZ.len; have := hzs'.out; omega
          obtain ⟨cZ, -, -⟩ := cells_at hZZ
          clear hZZ ownZ
          go_wp2_with fail
          refine (is_i8 A bA h u c _ _ _ _ _ hf rZ hsZ).mono ?_
          rintro e w8 ⟨rfl, b8⟩
          have hb8 : Hid (Below w.heap.size w w8) := bt hb b8
          clear b8 hb hf rZ cZ
          go_wp2
          go_ret
          exact ⟨rfl, hb8.out⟩
    · obtain ⟨rfl, rfl, rfl, rfl, y, rfl, ownY⟩ := D6 e0
      obtain rfl : E = 0 := by rw [← hE'.out, e0]
      have hY2 := ownY.facts.2.1
      have dY6 : Bf .i64 2 36 w6 Y y _ _ _ z1 := bf_st s6 ownY
      have ltY := dY6.lt
      have hm1 : Hid (z1.length = m) := by
        have hg := e0
        unfold frE at hg
        split at hg
        · split at hg
          · rename_i q1 q2
            exact hl.out.trans (q2.trans hm0.out)
          · cases hg
        · cases hg
      have n1 : B ≠ bA := ne_of_type fB.cells.1 fA6.cells.2 (by decide)
      have n2 : B ≠ x := ne_of_type fB.cells.1 dX6.cells.2 (by decide)
      have n3 : b ≠ bA := by omega
      have n4 : b ≠ x := ne_of_type fB.cells.2 dX6.cells.2 (by decide)
      have n5 : Y ≠ bA := ne_of_type dY6.cells.1 fA6.cells.2 (by decide)
      have n6 : Y ≠ x := ne_of_type dY6.cells.1 dX6.cells.2 (by decide)
      have n7 : y ≠ bA := ne_of_type dY6.cells.2 fA6.cells.2 (by decide)
      have n8 : y ≠ x := by omega
      have n9 : A ≠ b := ne_of_type fA6.cells.1 fB.cells.2 (by decide)
      have n10 : A ≠ y := ne_of_type fA6.cells.1 dY6.cells.2 (by decide)
      have n11 : X ≠ b := ne_of_type dX6.cells.1 fB.cells.2 (by decide)
      have n12 : X ≠ y := ne_of_type dX6.cells.1 dY6.cells.2 (by decide)
      have hwb : w.heap.size ≤ b := by omega
      have hwy : w.heap.size ≤ y := by omega
      clear hE' e0 D6 ownX hXX ownY
      go_wp2_with fail
      refine (is_i8 A bA _ _ _ _ _ _ _ w6 fA6 rX hsX).mono ?_
      rintro e w7 ⟨rfl, b7⟩
      have H7 : Hid ((Bf .i8 31 81 w7 A bA H U C (List.replicate m 0) ∧ Bf .i64 2 36 w7 X x H U C (List.replicate m 0)) ∧ (Bf .i8 31 81 w7 B b H U C z1 ∧ Bf .i64 2 36 w7 Y y H U C z1) ∧ Below w.heap.size w w7) := ⟨⟨fA6.below b7, dX6.below b7⟩, ⟨fB.below b7, dY6.below b7⟩, (s6.call b7).below⟩
      clear b7 fA6 dX6 s6 rX c1 f1 zz1 cX fB dY6
      go_wp2
      go_loopw [93] (fun i wr => ∃ (k : Nat) (zs ys : List Int), k ≤ len2 ∧ i = .int .i64 k ∧ (zs.length = m ∧ ys.length = m) ∧ (Bf .i8 31 81 wr A bA H U C zs ∧ Bf .i64 2 36 wr X x H U C zs) ∧ (Bf .i8 31 81 wr B b H U C ys ∧ Bf .i64 2 36 wr Y y H U C ys) ∧ Below w.heap.size w wr) (fun i _ => len2 - (intOf i).toNat)
      case atStart => exact ⟨0, _, _, Nat.zero_le _, rfl, ⟨List.length_replicate, hm1.out⟩, H7.out⟩
      case round =>
        obtain ⟨k, zs, ys, hk, rfl, hzs, ⟨hf, hd⟩, ⟨hf', hd'⟩, hb⟩ := hrel
        clear H7
        have hzs' : Hid (zs.length = m ∧ ys.length = m) := hzs
        clear hzs
        by_cases hlt : k < len2
        · obtain ⟨yy, v0, v1, v2, v3, v4, rfl, ⟨b0, b1, b2, b3, b4, hcs, -, -, -, hv3⟩, q0, q1, q2, q3, q4⟩ := w2'.out.at hb hlt
          simp only [List.cons.injEq, and_true] at hcs
          obtain ⟨rfl, rfl, rfl, rfl, rfl⟩ := hcs
          have hfl := hf.lt.2
          have hdl := hd.lt.2
          have hfl' := hf'.lt.2
          have hdl' := hd'.lt.2
          have bal1 := bal wr (.cells #[.int .i64 b0, .int .i64 b1, .int .i64 b2, .int .i8 b3, .bool b4] 43)
          have hf1 := hf.below bal1
          have hd1 := hd.below bal1
          have hf1' := hf'.below bal1
          have hd1' := hd'.below bal1
          have hb1 := bt hb bal1
          have hP := play_is b0 A bA X x H U C zs b1 b2 b3 b4 _ hf1 hd1 (by have := hzs'.out; omega) (by have := hzs'.out; omega) hv3
          have hP' := play_is b0 B b Y y H U C ys b1 b2 b3 b4 _ hf1' hd1' (by have := hzs'.out; omega) (by have := hzs'.out; omega) hv3
          have H1 : Hid ((Bf .i8 31 81 (wr.alloc (.cells #[.int .i64 b0, .int .i64 b1, .int .i64 b2, .int .i8 b3, .bool b4] 43)) A bA H U C zs ∧ Bf .i64 2 36 (wr.alloc (.cells #[.int .i64 b0, .int .i64 b1, .int .i64 b2, .int .i8 b3, .bool b4] 43)) X x H U C zs) ∧ (Bf .i8 31 81 (wr.alloc (.cells #[.int .i64 b0, .int .i64 b1, .int .i64 b2, .int .i8 b3, .bool b4] 43)) B b H U C ys ∧ Bf .i64 2 36 (wr.alloc (.cells #[.int .i64 b0, .int .i64 b1, .int .i64 b2, .int .i8 b3, .bool b4] 43)) Y y H U C ys) ∧ Below w.heap.size w (wr.alloc (.cells #[.int .i64 b0, .int .i64 b1, .int .i64 b2, .int .i8 b3, .bool b4] 43))) := ⟨⟨hf1, hd1⟩, ⟨hf1', hd1'⟩, hb1⟩
          clear hf hd hf' hd' hb bal1 hf1 hd1 hf1' hd1' hb1
          cases b4 with
          | false =>
            clear hP'
            go_wp2_with fail
            refine hP.mono ?_
            rintro e w8 ⟨rfl, us, hus, hf2, hd2, k2⟩
            have hb2 := k2.below H1.out.2.2 H1.out.2.2.size (by simpa using ⟨hwa, hwx⟩)
            have H2 : Hid ((us.length = m ∧ ys.length = m) ∧ (Bf .i8 31 81 w8 A bA H U C us ∧ Bf .i64 2 36 w8 X x H U C us) ∧ (Bf .i8 31 81 w8 B b H U C ys ∧ Bf .i64 2 36 w8 Y y H U C ys) ∧ Below w.heap.size w w8) := ⟨⟨hus.trans hzs'.out.1, hzs'.out.2⟩, ⟨hf2, hd2⟩, ⟨H1.out.2.1.1.kept k2 (by simp [n1, n2]) (by simp [n3, n4]), H1.out.2.1.2.kept k2 (by simp [n5, n6]) (by simp [n7, n8])⟩, hb2⟩
            have cl : ∀ i, w8.cell? ⟨wr.heap.size, i, none⟩ = #[Value.int .i64 b0, .int .i64 b1, .int .i64 b2, .int .i8 b3, .bool false][i]? := by
              have e1 := k2.2.2.2.2 wr.heap.size (by simp) (by simp; omega)
              exact (cells_at (e1.trans (heap_alloc_new wr _))).1
            clear hP hus hf2 hd2 k2 hb2 H1
            go_wp2
            go_roundw
            case rel => exact ⟨k + 1, us, ys, by omega, by go_num, H2.out⟩
            case measure => simp [intOf]; omega
          | true =>
            clear hP
            go_wp2_with fail
            refine hP'.mono ?_
            rintro e w8 ⟨rfl, us, hus, hf2, hd2, k2⟩
            have hb2 := k2.below H1.out.2.2 H1.out.2.2.size (by simpa using ⟨hwb, hwy⟩)
            have H2 : Hid ((zs.length = m ∧ us.length = m) ∧ (Bf .i8 31 81 w8 A bA H U C zs ∧ Bf .i64 2 36 w8 X x H U C zs) ∧ (Bf .i8 31 81 w8 B b H U C us ∧ Bf .i64 2 36 w8 Y y H U C us) ∧ Below w.heap.size w w8) := ⟨⟨hzs'.out.1, hus.trans hzs'.out.2⟩, ⟨H1.out.1.1.kept k2 (by simp [n9, n10]) (by simp [Ne.symm n3, Ne.symm n7]), H1.out.1.2.kept k2 (by simp [n11, n12]) (by simp [Ne.symm n4, Ne.symm n8])⟩, ⟨hf2, hd2⟩, hb2⟩
            have cl : ∀ i, w8.cell? ⟨wr.heap.size, i, none⟩ = #[Value.int .i64 b0, .int .i64 b1, .int .i64 b2, .int .i8 b3, .bool true][i]? := by
              have e1 := k2.2.2.2.2 wr.heap.size (by simp) (by simp; omega)
              exact (cells_at (e1.trans (heap_alloc_new wr _))).1
            clear hP' hus hf2 hd2 k2 hb2 H1
            go_wp2
            go_roundw
            case rel => exact ⟨k + 1, zs, us, by omega, by go_num, H2.out⟩
            case measure => simp [intOf]; omega
        · obtain ⟨nZ, capZ, hZZ, ownZ⟩ := hd
          have rZ := ownZ.facts.2.2.2.2.2.1
          have hsZ : nZ ≤ 1048576 := by have := ownZ.len; have := hzs'.out.1; omega
          obtain ⟨cZ, -, -⟩ := cells_at hZZ
          clear hZZ ownZ
          go_wp2_with fail
          refine (is_i8 A bA H U C _ _ _ _ _ hf rZ hsZ).mono ?_
          rintro e w8 ⟨rfl, b8⟩
          have hf8 := hf'.below b8
          have hd8 := hd'.below b8
          have hb8 := bt hb b8
          clear b8 hb hf rZ cZ hf' hd'
          obtain ⟨nZ', capZ', hZZ', ownZ'⟩ := hd8
          have rZ' := ownZ'.facts.2.2.2.2.2.1
          have hsZ' : nZ' ≤ 1048576 := by have := ownZ'.len; have := hzs'.out.2; omega
          obtain ⟨cZ', -, -⟩ := cells_at hZZ'
          clear hZZ' ownZ'
          go_wp2_with fail
          refine (is_i8 B b H U C _ _ _ _ _ hf8 rZ' hsZ').mono ?_
          rintro e w9 ⟨rfl, b9⟩
          have hb9 : Hid (Below w.heap.size w w9) := bt hb8 b9
          clear b9 hb8 hf8 rZ' cZ'
          go_wp2
          go_ret
          exact ⟨rfl, hb9.out⟩
end Go.Proofs.Ytedbcnkgembhbaa
