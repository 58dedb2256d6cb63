/- The walk of WirePuts. -/
import Derived.Test.YtejdepnfilelbaaWirW
import Derived.ArgAppend
namespace Go.Proofs.Ytejdepnfilelbaa
open Go.ChangeShapes Go.WideShapes Go.ChangeAt Go.RowKit Go.BigFrame
theorem Own.keep {w w' : World} {base g q n cap : Nat} {zs : List Int} (h : Own w base (.slice (some ⟨g, 0, none⟩) n cap) zs) (k : w.grownBy w' (some q)) (hne : g ≠ q) : Own w' base (.slice (some ⟨g, 0, none⟩) n cap) zs :=
  ⟨h.1.kept k (.inr (by simpa [Value.ownBlock] using hne)), h.2⟩
/-- An append to a row of the call's own, and where the answer lies. -/
theorem wpList_app2 {w : World} {ops : Array Oper} {rest : List Oper} {o : Oper} {a : Act} {Q : Exit → Act → World → Prop} (hgd : o.guard = none) (s x : Operand)
    (ho : o.op = .call { callee := .builtin .append, args := #[s, x], argTypes := #[22, 22] })
    (base g n cap : Nat) (xs ys : List Int) (hs : a.eval s = .slice (some ⟨g, 0, none⟩) n cap) (hown : Own w base (.slice (some ⟨g, 0, none⟩) n cap) xs) (ad : Addr) (m c : Nat) (hx : a.eval x = .slice (some ad) m c) (hy : Row w (some ad) m c ys)
    (hlen : n + m ≤ 140737488355328) (hm : 0 < m) (hbase : base ≤ w.heap.size)
    (h : ∀ g' c' w', Own w' base (.slice (some ⟨g', 0, none⟩) (n + m) c') (xs ++ ys) → (g' = g ∨ w.heap.size ≤ g') → w.grownBy w' (some g) → wpList Try.prog ops Q rest (a.put o.dst (.slice (some ⟨g', 0, none⟩) (n + m) c')) w') : wpList Try.prog ops Q (o :: rest) a w := by
  obtain ⟨i0, hi, hz0, hz1, hz2⟩ := info_parts Try.infoB
  obtain ⟨hxl, hg, hgl, hnc, hcm, hrow, _⟩ := hown.facts
  obtain ⟨hl, hc, hmm, hb, hn, hcell⟩ := hy
  have hnews : ∀ j u, (ys.map (Value.int .u8))[j]? = some u → w.cell? (ad.add j) = some u := by
    intro j u hj
    have hj' : j < m := by
      have := (List.getElem?_eq_some_iff.1 hj).1
      simpa [hl] using this
    rw [hcell ad rfl j hj']
    simp [List.getD, show j < ys.length by omega] at hj ⊢
    exact hj
  have holds : ∀ j u, (xs.map (Value.int .u8))[j]? = some u → w.cell? ((⟨g, 0, none⟩ : Addr).add j) = some u := by
    intro j u hj
    have hj' : j < n := by
      have := (List.getElem?_eq_some_iff.1 hj).1
      simpa [hxl] using this
    rw [hrow.2.2.2.2.2 _ rfl j hj']
    simp [List.getD, show j < xs.length by omega] at hj ⊢
    exact hj
  have hown' := hown.1
  rw [hxl] at hown'
  by_cases hfit : n + m ≤ cap
  · refine wpList_append_fits _ hgd s x _ ho base 5 i0 1 Try.underlying22 hi hz1 g n cap (xs.map (Value.int .u8)) hs hown' ad m c (ys.map (Value.int .u8)) hx (by simp [hl]) hnews (ints_oneCell _ _) hfit ?_
    intro w' h1 h2
    refine h g cap w' ⟨?_, hown.2.app hb⟩ (.inl rfl) h2
    rw [List.length_append, hl, hxl, List.map_append]
    exact h1
  · refine wpList_append_grows _ hgd s x _ ho 5 i0 (.int .u8 0) 1 1 Try.underlying22 hi hz0 hz1 hz2 rfl (by decide) (some ⟨g, 0, none⟩) n cap (xs.map (Value.int .u8)) hs (fun e => by cases e) (by simp [hxl]) (fun b e => by cases e; exact holds) ad m c (ys.map (Value.int .u8)) hx (by simp [hl]) hnews (ints_oneCell _ _) (by omega) (by unfold maxLen; omega) (by omega) ?_
    intro v' w' h1 h2
    have own' : Own w' w.heap.size v' (xs ++ ys) := ⟨by rw [List.length_append, hl, hxl, List.map_append]; exact h1, hown.2.app hb⟩
    have hne : v' ≠ .slice none 0 0 := by
      intro e
      rcases own'.shape with ⟨_, h0⟩ | ⟨_, _, h0, _⟩
      · have := congrArg List.length h0; rw [List.length_append, List.length_nil] at this; omega
      · rw [e] at h0; cases h0
    obtain ⟨g', c', rfl, hg', _⟩ := own'.slice (n := n + m) (by rw [List.length_append, hl, hxl]) hne
    exact h g' c' w' (own'.base hbase) (.inr hg') ⟨h2.os, h2.tape, h2.output, h2.size, fun k hk _ => h2.block k hk (by simp)⟩
theorem row_len {w : World} {a : Option Addr} {len cap : Nat} {zs : List Int} (h : Row w a len cap zs) : cap ≤ 9223372036854775807 := by
  have := h.2.2.1; unfold maxLen at this; omega
theorem own_at {w : World} {base g n m cap : Nat} {zs ys : List Int} {z : Int} (h : Own w base (.slice (some ⟨g, 0, none⟩) (n + m) cap) (zs ++ z :: ys)) (hz : zs.length = n) : w.cell? ⟨g, n, none⟩ = some (.int .u8 z) := by
  have hl := h.facts.1
  have hrow := h.facts.2.2.2.2.2.1
  rw [List.length_append, List.length_cons, hz] at hl
  have := hrow.2.2.2.2.2 _ rfl n (by omega)
  rw [Addr.add_lit, Nat.zero_add] at this
  rw [this]
  subst hz
  simp [List.getD]
set_option maxHeartbeats 2000000 in
set_option maxRecDepth 1000000 in
theorem wirePuts_walk (a0 : Option Addr) (len0 cap0 : Nat) (z0 : List Int) (a1 a2 : Int) (w : World)
    (w0 : IRow .u8 w a0 len0 cap0 z0) (r0 : len0 * 1 ≤ 140737488351232) (w1 : (Lit.int .u64 a1).wf = true) (w2 : (Lit.int .i64 a2).wf = true) :
    Calls Try.prog 3 #[.slice a0 len0 cap0, .int .u64 a1, .int .i64 a2] w fun e w' => e = .returned (.bool true) ∧ Below w.heap.size w w' := by
  have row0 := w0.row
  have hlen : Hid (z0.length = len0) := row0.1
  obtain ⟨u0, u1⟩ := u64_of_wf w1
  obtain ⟨s0, s1⟩ := i64_of_wf w2
  obtain ⟨x, rfl⟩ := Int.eq_ofNat_of_zero_le u0
  have hx : x < 18446744073709551616 := by omega
  have hp1 : Hid ((putR x).length ≤ 10) := putR_ten hx
  have hp2 : Hid ((putR (foldR a2)).length ≤ 10) := putR_ten (foldR_lt s0 s1)
  obtain ⟨us, HU⟩ : ∃ us, Hid (z0 ++ putR x = us) := ⟨_, rfl⟩
  obtain ⟨ss, HS⟩ : ∃ ss, Hid (z0 ++ putR (foldR a2) = ss) := ⟨_, rfl⟩
  have hnu : us.length ≤ len0 + 10 := by rw [← HU.out, List.length_append, hlen.out]; have := hp1.out; omega
  have hns : ss.length ≤ len0 + 10 := by rw [← HS.out, List.length_append, hlen.out]; have := hp2.out; omega
  clear w0 w1 w2 u0 u1
  go_enter Try.func3, Try.ntmps3
  go_wp2_with fail
  refine (roomy_is _ _ _ _ _ row0 (by omega)).mono ?_
  rintro e wa ⟨g, cap, rfl, own, ba⟩
  obtain ⟨_, hg, hgl, hgc, hgm, rowW, _⟩ := own.facts
  have rowP := rowW.take (n := len0) (by omega)
  rw [← hlen.out, List.take_left, hlen.out] at rowP
  clear own
  go_wp2_with fail
  refine (roomy_is _ _ _ _ _ (row0.below ba) (by omega)).mono ?_
  rintro e wb ⟨g2, cap2, rfl, own2, bb⟩
  obtain ⟨_, hg2, hgl2, hgc2, hgm2, rowV, _⟩ := own2.facts
  have rowW1 := rowW.below bb
  have rowP1 := rowP.below bb
  have b1 := bt ba bb
  clear own2 rowW rowP ba bb
  go_wp2_with fail
  refine (putU_is _ _ _ _ _ _ rowP1 hx (by omega)).mono ?_
  rintro e wc ⟨v, rfl, ownU, nnU, bc⟩
  rw [HU.out] at ownU
  obtain ⟨gu, cu, rfl, hgu, hgul, hgun, hgum⟩ := ownU.slice rfl nnU
  have rowW2 := rowW1.below bc
  have rowP2 := rowP1.below bc
  have rowV2 := rowV.below bc
  have b2 := bt b1 bc
  clear rowW1 rowP1 rowV bc b1
  go_wp2_with fail
  refine (putS_is _ _ _ _ _ _ rowP2 s0 s1 (by omega)).mono ?_
  rintro e wd ⟨v, rfl, ownS, nnS, bd⟩
  rw [HS.out] at ownS
  obtain ⟨gs, cs, rfl, hgs, hgsl, hgsn, hgsm⟩ := ownS.slice rfl nnS
  have rowW3 := rowW2.below bd
  have rowP3 := rowP2.below bd
  have rowV3 := rowV2.below bd
  have ownU3 := ownU.below bd
  have b3 := bt b2 bd
  clear rowW2 rowP2 rowV2 bd b2 ownU
  go_wp2_with fail
  refine (putU_is _ _ _ _ _ _ rowP3 hx (by omega)).mono ?_
  rintro e we ⟨v, rfl, ownV, nnV, be⟩
  rw [HU.out] at ownV
  obtain ⟨gv, cv, rfl, hgv, hgvl, hgvn, hgvm⟩ := ownV.slice rfl nnV
  have rowW4 := rowW3.below be
  have rowV4 := rowV3.below be
  have ownU4 := ownU3.below be
  have ownS4 := ownS.below be
  have b4 := bt b3 be
  clear rowW3 rowP3 rowV3 be b3 ownU3 ownS
  go_wp2_with fail
  refine (refU_is _ _ hx).mono ?_
  rintro e wf ⟨v, rfl, ownF, bf⟩
  obtain ⟨af, cf, rfl, rowF, _⟩ := ownF.row
  have b5 := bt b4 bf
  go_wp2_with fail
  refine (joined_is _ _ _ _ _ _ _ _ _ (row0.below b5) rowF (by have := hp1.out; omega)).mono ?_
  rintro e wg ⟨v, rfl, ownG, _, bg⟩
  rw [HU.out] at ownG
  obtain ⟨ag, cg, rfl, rowG, hrG⟩ := ownG.row
  have bfg := bt bf bg
  have rowW6 := rowW4.below bfg
  have rowV6 := rowV4.below bfg
  have ownU6 := ownU4.below bfg
  have ownS6 := ownS4.below bfg
  have ownV6 := ownV.below bfg
  have b6 := bt b4 bfg
  have s56 : we.heap.size ≤ wf.heap.size := bf.size
  clear rowW4 rowV4 ownU4 ownS4 ownV bfg bf bg b5 b4 ownF rowF ownG
  go_wp2_with fail
  refine (refS_is _ _ s0 s1).mono ?_
  rintro e wh ⟨v, rfl, ownH, bh⟩
  obtain ⟨ah, ch, rfl, rowH, _⟩ := ownH.row
  have b7 := bt b6 bh
  go_wp2_with fail
  refine (joined_is _ _ _ _ _ _ _ _ _ (row0.below b7) rowH (by have := hp2.out; omega)).mono ?_
  rintro e wi ⟨v, rfl, ownI, _, bi⟩
  rw [HS.out] at ownI
  obtain ⟨ai, ci, rfl, rowI, hrI⟩ := ownI.row
  have bhi := bt bh bi
  have rowW8 := rowW6.below bhi
  have rowV8 := rowV6.below bhi
  have ownU8 := ownU6.below bhi
  have ownS8 := ownS6.below bhi
  have ownV8 := ownV6.below bhi
  have rowG8 := rowG.below bhi
  have b8 := bt b6 bhi
  have s67 : wg.heap.size ≤ wh.heap.size := bh.size
  clear rowW6 rowV6 ownU6 ownS6 ownV6 rowG bhi bh bi b7 b6 ownH rowH ownI
  go_wp2_with fail
  refine (fixed_is _).mono ?_
  rintro e wj ⟨rfl, bj⟩
  have rowW9 := rowW8.below bj
  have rowV9 := rowV8.below bj
  have ownU9 := ownU8.below bj
  have ownS9 := ownS8.below bj
  have ownV9 := ownV8.below bj
  have rowG9 := rowG8.below bj
  have rowI9 := rowI.below bj
  have b9 := bt b8 bj
  clear rowW8 rowV8 ownU8 ownS8 ownV8 rowG8 rowI bj b8
  unfold maxLen at hgum hgsm hgvm
  have rowU := ownU9.facts.2.2.2.2.2.1
  have rowS := ownS9.facts.2.2.2.2.2.1
  have rowV' := ownV9.facts.2.2.2.2.2.1
  have hgG : Hid (∀ p : Addr, ag = some p → p.block ≠ gu ∧ p.block ≠ gs) := fun p hp => by have := hrG p hp; omega
  have n1 : g ≠ gu := by omega
  have n2 : g ≠ gs := by omega
  have n3 : g2 ≠ gu := by omega
  have n4 : g2 ≠ gs := by omega
  have n5 : gv ≠ gu := by omega
  have n6 : gv ≠ gs := by omega
  have n7 : gu ≠ gs := by omega
  have hguw : w.heap.size ≤ gu := by omega
  have hgsw : w.heap.size ≤ gs := by omega
  clear hrG hrI
  go_wp2_with fail
  refine (same_is _ _ _ _ _ _ _ _ _ rowU rowG9).mono ?_
  rintro e w1 ⟨rfl, m1, rfl⟩
  go_wp2_with fail
  refine (same_is _ _ _ _ _ _ _ _ _ (rowV'.below (dbel wj _)) (rowG9.below (dbel wj _))).mono ?_
  rintro e w1 ⟨rfl, m2, rfl⟩
  go_wp2_with fail
  refine (same_is _ _ _ _ _ _ _ _ _ (rowS.below (dbel wj _)) (rowI9.below (dbel wj _))).mono ?_
  rintro e w1 ⟨rfl, m3, rfl⟩
  go_wp2_with fail
  refine (same_is _ _ _ _ _ _ _ _ _ (rowW9.below (dbel wj _)) (rowV9.below (dbel wj _))).mono ?_
  rintro e w1 ⟨rfl, m4, rfl⟩
  clear rowU rowS rowI9
  go_wp2
  go_loopw [75] (fun i wr => ∃ (k : Nat) (zs : List Int), k ≤ us.length ∧ i = .int .i64 k ∧ Own wr wb.heap.size (.slice (some ⟨gu, 0, none⟩) us.length cu) zs ∧ Own wr wc.heap.size (.slice (some ⟨gs, 0, none⟩) ss.length cs) ss ∧
      Row wr (some ⟨g, 0, none⟩) (len0 + 12) cap (z0 ++ marks) ∧ Row wr (some ⟨g2, 0, none⟩) (len0 + 12) cap2 (z0 ++ marks) ∧ Row wr (some ⟨gv, 0, none⟩) us.length cv us ∧ Row wr ag us.length cg us ∧ Below w.heap.size w wr) (fun i _ => us.length - (intOf i).toNat)
  case atStart => exact ⟨0, _, Nat.zero_le _, rfl, ownU9.below (dbel wj _), ownS9.below (dbel wj _), rowW9.below (dbel wj _), rowV9.below (dbel wj _), rowV'.below (dbel wj _), rowG9.below (dbel wj _), bt b9 (dbel wj _)⟩
  case round =>
    obtain ⟨k, zs, hk, rfl, oU, oS, rW, rV, rU, rG, bb⟩ := hrel
    clear ownU9 ownS9 ownV9 rowW9 rowV9 rowV' rowG9 b9
    obtain ⟨hzl, _, _, _, _, rowu, fru⟩ := oU.facts
    have hzl' : Hid (zs.length = us.length) := hzl
    clear hzl
    by_cases hlt : k < us.length
    · obtain ⟨p, c, hxx, hcell, _, _, _⟩ := row_at rowu hlt
      cases hxx
      rw [Addr.add_lit, Nat.zero_add] at hcell
      obtain ⟨o1, gr⟩ := oU.set (k := k) (z := 1) (by omega)
      have H : Hid (Own (wr.setCell ⟨gu, k, none⟩ (.int .u8 1)) wb.heap.size (.slice (some ⟨gu, 0, none⟩) us.length cu) (zs.set k 1) ∧ Own (wr.setCell ⟨gu, k, none⟩ (.int .u8 1)) wc.heap.size (.slice (some ⟨gs, 0, none⟩) ss.length cs) ss ∧
          Row (wr.setCell ⟨gu, k, none⟩ (.int .u8 1)) (some ⟨g, 0, none⟩) (len0 + 12) cap (z0 ++ marks) ∧ Row (wr.setCell ⟨gu, k, none⟩ (.int .u8 1)) (some ⟨g2, 0, none⟩) (len0 + 12) cap2 (z0 ++ marks) ∧
          Row (wr.setCell ⟨gu, k, none⟩ (.int .u8 1)) (some ⟨gv, 0, none⟩) us.length cv us ∧ Row (wr.setCell ⟨gu, k, none⟩ (.int .u8 1)) ag us.length cg us ∧ Below w.heap.size w (wr.setCell ⟨gu, k, none⟩ (.int .u8 1))) :=
        ⟨o1, oS.keep gr (Ne.symm n7), rW.grown gr (fun p q h1 h2 => by cases h1; cases h2; exact n1), rV.grown gr (fun p q h1 h2 => by cases h1; cases h2; exact n3), rU.grown gr (fun p q h1 h2 => by cases h1; cases h2; exact n5),
          rG.grown gr (fun p q h1 h2 => by cases h2; exact (hgG.out p h1).1), bb.setCell (p := ⟨gu, k, none⟩) hguw _⟩
      clear o1 gr oU oS rW rV rU rG bb rowu
      go_wp2
      go_roundw
      case rel => exact ⟨k + 1, _, by omega, by go_num, H.out⟩
      case measure => simp [intOf]; omega
    · clear rowu fru
      go_wp2
      go_loopw [84] (fun i wr => ∃ (k : Nat) (ys : List Int), k ≤ ss.length ∧ i = .int .i64 k ∧ Own wr wb.heap.size (.slice (some ⟨gu, 0, none⟩) us.length cu) zs ∧ Own wr wc.heap.size (.slice (some ⟨gs, 0, none⟩) ss.length cs) ys ∧
          Row wr (some ⟨g, 0, none⟩) (len0 + 12) cap (z0 ++ marks) ∧ Row wr (some ⟨g2, 0, none⟩) (len0 + 12) cap2 (z0 ++ marks) ∧ Row wr (some ⟨gv, 0, none⟩) us.length cv us ∧ Row wr ag us.length cg us ∧ Below w.heap.size w wr) (fun i _ => ss.length - (intOf i).toNat)
      case atStart => exact ⟨0, _, Nat.zero_le _, rfl, oU, oS, rW, rV, rU, rG, bb⟩
      case round =>
        clear oU oS rW rV rU rG bb
        obtain ⟨k2, ys, hk2, rfl, oU, oS, rW, rV, rU, rG, bb⟩ := hrel
        obtain ⟨hyl, _, _, _, _, rows, frs⟩ := oS.facts
        have hyl' : Hid (ys.length = ss.length) := hyl
        clear hyl
        by_cases hlt2 : k2 < ss.length
        · obtain ⟨p, c, hxx, hcell, _, _, _⟩ := row_at rows hlt2
          cases hxx
          rw [Addr.add_lit, Nat.zero_add] at hcell
          obtain ⟨o1, gr⟩ := oS.set (k := k2) (z := 2) (by omega)
          have H : Hid (Own (wr.setCell ⟨gs, k2, none⟩ (.int .u8 2)) wb.heap.size (.slice (some ⟨gu, 0, none⟩) us.length cu) zs ∧ Own (wr.setCell ⟨gs, k2, none⟩ (.int .u8 2)) wc.heap.size (.slice (some ⟨gs, 0, none⟩) ss.length cs) (ys.set k2 2) ∧
              Row (wr.setCell ⟨gs, k2, none⟩ (.int .u8 2)) (some ⟨g, 0, none⟩) (len0 + 12) cap (z0 ++ marks) ∧ Row (wr.setCell ⟨gs, k2, none⟩ (.int .u8 2)) (some ⟨g2, 0, none⟩) (len0 + 12) cap2 (z0 ++ marks) ∧
              Row (wr.setCell ⟨gs, k2, none⟩ (.int .u8 2)) (some ⟨gv, 0, none⟩) us.length cv us ∧ Row (wr.setCell ⟨gs, k2, none⟩ (.int .u8 2)) ag us.length cg us ∧ Below w.heap.size w (wr.setCell ⟨gs, k2, none⟩ (.int .u8 2))) :=
            ⟨oU.keep gr n7, o1, rW.grown gr (fun p q h1 h2 => by cases h1; cases h2; exact n2), rV.grown gr (fun p q h1 h2 => by cases h1; cases h2; exact n4), rU.grown gr (fun p q h1 h2 => by cases h1; cases h2; exact n6),
              rG.grown gr (fun p q h1 h2 => by cases h2; exact (hgG.out p h1).2), bb.setCell (p := ⟨gs, k2, none⟩) hgsw _⟩
          clear o1 gr oU oS rW rV rU rG bb rows
          go_wp2
          go_roundw
          case rel => exact ⟨k2 + 1, _, by omega, by go_num, H.out⟩
          case measure => simp [intOf]; omega
        · clear rows frs
          have lu := oU.facts.2.2.1
          have ls := oS.facts.2.2.1
          have bU : wb.heap.size ≤ (wr.alloc (.cells #[.int .u8 3, .int .u8 3, .int .u8 3] 5)).heap.size := by rw [World.size_alloc]; omega
          have oU' := oU.alloc (.cells #[.int .u8 3, .int .u8 3, .int .u8 3] 5)
          have oS' := oS.alloc (.cells #[.int .u8 3, .int .u8 3, .int .u8 3] 5)
          have b3 := byt3 3 3 3 (by omega) (by omega) (by omega)
          have b4 := byt3 4 4 4 (by omega) (by omega) (by omega)
          have ml : Hid (3 ≤ maxLen) := by unfold Hid maxLen; omega
          have r3 := row_lit wr [3, 3, 3] b3 ml.out
          have H3 : Hid (Row (wr.alloc (.cells #[.int .u8 3, .int .u8 3, .int .u8 3] 5)) (some ⟨wr.heap.size, 0, none⟩) 3 3 [3, 3, 3]) := r3
          clear r3 b3
          go_wp2_with (first
            | (at_builtin; refine wpList_app2 rfl (.tmp 91) (.tmp 92) rfl wb.heap.size gu us.length cu zs [3, 3, 3] rfl oU' ⟨wr.heap.size, 0, none⟩ 3 3 rfl H3.out (by omega) (by omega) bU ?_; intro g5 c5 w5 o5 hg5 gr5; have oS5 := oS'.keep gr5 (Ne.symm n7); have oS6 := oS5.alloc (.cells #[.int .u8 4, .int .u8 4, .int .u8 4] 5); have r4 := row_lit w5 [4, 4, 4] b4 ml.out; have H4 : Hid (Row (w5.alloc (.cells #[.int .u8 4, .int .u8 4, .int .u8 4] 5)) (some ⟨w5.heap.size, 0, none⟩) 3 3 [4, 4, 4]) := r4; clear r4; have l5 := oS5.facts.2.2.1; have bS : wc.heap.size ≤ (w5.alloc (.cells #[.int .u8 4, .int .u8 4, .int .u8 4] 5)).heap.size := by (rw [World.size_alloc]; omega))
            | (at_builtin; refine wpList_app2 rfl (.tmp 94) (.tmp 95) rfl wc.heap.size gs ss.length cs ys [4, 4, 4] rfl oS6 ⟨w5.heap.size, 0, none⟩ 3 3 rfl H4.out (by omega) (by omega) bS ?_; intro g6 c6 w6 o6 hg6 gr6))
          have bal3 := bal wr (.cells #[.int .u8 3, .int .u8 3, .int .u8 3] 5)
          have bal4 := bal w5 (.cells #[.int .u8 4, .int .u8 4, .int .u8 4] 5)
          have g5s : g5 ≠ gs := by
            rcases hg5 with h | h
            · omega
            · rw [World.size_alloc] at h; omega
          have o5' := (o5.alloc (.cells #[.int .u8 4, .int .u8 4, .int .u8 4] 5)).keep gr6 g5s
          have c5x := own_at o5' hzl'.out
          have c6x := own_at o6 hyl'.out
          have rW6 := (((rW.below bal3).grown gr5 (fun p q h1 h2 => by cases h1; cases h2; exact n1)).below bal4).grown gr6 (fun p q h1 h2 => by cases h1; cases h2; exact n2)
          have rV6 := (((rV.below bal3).grown gr5 (fun p q h1 h2 => by cases h1; cases h2; exact n3)).below bal4).grown gr6 (fun p q h1 h2 => by cases h1; cases h2; exact n4)
          have rU6 := (((rU.below bal3).grown gr5 (fun p q h1 h2 => by cases h1; cases h2; exact n5)).below bal4).grown gr6 (fun p q h1 h2 => by cases h1; cases h2; exact n6)
          have rG6 := (((rG.below bal3).grown gr5 (fun p q h1 h2 => by cases h2; exact (hgG.out p h1).1)).below bal4).grown gr6 (fun p q h1 h2 => by cases h2; exact (hgG.out p h1).2)
          have bb3 := bb.alloc bb.size (.cells #[.int .u8 3, .int .u8 3, .int .u8 3] 5)
          have bb5 := bb3.grown gr5 bb3.size (fun k h => by cases h; exact hguw)
          have bb4 := bb5.alloc bb5.size (.cells #[.int .u8 4, .int .u8 4, .int .u8 4] 5)
          have bb6 := bb4.grown gr6 bb4.size (fun k h => by cases h; exact hgsw)
          clear oU oS rW rV rU rG bb oU' oS' H3 H4 oS5 oS6 gr5 gr6 o5 o6 o5' bal3 bal4 bb3 bb5 bb4 hg5 hg6 b4 ml
          refine (same_is _ _ _ _ _ _ _ _ _ rU6 rG6).mono ?_
          rintro e w7 ⟨rfl, n7', rfl⟩
          go_wp2_with fail
          refine (same_is _ _ _ _ _ _ _ _ _ (rW6.below (dbel w6 _)) (rV6.below (dbel w6 _))).mono ?_
          rintro e w8 ⟨rfl, n8, rfl⟩
          go_wp2
          go_ret
          exact ⟨ret_bool (by simp), bb6.trans ((dbel w6 _).mono bb6.size)⟩
end Go.Proofs.Ytejdepnfilelbaa
