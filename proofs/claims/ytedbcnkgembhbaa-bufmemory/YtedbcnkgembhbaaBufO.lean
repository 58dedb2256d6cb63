/- The walk of BufMemory. -/
import Derived.Test.YtedbcnkgembhbaaBufN
import Derived.Test.YtedbcnkgembhbaaBufI
namespace Go.Proofs.Ytedbcnkgembhbaa
open Go.ChangeShapes Go.WideShapes Go.ChangeAt Go.RowKit Go.BigFrame
def mks : List Int := [91, 92, 93, 94]
theorem mks_wf : Wf .i8 mks := by
  intro z hz
  simp only [mks, List.mem_cons, List.not_mem_nil, or_false] at hz
  exact mk_i8 (by omega)
theorem vS_one {n : Nat} (h1 : 1 ≤ n) (h2 : n ≤ 1024) : vS 1 1 n = true := vS_mk (by omega)
theorem own_empty (w : World) (base : Nat) (h : base ≤ w.heap.size) : Own .i8 31 (w.alloc (.cells #[] 31)) base (.slice (some ⟨w.heap.size, 0, none⟩) 0 0) [] := own_lit .i8 31 w base [] (Wf.nil _) (by unfold maxLen; simp) h
theorem IRow.take {k : IntKind} {w : World} {a : Option Addr} {len cap n : Nat} {zs : List Int} (h : IRow k w a len cap zs) (hn : n ≤ len) : IRow k w a n cap (zs.take n) := by
  obtain ⟨h1, h2, h3, h4, h5, h6⟩ := h
  refine ⟨by simp; omega, by omega, h3, fun z hz => h4 z (List.mem_of_mem_take hz), h5, fun x hx i hi => ?_⟩
  rw [h6 x hx i (by omega)]
  simp [List.getD, hi]
set_option maxHeartbeats 8000000 in
set_option maxRecDepth 100000 in
theorem bufMemory_walk (a0 : Option Addr) (n cap0 : Nat) (z0 : List Int) (p q : Int) (w : World) (w0 : IRow .i8 w a0 n cap0 z0) (_r0 : n * 1 ≤ 140737488351232) (_w1 : (Lit.int .i64 p).wf = true) (_w2 : (Lit.int .i64 q).wf = true) :
    Calls Try.prog 5 #[.slice a0 n cap0, .int .i64 p, .int .i64 q] w fun e w' => e = .returned (.bool true) ∧ Below w.heap.size w w' := by
  clear _r0 _w1 _w2
  have hl : Hid (z0.length = n) := w0.1
  have hrow : Hid (∀ w', Below w.heap.size w w' → IRow .i8 w' a0 n cap0 z0) := fun w' q => w0.below q
  have hnc := w0.2.1
  have hcm := w0.2.2.1
  unfold maxLen at hcm
  clear w0
  by_cases h0 : n = 0
  · go_enter Try.func5, Try.ntmps5
    go_wp2_with fail
    refine (fixed_is _).mono ?_
    rintro e w1 ⟨rfl, b1⟩
    go_wp2
    go_ret
    exact ⟨rfl, b1⟩
  by_cases h1 : 1024 < n
  · go_enter Try.func5, Try.ntmps5
    go_wp2_with fail
    refine (fixed_is _).mono ?_
    rintro e w1 ⟨rfl, b1⟩
    go_wp2
    go_ret
    exact ⟨rfl, b1⟩
  have n1 : 1 ≤ n := by omega
  have n2 : n ≤ 1024 := by omega
  have nn1 : ((n : Int) == 0) = false := by simp [h0]
  have nn2 : ¬ (1024 : Int) < (n : Int) := by omega
  have nn3 : decide ((1024 : Int) < (n : Int)) = false := decide_eq_false nn2
  clear h0 h1
  obtain ⟨vm, vE, vys, hvm, hV⟩ := view_any z0 p q (by have := hl.out; omega)
  rw [hl.out] at hvm
  go_enter Try.func5, Try.ntmps5
  go_wp2_with fail
  refine (fixed_is _).mono ?_
  rintro e w1 ⟨rfl, b1⟩
  have hW : Hid (∀ w', Below (w1.heap.size + 1) (w1.alloc (.cells #[.int .i64 1, .int .i64 1, .int .i64 n] 23)) w' → (∀ i, w'.cell? ⟨w1.heap.size, i, none⟩ = #[Value.int .i64 1, .int .i64 1, .int .i64 n][i]?) ∧ Below w.heap.size w w' ∧ w.heap.size ≤ w1.heap.size) := fun w' q => by
    have q' : Below (w1.alloc (.cells #[.int .i64 1, .int .i64 1, .int .i64 n] 23)).heap.size (w1.alloc (.cells #[.int .i64 1, .int .i64 1, .int .i64 n] 23)) w' := by rw [World.size_alloc]; exact q
    exact ⟨(cells_at ((q'.block w1.heap.size (by simp)).trans (heap_alloc_new w1 _))).1, bt b1 (bt (bal _ _) q'), b1.size⟩
  have own0 := own_empty (w1.alloc (.cells #[.int .i64 1, .int .i64 1, .int .i64 n] 23)) (w1.heap.size + 1) (by simp)
  have b2 : Below (w1.heap.size + 1) (w1.alloc (.cells #[.int .i64 1, .int .i64 1, .int .i64 n] 23)) ((w1.alloc (.cells #[.int .i64 1, .int .i64 1, .int .i64 n] 23)).alloc (.cells #[] 31)) := (Below.refl _ _).alloc (by simp) _
  simp only [World.size_alloc] at own0
  clear b1
  go_wp2_with (first
    | (at_builtin; (refine wpList_app kt_i8 rfl (.tmp 43) (.tmp 44) rfl (w1.heap.size + 1) _ [] z0 rfl own0 _ _ _ rfl (hrow.out _ (hW.out _ b2).2.1) (by have := hl.out; simp; omega) (by simp) ?_; intro v3 w3 own3 gr3 _; have b3 := own0.bel b2 gr3 (Nat.le_refl _) (by simp); simp only [List.nil_append] at own3; have own3a := own3.alloc (.cells (mks.map (Value.int .i8)).toArray 31); have z3 := b3.size; simp only [World.size_alloc] at z3; have b3a := b3.alloc (by omega) (.cells (mks.map (Value.int .i8)).toArray 31); have row3 := own_lit .i8 31 w3 0 mks mks_wf (by unfold maxLen; decide) (Nat.zero_le _); clear b2 own0 gr3 own3))
    | (at_builtin; (obtain ⟨ao, co, ho, row3b, _⟩ := row3.row; cases ho; refine wpList_app kt_i8 rfl (.tmp 45) (.tmp 46) rfl (w1.heap.size + 1) v3 _ mks rfl own3a _ _ _ rfl row3b (by have := hl.out; simp [mks]; omega) (by simp; omega) ?_; intro v4 w4 own4 gr4 _; have b4 := own3a.bel b3a gr4 (Nat.le_refl _) (by simp; omega); clear row3 row3b own3a gr4 b3a b3; obtain ⟨W0, cw, rfl, hW0, hW1⟩ := own4.some (by rw [List.length_append, show mks.length = 4 from rfl]; omega); obtain ⟨zw, hzw⟩ : ∃ zw, z0 ++ mks = zw := ⟨_, rfl⟩; have hzl : zw.length = n + 4 := (by rw [← hzw, List.length_append, hl.out]; rfl); have hzw' : Hid (z0 ++ mks = zw) := hzw; have hzl' : Hid (zw.length = n + 4) := hzl; rw [hzw] at own4 ⊢; rw [hzl] at own4 ⊢; clear hzw hzl; have own4' : Hid (Own .i8 31 w4 (w1.heap.size + 1) (.slice (some ⟨W0, 0, none⟩) (n + 4) cw) zw) := own4; have own4e := own_empty w4 w4.heap.size (Nat.le_refl _); have b4e := bal w4 (.cells #[] 31); have row4 : Hid (IRow .i8 (w4.alloc (.cells #[] 31)) (some ⟨W0, 0, none⟩) (n + 4) cw zw) := own4.facts.2.2.2.2.2.1.below (bal _ _); clear own4))
    | (at_builtin; (refine wpList_app kt_i8 rfl (.tmp 48) (.tmp 49) rfl w4.heap.size _ [] zw rfl own4e _ _ _ rfl row4.out (by have := hzl'.out; simp; omega) (by simp) ?_; intro v5 w5 own5 gr5 _; have b5 := own4e.bel b4e gr5 (Nat.le_refl _) (by simp); simp only [List.nil_append] at own5; clear own4e b4e row4 gr5; obtain ⟨U0, cu, rfl, hU0, hU1⟩ := own5.some (by have := hzl'.out; omega); rw [hzl'.out] at own5 ⊢)))
  have z4 := b4.size
  simp only [World.size_alloc] at z4
  have b5' : Below (w1.heap.size + 1) (w1.alloc (.cells #[.int .i64 1, .int .i64 1, .int .i64 n] 23)) w5 := b4.trans (b5.mono (by omega))
  have ownW := own4'.out.below b5
  have hWz : W0 < w5.heap.size := by have := b5.size; omega
  have hWn : n + 4 ≤ cw ∧ cw ≤ 9223372036854775807 := ⟨ownW.facts.2.2.2.1, ownW.facts.2.2.2.2.1⟩
  have rowW : Hid (∀ w', Below w5.heap.size w5 w' → IRow .i8 w' (some ⟨W0, 0, none⟩) (n + 4) cw zw ∧ IRow .i8 w' (some ⟨U0, 0, none⟩) (n + 4) cu zw ∧ Own .i8 31 w' (w1.heap.size + 1) (.slice (some ⟨W0, 0, none⟩) (n + 4) cw) zw) := fun w' q => ⟨ownW.facts.2.2.2.2.2.1.below q, own5.facts.2.2.2.2.2.1.below q, ownW.below q⟩
  have rowZ : Hid (∀ w', Below w5.heap.size w5 w' → IRow .i8 w' (some ⟨W0, 0, none⟩) n cw z0) := fun w' q => by
    have := ((rowW.out w' q).1).take (n := n) (by omega)
    rw [← hzw'.out, List.take_left' hl.out] at this
    exact this
  have hb5 := (hW.out _ b5').2.1
  have hw5 : w1.heap.size + 1 ≤ w5.heap.size := by have := b5.size; omega
  have hwN := (hW.out _ b5').2.2
  obtain ⟨cS, -, -⟩ := hW.out _ b5'
  have hS5 : Hid (∀ w', Below w5.heap.size w5 w' → (∀ i, w'.cell? ⟨w1.heap.size, i, none⟩ = #[Value.int .i64 1, .int .i64 1, .int .i64 n][i]?) ∧ Below w.heap.size w w') := fun w' q => ⟨(hW.out _ (b5'.trans (q.mono hw5))).1, bt hb5 q⟩
  have hcwI : (n : Int) ≤ (cw : Int) := by omega
  have hn0 : (0 : Int) ≤ (n : Int) := by omega
  clear own5 ownW own4' b4 b5 b5' hW
  have hD := (Below.refl w5.heap.size w5).drew
  go_region_held3 (fun w' => ∀ i, w'.cell? ⟨w1.heap.size, i, none⟩ = #[Value.int .i64 1, .int .i64 1, .int .i64 n][i]?) (with_reducible exact (hS5.out _ hD).1)
    (first | (go_at_call 10; refine (from_ok_i8 1 1 n _ n cw z0 _ (vS_one n1 n2) (by omega) (rowZ.out _ hD)).mono ?_; rintro e w6 ⟨B, b, rfl, hB, hb, f6, b6⟩; replace hD := bt (c := w6) hD b6; clear b6))
  have hWx : W0 ≠ b := by simp only [World.size_drew] at hb; omega
  have hWB : B ≠ W0 := ne_of_type f6.cells.1 ((rowW.out _ hD).2.2.cells) (by decide)
  have hb' : w5.heap.size ≤ b := by simpa using hb
  have hB' : w5.heap.size ≤ B := by simpa using hB
  clear hb hB
  go_wp2_with fail
  refine (wide_i8 _ _ _ _ _ (rowW.out _ hD).1 (by omega)).mono ?_
  rintro e w7 ⟨v7, rfl, own7, b7⟩
  obtain ⟨a7, c7, rfl, row7, -⟩ := own7.row
  have f7 := f6.below b7
  replace hD := bt hD b7
  clear b7 own7 f6
  go_wp2_with fail
  refine (wide_i8 _ _ _ _ _ (rowW.out _ hD).2.1 (by omega)).mono ?_
  rintro e w8 ⟨v8, rfl, own8, b8⟩
  obtain ⟨a8, c8, rfl, row8, -⟩ := own8.row
  have f8 := f7.below b8
  have row7' := row7.below b8
  replace hD := bt hD b8
  clear b8 own8 f7 row7
  go_wp2_with fail
  refine (same_yes row7' row8).mono ?_
  rintro e w9 ⟨rfl, b9⟩
  have f9 := f8.below b9
  replace hD := bt hD b9
  clear b9 f8 row7' row8
  have own9 := (rowW.out _ hD).2.2
  have hb9 := (hS5.out _ hD).2
  have H9 : Hid (Own .i8 31 w9 (w1.heap.size + 1) (.slice (some ⟨W0, 0, none⟩) (n + 4) cw) zw ∧ Bf .i8 31 81 w9 B b 1 1 n z0 ∧ Below w.heap.size w w9) := ⟨own9, f9, hb9⟩
  clear own9 f9 hb9 hD rowW rowZ hS5 cS
  go_wp2
  go_loopw [76] (fun i wr => ∃ (k : Nat) (zs : List Int), k ≤ n + 4 ∧ i = .int .i64 k ∧ Own .i8 31 wr (w1.heap.size + 1) (.slice (some ⟨W0, 0, none⟩) (n + 4) cw) zs ∧ Bf .i8 31 81 wr B b 1 1 n z0 ∧ Below w.heap.size w wr) (fun i _ => n + 4 - (intOf i).toNat)
  case atStart => exact ⟨0, _, Nat.zero_le _, rfl, H9.out⟩
  case round =>
    obtain ⟨k, zs, hk, rfl, own, f, bel⟩ := hrel
    clear H9
    by_cases hlt : k < n + 4
    · obtain ⟨-, -, -, -, -, row, fr⟩ := own.facts
      obtain ⟨x, d, hx, hc, hwd, -, -⟩ := row.at hlt
      obtain rfl := Option.some.inj hx
      rw [Addr.add_lit, Nat.zero_add] at hc
      clear hx row
      have hset := own.set (i := k) (bits_wf8 .xor (if IntKind.i8.signed = true then -1 else IntKind.i8.max) d)
      have H1 : Hid (Own .i8 31 (wr.setCell ⟨W0, k, none⟩ (.int .i8 (bits .xor .i8 (if IntKind.i8.signed = true then -1 else IntKind.i8.max) d))) (w1.heap.size + 1) (.slice (some ⟨W0, 0, none⟩) (n + 4) cw) (zs.set k (bits .xor .i8 (if IntKind.i8.signed = true then -1 else IntKind.i8.max) d)) ∧ Bf .i8 31 81 (wr.setCell ⟨W0, k, none⟩ (.int .i8 (bits .xor .i8 (if IntKind.i8.signed = true then -1 else IntKind.i8.max) d))) B b 1 1 n z0 ∧ Below w.heap.size w (wr.setCell ⟨W0, k, none⟩ (.int .i8 (bits .xor .i8 (if IntKind.i8.signed = true then -1 else IntKind.i8.max) d)))) :=
        ⟨hset.1, f.kept Kept.set (by simpa using hWB) (by simpa using Ne.symm hWx), bel.setCell (p := ⟨W0, k, none⟩) (by show w.heap.size ≤ W0; omega) _⟩
      clear hset own f bel
      go_wp2
      go_roundw
      case rel => exact ⟨k + 1, _, by omega, by go_num, H1.out⟩
      case measure => simp [intOf]; omega
    · clear own
      have hL := list_i8 B b 1 1 n z0 _ f (by have := hl.out; omega)
      rw [hl.out] at hL
      have flt := f.lt
      go_wp2_with fail
      refine hL.mono ?_
      rintro e wa ⟨g1, rfl, ownA, ba⟩
      have fa := f.below ba
      have bela := bt bel ba
      clear hL f
      have hL := list_i8 B b 1 1 n z0 _ fa (by have := hl.out; omega)
      rw [hl.out] at hL
      go_wp2_with fail
      refine hL.mono ?_
      rintro e wb ⟨g2, rfl, ownB, bb⟩
      have fb := fa.below bb
      clear hL fa
      go_wp2_with fail
      refine (hV B b 1 1 n _ fb).mono ?_
      rintro e wc ⟨a3, rfl, ownC, bc⟩
      have fc := fb.below bc
      clear fb
      go_wp2_with fail
      refine (hV B b 1 1 n _ fc).mono ?_
      rintro e wd ⟨a4, rfl, ownD, bd⟩
      have fd := fc.below bd
      clear fc
      have belD := bt (bt (bt bela bb) bc) bd
      obtain ⟨-, hg1, hg1', -⟩ := ownA.facts
      obtain ⟨-, hg2, hg2', -⟩ := ownB.facts
      have r3 := fun x hx => (ownC.addr x hx)
      have r4 := fun x hx => (ownD.addr x hx)
      have hDis : Dis (pick4 (some ⟨g1, 0, none⟩) (some ⟨g2, 0, none⟩) a3 a4) := dis_mk (k0 := wa.heap.size) (k1 := wb.heap.size) (k2 := wc.heap.size) (k3 := wd.heap.size) bb.size bc.size (fun x hx => by cases hx; exact hg1') (fun x hx => by cases hx; exact ⟨hg2, hg2'⟩) r3 r4
      have hFour : Four wd wr.heap.size (pick4 (some ⟨g1, 0, none⟩) (some ⟨g2, 0, none⟩) a3 a4) (pick4 n n vm vm) (pick4 z0 z0 vys vys) :=
        four_mk (((ownA.below bb).below bc).below bd) (((ownB.below bc).below bd).base ba.size) (((ownC.below bd)).base (Nat.le_trans ba.size bb.size)) (ownD.base (Nat.le_trans (Nat.le_trans ba.size bb.size) bc.size))
      have rowAB : Hid (∀ w', Below wd.heap.size wd w' → IRow .i8 w' (some ⟨g1, 0, none⟩) n n z0 ∧ IRow .i8 w' (some ⟨g2, 0, none⟩) n n z0 ∧ IRow .i8 w' a0 n cap0 z0) := fun w' q => ⟨(((ownA.below bb).below bc).below bd).facts.2.2.2.2.2.1.below q, ((ownB.below bc).below bd).facts.2.2.2.2.2.1.below q, hrow.out _ (bt belD q)⟩
      have hbR : B < wr.heap.size ∧ b < wr.heap.size := flt
      have hwr : w.heap.size ≤ wr.heap.size := bel.size
      have hwd : wr.heap.size ≤ wd.heap.size := Nat.le_trans (Nat.le_trans (Nat.le_trans ba.size bb.size) bc.size) bd.size
      clear ownA ownB ownC ownD ba bb bc bd bela bel hV flt r3 r4
      have hQ := Below.refl wd.heap.size wd
      go_wp2_with fail
      refine (wide_i8 _ _ _ _ _ (rowAB.out _ hQ).1 (by omega)).mono ?_
      rintro e we ⟨v1, rfl, own1, b1⟩
      obtain ⟨aa1, cc1, rfl, row1, -⟩ := own1.row
      replace hQ := bt hQ b1
      clear own1 b1
      go_wp2_with fail
      refine (wide_i8 _ _ _ _ _ (rowAB.out _ hQ).2.2 (by omega)).mono ?_
      rintro e wf ⟨v2, rfl, own2, b2⟩
      obtain ⟨aa2, cc2, rfl, row2, -⟩ := own2.row
      have row1' := row1.below b2
      replace hQ := bt hQ b2
      clear own2 b2 row1
      go_wp2_with fail
      refine (same_yes row1' row2).mono ?_
      rintro e wg ⟨rfl, b3⟩
      replace hQ := bt hQ b3
      clear b3 row1' row2
      go_wp2_with fail
      refine (wide_i8 _ _ _ _ _ (rowAB.out _ hQ).2.1 (by omega)).mono ?_
      rintro e wh ⟨v1, rfl, own1, b1⟩
      obtain ⟨aa3, cc3, rfl, row1, -⟩ := own1.row
      replace hQ := bt hQ b1
      clear own1 b1
      go_wp2_with fail
      refine (wide_i8 _ _ _ _ _ (rowAB.out _ hQ).2.2 (by omega)).mono ?_
      rintro e wi ⟨v2, rfl, own2, b2⟩
      obtain ⟨aa4, cc4, rfl, row2, -⟩ := own2.row
      have row1' := row1.below b2
      replace hQ := bt hQ b2
      clear own2 b2 row1
      go_wp2_with fail
      refine (same_yes row1' row2).mono ?_
      rintro e wj ⟨rfl, b3⟩
      replace hQ := bt hQ b3
      clear b3 row1' row2
      have hF0 := (hFour.below hQ).below (bal wj (.cells #[.slice (some ⟨g1, 0, none⟩) n n, .slice (some ⟨g2, 0, none⟩) n n, .slice a3 vm vm, .slice a4 vm vm] 24))
      have hRR : RowR (wj.alloc (.cells #[.slice (some ⟨g1, 0, none⟩) n n, .slice (some ⟨g2, 0, none⟩) n n, .slice a3 vm vm, .slice a4 vm vm] 24)) wj.heap.size (pick4 (some ⟨g1, 0, none⟩) (some ⟨g2, 0, none⟩) a3 a4) (pick4 n n vm vm) := heap_alloc_new wj _
      have hfR := (fd.below hQ).below (bal wj (.cells #[.slice (some ⟨g1, 0, none⟩) n n, .slice (some ⟨g2, 0, none⟩) n n, .slice a3 vm vm, .slice a4 vm vm] 24))
      have hbelR := bt (bt belD hQ) (bal wj (.cells #[.slice (some ⟨g1, 0, none⟩) n n, .slice (some ⟨g2, 0, none⟩) n n, .slice a3 vm vm, .slice a4 vm vm] 24))
      have hwj : wd.heap.size ≤ wj.heap.size := hQ.size
      have hLb : ∀ j, pick4 n n vm vm j ≤ 1024 := by
        intro j
        unfold pick4
        split <;> omega
      obtain ⟨wk, hwk⟩ : ∃ wk, wj.alloc (.cells #[.slice (some ⟨g1, 0, none⟩) n n, .slice (some ⟨g2, 0, none⟩) n n, .slice a3 vm vm, .slice a4 vm vm] 24) = wk := ⟨_, rfl⟩
      rw [hwk] at hF0 hRR hfR hbelR
      have hRz := lt_of_heap hRR
      obtain ⟨R, hR⟩ : ∃ R, wj.heap.size = R := ⟨_, rfl⟩
      rw [hR] at hRR hRz
      obtain ⟨va, hva⟩ : ∃ va, pick4 (some ⟨g1, 0, none⟩) (some ⟨g2, 0, none⟩) a3 a4 = va := ⟨_, rfl⟩
      obtain ⟨L, hLL⟩ : ∃ L, pick4 n n vm vm = L := ⟨_, rfl⟩
      obtain ⟨F, hF⟩ : ∃ F, pick4 z0 z0 vys vys = F := ⟨_, rfl⟩
      rw [hva, hLL, hF] at hF0
      rw [hva, hLL] at hRR
      rw [hva] at hDis
      rw [hLL] at hLb
      obtain ⟨bs, hbs⟩ : ∃ bs, wr.heap.size = bs := ⟨_, rfl⟩
      rw [hbs] at hF0 hbR hwr
      have hbsR : bs ≤ R := by rw [← hbs, ← hR]; omega
      have HK : Hid (Four wk bs va L F ∧ RowR wk R va L ∧ Bf .i8 31 81 wk B b 1 1 n z0 ∧ Below w.heap.size w wk) := ⟨hF0, hRR, hfR, hbelR⟩
      clear hF0 hRR hfR hbelR hva hLL hF hFour fd belD hQ rowAB hwj
      go_wp2
      clear hwk hR hbs hwd
      go_loopw [139] (fun i wq => ∃ (j : Nat) (F : Nat → List Int), j ≤ 4 ∧ i = .int .i64 j ∧ (∀ i, i < j → F i = List.replicate (L i) (10 * (i : Int))) ∧ Four wq bs va L F ∧ RowR wq R va L ∧ Bf .i8 31 81 wq B b 1 1 n z0 ∧ Below w.heap.size w wq) (fun i _ => 4 - (intOf i).toNat)
      case atStart => exact ⟨0, F, by omega, rfl, fun i hi => absurd hi (by omega), HK.out⟩
      case round =>
        obtain ⟨j, F1, hj, rfl, hfill, h4, hRR, hf, hbel⟩ := hrel
        clear HK
        have hfill' : Hid (∀ i, i < j → F1 i = List.replicate (L i) (10 * (i : Int))) := hfill
        clear hfill
        by_cases hlt : j < 4
        · have hcR := hRR.at hlt
          have hlj := hLb j
          have HJ : Hid (Four wr bs va L F1 ∧ RowR wr R va L ∧ Bf .i8 31 81 wr B b 1 1 n z0 ∧ Below w.heap.size w wr) := ⟨h4, hRR, hf, hbel⟩
          clear h4 hRR hf hbel
          go_wp2
          go_loopw [146] (fun i wq => ∃ (k : Nat) (F2 : Nat → List Int), k ≤ L j ∧ i = .int .i64 k ∧ (∀ i, i < k → (F2 j)[i]? = some (10 * (j : Int))) ∧ (∀ i, i ≠ j → F2 i = F1 i) ∧ Four wq bs va L F2 ∧ RowR wq R va L ∧ Bf .i8 31 81 wq B b 1 1 n z0 ∧ Below w.heap.size w wq) (fun i _ => L j - (intOf i).toNat)
          case atStart => exact ⟨0, F1, Nat.zero_le _, rfl, fun i hi => absurd hi (by omega), fun _ _ => rfl, HJ.out⟩
          case round =>
            obtain ⟨k, F2, hk, rfl, hk1, hk2, h4, hRR, hf, hbel⟩ := hrel
            clear HJ hcR
            have hk1' : Hid (∀ i, i < k → (F2 j)[i]? = some (10 * (j : Int))) := hk1
            have hk2' : Hid (∀ i, i ≠ j → F2 i = F1 i) := hk2
            clear hk1 hk2
            by_cases hkl : k < L j
            · obtain ⟨g, hg, hgb, hgs⟩ := h4.addr hlt (by omega)
              have hz : (Lit.int .i8 (10 * (j : Int))).wf = true := mk_i8 (by omega)
              have own := h4 j hlt
              have hlen : Hid ((F2 j).length = L j) := own.len
              rw [hg] at own
              obtain ⟨-, -, -, -, -, row, fr⟩ := own.facts
              obtain ⟨y, d, hy, hc, -, -, -⟩ := row.at hkl
              obtain rfl := Option.some.inj hy
              rw [Addr.add_lit, Nat.zero_add] at hc
              have hRg : R ≠ g := ne_of_type ⟨_, hRR⟩ own.cells (by decide)
              have hBg : B ≠ g := ne_of_type hf.cells.1 own.cells (by decide)
              have H1 : Hid (Four (wr.setCell ⟨g, k, none⟩ (.int .i8 (10 * (j : Int)))) bs va L (upd F2 j ((F2 j).set k (10 * (j : Int)))) ∧ RowR (wr.setCell ⟨g, k, none⟩ (.int .i8 (10 * (j : Int)))) R va L ∧ Bf .i8 31 81 (wr.setCell ⟨g, k, none⟩ (.int .i8 (10 * (j : Int)))) B b 1 1 n z0 ∧ Below w.heap.size w (wr.setCell ⟨g, k, none⟩ (.int .i8 (10 * (j : Int))))) :=
                ⟨h4.set hDis hlt hg hz, hRR.kept Kept.set (by simpa using hRg), hf.kept Kept.set (by simpa using hBg) (by have := hbR.2; simp; omega), hbel.setCell (p := ⟨g, k, none⟩) (by show w.heap.size ≤ g; omega) _⟩
              clear own row hy h4 hRR hf hbel
              go_wp2
              go_roundw
              case rel => exact ⟨k + 1, _, by omega, by go_num, by rw [upd_same]; exact fill_set hlen.out hkl hk1'.out, fun i hi => by rw [upd_other _ _ hi]; exact hk2'.out i hi, H1.out⟩
              case measure => simp [intOf]; omega
            · have H1 : Hid ((∀ i, i < j + 1 → F2 i = List.replicate (L i) (10 * (i : Int))) ∧ Four wr bs va L F2 ∧ RowR wr R va L ∧ Bf .i8 31 81 wr B b 1 1 n z0 ∧ Below w.heap.size w wr) := by
                refine ⟨fun i hi => ?_, h4, hRR, hf, hbel⟩
                by_cases hij : i = j
                · subst hij
                  exact fill_all (h4 i hlt).len fun l hl => hk1'.out l (by omega)
                · rw [hk2'.out i hij]
                  exact hfill'.out i (by omega)
              clear h4 hRR hf hbel
              go_wp2
              go_roundw
              case rel => exact ⟨j + 1, F2, by omega, by go_num, H1.out⟩
              case measure => simp [intOf]; omega
        · have h4' := h4.congr (G := fun i => List.replicate (L i) (10 * (i : Int))) (fun i hi => hfill'.out i (by omega))
          have hRs := lt_of_heap hRR
          have hBs := hf.lt
          have hws := hbel.size
          have hbsz : bs ≤ wr.heap.size := by omega
          have HK : Hid (Four wr bs va L (fun i => List.replicate (L i) (10 * (i : Int))) ∧ RowR wr R va L ∧ Bf .i8 31 81 wr B b 1 1 n z0 ∧ Below w.heap.size w wr) := ⟨h4', hRR, hf, hbel⟩
          obtain ⟨s2, hs2⟩ : ∃ s2, wr.heap.size = s2 := ⟨_, rfl⟩
          rw [hs2] at hRs hBs hws hbsz
          have hs2' : Hid (wr.heap.size = s2) := hs2
          clear h4 h4' hRR hf hbel hfill' hs2
          go_wp2
          go_loopw [23, 159] (fun gv i wq => ∃ (j : Nat) (Gs : List Value) (gv0 : Value), gv0 = gv ∧ j ≤ 4 ∧ i = .int .i64 j ∧ Gs.length = j ∧ OwnS wq s2 gv Gs ∧ Gok wq bs L Gs ∧ Four wq bs va L (fun i => List.replicate (L i) (10 * (i : Int))) ∧ RowR wq R va L ∧ Bf .i8 31 81 wq B b 1 1 n z0 ∧ Below w.heap.size w wq ∧ s2 ≤ wq.heap.size) (fun _ i _ => 4 - (intOf i).toNat)
          case atStart => exact ⟨0, [], _, rfl, by omega, rfl, rfl, World.ownsRow_nil _ _ _ _, gok_nil _ _ _, HK.out.1, HK.out.2.1, HK.out.2.2.1, HK.out.2.2.2, by rw [hs2'.out]; exact Nat.le_refl _⟩
          case round =>
            obtain ⟨j, Gs, gv, hgv, hj, rfl, hGl, hown, hG, h4, hRR, hf, hbel, hsz⟩ := hrel
            subst hgv
            obtain ⟨wo, rfl⟩ : ∃ wo, wo = wr := ⟨_, rfl⟩
            clear HK hs2'
            have hGl' : Hid (Gs.length = j) := hGl
            clear hGl
            by_cases hlt4 : j < 4
            · have hcR := hRR.at hlt4
              have hlj := hLb j
              have hd4 : decide ((j : Int) < 4) = true := decide_eq_true (by omega)
              have HJ : Hid (∀ w', Below wo.heap.size wo w' → OwnS w' s2 gv Gs ∧ Gok w' bs L Gs ∧ Four w' bs va L (fun i => List.replicate (L i) (10 * (i : Int))) ∧ RowR w' R va L ∧ Bf .i8 31 81 w' B b 1 1 n z0 ∧ Below w.heap.size w w') := fun w' q => ⟨hown.below q, hG.below q, h4.below q, hRR.below q, hf.below q, bt hbel q⟩
              clear hown hG h4 hRR hf hbel
              go_wp2
              go_loopw [25, 164] (fun l i wq => ∃ (k : Nat) (l0 : Value), l0 = l ∧ k ≤ 40 ∧ i = .int .i64 k ∧ Below wo.heap.size wo wq ∧ ((k = 0 ∧ l = .slice (va j) (L j) (L j)) ∨ (1 ≤ k ∧ Own .i8 31 wq wo.heap.size l (List.replicate (L j) (10 * (j : Int)) ++ List.replicate k (10 * (j : Int) + 1))))) (fun _ i _ => 40 - (intOf i).toNat)
              case atStart => exact ⟨0, _, rfl, by omega, rfl, Below.refl _ _, .inl ⟨rfl, rfl⟩⟩
              case round =>
                obtain ⟨k, l, hle, hk, rfl, hbw, hor⟩ := hrel
                subst hle
                have hz : (Lit.int .i8 (10 * (j : Int) + 1)).wf = true := mk_i8 (by omega)
                have hzb : -128 ≤ 10 * (j : Int) + 1 ∧ 10 * (j : Int) + 1 ≤ 127 := by omega
                have hwsz := hbw.size
                by_cases hk40 : k < 40
                · rcases hor with ⟨hk0, hl0⟩ | ⟨hk1, own⟩
                  · have own0 : Own .i8 31 wr bs (.slice (va j) (L j) (L j)) (List.replicate (L j) (10 * (j : Int))) := (HJ.out _ hbw).2.2.1 j hlt4
                    have own1 := own0.alloc (.cells #[.int .i8 (10 * (j : Int) + 1)] 31)
                    clear hcR own0
                    go_wp2_with (at_builtin; (refine wpList_appG kt_i8 rfl (.tmp 166) (.tmp 171) rfl bs (va j) (L j) (List.replicate (L j) (10 * (j : Int))) [10 * (j : Int) + 1] hl0 own1 ⟨wr.heap.size, 0, none⟩ 1 1 rfl (row_one .i8 31 wr (10 * (j : Int) + 1) hz) (by decide) (by omega) ?_; intro v' w' own' b'; have HX : Hid (Own .i8 31 w' wo.heap.size v' (List.replicate (L j) (10 * (j : Int)) ++ [10 * (j : Int) + 1]) ∧ Below wo.heap.size wo w') := ⟨own'.base (by simp; omega), bt (bt hbw (bal _ _)) b'⟩; clear own' b'))
                    go_roundw
                    case rel => exact ⟨k + 1, v', rfl, by omega, by go_num, HX.out.2, .inr ⟨by omega, by subst hk0; exact HX.out.1⟩⟩
                    case measure => simp [intOf]; omega
                  · obtain ⟨xs, hxs⟩ : ∃ xs, List.replicate (L j) (10 * (j : Int)) ++ List.replicate k (10 * (j : Int) + 1) = xs := ⟨_, rfl⟩
                    have hxs' : Hid (List.replicate (L j) (10 * (j : Int)) ++ List.replicate (k + 1) (10 * (j : Int) + 1) = xs ++ [10 * (j : Int) + 1]) := by
                      unfold Hid; rw [← hxs, List.append_assoc, ← List.replicate_succ']
                    have hln : Hid (xs.length + [10 * (j : Int) + 1].length ≤ 10000000) := by
                      simp only [Hid, ← hxs, List.length_append, List.length_replicate, List.length_singleton]; omega
                    rw [hxs] at own
                    clear hxs
                    have own1 := own.alloc (.cells #[.int .i8 (10 * (j : Int) + 1)] 31)
                    have hb1 : Below wo.heap.size wo (wr.alloc (.cells #[.int .i8 (10 * (j : Int) + 1)] 31)) := hbw.alloc hwsz _
                    clear hcR own
                    go_wp2_with (at_builtin; (refine wpList_app kt_i8 rfl (.tmp 166) (.tmp 171) rfl wo.heap.size l xs [10 * (j : Int) + 1] rfl own1 (some ⟨wr.heap.size, 0, none⟩) 1 1 rfl (row_one .i8 31 wr (10 * (j : Int) + 1) hz) hln.out (by simp; omega) ?_; intro v' w' own' gr' nn'; have HX : Hid (Own .i8 31 w' wo.heap.size v' (xs ++ [10 * (j : Int) + 1]) ∧ Below wo.heap.size wo w') := ⟨own', own1.bel hb1 gr' (Nat.le_refl _) (by simp; omega)⟩; clear own' gr' nn'))
                    go_roundw
                    case rel => exact ⟨k + 1, v', rfl, by omega, by go_num, HX.out.2, .inr ⟨by omega, by rw [hxs'.out]; exact HX.out.1⟩⟩
                    case measure => simp [intOf]; omega
                · rcases hor with ⟨rfl, rfl⟩ | ⟨hk1, own⟩
                  · omega
                  · obtain rfl : k = 40 := by omega
                    have own0 : Own .i8 31 wr wo.heap.size l (lst L j) := own
                    obtain ⟨gg, cg, rfl, hgg, -⟩ := own0.some (by rw [lst_len]; omega)
                    rw [lst_len] at own0 ⊢
                    clear own
                    have hW1 : Below wo.heap.size wo (wr.alloc (.cells #[.slice (some ⟨gg, 0, none⟩) (L j + 40) cg] 24)) := hbw.alloc hwsz _
                    obtain ⟨oS, gO, f4, rR, fB, bW⟩ := HJ.out _ hW1
                    have gO' := gO.snoc hGl'.out ((own0.alloc (.cells #[.slice (some ⟨gg, 0, none⟩) (L j + 40) cg] 24)).base (by omega))
                    have hcell : (wr.alloc (.cells #[.slice (some ⟨gg, 0, none⟩) (L j + 40) cg] 24)).cell? ((⟨wr.heap.size, 0, none⟩ : Addr).add 0) = some (.slice (some ⟨gg, 0, none⟩) (L j + 40) cg) := by
                      rw [Addr.add_lit]; exact (cells_at (heap_alloc_new wr _)).1 0
                    have hcell' : Hid ((wr.alloc (.cells #[.slice (some ⟨gg, 0, none⟩) (L j + 40) cg] 24)).cell? ((⟨wr.heap.size, 0, none⟩ : Addr).add 0) = some (.slice (some ⟨gg, 0, none⟩) (L j + 40) cg)) := hcell
                    have HL : Hid (OwnS (wr.alloc (.cells #[.slice (some ⟨gg, 0, none⟩) (L j + 40) cg] 24)) s2 gv Gs ∧ Gok (wr.alloc (.cells #[.slice (some ⟨gg, 0, none⟩) (L j + 40) cg] 24)) bs L (Gs ++ [.slice (some ⟨gg, 0, none⟩) (L j + 40) cg]) ∧ Four (wr.alloc (.cells #[.slice (some ⟨gg, 0, none⟩) (L j + 40) cg] 24)) bs va L (fun i => List.replicate (L i) (10 * (i : Int))) ∧ RowR (wr.alloc (.cells #[.slice (some ⟨gg, 0, none⟩) (L j + 40) cg] 24)) R va L ∧ Bf .i8 31 81 (wr.alloc (.cells #[.slice (some ⟨gg, 0, none⟩) (L j + 40) cg] 24)) B b 1 1 n z0 ∧ Below w.heap.size w (wr.alloc (.cells #[.slice (some ⟨gg, 0, none⟩) (L j + 40) cg] 24))) := ⟨oS, gO', f4, rR, fB, bW⟩
                    clear hcell oS gO gO' f4 rR fB bW own0 hcR
                    go_wp2_with (at_builtin; (refine wpList_appS rfl (.tmp 174) (.tmp 176) rfl s2 gv Gs (some ⟨gg, 0, none⟩) (L j + 40) cg rfl HL.out.1 ⟨wr.heap.size, 0, none⟩ rfl hcell'.out (by have := hGl'.out; omega) (by simp; omega) ?_; intro v' w' own' gr'))
                    have HM := grown_apart HL.out.1 gr' HL.out.2.2.1 HL.out.2.2.2.1 HL.out.2.2.2.2.1 HL.out.2.1 HL.out.2.2.2.2.2 hRs hBs.2 hBs.1 hws (by simp; omega)
                    have hzz : s2 ≤ w'.heap.size := by have := gr'.size; simp at this; omega
                    go_roundw
                    case rel => exact ⟨j + 1, _, v', rfl, by omega, by go_num, by rw [List.length_append, hGl'.out]; rfl, own', HM.1, HM.2.1, HM.2.2.1, HM.2.2.2.1, HM.2.2.2.2, hzz⟩
                    case measure => simp [intOf]; omega
            · obtain rfl : j = 4 := by omega
              rcases hown.shape with ⟨-, h0⟩ | ⟨gB, cB, rfl, -, -, hcB1, hcB2, -, hcB⟩
              · have := hGl'.out
                rw [h0] at this
                cases this
              rw [hGl'.out] at hcB hcB1 ⊢
              unfold maxLen at hcB2
              have HF : Hid (∀ i, i < 4 → ∃ gg cg, wo.cell? ⟨gB, i, none⟩ = some (.slice (some ⟨gg, 0, none⟩) (L i + 40) cg) ∧ IRow .i8 wo (some ⟨gg, 0, none⟩) (L i + 40) cg (lst L i)) := by
                intro i hi
                have hgi : i < Gs.length := by rw [hGl'.out]; exact hi
                obtain ⟨gg, cg, e, own⟩ := hG i _ (List.getElem?_eq_getElem hgi)
                have hc := hcB i hi
                rw [List.getElem?_eq_getElem hgi, e] at hc
                rw [e] at own
                exact ⟨gg, cg, hc, own.facts.2.2.2.2.2.1⟩
              have HR : Hid (RowR wo R va L ∧ Bf .i8 31 81 wo B b 1 1 n z0 ∧ Below w.heap.size w wo) := ⟨hRR, hf, hbel⟩
              clear hown hG h4 hRR hf hbel hGl' hcB hsz
              go_wp2
              go_loop [181] (fun i => ∃ j : Nat, j ≤ 4 ∧ i = .int .i64 j) (fun i => 4 - (intOf i).toNat)
              case atStart => exact ⟨0, by omega, rfl⟩
              case round =>
                obtain ⟨j, hj6, rfl⟩ := hrel
                by_cases hlt6 : j < 4
                · have hcR := HR.out.1.at hlt6
                  have hlj := hLb j
                  have hd6 : decide ((j : Int) < 4) = true := decide_eq_true (by omega)
                  obtain ⟨gg, cg, hcg, rG⟩ := HF.out j hlt6
                  have hcgc := rG.2.1
                  have hcgm := rG.2.2.1
                  unfold maxLen at hcgm
                  have rG' : Hid (IRow .i8 wo (some ⟨gg, 0, none⟩) (L j + 40) cg (lst L j)) := rG
                  clear rG
                  go_wp2
                  go_loop [188] (fun i => ∃ k : Nat, k ≤ L j + 40 ∧ i = .int .i64 k) (fun i => L j + 40 - (intOf i).toNat)
                  case atStart => exact ⟨0, Nat.zero_le _, rfl⟩
                  case round =>
                    obtain ⟨k, hk7, rfl⟩ := hrel
                    by_cases hlt7 : k < L j + 40
                    · obtain ⟨y, d, hy, hc, -, hzk, -⟩ := rG'.out.at hlt7
                      obtain rfl := Option.some.inj hy
                      rw [Addr.add_lit, Nat.zero_add] at hc
                      have hzb : 0 ≤ 10 * (j : Int) ∧ 10 * (j : Int) ≤ 30 := by omega
                      by_cases hkl : k < L j
                      · rw [lst_lo hkl] at hzk
                        obtain rfl := Option.some.inj hzk
                        clear hy hzk
                        go_wp2
                        go_round
                        case rel => exact ⟨k + 1, by omega, by go_num⟩
                        case measure => simp [intOf]; omega
                      · rw [lst_hi (by omega) hlt7] at hzk
                        obtain rfl := Option.some.inj hzk
                        clear hy hzk
                        go_wp2
                        go_round
                        case rel => exact ⟨k + 1, by omega, by go_num⟩
                        case measure => simp [intOf]; omega
                    · go_wp2
                      exact ⟨⟨_, _, _, _, _, .int .i64 ((j : Int) + 1), ⟨j + 1, by omega, by go_num⟩, rfl, rfl, rfl, rfl, rfl, rfl⟩, by simp [intOf]; omega⟩
                · obtain ⟨-, hf, hbel⟩ := HR.out
                  have hL := list_i8 B b 1 1 n z0 _ hf (by have := hl.out; omega)
                  rw [hl.out] at hL
                  clear HF HR
                  go_wp2_with fail
                  refine hL.mono ?_
                  rintro e wa ⟨g9, rfl, own9, b9⟩
                  have hb9 := bt hbel b9
                  have r9 := own9.facts.2.2.2.2.2.1
                  clear hL hf hbel b9 own9
                  go_wp2_with fail
                  refine (wide_i8 _ _ _ _ _ r9 (by omega)).mono ?_
                  rintro e wb ⟨v1, rfl, own1, b1⟩
                  obtain ⟨aa1, cc1, rfl, row1, -⟩ := own1.row
                  have hb10 := bt hb9 b1
                  clear own1 b1 r9 hb9
                  go_wp2_with fail
                  refine (wide_i8 _ _ _ _ _ (hrow.out _ hb10) (by omega)).mono ?_
                  rintro e wc ⟨v2, rfl, own2, b2⟩
                  obtain ⟨aa2, cc2, rfl, row2, -⟩ := own2.row
                  have row1' := row1.below b2
                  have hb11 := bt hb10 b2
                  clear own2 b2 row1 hb10
                  go_wp2_with fail
                  refine (same_yes row1' row2).mono ?_
                  rintro e wd ⟨rfl, b3⟩
                  have hb12 : Hid (Below w.heap.size w wd) := bt hb11 b3
                  clear b3 row1' row2 hb11
                  go_wp2
                  go_ret
                  exact ⟨rfl, hb12.out⟩
end Go.Proofs.Ytedbcnkgembhbaa
