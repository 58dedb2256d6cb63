/- bytes.Equal, HasPrefix, CutPrefix, at a prefix of four bytes. -/
import Derived.Test.YthagdpiocmcbmaaPckY
import Derived.Test.YthagdpiocmcbmaaPckE
import Derived.Laws.BytesArg
import Derived.Lib.Bytes
namespace Go.Proofs.Ythagdpiocmcbmaa
open Wr
open Go.ChangeShapes Go.WideShapes Go.ChangeAt Go.RowKit
set_option linter.unusedVariables false
theorem row_conv {w : World} {a : Option Addr} {n c : Nat} {xs : List Int} (h : Wr.Row w a n c xs) (hn : 0 < n) : (convert 28 9 (.slice a n c)).run Try.prog w = .ok (.string (strOfNums xs)) w := by
  obtain ⟨h1, h2, h3, h4, h5, h6⟩ := h
  cases a with
  | none => have := h5 rfl; omega
  | some x =>
    have hc := h6 x rfl
    obtain ⟨b, o, s⟩ := x
    obtain rfl : s = none := by simpa [Addr.add] using World.cell?_spot (hc 0 hn)
    exact run_convert_bytes_arg (P := Try.prog) w 28 5 Try.underlying28 Try.underlying5 b o n c xs h1 (fun i hi => by have := hc i hi; rw [Addr.add_lit] at this; exact this) 9 Try.underlying9
theorem u8_inj {x y : Int} (hx : 0 ≤ x ∧ x < 256) (hy : 0 ≤ y ∧ y < 256) (h : UInt8.ofNat x.toNat = UInt8.ofNat y.toNat) : x = y := by
  have := congrArg UInt8.toNat h
  simp only [UInt8.toNat_ofNat'] at this
  omega
theorem map_u8 : ∀ {xs ys : List Int}, Byt xs → Byt ys → Lib.bytesOf xs = Lib.bytesOf ys → xs = ys
  | [], [], _, _, _ => rfl
  | [], y :: ys, _, _, h => by simp [Lib.bytesOf] at h
  | x :: xs, [], _, _, h => by simp [Lib.bytesOf] at h
  | x :: xs, y :: ys, hx, hy, h => by
    simp only [Lib.bytesOf, List.map_cons, List.cons.injEq] at h
    rw [u8_inj (hx x List.mem_cons_self) (hy y List.mem_cons_self) h.1, map_u8 (fun z hz => hx z (List.mem_cons_of_mem _ hz)) (fun z hz => hy z (List.mem_cons_of_mem _ hz)) h.2]
theorem str_eq {xs ys : List Int} (hx : Byt xs) (hy : Byt ys) : ((strOfNums xs).toList == (strOfNums ys).toList) = decide (xs = ys) := by
  rw [Lib.strOfNums_toList, Lib.strOfNums_toList]
  by_cases h : xs = ys
  · subst h; simp
  · rw [decide_eq_false h]
    have : ¬ Lib.bytesOf xs = Lib.bytesOf ys := fun e => h (map_u8 hx hy e)
    simpa using this
theorem equal_any (a b : Option Addr) (n c d : Nat) (xs ys : List Int) (w : World) (hx : Wr.Row w a n c xs) (hy : Wr.Row w b n d ys) (hn : 0 < n) :
    Calls Try.prog 72 #[.slice a n c, .slice b n d] w fun e w' => e = .returned (.bool (decide (xs = ys))) ∧ w' = w := by
  have e1 := row_conv hx hn
  have e2 := row_conv hy hn
  have hs : Hid _ := str_eq hx.2.2.2.1 hy.2.2.2.1
  clear hx hy
  go_enter Try.func72, Try.ntmps72
  go_wp2
  go_ret
  exact ⟨by rw [hs.out]; rfl, rfl⟩
theorem row_front {w : World} {a : Option Addr} {n c m : Nat} {xs : List Int} (h : Wr.Row w a n c xs) (hm : m ≤ n) : Wr.Row w a m c (xs.take m) := by
  obtain ⟨h1, h2, h3, h4, h5, h6⟩ := h
  refine ⟨by rw [List.length_take]; omega, by omega, h3, h4.take m, h5, fun x hx i hi => ?_⟩
  rw [h6 x hx i (by omega)]
  simp [List.getD, hi]
set_option maxHeartbeats 1000000 in
theorem hasp_any (a b : Option Addr) (n c d : Nat) (xs ys : List Int) (w : World) (hx : Wr.Row w a n c xs) (hy : Wr.Row w b 4 d ys) (hn : 4 ≤ n) :
    Calls Try.prog 49 #[.slice a n c, .slice b 4 d] w fun e w' => e = .returned (.bool (decide (xs.take 4 = ys))) ∧ w' = w := by
  have H : Hid _ := equal_any a b 4 c d (xs.take 4) ys w (row_front hx hn) hy (by omega)
  have hc := hx.2.1
  have hm := hx.2.2.1
  unfold maxLen at hm
  clear hx hy
  go_enter Try.func49, Try.ntmps49
  go_wp2_with fail
  refine Calls.mono H.out ?_
  rintro e w1 ⟨rfl, rfl⟩
  go_wp2
  go_ret
  exact ⟨rfl, rfl⟩
set_option maxHeartbeats 1000000 in
theorem cutp_any (a b : Option Addr) (n c d : Nat) (xs ys : List Int) (w : World) (hx : Wr.Row w a n c xs) (hy : Wr.Row w b 4 d ys) (hn : 4 ≤ n) :
    Calls Try.prog 31 #[.slice a n c, .slice b 4 d] w fun e w' => ((xs.take 4 ≠ ys ∧ e = .returned (.tuple #[.slice a n c, .bool false])) ∨ xs.take 4 = ys ∧ ∃ a', e = .returned (.tuple #[.slice a' (n - 4) (c - 4), .bool true]) ∧ Wr.Row w a' (n - 4) (c - 4) (xs.drop 4)) ∧ w' = w := by
  have H : Hid _ := hasp_any a b n c d xs ys w hx hy hn
  have HX : Hid (Wr.Row w a n c xs) := hx
  have hc := hx.2.1
  have hm := hx.2.2.1
  unfold maxLen at hm
  obtain ⟨q, hq⟩ : ∃ q, decide (xs.take 4 = ys) = q := ⟨_, rfl⟩
  rw [hq] at H
  have hq' : Hid (decide (xs.take 4 = ys) = q) := hq
  clear hx hy hq
  cases q with
  | false =>
    go_enter Try.func31, Try.ntmps31
    go_wp2_with fail
    refine Calls.mono H.out ?_
    rintro e w1 ⟨rfl, rfl⟩
    go_wp2
    go_ret2
    exact ⟨.inl ⟨of_decide_eq_false hq'.out, rfl⟩, rfl⟩
  | true =>
    go_enter Try.func31, Try.ntmps31
    go_wp2_with fail
    refine Calls.mono H.out ?_
    rintro e w1 ⟨rfl, rfl⟩
    go_wp2
    all_goals go_ret2
    · obtain rfl : c = 4 := by assumption
      exact ⟨.inr ⟨of_decide_eq_true hq'.out, a, rfl, HX.out.drop hn (fun x _ hx => absurd hx (by omega)) id⟩, rfl⟩
    · exact ⟨.inr ⟨of_decide_eq_true hq'.out, a.map (·.add 4), rfl, HX.out.drop hn (fun x hx _ => by rw [hx]; rfl) (fun hx => by rw [hx]; rfl)⟩, rfl⟩
/-! ### readAll -/
theorem cv3 (w : World) (o o' : Obj) (C : Array Value) (n c : Nat) : (convert 28 28 (.slice (some ⟨w.heap.size + 1 + 1, 0, none⟩) n c)).run Try.prog (((w.alloc o).alloc o').alloc (.cells C 5)) = .ok (.slice (some ⟨w.heap.size + 1 + 1, 0, none⟩) n c) (((w.alloc o).alloc o').alloc (.cells C 5 (C.size, C.size + 1))) := by
  have := cv1 ((w.alloc o).alloc o') C n c
  simpa using this
theorem pall_mod {zs : List Int} (h4 : ¬ zs.length < 4) (hh : zs.take 4 = head4) : pAll zs = match pMod (zs.drop 4) with
    | .inl e => .inl e
    | .inr (m, r) => if r = [] then .inr m else .inl (43, 0) := by
  unfold pAll; rw [if_neg h4, if_neg (by simp [hh])]
  rfl
theorem giveup_gen (Rb : Nat) (q : Value) (t e : Int) (w : World) (h : w.heap[Rb]? = some (.cells #[q, .int .i64 t] 75 (0, 0))) :
    Calls Try.prog 30 #[.pointer (some ⟨Rb, 0, none⟩), .int .i64 e] w fun r w' => r = fpan e t ∧ w' = w := by
  obtain ⟨c1, f1, z1⟩ := cells_at h
  clear h
  go_enter Try.func30, Try.ntmps30
  go_wp2
  exact ⟨rfl, rfl, rfl⟩
set_option maxHeartbeats 4000000 in
set_option maxRecDepth 100000 in
theorem readall_any (a : Option Addr) (len cap : Nat) (zs : List Int) (w : World) (hr : Wr.Row w a len cap zs) (hs : len ≤ 140737488355328) :
    Calls Try.prog 22 #[.slice a len cap] w fun r w' => (∃ x, pAll zs = .inl x ∧ r = fpan x.1 x.2 ∧ Below w.heap.size w w') ∨
      ∃ (h0 w0 c0 lo hi ot : Int) (oa : Option Addr) (n oc : Nat) (O : Nat → Nat → Int) (Z Bs : Nat → List Int), pAll zs = .inr (dMod h0 w0 c0 lo hi ot n O Z Bs) ∧ n ≤ 64 ∧ r = .returned (.agg #[.int .i64 h0, .int .i64 w0, .int .i64 c0, .int .i64 lo, .int .i64 hi, .slice oa n oc, .int .i64 ot]) ∧
        CRow w' w.heap.size (.slice oa n oc) n O Z Bs ∧ Below w.heap.size w w' := by
  have hl := hr.1
  have s0 := ((St.start w).new (c := #[.int .i64 0, .int .i64 0, .int .i64 0, .int .i64 0, .int .i64 0, .slice none 0 0, .int .i64 0]) (t := 26)).new (c := #[.pointer none, .int .i64 0]) (t := 75)
  simp only [World.size_alloc] at s0
  have S0 : Hid (St w _ _) := s0
  have HR : Hid (Wr.Row w a len cap zs) := hr
  by_cases h4 : len < 4
  · have hP : Hid (pAll zs = .inl (40, 0)) := by unfold Hid pAll; rw [if_pos (by omega)]
    clear hr hl s0
    go_enter Try.func22, Try.ntmps22
    go_wp2_with fail
    refine (giveup_gen (w.heap.size + 1) _ 0 40 _ S0.out.h1).mono ?_
    rintro r w1 ⟨rfl, rfl⟩
    exact ⟨rfl, .inl ⟨_, hP.out, rfl, S0.out.below⟩⟩
  have cv := cv3
  have hM := row_mark ((w.alloc (.cells #[.int .i64 0, .int .i64 0, .int .i64 0, .int .i64 0, .int .i64 0, .slice none 0 0, .int .i64 0] 26)).alloc (.cells #[.pointer none, .int .i64 0] 75)) head4 head_byt (by unfold maxLen; simp [head4]) (4, 5)
  simp only [World.size_alloc] at hM
  have hM' : Hid (Wr.Row _ _ _ _ head4) := hM
  have B1 : Hid (Below w.heap.size w _) := S0.out.below.trans ((bal _ (.cells #[.int .u8 83, .int .u8 87, .int .u8 77, .int .u8 49] 5 (4, 5))).mono (by simp; omega))
  have R1 : Hid (Wr.Row _ a len cap zs) := HR.out.below B1.out
  have C1 : Hid (St w _ _) := S0.out.skip (.cells #[.int .u8 83, .int .u8 87, .int .u8 77, .int .u8 49] 5 (4, 5))
  have Z4 : Hid (¬ zs.length < 4) := by unfold Hid; omega
  clear hr hl s0 hM
  go_enter Try.func22, Try.ntmps22
  go_wp2_with fail
  refine (cutp_any a _ len cap 4 zs head4 _ R1.out hM'.out (by omega)).mono ?_
  rintro r w1 ⟨h, rfl⟩
  rcases h with ⟨hne, rfl⟩ | ⟨heq, a', rfl, R2⟩
  · have hP : Hid (pAll zs = .inl (41, 0)) := by unfold Hid pAll; rw [if_neg Z4.out, if_pos hne]
    clear hne cv
    go_wp2_with fail
    refine (giveup_gen (w.heap.size + 1) _ 0 41 _ C1.out.h1).mono ?_
    rintro r w1 ⟨rfl, rfl⟩
    exact ⟨rfl, .inl ⟨_, hP.out, rfl, B1.out⟩⟩
  have hP : Hid (pAll zs = _) := pall_mod Z4.out heq
  have R2' : Hid (Wr.Row _ a' (len - 4) (cap - 4) (zs.drop 4)) := R2
  clear heq R2 cv
  go_wp2_with fail
  refine (new_is a' _ _ _ _ R2'.out (by omega)).mono ?_
  rintro r w2 ⟨B, rfl, rd2, hB, b2⟩
  simp only [World.size_alloc] at hB
  have s2 := C1.out.call b2
  have hprc := s2.h1
  have S2 : Hid (St w w2 _) := s2
  obtain ⟨c1, f1, y1, c2, f2, y2, -⟩ := s2.rules
  have hnB : NoB w2 (w.heap.size + 1) := ⟨_, _, hprc, fun i v e => by
    match i, e with
    | 0, e => simp at e
    | 1, e => simp at e
    | n + 2, e => simp at e⟩
  have P3 : Hid (PR (w2.setCell ⟨w.heap.size + 1, 0, none⟩ (.pointer (some ⟨B, 0, none⟩))) (w.heap.size + 1) B (zs.drop 4) 0) := ⟨heap_setCell_at hprc, rd2.kept Kept.set (by simp; omega) (by simpa using hnB), by omega⟩
  have B3 : Hid (Below w.heap.size w (w2.setCell ⟨w.heap.size + 1, 0, none⟩ (.pointer (some ⟨B, 0, none⟩)))) := s2.below.setCell (p := ⟨w.heap.size + 1, 0, none⟩) (by simp) _
  have N3 : Hid ((w2.setCell ⟨w.heap.size + 1, 0, none⟩ (.pointer (some ⟨B, 0, none⟩))).heap[w.heap.size]? = some (.cells #[.int .i64 0, .int .i64 0, .int .i64 0, .int .i64 0, .int .i64 0, .slice none 0 0, .int .i64 0] 26 (0, 0))) := by
    unfold Hid; rw [Below.heap_setCell _ _ _ _ (show w.heap.size ≠ w.heap.size + 1 by omega)]; exact s2.h2
  clear rd2 b2 s2 hprc hnB C1 R2' hM' R1 S0
  go_wp2_with fail
  refine Calls.mono (rmodel_any _ B (zs.drop 4) _ P3.out) ?_
  rintro r w4 (⟨x, hx, rfl, k4⟩ | ⟨h0, w0, c0, lo, hi, ot, oa, n, oc, O, Z, Bs, rs, hx, hn, rfl, cr, p4, k4⟩)
  · exact ⟨rfl, .inl ⟨x, by rw [hP.out, hx], rfl, k4.below B3.out (by simp; omega) (by simp; omega)⟩⟩
  have hsz := k4.2.2.2.1
  simp only [World.size_setCell] at hsz cr
  have hx' : Hid (pMod (zs.drop 4) = .inr (dMod h0 w0 c0 lo hi ot n O Z Bs, rs)) := hx
  have N4 : Hid (w4.heap[w.heap.size]? = some (.cells #[.int .i64 0, .int .i64 0, .int .i64 0, .int .i64 0, .int .i64 0, .slice none 0 0, .int .i64 0] 26 (0, 0))) := (k4.2.2.2.2 _ (lt_of_heap N3.out) (by simp; omega)).trans N3.out
  have B4 : Hid (Below w.heap.size w w4) := k4.below B3.out (by simp; omega) (by simp; omega)
  have cr4 : Hid (CRow w4 (w.heap.size + 1 + 1) (.slice oa n oc) n O Z Bs) := cr.base (by omega)
  have P4 : Hid (PR w4 (w.heap.size + 1) B rs 0) := p4
  have y4 : w.heap.size + 1 < w4.heap.size := p4.lt
  clear c1 f1 y1 c2 f2 y2
  obtain ⟨c1, f1, y1⟩ := cells_at p4.1
  have HE : Hid _ := rEnd_is B rs 0 _ (p4.al (.cells #[.int .i64 h0, .int .i64 w0, .int .i64 c0, .int .i64 lo, .int .i64 hi, .slice oa n oc, .int .i64 ot] 26)).2.1
  clear hx cr p4 k4 N3 B3 P3 S2
  go_wp2_with fail
  refine Calls.mono HE.out ?_
  rintro r w5 ⟨rfl, hw5⟩
  obtain rfl := hw5.symm
  by_cases hrs : rs = []
  · have hE0 : endR rs 0 = 0 := by unfold endR; rw [if_pos rfl, if_pos (by simp [hrs])]
    have hF : Hid (pAll zs = .inr (dMod h0 w0 c0 lo hi ot n O Z Bs)) := by unfold Hid; rw [hP.out, hx'.out]; simp [hrs]
    rw [hE0]
    have NB := ((bal w4 (.cells #[.int .i64 h0, .int .i64 w0, .int .i64 c0, .int .i64 lo, .int .i64 hi, .slice oa n oc, .int .i64 ot] 26)).block _ (show w.heap.size < w4.heap.size by omega)).trans N4.out
    have NM := heap_alloc_new w4 (.cells #[.int .i64 h0, .int .i64 w0, .int .i64 c0, .int .i64 lo, .int .i64 hi, .slice oa n oc, .int .i64 ot] 26)
    have qc : Hid (CRow ((w4.alloc (.cells #[.int .i64 h0, .int .i64 w0, .int .i64 c0, .int .i64 lo, .int .i64 hi, .slice oa n oc, .int .i64 ot] 26)).setRow w.heap.size #[.int .i64 h0, .int .i64 w0, .int .i64 c0, .int .i64 lo, .int .i64 hi, .slice oa n oc, .int .i64 ot]) (w.heap.size + 1 + 1) (.slice oa n oc) n O Z Bs) := (cr4.out.below (bal _ _)).row (by omega)
    have qh : Hid (((w4.alloc (.cells #[.int .i64 h0, .int .i64 w0, .int .i64 c0, .int .i64 lo, .int .i64 hi, .slice oa n oc, .int .i64 ot] 26)).setRow w.heap.size #[.int .i64 h0, .int .i64 w0, .int .i64 c0, .int .i64 lo, .int .i64 hi, .slice oa n oc, .int .i64 ot]).heap[w.heap.size]? = some (.cells #[.int .i64 h0, .int .i64 w0, .int .i64 c0, .int .i64 lo, .int .i64 hi, .slice oa n oc, .int .i64 ot] 26 (0, 0))) := setRow_heap _ _ _ _ _ _ NB
    have qb : Hid (Below w.heap.size w ((w4.alloc (.cells #[.int .i64 h0, .int .i64 w0, .int .i64 c0, .int .i64 lo, .int .i64 hi, .slice oa n oc, .int .i64 ot] 26)).setRow w.heap.size #[.int .i64 h0, .int .i64 w0, .int .i64 c0, .int .i64 lo, .int .i64 hi, .slice oa n oc, .int .i64 ot])) := by
      have b := bt B4.out (bal w4 (.cells #[.int .i64 h0, .int .i64 w0, .int .i64 c0, .int .i64 lo, .int .i64 hi, .slice oa n oc, .int .i64 ot] 26))
      exact ⟨b.os, b.tape, b.output, by rw [size_setRow]; exact b.size, fun i hi => (setRow_other _ _ i _ (by omega)).trans (b.block i hi)⟩
    clear hE0 hrs HE
    go_wp2_with fail
    refine (ask_ok _ _).mono ?_
    rintro r w6 ⟨rfl, hw6⟩
    obtain rfl := hw6.symm
    go_wp2_with (first
      | (refine wpList_load_row rfl 26 (.tmp 6) rfl w4.heap.size rfl 26 _ (0, 0) _ NM Try.underlying26 rfl (by kernel_rfl) ?_)
      | (refine wpList_store_row rfl 26 (.tmp 2) (.tmp 29) rfl w.heap.size #[.int .i64 h0, .int .i64 w0, .int .i64 c0, .int .i64 lo, .int .i64 hi, .slice oa n oc, .int .i64 ot] rfl rfl 26 _ NB (by kernel_rfl) rfl (by simp [Value.oneCell']) ?_))
    exact bodyPost_ret (results_cell_row Try.results22 _ _ w.heap.size 26 _ (0, 0) _ rfl qh.out Try.underlying26 rfl (by kernel_rfl)) rfl (.inr ⟨h0, w0, c0, lo, hi, ot, oa, n, oc, O, Z, Bs, hF.out, hn, rfl, qc.out.base (by omega), qb.out⟩)
  · have hE0 : endR rs 0 = 43 := by unfold endR; rw [if_pos rfl, if_neg (by simpa using hrs)]
    have hF : Hid (pAll zs = .inl (43, 0)) := by unfold Hid; rw [hP.out, hx'.out]; simp [hrs]
    rw [hE0]
    have hc : Hid (PRc (w4.alloc (.cells #[.int .i64 h0, .int .i64 w0, .int .i64 c0, .int .i64 lo, .int .i64 hi, .slice oa n oc, .int .i64 ot] 26)) (w.heap.size + 1) B 0) := (P4.out.al _).1
    clear hE0 hrs HE
    go_wp2_with fail
    refine (ask_bad _ B 0 43 _ hc.out (by decide)).mono ?_
    rintro r w6 ⟨rfl, hw6⟩
    obtain rfl := hw6.symm
    exact ⟨rfl, .inl ⟨_, hF.out, rfl, bt B4.out (bal _ _)⟩⟩
end Go.Proofs.Ythagdpiocmcbmaa
