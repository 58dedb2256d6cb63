/- readAll of package seal. -/
import Derived.Test.YthlnhodfgmpabaaSelL
import Derived.Test.YthlnhodfgmpabaaSelE
import Derived.Test.YthlnhodfgmpabaaBytP
namespace Go.Proofs.Ythlnhodfgmpabaa.Sl
open Wr
open Go.ChangeShapes Go.WideShapes Go.ChangeAt Go.RowKit
set_option linter.unusedVariables false
theorem cv3 (w : World) (o o' : Obj) (C : Array Value) (n c : Nat) : (convert 27 27 (.slice (some ⟨w.heap.size + 1 + 1, 0, none⟩) n c)).run Try.prog (((w.alloc o).alloc o').alloc (.cells C 5)) = .ok (.slice (some ⟨w.heap.size + 1 + 1, 0, none⟩) n c) (((w.alloc o).alloc o').alloc (.cells C 5 (C.size, C.size + 1))) := by
  have := cv1 ((w.alloc o).alloc o') C n c
  simpa using this
theorem pall_ce {zs : List Int} (h4 : ¬ zs.length < 4) (hh : zs.take 4 = head4) : pAll zs = match pCe (zs.drop 4) with
    | .inl e => .inl e
    | .inr (m, r) => if r = [] then .inr m else .inl (43, 0) := by
  unfold pAll; rw [if_neg h4, if_neg (by simp [hh])]
  rfl
theorem qown_base {w : World} {b c : Nat} {v : Value} {P : List (List Pl)} (h : QOwn w b v P) (q : c ≤ b) : QOwn w c v P := by
  obtain ⟨f, h1, h2, h3⟩ := h
  exact ⟨f, owns_base h1 q, fun i l hl => ⟨owns_base (h2 i l hl).1 q, (h2 i l hl).2⟩, h3⟩
theorem kept_setRow {w : World} {N : Nat} {cs : Array Value} : Wr.Kept [N] w (w.setRow N cs) :=
  ⟨rfl, rfl, rfl, by rw [size_setRow]; exact Nat.le_refl _, fun j hj hL => setRow_other w N j cs (by simpa using hL)⟩
set_option maxHeartbeats 4000000 in
set_option maxRecDepth 100000 in
theorem readall_any (a : Option Addr) (len cap : Nat) (zs : List Int) (w : World) (hr : Wr.Row w a len cap zs) (hs : len ≤ 140737488355328) :
    Calls Try.prog 25 #[.slice a len cap] w fun r w' => (∃ x, pAll zs = .inl x ∧ r = fpan x.1 x.2 ∧ Below w.heap.size w w') ∨
      ∃ (ra : Option Addr) (rn rc : Nat) (R : List (Int × Int)) (pa : Option Addr) (pn pc : Nat) (P : List (List Pl)), pAll zs = .inr (R, P) ∧ R.length = rn ∧ P.length = pn ∧ r = .returned (.agg #[.slice ra rn rc, .slice pa pn pc]) ∧
        w'.ownsRow (w.heap.size + 1) 44 2 (.slice ra rn rc) rn (R.flatMap scs) ∧ QOwn w' (w.heap.size + 1) (.slice pa pn pc) P ∧ Below w.heap.size w w' := by
  have hl := hr.1
  have s0 := ((St.start w).new (c := #[.slice none 0 0, .slice none 0 0]) (t := 25)).new (c := #[.pointer none, .int .i64 0, .int .i64 0]) (t := 80)
  simp only [World.size_alloc] at s0
  have S0 : Hid (St w _ _) := s0
  have HR : Hid (Wr.Row w a len cap zs) := hr
  by_cases h4 : len < 4
  · have hP : Hid (pAll zs = .inl (40, 0)) := by unfold Hid pAll; rw [if_pos (by omega)]
    clear hr hl s0
    go_enter Try.func25, Try.ntmps25
    go_wp2_with fail
    refine (giveup_gen (w.heap.size + 1) _ 0 0 40 _ S0.out.h1).mono ?_
    rintro r w1 ⟨rfl, hb⟩
    exact ⟨rfl, .inl ⟨_, hP.out, rfl, (S0.out.call hb).below⟩⟩
  have cv := cv3
  have hM := row_mark ((w.alloc (.cells #[.slice none 0 0, .slice none 0 0] 25)).alloc (.cells #[.pointer none, .int .i64 0, .int .i64 0] 80)) head4 head_byt (by unfold maxLen; simp [head4]) (4, 5)
  simp only [World.size_alloc] at hM
  have hM' : Hid (Wr.Row _ _ _ _ head4) := hM
  have B1 : Hid (Below w.heap.size w _) := S0.out.below.trans ((bal _ (.cells #[.int .u8 83, .int .u8 87, .int .u8 67, .int .u8 49] 5 (4, 5))).mono (by simp; omega))
  have R1 : Hid (Wr.Row _ a len cap zs) := HR.out.below B1.out
  have C1 : Hid (St w _ _) := S0.out.skip (.cells #[.int .u8 83, .int .u8 87, .int .u8 67, .int .u8 49] 5 (4, 5))
  have Z4 : Hid (¬ zs.length < 4) := by unfold Hid; omega
  clear hr hl s0 hM
  go_enter Try.func25, Try.ntmps25
  go_wp2_with fail
  refine (cutp_any a _ len cap 4 zs head4 _ R1.out hM'.out (by omega)).mono ?_
  rintro r w1 ⟨h, rfl⟩
  rcases h with ⟨hne, rfl⟩ | ⟨heq, a', rfl, R2⟩
  · have hP : Hid (pAll zs = .inl (41, 0)) := by unfold Hid pAll; rw [if_neg Z4.out, if_pos hne]
    clear hne cv
    go_wp2_with fail
    refine (giveup_gen (w.heap.size + 1) _ 0 0 41 _ C1.out.h1).mono ?_
    rintro r w1 ⟨rfl, hb⟩
    exact ⟨rfl, .inl ⟨_, hP.out, rfl, (C1.out.call hb).below⟩⟩
  have hP : Hid (pAll zs = _) := pall_ce Z4.out heq
  have R2' : Hid (Wr.Row _ a' (len - 4) (cap - 4) (zs.drop 4)) := R2
  clear heq R2 cv
  go_wp2_with fail
  refine (new_is a' _ _ _ _ R2'.out (by omega)).mono ?_
  rintro r w2 ⟨B, rfl, rd2, hB, b2⟩
  simp only [World.size_alloc] at hB
  have s2 := C1.out.call b2
  have hprc := s2.h1
  have S2 : Hid (St w w2 _) := s2
  obtain ⟨c1, f1, y1, c2, f2, y2, -⟩ := s2.rules
  have hnB : NoB w2 (w.heap.size + 1) := ⟨_, _, hprc, fun i v e => by
    match i, e with
    | 0, e => simp at e
    | 1, e => simp at e
    | 2, e => simp at e
    | n + 3, e => simp at e⟩
  have P3 : Hid (PR (w2.setCell ⟨w.heap.size + 1, 0, none⟩ (.pointer (some ⟨B, 0, none⟩))) (w.heap.size + 1) B (zs.drop 4) 0) := ⟨heap_setCell_at hprc, rd2.kept Kept.set (by simp; omega) (by simpa using hnB), by omega⟩
  have B3 : Hid (Below w.heap.size w (w2.setCell ⟨w.heap.size + 1, 0, none⟩ (.pointer (some ⟨B, 0, none⟩)))) := s2.below.setCell (p := ⟨w.heap.size + 1, 0, none⟩) (by simp) _
  have N3 : Hid ((w2.setCell ⟨w.heap.size + 1, 0, none⟩ (.pointer (some ⟨B, 0, none⟩))).heap[w.heap.size]? = some (.cells #[.slice none 0 0, .slice none 0 0] 25 (0, 0))) := by
    unfold Hid; rw [Below.heap_setCell _ _ _ _ (show w.heap.size ≠ w.heap.size + 1 by omega)]; exact s2.h2
  have zB : w.heap.size + 1 < B := by omega
  clear rd2 b2 s2 hprc hnB C1 R2' hM' R1 S0 hB
  go_wp2_with fail
  refine Calls.mono (rranges_any _ B (zs.drop 4) _ P3.out) ?_
  rintro r w3 (⟨x, hx, rfl, k3⟩ | ⟨R, r3, vR, hx, hR65, rfl, oR, p3, k3⟩)
  · exact ⟨rfl, .inl ⟨x, by rw [hP.out]; simp only [pCe, pbind, hx], rfl, k3.below B3.out (by simp; omega) (by simp; omega)⟩⟩
  have hsz3 := k3.2.2.2.1
  simp only [World.size_setCell] at hsz3 oR
  have hx3 : Hid (pRs (zs.drop 4) = .inr (R, r3)) := hx
  obtain ⟨ra, rc, rfl⟩ := owns_slice oR
  obtain ⟨rn, hrn⟩ : ∃ rn, R.length = rn := ⟨_, rfl⟩
  rw [hrn] at oR hR65 ⊢
  have HRN : Hid (R.length = rn) := hrn
  have N3b : Hid (w3.heap[w.heap.size]? = some (.cells #[.slice none 0 0, .slice none 0 0] 25 (0, 0))) := (k3.2.2.2.2 _ (lt_of_heap N3.out) (by simp; omega)).trans N3.out
  have B3b : Hid (Below w.heap.size w w3) := k3.below B3.out (by simp; omega) (by simp; omega)
  have OR : Hid (w3.ownsRow w2.heap.size 44 2 (.slice ra rn rc) rn (R.flatMap scs)) := oR
  have P3b : Hid (PR w3 (w.heap.size + 1) B r3 0) := p3
  have zB2 : B < w2.heap.size := by have := P3.out.ltB; simpa using this
  clear hx oR p3 k3 N3 B3 P3 hrn c1 f1 y1 c2 f2 y2
  go_wp2_with fail
  refine Calls.mono (rlists_any _ B r3 _ P3b.out) ?_
  rintro r w4 (⟨x, hx, rfl, k4⟩ | ⟨P, rs, vP, hx, hP64, rfl, oP, p4, k4⟩)
  · exact ⟨rfl, .inl ⟨x, by rw [hP.out]; simp only [pCe, pbind, hx3.out, hx], rfl, k4.below B3b.out (by omega) (by simp; omega)⟩⟩
  have hsz := k4.2.2.2.1
  have hx' : Hid (pCe (zs.drop 4) = .inr ((R, P), rs)) := by simp only [Hid, pCe, pbind, hx3.out, hx]
  obtain ⟨pa, pc, hvp⟩ := oP.slice
  obtain ⟨pn, hpn⟩ : ∃ pn, P.length = pn := ⟨_, rfl⟩
  rw [hpn] at hvp hP64
  subst hvp
  have HPN : Hid (P.length = pn) := hpn
  have N4 : Hid (w4.heap[w.heap.size]? = some (.cells #[.slice none 0 0, .slice none 0 0] 25 (0, 0))) := (k4.2.2.2.2 _ (lt_of_heap N3b.out) (by simp; omega)).trans N3b.out
  have B4 : Hid (Below w.heap.size w w4) := k4.below B3b.out (by omega) (by simp; omega)
  have OR4 : Hid (w4.ownsRow (w.heap.size + 1) 44 2 (.slice ra rn rc) rn (R.flatMap scs)) := owns_base (owns_kept OR.out k4 (by simp; omega)) (by omega)
  have OP4 : Hid (QOwn w4 (w.heap.size + 1) (.slice pa pn pc) P) := qown_base oP (by omega)
  have P4 : Hid (PR w4 (w.heap.size + 1) B rs 0) := p4
  have y4 : w.heap.size + 1 < w4.heap.size := p4.lt
  obtain ⟨c1, f1, y1⟩ := cells_at p4.1
  have HE : Hid _ := rEnd_is B rs 0 _ (p4.al (.cells #[.slice ra rn rc, .slice pa pn pc] 25)).2.1
  clear hx oP p4 k4 hpn P3b N3b B3b
  go_wp2_with fail
  refine Calls.mono HE.out ?_
  rintro r w5 ⟨rfl, hw5⟩
  obtain rfl := hw5.symm
  by_cases hrs : rs = []
  · have hE0 : endR rs 0 = 0 := by unfold endR; rw [if_pos rfl, if_pos (by simp [hrs])]
    have hF : Hid (pAll zs = .inr (R, P)) := by unfold Hid; rw [hP.out, hx'.out]; simp [hrs]
    rw [hE0]
    have NB := ((bal w4 (.cells #[.slice ra rn rc, .slice pa pn pc] 25)).block _ (show w.heap.size < w4.heap.size by omega)).trans N4.out
    have NM := heap_alloc_new w4 (.cells #[.slice ra rn rc, .slice pa pn pc] 25)
    have qr : Hid (((w4.alloc (.cells #[.slice ra rn rc, .slice pa pn pc] 25)).setRow w.heap.size #[.slice ra rn rc, .slice pa pn pc]).ownsRow (w.heap.size + 1) 44 2 (.slice ra rn rc) rn (R.flatMap scs)) := owns_kept (owns_below OR4.out (bal _ _)) kept_setRow (by simp)
    have qp : Hid (QOwn ((w4.alloc (.cells #[.slice ra rn rc, .slice pa pn pc] 25)).setRow w.heap.size #[.slice ra rn rc, .slice pa pn pc]) (w.heap.size + 1) (.slice pa pn pc) P) := qown_kept (OP4.out.below (bal _ _)) kept_setRow (by simp)
    have qh : Hid (((w4.alloc (.cells #[.slice ra rn rc, .slice pa pn pc] 25)).setRow w.heap.size #[.slice ra rn rc, .slice pa pn pc]).heap[w.heap.size]? = some (.cells #[.slice ra rn rc, .slice pa pn pc] 25 (0, 0))) := setRow_heap _ _ _ _ _ _ NB
    have qb : Hid (Below w.heap.size w ((w4.alloc (.cells #[.slice ra rn rc, .slice pa pn pc] 25)).setRow w.heap.size #[.slice ra rn rc, .slice pa pn pc])) := by
      have b := bt B4.out (bal w4 (.cells #[.slice ra rn rc, .slice pa pn pc] 25))
      exact ⟨b.os, b.tape, b.output, by rw [size_setRow]; exact b.size, fun i hi => (setRow_other _ _ i _ (by omega)).trans (b.block i hi)⟩
    clear hE0 hrs HE
    go_wp2_with fail
    refine (ask_ok _ _).mono ?_
    rintro r w6 ⟨rfl, hw6⟩
    obtain rfl := hw6.symm
    go_wp2_with (first
      | (refine wpList_load_row rfl 25 (.tmp 6) rfl w4.heap.size rfl 25 _ (0, 0) _ NM Try.underlying25 rfl (by kernel_rfl) ?_)
      | (refine wpList_store_row rfl 25 (.tmp 2) (.tmp 31) rfl w.heap.size #[.slice ra rn rc, .slice pa pn pc] rfl rfl 25 _ NB (by kernel_rfl) rfl (by simp [Value.oneCell']) ?_))
    exact bodyPost_ret (results_cell_row Try.results25 _ _ w.heap.size 25 _ (0, 0) _ rfl qh.out Try.underlying25 rfl (by kernel_rfl)) rfl (.inr ⟨ra, rn, rc, R, pa, pn, pc, P, hF.out, HRN.out, HPN.out, rfl, qr.out, qp.out, qb.out⟩)
  · have hE0 : endR rs 0 = 43 := by unfold endR; rw [if_pos rfl, if_neg (by simpa using hrs)]
    have hF : Hid (pAll zs = .inl (43, 0)) := by unfold Hid; rw [hP.out, hx'.out]; simp [hrs]
    rw [hE0]
    have hc : Hid (PRc (w4.alloc (.cells #[.slice ra rn rc, .slice pa pn pc] 25)) (w.heap.size + 1) B 0) := (P4.out.al _).1
    clear hE0 hrs HE
    go_wp2_with fail
    refine (ask_bad _ B 0 43 _ hc.out (by decide)).mono ?_
    rintro r w6 ⟨rfl, hb6⟩
    exact ⟨rfl, .inl ⟨_, hF.out, rfl, bt (bt B4.out (bal _ _)) hb6⟩⟩
end Go.Proofs.Ythlnhodfgmpabaa.Sl
