/- The walk of SealMemory. Written by tools/gen/SmB.py. -/
import Derived.Test.YthlnhodfgmpabaaSmA
namespace Go.Proofs.Ythlnhodfgmpabaa.Sl
open Wr
open Go.ChangeShapes Go.WideShapes Go.ChangeAt Go.RowKit
set_option linter.unusedVariables false
theorem store_to {P : Program} {ops : Array Oper} {rest : List Oper} {op : Oper} {a : Act} {w : World} {Q : Exit → Act → World → Prop} (hgd : op.guard = none) (ty : TypeId) (x y : Operand) (ho : op.op = .store ty x y)
    (b o : Nat) (cells : Array Value) (hx : a.eval x = .pointer (some ⟨b, o, none⟩)) (hy : a.eval y = .agg cells)
    (ht : w.there b o cells.size) (hi : (P.info? ty).map (·.size) = some cells.size) (h1 : cells.all (·.oneCell') = true) {wx : World} (hw : wx = w.setCells b o cells.toList)
    (h : wpList P ops Q rest (a.put op.dst undef) wx) : wpList P ops Q (op :: rest) a w := wpList_store_mid hgd ty x y ho b o cells hx hy ht hi h1 (hw ▸ h)
theorem Outs.low {lo lo' hi : Nat} {w w' : World} (h : Outs lo hi w w') (hl : lo' ≤ lo) : Outs lo' hi w w' := ⟨h.1, h.2.1, h.2.2.1, h.2.2.2.1, fun i hi' hb => h.2.2.2.2 i hi' (by omega)⟩
/-- A list is grown by a plan, and its slot written. -/
theorem grow_ok {lo hi n c i g ln vc gn capn : Nat} {w0 wr wa wn : World} {va : Option Addr} {X : Nat → Value} {G : Nat → List Pl} (p : Pl) (hV : X i = .slice va ln vc) (hln : (G i).length = ln) (fo : FO lo hi wr (some ⟨g, 0, none⟩) n c X) (fi : FI lo hi w0.heap.size wr n X G) (ou : Outs lo hi w0 wr) (him : i < n)
    (hb : Below wr.heap.size wr wa) (hown : wn.ownsRow lo 47 6 (.slice (some ⟨gn, 0, none⟩) (ln + 1) capn) (ln + 1) ((G i).flatMap pcs ++ pcs p)) (hgr : wa.grownBy wn (Value.slice va ln vc).ownBlock) {H : Nat} (hH : wa.heap.size = H) (hat : (Value.slice va ln vc).ownBlock = some gn ∨ gn = H) :
    (wn.cell? ⟨g, i, none⟩ = some (.slice va ln vc) ∧ (∀ j, wn.frozen? ⟨g, j, none⟩ = false) ∧ Outs lo hi w0 wn) ∧ ∃ X' G', G' i = G i ++ [p] ∧ (∀ q, q ≠ i → G' q = G q) ∧ FO lo hi (wn.setCell ⟨g, i, none⟩ (.slice (some ⟨gn, 0, none⟩) (ln + 1) capn)) (some ⟨g, 0, none⟩) n c X' ∧ FI lo hi w0.heap.size (wn.setCell ⟨g, i, none⟩ (.slice (some ⟨gn, 0, none⟩) (ln + 1) capn)) n X' G' ∧ Outs lo hi w0 (wn.setCell ⟨g, i, none⟩ (.slice (some ⟨gn, 0, none⟩) (ln + 1) capn)) := by
  have fi1 := fi.below hb
  have fo1 := fo.below hb
  have ou1 := ou.bel hb
  rw [← hV] at hgr hat
  have fo2 := fo1.grown hgr (fi1.ty him) (by decide)
  have ou2 := fi1.out him hgr ou1
  have fi2 := fi1.put (v := .slice (some ⟨gn, 0, none⟩) (ln + 1) capn) (X := G i ++ [p]) him hgr (by rw [List.length_append, hln, List.flatMap_append]; simpa using hown) (by
    rcases hat with e | e
    · exact .inl (by rw [e]; rfl)
    · exact .inr (fun b eb => by cases eb; exact Nat.le_of_eq (hH.trans e.symm))) ou1.2.2.2.1
  obtain ⟨g', e', h1, h2, -⟩ := fo2.at him
  cases e'
  rw [hV] at h1
  obtain ⟨q1, q2, q3⟩ := fo2.set him fi2 ou2
  exact ⟨⟨h1, h2, ou2⟩, _, _, upd_same _ _ _, fun q hq => upd_other _ _ hq, q1, q2, q3⟩
set_option maxHeartbeats 16000000 in
set_option maxRecDepth 100000 in
theorem sealMemory_w (a : Option Addr) (len cap : Nat) (zs : List Int) (W : World) (hr : Wr.Row W a len cap zs) (hl : len ≤ 140737488351232) :
    Calls Try.prog 7 #[.slice a len cap] W fun e w' => e = .returned (.bool true) ∧ Below W.heap.size W w' := by
  have hbz : Hid (Byt zs) := hr.2.2.2.1
  have HR : Hid (∀ w', Below W.heap.size W w' → Wr.Row w' a len cap zs) := fun w' hb => hr.below hb
  clear hr
  go_enter Try.func7, Try.ntmps7
  go_wp2_with fail
  refine (fixed16_any _).mono ?_
  rintro e w1 ⟨rfl, b1⟩
  have s1 := (St.start W).call b1
  have S1 : Hid (St W w1 _) := s1
  clear b1 s1
  go_wp2_with fail
  refine (decode_any a len cap zs _ (HR.out _ S1.out.below) (by omega)).mono ?_
  rintro e w2 ⟨hd, b2⟩
  rcases dec_cases hd hbz.out with ⟨x, t1, t2, hx, rfl⟩ | ⟨ra, rn, rc, R, pa, pn, pc, P, hz, hF, hrn, hpn, rfl, eR, qP, oR, oP⟩
  · have s3 := ((S1.out.call b2).new (c := #[.slice none 0 0, .slice none 0 0]) (t := 25)).new (c := #[.int .i64 x, .int .i64 t1, .int .i64 t2]) (t := 30)
    simp only [World.size_alloc] at s3
    have hb : Hid (Below W.heap.size W _) := s3.below
    obtain ⟨c1, f1, z1, c2, f2, z2, -⟩ := s3.rules
    have hx2 : (x == 0) = false := by simpa using hx
    have hx3 : (x != 0) = true := by simpa using hx
    clear hd b2 s3 hx
    go_wp2
    go_ret
    exact ⟨rfl, hb.out⟩
  have brn : rn ≤ 65 := by have := hF.1.1; simp only at this; omega
  have bpn : pn ≤ 64 := by have := hF.2.1; simp only at this; omega
  have s3 := ((S1.out.call b2).new (c := #[.slice ra rn rc, .slice pa pn pc]) (t := 25)).new (c := #[.int .i64 0, .int .i64 0, .int .i64 0]) (t := 30)
  simp only [World.size_alloc] at s3
  have S3 : Hid (St W _ _) := s3
  have B3 := bt (bal w2 (.cells #[.slice ra rn rc, .slice pa pn pc] 25)) (bal _ (.cells #[.int .i64 0, .int .i64 0, .int .i64 0] 30))
  have HB3 : Hid (Below w2.heap.size w2 _) := B3
  have E3 : Hid (ERow 2 scs _ ra rn rc R) := eR.below B3
  have Q3 : Hid (QRow _ pa pn pc P) := qP.below B3
  have OR : Hid (w2.ownsRow w1.heap.size 44 2 (.slice ra rn rc) rn (R.flatMap scs)) := oR
  have OP : Hid (QOwn w2 w1.heap.size (.slice pa pn pc) P) := oP
  have HL : Hid (R.length = rn ∧ P.length = pn ∧ zs = eAll (R, P)) := ⟨hrn, hpn, hz⟩
  have HF : Hid (CeF (R, P)) := hF
  have z12 : w1.heap.size ≤ w2.heap.size := b2.size
  have zW1 : W.heap.size ≤ w1.heap.size := S1.out.size
  obtain ⟨c1, f1, z1, c2, f2, z2, -⟩ := s3.rules
  clear hd b2 s3 B3 eR qP oR oP hrn hpn hz hF S1
  go_wp2_with fail
  refine (ccopy_any ra rn rc R pa pn pc P _ E3.out Q3.out (by omega) (by omega)).mono ?_
  rintro e w4 ⟨ka, kc, la, lc, rfl, oR, oP, b4⟩
  have s5 := (S3.out.call b4).new (c := #[.slice ka rn kc, .slice la pn lc]) (t := 25)
  have S5 : Hid (St W _ _) := s5
  have HB5 : Hid (Below w2.heap.size w2 _) := bt (bt HB3.out b4) (bal w4 (.cells #[.slice ka rn kc, .slice la pn lc] 25))
  simp only [World.size_alloc] at oR oP
  have OR5 : Hid ((w4.alloc (.cells #[.slice ka rn kc, .slice la pn lc] 25)).ownsRow w2.heap.size 44 2 (.slice ka rn kc) rn (R.flatMap scs)) := owns_base (owns_below oR (bal _ _)) (by omega)
  have OP5 : Hid (QOwn (w4.alloc (.cells #[.slice ka rn kc, .slice la pn lc] 25)) w2.heap.size (.slice la pn lc) P) := qown_base (oP.below (bal _ _)) (by omega)
  have z24 : w2.heap.size ≤ w4.heap.size := by have := b4.size; simp at this; omega
  clear oR oP b4 s5 S3 HB3 E3 Q3 c1 f1 z1 c2 f2 z2
  go_wp2_with fail
  refine (decode_any a len cap zs _ (HR.out _ S5.out.below) (by omega)).mono ?_
  rintro e w6 ⟨hd, b6⟩
  obtain ⟨sa, sc, qa, qc, rfl, oR, oP⟩ := dec_back hd HF.out HL.out.2.2
  rw [HL.out.1] at oR ⊢
  rw [HL.out.2.1] at oP ⊢
  have s7 := ((S5.out.call b6).new (c := #[.slice sa rn sc, .slice qa pn qc]) (t := 25)).new (c := #[.int .i64 0, .int .i64 0, .int .i64 0]) (t := 30)
  simp only [World.size_alloc] at s7
  have B7 := bt (bal w6 (.cells #[.slice sa rn sc, .slice qa pn qc] 25)) (bal _ (.cells #[.int .i64 0, .int .i64 0, .int .i64 0] 30))
  have z46 : w4.heap.size < w6.heap.size := by have := b6.size; simp at this; omega
  obtain ⟨w0, hw0⟩ : ∃ w0, w0 = (w6.alloc (.cells #[.slice sa rn sc, .slice qa pn qc] 25)).alloc (.cells #[.int .i64 0, .int .i64 0, .int .i64 0] 30) := ⟨_, rfl⟩
  rw [← hw0] at s7 B7
  simp only [World.size_alloc] at oR oP
  have S7 : Hid (St W w0 _) := s7
  have HB7 : Hid (Below w2.heap.size w2 w0) := bt (bt HB5.out b6) B7
  have OD : Hid (w0.ownsRow w2.heap.size 44 2 (.slice sa rn sc) rn (R.flatMap scs)) := owns_base (owns_below oR B7) (by omega)
  have PD : Hid (QOwn w0 w2.heap.size (.slice qa pn qc) P) := qown_base (oP.below B7) (by omega)
  have OK : Hid (w0.ownsRow w2.heap.size 44 2 (.slice ka rn kc) rn (R.flatMap scs)) := owns_below OR5.out (bt b6 B7)
  have PK : Hid (QOwn w0 w2.heap.size (.slice la pn lc) P) := OP5.out.below (bt b6 B7)
  have HC : Hid (w0.heap[w2.heap.size]? = some (.cells #[.slice ra rn rc, .slice pa pn pc] 25 (0, 0))) := s7.tail.h4
  have HK : Hid (w0.heap[w4.heap.size]? = some (.cells #[.slice ka rn kc, .slice la pn lc] 25 (0, 0))) := s7.h3
  have HD : Hid (w0.heap[w6.heap.size]? = some (.cells #[.slice sa rn sc, .slice qa pn qc] 25 (0, 0))) := s7.h2
  have zH : w2.heap.size ≤ w0.heap.size := HB7.out.size
  have RO0 : Hid (RO w1.heap.size w2.heap.size w0 ra rn rc) := RO.below ⟨_, OR.out, fun b e => (OR.out.lt b e).2⟩ HB7.out
  obtain ⟨V, fo, fi⟩ := fam_of (s := w0.heap.size) OP.out HL.out.2.1
  have FO0 : Hid (FO w1.heap.size w2.heap.size w0 pa pn pc V) := fo.below HB7.out
  have FI0 : Hid (FI w1.heap.size w2.heap.size w0.heap.size w0 pn V (fun i => P.getD i [])) := fi.below HB7.out
  have LN0 : Hid (∀ j, j < pn → (P.getD j []).length ≤ 1024) := fun j hj => by
    have hj' : j < P.length := by rw [HL.out.2.1]; exact hj
    rw [List.getD_eq_getElem?_getD, List.getElem?_eq_getElem hj']
    exact (HF.out.2.2 _ (List.getElem_mem hj')).1
  clear hd b6 oR oP s7 B7 OR OP S5 HB5 OR5 OP5 fo fi HB7
  go_upto_region 8 with fail
  rw [← hw0]
  clear hw0
  obtain ⟨c1, f1, y1⟩ := cells_at HC.out
  go_wp2
  clear c1 f1 y1
  go_loopw [38] (fun i wr => ∃ k : Nat, k ≤ rn ∧ i = .int .i64 k ∧ RO w1.heap.size w2.heap.size wr ra rn rc ∧ FO w1.heap.size w2.heap.size wr pa pn pc V ∧ FI w1.heap.size w2.heap.size w0.heap.size wr pn V (fun i => P.getD i []) ∧ Outs w1.heap.size w2.heap.size w0 wr) (fun i _ => rn - (intOf i).toNat)
  case atStart => exact ⟨0, Nat.zero_le _, rfl, RO0.out, FO0.out, FI0.out, Outs.refl _ _ _⟩
  case round =>
  clear RO0 FO0 FI0
  obtain ⟨k, hk, rfl, hRO, hFO, hFI, hOu⟩ := hrel
  have hC := hOu.at HC.out (Nat.le_refl _)
  by_cases hlk : k < rn
  · obtain ⟨g, rfl, hnc, hcm, hth, hro2, hfi2, hfo2, hou2⟩ := hRO.put hlk hOu [.int .i64 1, .int .i64 1]
    unfold maxLen at hcm
    have hE : Hid (RO w1.heap.size w2.heap.size (wr.setCells g (k * 2) [.int .i64 1, .int .i64 1]) (some ⟨g, 0, none⟩) rn rc ∧ FO w1.heap.size w2.heap.size (wr.setCells g (k * 2) [.int .i64 1, .int .i64 1]) pa pn pc V ∧ FI w1.heap.size w2.heap.size w0.heap.size (wr.setCells g (k * 2) [.int .i64 1, .int .i64 1]) pn V (fun i => P.getD i []) ∧ Outs w1.heap.size w2.heap.size w0 (wr.setCells g (k * 2) [.int .i64 1, .int .i64 1])) := ⟨hro2, hfo2 hFO, hfi2 hFI, hou2⟩
    have HT : Hid (wr.there g (k * 2) 2) := hth
    obtain ⟨c1, f1, y1⟩ := cells_at hC
    clear hRO hFO hFI hOu hC hro2 hfi2 hfo2 hou2 hth
    go_wp2_with (refine wpList_store_mid rfl 44 (.tmp 45) (.tmp 44) rfl g (k * 2) #[.int .i64 1, .int .i64 1] rfl rfl HT.out (by kernel_rfl) (by simp [Value.oneCell']) ?_)
    go_roundw
    case rel => exact ⟨k + 1, by omega, by go_num, hE.out.1, hE.out.2.1, hE.out.2.2.1, hE.out.2.2.2⟩
    case measure => simp [intOf]; omega
  have FO1 : Hid (FO w1.heap.size w2.heap.size wr pa pn pc V) := hFO
  have FI1 : Hid (FI w1.heap.size w2.heap.size w0.heap.size wr pn V (fun i => P.getD i [])) := hFI
  have OU1 : Hid (Outs w1.heap.size w2.heap.size w0 wr) := hOu
  obtain ⟨c1, f1, y1⟩ := cells_at hC
  clear hRO hFO hFI hOu hC
  go_wp2
  clear c1 f1 y1
  go_loopw [50] (fun i wr => ∃ (k : Nat) (F : Nat → List Pl), k ≤ pn ∧ i = .int .i64 k ∧ (∀ j, j < k → AllW j (F j)) ∧ (∀ j, j < pn → (F j).length ≤ 1024) ∧ FO w1.heap.size w2.heap.size wr pa pn pc V ∧ FI w1.heap.size w2.heap.size w0.heap.size wr pn V F ∧ Outs w1.heap.size w2.heap.size w0 wr) (fun i _ => pn - (intOf i).toNat)
  case atStart => exact ⟨0, _, Nat.zero_le _, rfl, fun j hj => by omega, LN0.out, FO1.out, FI1.out, OU1.out⟩
  case round =>
  clear FO1 FI1 OU1 LN0
  obtain ⟨i, F, hi0, rfl, hA, hLn, hFO, hFI, hOu⟩ := hrel
  have hC := hOu.at HC.out (Nat.le_refl _)
  by_cases hli : i < pn
  · obtain ⟨va, vc, hV⟩ := owns_slice (hFI.1 i hli)
    obtain ⟨ln, hln⟩ : ∃ ln, (F i).length = ln := ⟨_, rfl⟩
    rw [hln] at hV
    have HV : Hid (V i = .slice va ln vc) := hV
    have HLN : Hid ((F i).length = ln) := hln
    have bln : ln ≤ 1024 := by rw [← hln]; exact hLn i hli
    obtain ⟨g, rfl, hcell, hfz, hnc, hcm, hgh, hgl, cs, hgc⟩ := hFO.at hli
    unfold maxLen at hcm
    rw [hV] at hcell
    have HA : Hid (∀ j, j < i → AllW j (F j)) := hA
    have HLn : Hid (∀ j, j < pn → (F j).length ≤ 1024) := hLn
    have FO2 : Hid (FO w1.heap.size w2.heap.size wr (some ⟨g, 0, none⟩) pn pc V) := hFO
    have FI2 : Hid (FI w1.heap.size w2.heap.size w0.heap.size wr pn V F) := hFI
    have OU2 : Hid (Outs w1.heap.size w2.heap.size w0 wr) := hOu
    obtain ⟨c1, f1, y1⟩ := cells_at hC
    obtain ⟨wo, hwo⟩ : ∃ wo, wo = wr := ⟨_, rfl⟩
    rw [← hwo] at FO2 FI2 OU2 c1 f1 y1 hcell hfz ⊢
    clear hwo hA hLn hFO hFI hOu hC hV hln hgc
    go_wp2
    clear c1 f1 y1 hcell hfz
    go_loopw [59] (fun j wv => ∃ (k : Nat) (G : Nat → List Pl), k ≤ ln ∧ j = .int .i64 k ∧ (G i).length = ln ∧ FstW i k (G i) ∧ (∀ q, q ≠ i → G q = F q) ∧ FO w1.heap.size w2.heap.size wv (some ⟨g, 0, none⟩) pn pc V ∧ FI w1.heap.size w2.heap.size w0.heap.size wv pn V G ∧ Outs w1.heap.size w2.heap.size w0 wv) (fun j _ => ln - (intOf j).toNat)
    case atStart => exact ⟨0, F, Nat.zero_le _, rfl, HLN.out, ⟨by rw [HLN.out]; exact bln, fun q p hq => by omega⟩, fun q _ => rfl, FO2.out, FI2.out, OU2.out⟩
    case round =>
    clear FO2 FI2 OU2
    obtain ⟨k, G, hk0, rfl, hG, hFs, hGo, hFO, hFI, hOu⟩ := hrel
    have hC := hOu.at HC.out (Nat.le_refl _)
    by_cases hlk : k < ln
    · obtain ⟨g2, cap2, e2, hn2, hc2, hth, hfi2, hfo2, hou2⟩ := hFI.plan hFO hli (by rw [hG]; exact hlk) ((i : Int), 0, 0, 0, 0, 0) hOu
      rw [HV.out, hG] at e2
      simp only [Value.slice.injEq, true_and] at e2
      obtain ⟨rfl, rfl⟩ := e2
      unfold maxLen at hc2
      rw [hG] at hn2
      obtain ⟨g', hg', hcell, hfz, -, -, -, -, -⟩ := hFO.at hli
      cases hg'
      rw [HV.out] at hcell
      obtain ⟨wx, hwx⟩ : ∃ wx, wx = wr.setCells g2 (k * 6) (pcs ((i : Int), 0, 0, 0, 0, 0)) := ⟨_, rfl⟩
      rw [← hwx] at hfo2 hfi2 hou2
      have HX : Hid (wx = wr.setCells g2 (k * 6) (pcs ((i : Int), 0, 0, 0, 0, 0))) := hwx
      have hE : Hid (FO w1.heap.size w2.heap.size wx (some ⟨g, 0, none⟩) pn pc V ∧ FI w1.heap.size w2.heap.size w0.heap.size wx pn V (upd G i ((G i).set k ((i : Int), 0, 0, 0, 0, 0))) ∧ Outs w1.heap.size w2.heap.size w0 wx) := ⟨hfo2, hfi2, hou2⟩
      have hW : Hid (FstW i (k + 1) ((G i).set k ((i : Int), 0, 0, 0, 0, 0))) := hFs.set (by rw [hG]; exact hlk) rfl
      have HG : Hid ((G i).length = ln ∧ ∀ q, q ≠ i → G q = F q) := ⟨hG, hGo⟩
      have HT : Hid (wr.there g2 (k * 6) 6) := hth
      obtain ⟨c1, f1, y1⟩ := cells_at hC
      clear hwx hFO hFI hOu hC hfi2 hfo2 hou2 hth hG hGo hFs hfz
      go_wp2_with (refine store_to rfl 47 (.tmp 70) (.tmp 69) rfl g2 (k * 6) #[.int .i64 (i : Int), .int .i64 0, .int .i64 0, .int .i64 0, .int .i64 0, .int .i64 0] rfl rfl HT.out (show (Try.prog.info? 47).map (·.size) = some 6 by kernel_rfl) (by simp [Value.oneCell']) HX.out ?_)
      go_roundw
      case rel => exact ⟨k + 1, _, by omega, by go_num, by rw [upd_same, List.length_set]; exact HG.out.1, by rw [upd_same]; exact hW.out, fun q hq => by rw [upd_other _ _ hq]; exact HG.out.2 q hq, hE.out.1, hE.out.2.1, hE.out.2.2⟩
      case measure => simp [intOf]; omega
    · have hE : Hid ((∀ j, j < i + 1 → AllW j (G j)) ∧ (∀ j, j < pn → (G j).length ≤ 1024) ∧ FO w1.heap.size w2.heap.size wr (some ⟨g, 0, none⟩) pn pc V ∧ FI w1.heap.size w2.heap.size w0.heap.size wr pn V G ∧ Outs w1.heap.size w2.heap.size w0 wr) := by
        refine ⟨fun j hj => ?_, fun j hj => ?_, hFO, hFI, hOu⟩
        · by_cases e : j = i
          · subst e
            refine FstW.all ?_
            rw [hG]
            exact ⟨hFs.1, fun q p hq => hFs.2 q p (by omega)⟩
          · rw [hGo j e]; exact HA.out j (by omega)
        · by_cases e : j = i
          · subst e; rw [hG]; exact bln
          · rw [hGo j e]; exact HLn.out j hj
      clear hFO hFI hOu hC hG hGo hFs
      go_wp2
      go_roundw
      case rel => exact ⟨i + 1, G, by omega, by go_num, hE.out.1, hE.out.2.1, hE.out.2.2.1, hE.out.2.2.2.1, hE.out.2.2.2.2⟩
      case measure => simp [intOf]; omega
  have AW : Hid (∀ j, j < pn → AllW j (F j)) := fun j hj => hA j (by omega)
  have FO1 : Hid (FO w1.heap.size w2.heap.size wr pa pn pc V) := hFO
  have FI1 : Hid (FI w1.heap.size w2.heap.size w0.heap.size wr pn V F) := hFI
  have OU1 : Hid (Outs w1.heap.size w2.heap.size w0 wr) := hOu
  obtain ⟨c1, f1, y1⟩ := cells_at hC
  clear hA hLn hFO hFI hOu hC
  go_wp2
  clear c1 f1 y1
  go_loopw [76] (fun i wr => ∃ (k : Nat) (V : Nat → Value) (F : Nat → List Pl), k ≤ pn ∧ i = .int .i64 k ∧ (∀ j, j < k → CndW j (F j)) ∧ (∀ j, k ≤ j → j < pn → AllW j (F j)) ∧ FO w1.heap.size w2.heap.size wr pa pn pc V ∧ FI w1.heap.size w2.heap.size w0.heap.size wr pn V F ∧ Outs w1.heap.size w2.heap.size w0 wr) (fun i _ => pn - (intOf i).toNat)
  case atStart => exact ⟨0, V, F, Nat.zero_le _, rfl, fun j hj => by omega, fun j _ hj => AW.out j hj, FO1.out, FI1.out, OU1.out⟩
  case round =>
  clear FO1 FI1 OU1 AW
  obtain ⟨i, V, F, hi0, rfl, hA, hB, hFO, hFI, hOu⟩ := hrel
  by_cases hli : i < pn
  · have HA : Hid (∀ j, j < i → CndW j (F j)) := hA
    have HB : Hid (∀ j, i ≤ j → j < pn → AllW j (F j)) := hB
    have FO2 : Hid (FO w1.heap.size w2.heap.size wr pa pn pc V) := hFO
    have FI2 : Hid (FI w1.heap.size w2.heap.size w0.heap.size wr pn V F) := hFI
    have OU2 : Hid (Outs w1.heap.size w2.heap.size w0 wr) := hOu
    obtain ⟨wo, hwo⟩ : ∃ wo, wo = wr := ⟨_, rfl⟩
    rw [← hwo] at FO2 FI2 OU2 ⊢
    clear hwo hA hB hFO hFI hOu
    go_wp2
    go_loopw [12] (fun j wv => ∃ (m : Nat) (X : Nat → Value) (G : Nat → List Pl), m ≤ 20 ∧ j = .int .i64 m ∧ MidW i m (G i) ∧ (∀ q, q ≠ i → G q = F q) ∧ FO w1.heap.size w2.heap.size wv pa pn pc X ∧ FI w1.heap.size w2.heap.size w0.heap.size wv pn X G ∧ Outs w1.heap.size w2.heap.size w0 wv) (fun j _ => 20 - (intOf j).toNat)
    case atStart => exact ⟨0, V, F, Nat.zero_le _, rfl, (HB.out i (Nat.le_refl _) hli).mid, fun q _ => rfl, FO2.out, FI2.out, OU2.out⟩
    case round =>
    clear FO2 FI2 OU2
    obtain ⟨m, X, G, hm0, rfl, hMi, hGo, hFO, hFI, hOu⟩ := hrel
    by_cases hlm : m < 20
    · have hC := hOu.at HC.out (Nat.le_refl _)
      have hOi := hFI.1 i hli
      obtain ⟨va, vc, hV⟩ := owns_slice hOi
      obtain ⟨ln, hln⟩ : ∃ ln, (G i).length = ln := ⟨_, rfl⟩
      rw [hln] at hV hOi
      have bln : ln ≤ 1044 := by have := hMi.len; omega
      obtain ⟨g, rfl, hcell, hfz, hnc, hcm, hgh, hgl, cs, hgc⟩ := hFO.at hli
      unfold maxLen at hcm
      rw [hV] at hcell hOi
      have HV : Hid (X i = .slice va ln vc) := hV
      have HLN : Hid ((G i).length = ln) := hln
      have HMi : Hid (MidW i m (G i)) := hMi
      have HGo : Hid (∀ q, q ≠ i → G q = F q) := hGo
      have FO3 : Hid (FO w1.heap.size w2.heap.size wr (some ⟨g, 0, none⟩) pn pc X) := hFO
      have FI3 : Hid (FI w1.heap.size w2.heap.size w0.heap.size wr pn X G) := hFI
      have OU3 : Hid (Outs w1.heap.size w2.heap.size w0 wr) := hOu
      have zr : w0.heap.size ≤ wr.heap.size := hOu.2.2.2.1
      have BD : Hid (Below wr.heap.size wr (wr.alloc (.cells #[.int .i64 (IntKind.i64.wrap (100 + (i : Int))), .int .i64 0, .int .i64 0, .int .i64 0, .int .i64 0, .int .i64 0] 47)).drew) := (bal wr (.cells #[.int .i64 (IntKind.i64.wrap (100 + (i : Int))), .int .i64 0, .int .i64 0, .int .i64 0, .int .i64 0, .int .i64 0] 47)).drew
      have OI : Hid ((wr.alloc (.cells #[.int .i64 (IntKind.i64.wrap (100 + (i : Int))), .int .i64 0, .int .i64 0, .int .i64 0, .int .i64 0, .int .i64 0] 47)).drew.ownsRow w1.heap.size 47 6 (.slice va ln vc) ln ((G i).flatMap pcs)) := owns_below hOi BD.out
      have HCd : Hid (wr.heap[w2.heap.size]? = some (.cells #[.slice ra rn rc, .slice (some ⟨g, 0, none⟩) pn pc] 25 (0, 0))) := hC
      have HGc : Hid (wr.heap[g]? = some (.cells cs 45 (0, 0))) := hgc
      obtain ⟨i0, hi1, hz0, hz1, hz2⟩ := info_parts (show (Try.prog.info? 47).map (fun i => (i.zero, i.size, i.bytes)) = some (some (.agg #[.int .i64 0, .int .i64 0, .int .i64 0, .int .i64 0, .int .i64 0, .int .i64 0]), 6, 48) by kernel_rfl)
      obtain ⟨c1, f1, y1⟩ := cells_at hC
      have hgz := lt_of_heap hgc
      have HWR : Hid (IntKind.i64.wrap (100 + (i : Int)) = 100 + (i : Int)) := by unfold Hid; rw [IntKind.wrap_i64]; omega
      clear hMi hGo hFO hFI hOu hC hV hln hOi hgc
      go_upto_region 28 with fail
      go_region_law ((refine step_append_lies _ rfl (.tmp 90) (.tmp 94) 45 rfl w1.heap.size 47 i0 _ 6 48 Try.underlying45 hi1 hz0 hz1 hz2 rfl (by decide) (.slice va ln vc) ln ((G i).flatMap pcs) rfl OI.out ⟨wr.heap.size, 0, none⟩ 1 1 [.int .i64 (IntKind.i64.wrap (100 + (i : Int))), .int .i64 0, .int .i64 0, .int .i64 0, .int .i64 0, .int .i64 0] rfl rfl (ecells (w := (wr.alloc (.cells #[.int .i64 (IntKind.i64.wrap (100 + (i : Int))), .int .i64 0, .int .i64 0, .int .i64 0, .int .i64 0, .int .i64 0] 47)).drew) (heap_alloc_new wr _)) (by simp [Value.oneCell']) (by decide) (by unfold maxLen; omega) (by omega) (by simp; omega) _ rfl ?_; intro gn capn wn hown hgr hat hlt; have hG := grow_ok (IntKind.i64.wrap (100 + (i : Int)), 0, 0, 0, 0, 0) HV.out HLN.out FO3.out FI3.out OU3.out hli BD.out hown hgr rfl hat; obtain ⟨⟨h5, f5, o5⟩, X', G', hG'⟩ := hG; obtain ⟨c6, f6, y6⟩ := cells_at (o5.at HC.out (Nat.le_refl _))))
      all_goals
        have HE : Hid (G' i = G i ++ [(IntKind.i64.wrap (100 + (i : Int)), 0, 0, 0, 0, 0)] ∧ _) := hG'
        clear hG' hown hgr hat o5 h5 f5 c6 f6 y6
        go_wp2
        go_roundw
        case rel => exact ⟨m + 1, X', G', by omega, by go_num, by rw [HE.out.1]; exact HMi.out.more HWR.out, fun q hq => (HE.out.2.1 q hq).trans (HGo.out q hq), HE.out.2.2.1, HE.out.2.2.2.1, HE.out.2.2.2.2⟩
        case measure => simp [intOf]; omega
    · obtain rfl : m = 20 := by omega
      have hE : Hid ((∀ j, j < i + 1 → CndW j (G j)) ∧ (∀ j, i + 1 ≤ j → j < pn → AllW j (G j)) ∧ FO w1.heap.size w2.heap.size wr pa pn pc X ∧ FI w1.heap.size w2.heap.size w0.heap.size wr pn X G ∧ Outs w1.heap.size w2.heap.size w0 wr) := by
        refine ⟨fun j hj => ?_, fun j h1 h2 => ?_, hFO, hFI, hOu⟩
        · by_cases e : j = i
          · subst e; exact hMi.cnd
          · rw [hGo j e]; exact HA.out j (by omega)
        · rw [hGo j (by omega)]; exact HB.out j (by omega) h2
      clear hFO hFI hOu hGo hMi
      go_wp2
      go_roundw
      case rel => exact ⟨i + 1, X, G, by omega, by go_num, hE.out.1, hE.out.2.1, hE.out.2.2.1, hE.out.2.2.2.1, hE.out.2.2.2.2⟩
      case measure => simp [intOf]; omega
  have CW : Hid (∀ j, j < pn → CndW j (F j)) := fun j hj => hA j (by omega)
  have FO1 : Hid (FO w1.heap.size w2.heap.size wr pa pn pc V) := hFO
  have FI1 : Hid (FI w1.heap.size w2.heap.size w0.heap.size wr pn V F) := hFI
  have OU1 : Hid (Outs w1.heap.size w2.heap.size w0 wr) := hOu
  have hC := hOu.at HC.out (Nat.le_refl _)
  obtain ⟨c1, f1, y1⟩ := cells_at hC
  clear hA hB hFO hFI hOu hC
  go_wp2
  clear c1 f1 y1
  go_loopw [101] (fun i wr => ∃ k : Nat, k ≤ pn ∧ i = .int .i64 k ∧ FO w1.heap.size w2.heap.size wr pa pn pc V ∧ FI w1.heap.size w2.heap.size w0.heap.size wr pn V F ∧ Outs w1.heap.size w2.heap.size w0 wr) (fun i _ => pn - (intOf i).toNat)
  case atStart => exact ⟨0, Nat.zero_le _, rfl, FO1.out, FI1.out, OU1.out⟩
  case round =>
  clear FO1 FI1 OU1
  obtain ⟨i, hi0, rfl, hFO, hFI, hOu⟩ := hrel
  by_cases hli : i < pn
  · obtain ⟨va, vc, hV⟩ := owns_slice (hFI.1 i hli)
    obtain ⟨ln, hln⟩ : ∃ ln, (F i).length = ln := ⟨_, rfl⟩
    rw [hln] at hV
    have HV : Hid (V i = .slice va ln vc) := hV
    have HLN : Hid ((F i).length = ln) := hln
    have hCi := CW.out i hli
    have bln : ln ≤ 1044 := by rw [← hln]; exact hCi.1
    have HCi : Hid (∀ k p, (F i)[k]? = some p → p.1 = (i : Int) ∨ (ln ≤ k + 20 ∧ p.1 = 100 + (i : Int))) := by unfold Hid; rw [← hln]; exact hCi.2
    have hC := hOu.at HC.out (Nat.le_refl _)
    obtain ⟨g, rfl, hcell, hfz, hnc, hcm, hgh, hgl, cs, hgc⟩ := hFO.at hli
    unfold maxLen at hcm
    rw [hV] at hcell
    have FO2 : Hid (FO w1.heap.size w2.heap.size wr (some ⟨g, 0, none⟩) pn pc V) := hFO
    have FI2 : Hid (FI w1.heap.size w2.heap.size w0.heap.size wr pn V F) := hFI
    have OU2 : Hid (Outs w1.heap.size w2.heap.size w0 wr) := hOu
    obtain ⟨c1, f1, y1⟩ := cells_at hC
    obtain ⟨wo, hwo⟩ : ∃ wo, wo = wr := ⟨_, rfl⟩
    rw [← hwo] at FO2 FI2 OU2 c1 f1 y1 hcell hfz ⊢
    clear hwo hFO hFI hOu hC hV hln hgc hCi
    go_wp2
    clear c1 f1 y1 hcell hfz
    go_loopw [110] (fun j wv => ∃ k : Nat, k ≤ ln ∧ j = .int .i64 k ∧ FO w1.heap.size w2.heap.size wv (some ⟨g, 0, none⟩) pn pc V ∧ FI w1.heap.size w2.heap.size w0.heap.size wv pn V F ∧ Outs w1.heap.size w2.heap.size w0 wv) (fun j _ => ln - (intOf j).toNat)
    case atStart => exact ⟨0, Nat.zero_le _, rfl, FO2.out, FI2.out, OU2.out⟩
    case round =>
    clear FO2 FI2 OU2
    obtain ⟨k, hk0, rfl, hFO, hFI, hOu⟩ := hrel
    by_cases hlk : k < ln
    · have hC := hOu.at HC.out (Nat.le_refl _)
      have hOi := hFI.1 i hli
      rw [HV.out, HLN.out] at hOi
      obtain ⟨x, p, rfl, hp, -, hcx⟩ := (owns_erow pcs_len hOi HLN.out).at hlk
      obtain ⟨p1, p2, p3, p4, p5, p6⟩ := p
      have hq : p1 = (i : Int) ∨ (ln ≤ k + 20 ∧ p1 = 100 + (i : Int)) := HCi.out k _ hp
      have hcellp : Hid (∀ j v, [.int .i64 p1, .int .i64 p2, .int .i64 p3, .int .i64 p4, .int .i64 p5, .int .i64 p6][j]? = some v → wr.cell? ((x.add (k * 6)).add j) = some v) := hcx
      obtain ⟨g', e', hcell, hfz, -, -, -, -, cs, hgc⟩ := hFO.at hli
      cases e'
      rw [HV.out] at hcell
      have hgz := lt_of_heap hgc
      have B0 : Hid ((wr.alloc (.cells #[.int .i64 p1, .int .i64 p2, .int .i64 p3, .int .i64 p4, .int .i64 p5, .int .i64 p6] 47)).heap[wr.heap.size]? = some (.cells #[.int .i64 p1, .int .i64 p2, .int .i64 p3, .int .i64 p4, .int .i64 p5, .int .i64 p6] 47 (0, 0))) := heap_alloc_new wr _
      have hE : Hid (FO w1.heap.size w2.heap.size (wr.alloc (.cells #[.int .i64 p1, .int .i64 p2, .int .i64 p3, .int .i64 p4, .int .i64 p5, .int .i64 p6] 47)) (some ⟨g, 0, none⟩) pn pc V ∧ FI w1.heap.size w2.heap.size w0.heap.size (wr.alloc (.cells #[.int .i64 p1, .int .i64 p2, .int .i64 p3, .int .i64 p4, .int .i64 p5, .int .i64 p6] 47)) pn V F ∧ Outs w1.heap.size w2.heap.size w0 (wr.alloc (.cells #[.int .i64 p1, .int .i64 p2, .int .i64 p3, .int .i64 p4, .int .i64 p5, .int .i64 p6] 47))) := ⟨hFO.below (bal wr _), hFI.below (bal wr _), hOu.bel (bal wr _)⟩
      obtain ⟨c1, f1, y1⟩ := cells_at hC
      obtain ⟨c2, f2, y2⟩ := cells_at B0.out
      clear hFO hFI hOu hC hOi hp hcx hgc
      rcases hq with rfl | ⟨hq1, rfl⟩
      · have hn1 : ((i : Int) != (i : Int)) = false := by simp
        go_wp2_with (first
          | (refine wpList_load_any rfl 47 (.tmp 113) rfl _ rfl [.int .i64 (i : Int), .int .i64 p2, .int .i64 p3, .int .i64 p4, .int .i64 p5, .int .i64 p6] _ hcellp.out Try.underlying47 rfl (show (Try.prog.info? 47).map (·.size) = some 6 by kernel_rfl) ?_)
          | (refine wpList_st_new rfl 47 (.tmp 15) (.tmp 114) rfl wr _ #[.int .i64 (i : Int), .int .i64 p2, .int .i64 p3, .int .i64 p4, .int .i64 p5, .int .i64 p6] rfl rfl (show (Try.prog.info? 47).map (·.size) = some 6 by kernel_rfl) rfl (by simp [Value.oneCell']) ?_))
        go_roundw
        case rel => exact ⟨k + 1, by omega, by go_num, hE.out.1, hE.out.2.1, hE.out.2.2⟩
        case measure => simp [intOf]; omega
      · have hn1 : ((100 + (i : Int)) != (i : Int)) = true := by simp; omega
        have hwr : IntKind.i64.wrap (100 + (i : Int)) = 100 + (i : Int) := by rw [IntKind.wrap_i64]; omega
        have hwl : IntKind.i64.wrap ((ln : Int) - 20) = (ln : Int) - 20 := by rw [IntKind.wrap_i64]; omega
        have hlt : decide ((k : Int) < (ln : Int) - 20) = false := by simp; omega
        have hlt2 : ¬ ((k : Int) < (ln : Int) - 20) := by omega
        go_wp2_with (first
          | (refine wpList_load_any rfl 47 (.tmp 113) rfl _ rfl [.int .i64 (100 + (i : Int)), .int .i64 p2, .int .i64 p3, .int .i64 p4, .int .i64 p5, .int .i64 p6] _ hcellp.out Try.underlying47 rfl (show (Try.prog.info? 47).map (·.size) = some 6 by kernel_rfl) ?_)
          | (refine wpList_st_new rfl 47 (.tmp 15) (.tmp 114) rfl wr _ #[.int .i64 (100 + (i : Int)), .int .i64 p2, .int .i64 p3, .int .i64 p4, .int .i64 p5, .int .i64 p6] rfl rfl (show (Try.prog.info? 47).map (·.size) = some 6 by kernel_rfl) rfl (by simp [Value.oneCell']) ?_))
        go_roundw
        case rel => exact ⟨k + 1, by omega, by go_num, hE.out.1, hE.out.2.1, hE.out.2.2⟩
        case measure => simp [intOf]; omega
    · have hE : Hid (FO w1.heap.size w2.heap.size wr (some ⟨g, 0, none⟩) pn pc V ∧ FI w1.heap.size w2.heap.size w0.heap.size wr pn V F ∧ Outs w1.heap.size w2.heap.size w0 wr) := ⟨hFO, hFI, hOu⟩
      clear hFO hFI hOu
      go_wp2
      go_roundw
      case rel => exact ⟨i + 1, by omega, by go_num, hE.out.1, hE.out.2.1, hE.out.2.2⟩
      case measure => simp [intOf]; omega
  have OU1 : Hid (Outs w1.heap.size w2.heap.size w0 wr) := hOu
  clear hFO hFI hOu CW
  have hD := OU1.out.at HD.out (by omega)
  have hK := OU1.out.at HK.out (by omega)
  have ED : Hid (ERow 2 scs wr sa rn sc R) := owns_erow scs_len (OU1.out.own OD.out) HL.out.1
  have QD : Hid (QRow wr qa pn qc P) := (OU1.out.qown PD.out).q
  have EK : Hid (ERow 2 scs wr ka rn kc R) := owns_erow scs_len (OU1.out.own OK.out) HL.out.1
  have QK : Hid (QRow wr la pn lc P) := (OU1.out.qown PK.out).q
  have BW : Hid (Below W.heap.size W wr) := (OU1.out.low zW1).below S7.out.below S7.out.size
  have hD' : Hid (wr.heap[w6.heap.size]? = some (.cells #[.slice sa rn sc, .slice qa pn qc] 25 (0, 0))) := hD
  have hK' : Hid (wr.heap[w4.heap.size]? = some (.cells #[.slice ka rn kc, .slice la pn lc] 25 (0, 0))) := hK
  have yD := lt_of_heap hD
  have yK := lt_of_heap hK
  obtain ⟨c1, f1, y1⟩ := cells_at hD
  clear hD hK OD PD OK PK OU1 S7
  go_wp2_with fail
  refine (encode_ok sa rn sc R qa pn qc P _ ED.out QD.out HF.out).mono ?_
  rintro e w8 ⟨v, rfl, own, nn, b8⟩
  obtain ⟨d, n, cc, rfl, R8, -⟩ := Own.rw own nn
  have B9 : Hid (Below wr.heap.size wr (w8.alloc (.cells #[.int .i64 0, .int .i64 0, .int .i64 0] 30))) := bt b8 (bal w8 (.cells #[.int .i64 0, .int .i64 0, .int .i64 0] 30))
  have V9 : Hid (Wr.Row _ (some d) n cc _) := R8.below (bal w8 (.cells #[.int .i64 0, .int .i64 0, .int .i64 0] 30))
  have A9 : Hid (Wr.Row _ a len cap zs) := HR.out _ (bt BW.out B9.out)
  obtain ⟨c2, f2, y2⟩ := cells_at (heap_alloc_new w8 (.cells #[.int .i64 0, .int .i64 0, .int .i64 0] 30))
  clear c1 f1 y1 own nn R8 b8
  go_wp2_with fail
  refine (sameb_any (some d) a n cc len cap _ zs _ V9.out A9.out).mono ?_
  rintro e w10 ⟨rfl, b10⟩
  rw [decide_eq_true HL.out.2.2.symm]
  have B10 : Hid (Below wr.heap.size wr w10) := bt B9.out b10
  obtain ⟨c1, f1, y1⟩ := cells_at ((B10.out.block _ yD).trans hD'.out)
  obtain ⟨c3, f3, y3⟩ := cells_at ((B10.out.block _ yK).trans hK'.out)
  clear b10 c2 f2 y2 V9 A9 B9
  go_wp2_with fail
  refine (rsame_any sa rn sc R qa pn qc P ka rn kc R la pn lc P _ (ED.out.below B10.out) (QD.out.below B10.out) (EK.out.below B10.out) (QK.out.below B10.out)).mono ?_
  rintro e w11 ⟨rfl, b11⟩
  rw [ceB_t]
  have hb : Hid (Below W.heap.size W w11) := bt BW.out (bt B10.out b11)
  clear b11
  go_wp2
  go_ret
  exact ⟨rfl, hb.out⟩
end Go.Proofs.Ythlnhodfgmpabaa.Sl
namespace Go.Proofs.Ythlnhodfgmpabaa
open Go.ChangeShapes Go.WideShapes Go.ChangeAt Go.RowKit
set_option linter.unusedVariables false
theorem sealMemory_walk (a : Option Addr) (len cap : Nat) (zs : List Int) (W : World) (h3 : IRow .u8 W a len cap zs) (r3 : len * 1 ≤ 140737488351232) :
    Calls Try.prog 7 #[.slice a len cap] W fun e w' => e = .returned (.bool true) ∧ Below W.heap.size W w' := Sl.sealMemory_w a len cap zs W (Sl.irow_row h3) (by omega)
end Go.Proofs.Ythlnhodfgmpabaa
