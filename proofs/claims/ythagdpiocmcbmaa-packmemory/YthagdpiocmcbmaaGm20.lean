/- The walk of PackMemory. Written by tools/gen/PmB.py. -/
import Derived.Test.YthagdpiocmcbmaaGm19
import Derived.Laws.BitsAllLaws
import Derived.Deep.CutBlock
import Derived.Deep.DeepCutAuto
/- The walk of PackMemory. Written by tools/gen/PmB.py. -/
namespace Go.Proofs.Ythagdpiocmcbmaa
open Wr
open Go.ChangeShapes Go.WideShapes Go.ChangeAt Go.RowKit
set_option linter.unusedVariables false
theorem own_gb {w : World} {base : Nat} {v : Value} {zs : List Int} (h : Wr.Own w base v zs) (hv : v ≠ .slice none 0 0) : ∃ g c n, v = .slice (some ⟨g, 0, none⟩) n c ∧ n = zs.length ∧ base ≤ g ∧ g < w.heap.size := by
  rcases h.shape with ⟨rfl, _⟩ | ⟨g, cap, rfl, hg, hlt, _⟩
  · exact absurd rfl hv
  · exact ⟨g, cap, _, rfl, rfl, hg, hlt⟩
theorem own_rw {w : World} {base g n c : Nat} {zs : List Int} (h : Wr.Own w base (.slice (some ⟨g, 0, none⟩) n c) zs) : Wr.Row w (some ⟨g, 0, none⟩) n c zs := by
  obtain ⟨a, cap, e, r, -⟩ := h.row
  simp only [Value.slice.injEq] at e
  obtain ⟨rfl, rfl, rfl⟩ := e
  exact r
theorem own_setb {w : World} {base g n cap k : Nat} {zs : List Int} {z : Int} (h : Wr.Own w base (.slice (some ⟨g, 0, none⟩) n cap) zs) (hz : 0 ≤ z ∧ z < 256) :
    Wr.Own (w.setCell ⟨g, k, none⟩ (.int .u8 z)) base (.slice (some ⟨g, 0, none⟩) n cap) (zs.set k z) := by
  have hn : n = zs.length := by
    rcases h.1.2 with ⟨h', _⟩ | ⟨g', cap', cur, h', _⟩
    · cases h'
    · simp only [Value.slice.injEq] at h'; exact h'.2.1
  subst hn
  have := h.1.stored k (.int .u8 z)
  refine ⟨?_, fun y hy => ?_⟩
  · rw [List.length_set, List.map_set]; exact this.1
  · rcases List.mem_or_eq_of_mem_set hy with h' | h'
    · exact h.2 y h'
    · rw [h']; exact hz
theorem own_keptb {w w' : World} {base g : Nat} {v : Value} {zs : List Int} (h : Wr.Own w base v zs) (k : Wr.Kept [g] w w') (hg : g < base) : Wr.Own w' base v zs :=
  h.kept (row := some g) ⟨k.1, k.2.1, k.2.2.1, k.2.2.2.1, fun i hi hne => k.2.2.2.2 i hi (fun e => hne (by simp at e; rw [e]))⟩ fun b e => by cases e; exact hg
theorem kept_gr {w w' : World} {g : Nat} (h : w.grownBy w' (some g)) : Wr.Kept [g] w w' := ⟨h.os, h.tape, h.output, h.size, fun i hi hne => h.block i hi (fun e => hne (by cases e; simp))⟩
theorem kept_bel {w w' : World} {g base : Nat} (k : Wr.Kept [g] w w') (h1 : base ≤ g) (h2 : base ≤ w.heap.size) : Below base w w' := ⟨k.1, k.2.1, k.2.2.1, k.2.2.2.1, fun i hi => k.2.2.2.2 i (by omega) (by simp; omega)⟩
theorem ownb_at {w : World} {base g n c j : Nat} {zs : List Int} (h : Wr.Own w base (.slice (some ⟨g, 0, none⟩) n c) zs) (hj : j < n) : ∃ z, w.cell? ⟨g, j, none⟩ = some (.int .u8 z) ∧ 0 ≤ z ∧ z < 256 ∧ (∀ i, w.frozen? ⟨g, i, none⟩ = false) ∧ g < w.heap.size ∧ zs.length = n ∧ n ≤ c ∧ c ≤ maxLen ∧ zs[j]? = some z := by
  have hb := h.2
  rcases h.shape with ⟨e, _⟩ | ⟨g', cap', e, hg, hlt, hn, hm, _, hc, hf⟩
  · cases e
  · simp only [Value.slice.injEq, Option.some.injEq, Addr.mk.injEq, and_true] at e
    obtain ⟨rfl, rfl, rfl⟩ := e
    have hz := hb _ (List.getElem_mem hj)
    have e : zs.getD j 0 = zs[j] := by simp [List.getD, hj]
    exact ⟨zs[j], by rw [hc j hj, e], hz.1, hz.2, hf, hlt, rfl, hn, hm, List.getElem?_eq_getElem hj⟩
theorem xorB {z : Int} (h0 : 0 ≤ z) (h1 : z < 256) : 0 ≤ bits .xor .u8 z 255 ∧ bits .xor .u8 z 255 < 256 := by
  rw [u8_xor z 255 h0 h1 (by omega) (by omega)]
  have : z.toNat ^^^ (255 : Int).toNat < 2 ^ 8 := Nat.xor_lt_two_pow (by omega) (by decide)
  omega
theorem row4 (w : World) : Wr.Row (w.alloc (.cells #[.int .u8 1, .int .u8 1, .int .u8 1, .int .u8 1] 5)) (some ⟨w.heap.size, 0, none⟩) 4 4 [1, 1, 1, 1] :=
  own_rw (base := w.heap.size) (Wr.own_lit w w.heap.size [1, 1, 1, 1] (fun z hz => by simp at hz; omega) (by unfold maxLen; simp) (Nat.le_refl _))
theorem dec_back2 {zs : List Int} {w w' : World} {r : Ending} {h v c lo hi ot t : Int} {n : Nat} {O : Nat → Nat → Int} {Z B : Nat → List Int} {L : List (Int × Int × Int)} {wk : Int} (hd : Dec zs w w' r) (l : Lens n O Z B) (hg : gtR O h v c lo hi ot n = (0, t, L, wk)) (hz : zs = eAll (dMod h v c lo hi ot n O Z B)) :
    ∃ (oa : Option Addr) (oc : Nat) (O' : Nat → Nat → Int) (Z' B' : Nat → List Int), r = .returned (.tuple #[.agg #[.int .i64 h, .int .i64 v, .int .i64 c, .int .i64 lo, .int .i64 hi, .slice oa n oc, .int .i64 ot], .agg #[.int .i64 0, .int .i64 0, .int .i64 0]]) ∧ CRow w' w.heap.size (.slice oa n oc) n O' Z' B' ∧ Agree n O' Z' B' O Z B := by
  have hp : pAll zs = .inr (dMod h v c lo hi ot n O Z B) := by rw [hz]; exact all_back (mod_fits hg l).1
  rcases hd with ⟨x, t, h1, -⟩ | ⟨h0, w0, c0, lo0, hi0, ot0, oa, m, oc, O', Z', B', x, t, L', wk', h1, h2, l', h3⟩
  · rw [hp] at h1; cases h1
  · rw [hp] at h1
    simp only [Sum.inr.injEq] at h1
    rcases h3 with ⟨hx, -⟩ | ⟨hx, hr, cr⟩
    · exfalso
      obtain ⟨rfl, rfl, rfl, rfl, rfl, rfl, rfl, ag⟩ := same_mod l l' h1
      rw [gtR_agree ag] at hg
      rw [hg] at h2
      simp only [Prod.mk.injEq] at h2
      exact hx h2.1.symm
    · obtain ⟨rfl, rfl, rfl, rfl, rfl, rfl, rfl, ag⟩ := same_mod l l' h1
      exact ⟨oa, oc, O', Z', B', hr, cr, ag.symm⟩
theorem crow_some {w : World} {base : Nat} {xa : Option Addr} {n xc : Nat} {O : Nat → Nat → Int} {Z B : Nat → List Int} (h : CRow w base (.slice xa n xc) n O Z B) (hn : 0 < n) : ∃ g, xa = some ⟨g, 0, none⟩ := by
  obtain ⟨xs, h1, -⟩ := h
  rcases h1.2 with ⟨e, h0⟩ | ⟨g, cap, cur, e, -⟩
  · omega
  · simp only [Value.slice.injEq] at e
    exact ⟨g, e.1⟩
theorem crow_keep {w w' : World} {base : Nat} {v : Value} {i : Nat} {O : Nat → Nat → Int} {Z B : Nat → List Int} (h : CRow w base v i O Z B) (q : ∀ k, base ≤ k → k < w.heap.size → w'.heap[k]? = w.heap[k]?) : CRow w' base v i O Z B := by
  have own : ∀ {k : IntKind} {T : TypeId} {v : Value} {zs : List Int}, Own k T w base v zs → Own k T w' base v zs := fun h => by
    refine ⟨⟨h.1.1, ?_⟩, h.2⟩
    rcases h.1.2 with h0 | ⟨g, cap, cur, h1, h2, h3, h4⟩
    · exact .inl h0
    · exact .inr ⟨g, cap, cur, h1, h2, (q g h2 (lt_of_heap h3)).trans h3, h4⟩
  obtain ⟨xs, h1, h2⟩ := h
  refine ⟨xs, ⟨h1.1, ?_⟩, fun r hr => ?_⟩
  · rcases h1.2 with h0 | ⟨g, cap, cur, e1, e2, e3, e4⟩
    · exact .inl h0
    · exact .inr ⟨g, cap, cur, e1, e2, (q g e2 (lt_of_heap e3)).trans e3, e4⟩
  · obtain ⟨wa, lw, cw, ba, lb, cb, e1, e2, e3, e4, e5, e6⟩ := h2 r hr
    exact ⟨wa, lw, cw, ba, lb, cb, e1, e2, e3, own e4, own e5, e6⟩
set_option maxHeartbeats 8000000 in
set_option maxRecDepth 100000 in
theorem packMemory_walk (h w c lo hi : Int) (oa : Option Addr) (on oc : Nat) (ot : Int) (W : World) (_ : (Lit.int .i64 h).wf = true) (_ : (Lit.int .i64 w).wf = true) (_ : (Lit.int .i64 c).wf = true) (_ : (Lit.int .i64 lo).wf = true) (_ : (Lit.int .i64 hi).wf = true)
    (wo : ORow 22 (OpIn W) W oa on oc) (hr : on * 208 ≤ 140737488351232) (_ : (Lit.int .i64 ot).wf = true) :
    Calls Try.prog 7 #[.agg #[.int .i64 h, .int .i64 w, .int .i64 c, .int .i64 lo, .int .i64 hi, .slice oa on oc, .int .i64 ot]] W fun e w' => e = .returned (.bool true) ∧ Below W.heap.size W w' := by
  rename_i x1 x2 x3 x4 x5 x6
  clear x1 x2 x3 x4 x5 x6
  obtain ⟨O, Z, B, hL⟩ := lrow_of wo
  clear wo
  obtain ⟨x, t, L, wk, hG⟩ : ∃ x t L wk, gtR O h w c lo hi ot on = (x, t, L, wk) := ⟨_, _, _, _, rfl⟩
  have s0 := (St.start W).new (c := #[.int .i64 h, .int .i64 w, .int .i64 c, .int .i64 lo, .int .i64 hi, .slice oa on oc, .int .i64 ot]) (t := 26)
  have L0 : Hid (LRow _ oa on oc O Z B) := hL.below s0.below
  have HL : Hid (LRow W oa on oc O Z B) := hL
  have S0 : Hid (St W _ _) := s0
  by_cases hx : ¬ x = 0
  · have hG' : Hid (gtR O h w c lo hi ot on = (x, t, L, wk)) := hG
    have hx' : Hid (x ≠ 0) := hx
    clear hG hL s0 hx
    go_enter Try.func7, Try.ntmps7
    go_wp2_with fail
    refine (encode_bad h w c lo hi ot oa on oc O Z B _ L0.out x t L wk hG'.out hx'.out).mono ?_
    rintro e w1 ⟨rfl, b1⟩
    have s1 := (S0.out.call b1).new (c := #[.int .i64 x, .int .i64 t, .int .i64 0]) (t := 31)
    have S1 : Hid (St W _ _) := s1
    have L1 : Hid (LRow _ oa on oc O Z B) := L0.out.below (bt b1 (bal _ (.cells #[.int .i64 x, .int .i64 t, .int .i64 0] 31)))
    obtain ⟨-, -, -, c2, f2, z2, -⟩ := s1.rules
    clear b1 s1 S0 L0
    go_wp2_with fail
    refine (encode_bad h w c lo hi ot oa on oc O Z B _ L1.out x t L wk hG'.out hx'.out).mono ?_
    rintro e w2 ⟨rfl, b2⟩
    have s2 := (S1.out.call b2).new (c := #[.int .i64 x, .int .i64 t, .int .i64 0]) (t := 31)
    have S2 : Hid (St W _ _) := s2
    clear b2 s2 S1 L1 c2 f2 z2
    go_wp2_with fail
    refine (fixed9_any _).mono ?_
    rintro e w3 ⟨rfl, b3⟩
    have s3 := S2.out.call b3
    have S3 : Hid (St W w3 _) := s3
    obtain ⟨-, -, -, c1, f1, z1, -⟩ := s3.rules
    clear b3 s3 S2
    have hx2 : (x == 0) = false := by simpa using hx'.out
    have hx3 : (x != 0) = true := by simpa using hx'.out
    go_wp2_with fail
    refine (fixed9_any _).mono ?_
    rintro e w4 ⟨rfl, b4⟩
    have hb : Hid (Below W.heap.size W w4) := (S3.out.call b4).below
    clear b4 c1 f1 z1
    go_wp2
    go_ret
    exact ⟨rfl, hb.out⟩
  obtain rfl : x = 0 := Decidable.not_not.1 hx
  clear hx
  have hG' : Hid (gtR O h w c lo hi ot on = (0, t, L, wk)) := hG
  have hln : Hid (Lens on O Z B) := lens_of hL
  have hfit := mod_fits hG (lens_of hL)
  have hle : Hid ((eAll (dMod h w c lo hi ot on O Z B)).length ≤ 100000000) := eAll_le hfit.2.1 hfit.2.2
  have hpos : Hid (0 < (eAll (dMod h w c lo hi ot on O Z B)).length) := by unfold Hid eAll; simp [head4]
  clear hG hL s0 hfit
  go_enter Try.func7, Try.ntmps7
  go_wp2_with fail
  refine (encode_ok h w c lo hi ot oa on oc O Z B _ L0.out t L wk hG'.out).mono ?_
  rintro e w1 ⟨v, rfl, own, nn, b1⟩
  obtain ⟨gb, cb, bn, rfl, hbn, hgb, hgb1⟩ := own_gb own nn
  have hbn' : Hid (bn = (eAll (dMod h w c lo hi ot on O Z B)).length) := hbn
  simp only [World.size_alloc] at hgb
  have s1 := (S0.out.call b1).new (c := #[.int .i64 0, .int .i64 0, .int .i64 0]) (t := 31)
  have B1 := bt b1 (bal w1 (.cells #[.int .i64 0, .int .i64 0, .int .i64 0] 31))
  have L1 : Hid (LRow _ oa on oc O Z B) := L0.out.below B1
  have V1 : Hid (Wr.Own _ (W.heap.size + 1) (.slice (some ⟨gb, 0, none⟩) bn cb) (eAll (dMod h w c lo hi ot on O Z B))) := (own.base (by simp)).below (bal w1 (.cells #[.int .i64 0, .int .i64 0, .int .i64 0] 31))
  have S1 : Hid (St W _ _) := s1
  obtain ⟨-, -, -, c2, f2, z2, -⟩ := s1.rules
  clear own nn b1 s1 B1 L0 S0 hbn
  go_wp2_with fail
  refine (encode_ok h w c lo hi ot oa on oc O Z B _ L1.out t L wk hG'.out).mono ?_
  rintro e w2 ⟨v, rfl, own, nn, b2⟩
  obtain ⟨gc, cc, cn, rfl, hcn, hgc, hgc1⟩ := own_gb own nn
  simp only [World.size_alloc] at hgc
  have hcn' : Hid (cn = (eAll (dMod h w c lo hi ot on O Z B)).length) := hcn
  clear hcn
  have s2 := (S1.out.call b2).new (c := #[.int .i64 0, .int .i64 0, .int .i64 0]) (t := 31)
  have B2 := bt b2 (bal w2 (.cells #[.int .i64 0, .int .i64 0, .int .i64 0] 31))
  have L2 : Hid (LRow _ oa on oc O Z B) := L1.out.below B2
  have V2 : Hid (Wr.Own _ (W.heap.size + 1) (.slice (some ⟨gb, 0, none⟩) bn cb) (eAll (dMod h w c lo hi ot on O Z B))) := V1.out.below B2
  have C2 : Hid (Wr.Own _ (w1.heap.size + 1) (.slice (some ⟨gc, 0, none⟩) cn cc) (eAll (dMod h w c lo hi ot on O Z B))) := (own.base (by simp)).below (bal w2 (.cells #[.int .i64 0, .int .i64 0, .int .i64 0] 31))
  have S2 : Hid (St W _ _) := s2
  clear c2 f2 z2 own nn b2 s2 B2 L1 V1 S1
  have e2 : w1.heap.size + 1 < w2.heap.size := by omega
  go_wp2_with fail
  refine (fixed9_any _).mono ?_
  rintro e w3 ⟨rfl, b3⟩
  have s3 := S2.out.call b3
  have L3 : Hid (LRow w3 oa on oc O Z B) := L2.out.below b3
  have V3 : Hid (Wr.Own w3 (W.heap.size + 1) (.slice (some ⟨gb, 0, none⟩) bn cb) (eAll (dMod h w c lo hi ot on O Z B))) := V2.out.below b3
  have C3 : Hid (Wr.Own w3 (w1.heap.size + 1) (.slice (some ⟨gc, 0, none⟩) cn cc) (eAll (dMod h w c lo hi ot on O Z B))) := C2.out.below b3
  have e3 : w2.heap.size + 1 ≤ w3.heap.size := by have := b3.size; simp at this; omega
  have S3 : Hid (St W w3 _) := s3
  obtain ⟨-, -, -, c2, f2, z2, -⟩ := s3.rules
  clear b3 s3 L2 V2 C2 S2
  have b4 : Hid (Below w3.heap.size w3 (w3.alloc (.cells #[] 5))) := bal _ _
  have own4 : Hid (Wr.Own (w3.alloc (.cells #[] 5)) w3.heap.size (.slice (some ⟨w3.heap.size, 0, none⟩) 0 0) []) := Wr.own_lit w3 w3.heap.size [] Byt.nil (by simp) (Nat.le_refl _)
  go_wp2_with (at_builtin; refine Wr.wpList_app rfl (.tmp 35) (.tmp 36) rfl w3.heap.size (.slice (some ⟨w3.heap.size, 0, none⟩) 0 0) [] (eAll (dMod h w c lo hi ot on O Z B)) rfl own4.out _ _ _ rfl ((own_rw V3.out).below b4.out) (by have := hle.out; simp; omega) (by simp) ?_; intro v5 w5 own5 gr5 nn5)
  have b5 : Below w3.heap.size w3 w5 := own4.out.bel b4.out gr5 b4.out.size
  rw [List.nil_append] at own5
  obtain ⟨gk, ck, kn, rfl, hkn, hgk, hgk1⟩ := own_gb own5 (nn5 (by simp))
  have hkn' : Hid (kn = (eAll (dMod h w c lo hi ot on O Z B)).length) := hkn
  clear hkn
  have S5 : Hid (St W w5 _) := S3.out.call b5
  have L5 : Hid (LRow w5 oa on oc O Z B) := L3.out.below b5
  have V5 : Hid (Wr.Own w5 (W.heap.size + 1) (.slice (some ⟨gb, 0, none⟩) bn cb) (eAll (dMod h w c lo hi ot on O Z B))) := V3.out.below b5
  have C5 : Hid (Wr.Own w5 (w1.heap.size + 1) (.slice (some ⟨gc, 0, none⟩) cn cc) (eAll (dMod h w c lo hi ot on O Z B))) := C3.out.below b5
  have K5 : Hid (Wr.Own w5 w3.heap.size (.slice (some ⟨gk, 0, none⟩) kn ck) (eAll (dMod h w c lo hi ot on O Z B))) := own5
  have e5 : w3.heap.size ≤ w5.heap.size := b5.size
  clear own5 gr5 nn5 b5 b4 own4 S3 L3 V3 C3 c2 f2 z2
  go_wp2_with fail
  refine (decode_any (some ⟨gb, 0, none⟩) bn cb _ _ (own_rw V5.out) (by have := hbn'.out; have := hle.out; omega)).mono ?_
  rintro e w6 ⟨hd, b6⟩
  obtain ⟨xa, xc, O', Z', B', rfl, cx, -⟩ := dec_back2 hd hln.out hG'.out rfl
  have s6 := ((S5.out.call b6).new (c := #[.int .i64 h, .int .i64 w, .int .i64 c, .int .i64 lo, .int .i64 hi, .slice xa on xc, .int .i64 ot]) (t := 26)).new (c := #[.int .i64 0, .int .i64 0, .int .i64 0]) (t := 31)
  simp only [World.size_alloc] at s6
  have B6 := bt (bal w6 (.cells #[.int .i64 h, .int .i64 w, .int .i64 c, .int .i64 lo, .int .i64 hi, .slice xa on xc, .int .i64 ot] 26)) (bal _ (.cells #[.int .i64 0, .int .i64 0, .int .i64 0] 31))
  have L6 : Hid (LRow _ oa on oc O Z B) := (L5.out.below b6).below B6
  have V6 : Hid (Wr.Own _ (W.heap.size + 1) (.slice (some ⟨gb, 0, none⟩) bn cb) (eAll (dMod h w c lo hi ot on O Z B))) := (V5.out.below b6).below B6
  have C6 : Hid (Wr.Own _ (w1.heap.size + 1) (.slice (some ⟨gc, 0, none⟩) cn cc) (eAll (dMod h w c lo hi ot on O Z B))) := (C5.out.below b6).below B6
  have K6 : Hid (Wr.Own _ w3.heap.size (.slice (some ⟨gk, 0, none⟩) kn ck) (eAll (dMod h w c lo hi ot on O Z B))) := (K5.out.below b6).below B6
  have X6 : Hid (CRow w6 w5.heap.size (.slice xa on xc) on O' Z' B') := cx
  have X6' : Hid (Below w6.heap.size w6 ((w6.alloc (.cells #[.int .i64 h, .int .i64 w, .int .i64 c, .int .i64 lo, .int .i64 hi, .slice xa on xc, .int .i64 ot] 26)).alloc (.cells #[.int .i64 0, .int .i64 0, .int .i64 0] 31))) := B6
  have b65 : Hid (Below w5.heap.size w5 ((w6.alloc (.cells #[.int .i64 h, .int .i64 w, .int .i64 c, .int .i64 lo, .int .i64 hi, .slice xa on xc, .int .i64 ot] 26)).alloc (.cells #[.int .i64 0, .int .i64 0, .int .i64 0] 31))) := bt b6 B6
  have e6 : w5.heap.size ≤ w6.heap.size := b6.size
  have S6 : Hid (St W _ _) := s6
  clear hd b6 s6 B6 L5 S5 cx
  go_wp2_with fail
  refine (decode_any (some ⟨gb, 0, none⟩) bn cb _ _ (own_rw V6.out) (by have := hbn'.out; have := hle.out; omega)).mono ?_
  rintro e w7 ⟨hd, b7⟩
  obtain ⟨ya, yc, O2, Z2, B2, rfl, cy, ag⟩ := dec_back2 hd hln.out hG'.out rfl
  have s8 := ((S6.out.call b7).new (c := #[.int .i64 h, .int .i64 w, .int .i64 c, .int .i64 lo, .int .i64 hi, .slice ya on yc, .int .i64 ot]) (t := 26)).new (c := #[.int .i64 0, .int .i64 0, .int .i64 0]) (t := 31)
  simp only [World.size_alloc] at s8
  have B8 := bt (bal w7 (.cells #[.int .i64 h, .int .i64 w, .int .i64 c, .int .i64 lo, .int .i64 hi, .slice ya on yc, .int .i64 ot] 26)) (bal _ (.cells #[.int .i64 0, .int .i64 0, .int .i64 0] 31))
  have hg7 : w6.heap.size + 1 + 1 ≤ w7.heap.size := by have := b7.size; simp at this; omega
  have B78 := bt b7 B8
  obtain ⟨ws, hws⟩ : ∃ ws, ws = ((w7.alloc (.cells #[.int .i64 h, .int .i64 w, .int .i64 c, .int .i64 lo, .int .i64 hi, .slice ya on yc, .int .i64 ot] 26)).alloc (.cells #[.int .i64 0, .int .i64 0, .int .i64 0] 31)) := ⟨_, rfl⟩
  rw [← hws] at s8 B8 B78
  have S8 : Hid (St W ws _) := s8
  have L8 : Hid (LRow ws oa on oc O Z B) := L6.out.below B78
  have V8 : Hid (Wr.Own ws (W.heap.size + 1) (.slice (some ⟨gb, 0, none⟩) bn cb) (eAll (dMod h w c lo hi ot on O Z B))) := V6.out.below B78
  have C8 : Hid (Wr.Own ws (w1.heap.size + 1) (.slice (some ⟨gc, 0, none⟩) cn cc) (eAll (dMod h w c lo hi ot on O Z B))) := C6.out.below B78
  have K8 : Hid (Wr.Own ws w3.heap.size (.slice (some ⟨gk, 0, none⟩) kn ck) (eAll (dMod h w c lo hi ot on O Z B))) := K6.out.below B78
  have X8 : Hid (CRow ws w5.heap.size (.slice xa on xc) on O' Z' B') := (X6.out.below X6'.out).below B78
  have Y8 : Hid (CRow ws (w6.heap.size + 1 + 1) (.slice ya on yc) on O2 Z2 B2) := by
    have := cy.below B8
    simp only [World.size_alloc] at this
    exact this
  have X6s : Hid (∀ g, xa = some ⟨g, 0, none⟩ → XO w5.heap.size w6.heap.size ws.heap.size ws g on xc 0) := fun g hg => by
    subst hg
    exact XO.of X6.out (Nat.le_refl _) (X6'.out.trans (B78.mono (by simp; omega)))
  have b5s : Hid (Below w5.heap.size w5 ws) := b65.out.trans (B78.mono (by simp; omega))
  have AG : Hid (Agree on O2 Z2 B2 O Z B) := ag
  have hN8 : Hid (ws.heap.size = w7.heap.size + 1 + 1) := by unfold Hid; rw [hws]; simp
  clear hd b7 B8 B78 cy ag L6 V6 C6 K6 X6 X6' b65 S6
  have hXF := s8.h3
  have hYF := s8.h1
  rw [hws] at hXF hYF
  obtain ⟨c1, f1, z1⟩ := cells_at hXF
  obtain ⟨c2, f2, z2⟩ := cells_at hYF
  clear hXF hYF s8
  go_upto_region 10 with fail
  rw [← hws]
  clear hws c1 f1 z1 c2 f2 z2
  have hXB : Hid (ws.heap[w6.heap.size]? = some (.cells #[.int .i64 h, .int .i64 w, .int .i64 c, .int .i64 lo, .int .i64 hi, .slice xa on xc, .int .i64 ot] 26 (0, 0))) := S8.out.h4
  obtain ⟨cX, fX, zX⟩ := cells_at hXB.out
  have hN8' : ws.heap.size = w7.heap.size + 1 + 1 := hN8.out
  go_upto_block 0 with fail
  clear cX fX zX
  go_cut [] (fun wx => Sf w5.heap.size w6.heap.size ws.heap.size ws wx)
  case first =>
    go_wp2_with fail
    go_loopw [59] (fun i wr => ∃ k : Nat, k ≤ on ∧ i = .int .i64 k ∧ Sf w5.heap.size w6.heap.size ws.heap.size ws wr ∧ ∀ g, xa = some ⟨g, 0, none⟩ → XO w5.heap.size w6.heap.size ws.heap.size wr g on xc k) (fun i _ => on - (intOf i).toNat)
    case atStart => exact ⟨0, Nat.zero_le _, rfl, Sf.refl _ _ _ _, X6s.out⟩
    case round =>
      obtain ⟨k, hk, rfl, hS, hXO⟩ := hrel
      have hS'1 : Hid (Sf w5.heap.size w6.heap.size ws.heap.size ws wr) := hS
      by_cases hlk : k < on
      · obtain ⟨wo, rfl⟩ : ∃ wo, wo = wr := ⟨_, rfl⟩
        obtain ⟨g, rfl⟩ := crow_some X8.out (by omega)
        have hxo := hXO g rfl
        have hXO'1 : Hid (XO w5.heap.size w6.heap.size ws.heap.size wo g on xc k) := hxo
        have hxb1 : Hid (wo.heap[w6.heap.size]? = some (.cells #[.int .i64 h, .int .i64 w, .int .i64 c, .int .i64 lo, .int .i64 hi, .slice (some ⟨g, 0, none⟩) on xc, .int .i64 ot] 26 (0, 0))) := (hS.y w6.heap.size (Nat.le_refl _) (by omega)).trans hXB.out
        obtain ⟨cX, fX, zX⟩ := cells_at hxb1.out
        obtain ⟨g1, g2, g3, g4, cur, g5, g6, g7⟩ := hxo
        obtain ⟨wa, lw, cw, ba, lb, cb', a12, a13, lW, lB, rB, rW⟩ := g7 k hlk
        have rW := rW (Nat.le_refl _)
        have LW1 : Hid (LW w5.heap.size w6.heap.size ws.heap.size wo .i16 51 wa lw cw) := lW
        have LB1 : Hid (LW w5.heap.size w6.heap.size ws.heap.size wo .i32 21 ba lb cb') := lB
        have G51 : Hid (wo.heap[g]? = some (.cells cur 50 (0, 0))) := g5
        have hcs : k * 22 + 22 ≤ cur.size := by rw [g6]; omega
        obtain ⟨cG, fG, zG⟩ := cells_at g5
        clear hS hXO lW lB g7 g5
        go_upto_block 2 with fail
        clear cX fX zX cG fG zG
        go_cut [] (fun wx => Sf w5.heap.size w6.heap.size ws.heap.size wo wx ∧ wx.heap[g]? = wo.heap[g]?)
        case first =>
          go_wp2_with fail
          go_loopw [69] (fun i wq => ∃ j : Nat, j ≤ lw ∧ i = .int .i64 j ∧ Sf w5.heap.size w6.heap.size ws.heap.size wo wq ∧ wq.heap[g]? = wo.heap[g]?) (fun i _ => lw - (intOf i).toNat)
          case atStart => exact ⟨0, Nat.zero_le _, rfl, Sf.refl _ _ _ _, rfl⟩
          case round =>
            obtain ⟨j, hj, rfl, hT, hg⟩ := hrel
            have hT' : Hid (Sf w5.heap.size w6.heap.size ws.heap.size wo wr) := hT
            have hg' : Hid (wr.heap[g]? = wo.heap[g]?) := hg
            by_cases hjl : j < lw
            · have h1 := LW1.out.sf hT kt2_16
              rcases h1 with ⟨-, h0, -⟩ | ⟨gw, cu, ha, q1, q2, q3, q4, q5, q6, q7⟩
              · omega
              · obtain ⟨z, hz⟩ := q7 j hjl
                subst ha
                have G6 := hg.trans G51.out
                have X6 := (hT.y w6.heap.size (Nat.le_refl _) (by omega)).trans hxb1.out
                have Q3 : Hid (wr.heap[gw]? = some (.cells cu 51 (0, 0))) := q3
                have hgn : Hid (g ≠ gw) := ne_ty q3 G6 (by decide)
                obtain ⟨cX, fX, zX⟩ := cells_at X6
                obtain ⟨cG, fG, zG⟩ := cells_at G6
                obtain ⟨cW, fW, zW⟩ := cells_at q3
                have hjs : j < cu.size := by omega
                clear hT hg q7 G6 X6 q3
                go_wp2
                go_roundw
                case rel => exact ⟨j + 1, by omega, by go_num, hT'.out.trans (Sf.num kt2_16 q1 q2 Q3.out), (Below.heap_setCell _ _ _ _ hgn.out).trans hg'.out⟩
                case measure => simp [intOf]; omega
            · clear hT hg
              go_wp2
              go_meet
              exact ⟨hT'.out, hg'.out⟩
        case rest =>
        obtain ⟨wp, rfl⟩ : ∃ wo, wo = wc := ⟨_, rfl⟩
        obtain ⟨ht, hg⟩ := hcut
        have hS'2 : Hid (Sf w5.heap.size w6.heap.size ws.heap.size ws wp) := hS'1.out.trans ht
        have hXO'2 : Hid (XO w5.heap.size w6.heap.size ws.heap.size wp g on xc k) := hXO'1.out.sf ht hg
        have LW2 : Hid (LW w5.heap.size w6.heap.size ws.heap.size wp .i16 51 wa lw cw) := LW1.out.sf ht kt2_16
        have LB2 : Hid (LW w5.heap.size w6.heap.size ws.heap.size wp .i32 21 ba lb cb') := LB1.out.sf ht kt2_32
        have G52 : Hid (wp.heap[g]? = some (.cells cur 50 (0, 0))) := hg.trans G51.out
        have hxb2 : Hid (wp.heap[w6.heap.size]? = some (.cells #[.int .i64 h, .int .i64 w, .int .i64 c, .int .i64 lo, .int .i64 hi, .slice (some ⟨g, 0, none⟩) on xc, .int .i64 ot] 26 (0, 0))) := (ht.y w6.heap.size (Nat.le_refl _) (by omega)).trans hxb1.out
        obtain ⟨cX, fX, zX⟩ := cells_at hxb2.out
        obtain ⟨cG, fG, zG⟩ := cells_at G52.out
        clear ht hg hS'1 hXO'1 LW1 LB1 G51 hxb1
        go_upto_block 4 with fail
        clear cX fX zX cG fG zG
        go_cut [] (fun wx => Sf w5.heap.size w6.heap.size ws.heap.size wp wx ∧ wx.heap[g]? = wp.heap[g]?)
        case first =>
          go_wp2_with fail
          go_loopw [91] (fun i wq => ∃ j : Nat, j ≤ lb ∧ i = .int .i64 j ∧ Sf w5.heap.size w6.heap.size ws.heap.size wp wq ∧ wq.heap[g]? = wp.heap[g]?) (fun i _ => lb - (intOf i).toNat)
          case atStart => exact ⟨0, Nat.zero_le _, rfl, Sf.refl _ _ _ _, rfl⟩
          case round =>
            obtain ⟨j, hj, rfl, hT, hg⟩ := hrel
            have hT' : Hid (Sf w5.heap.size w6.heap.size ws.heap.size wp wr) := hT
            have hg' : Hid (wr.heap[g]? = wp.heap[g]?) := hg
            by_cases hjl : j < lb
            · have h1 := LB2.out.sf hT kt2_32
              rcases h1 with ⟨-, h0, -⟩ | ⟨gw, cu, ha, q1, q2, q3, q4, q5, q6, q7⟩
              · omega
              · obtain ⟨z, hz⟩ := q7 j hjl
                subst ha
                have G6 := hg.trans G52.out
                have X6 := (hT.y w6.heap.size (Nat.le_refl _) (by omega)).trans hxb2.out
                have Q3 : Hid (wr.heap[gw]? = some (.cells cu 21 (0, 0))) := q3
                have hgn : Hid (g ≠ gw) := ne_ty q3 G6 (by decide)
                obtain ⟨cX, fX, zX⟩ := cells_at X6
                obtain ⟨cG, fG, zG⟩ := cells_at G6
                obtain ⟨cW, fW, zW⟩ := cells_at q3
                have hjs : j < cu.size := by omega
                clear hT hg q7 G6 X6 q3
                go_wp2
                go_roundw
                case rel => exact ⟨j + 1, by omega, by go_num, hT'.out.trans (Sf.num kt2_32 q1 q2 Q3.out), (Below.heap_setCell _ _ _ _ hgn.out).trans hg'.out⟩
                case measure => simp [intOf]; omega
            · clear hT hg
              go_wp2
              go_meet
              exact ⟨hT'.out, hg'.out⟩
        case rest =>
        obtain ⟨wq, rfl⟩ : ∃ wo, wo = wc := ⟨_, rfl⟩
        obtain ⟨ht, hg⟩ := hcut
        have hS'3 : Hid (Sf w5.heap.size w6.heap.size ws.heap.size ws wq) := hS'2.out.trans ht
        have hXO'3 : Hid (XO w5.heap.size w6.heap.size ws.heap.size wq g on xc k) := hXO'2.out.sf ht hg
        have LW3 : Hid (LW w5.heap.size w6.heap.size ws.heap.size wq .i16 51 wa lw cw) := LW2.out.sf ht kt2_16
        have LB3 : Hid (LW w5.heap.size w6.heap.size ws.heap.size wq .i32 21 ba lb cb') := LB2.out.sf ht kt2_32
        have G53 : Hid (wq.heap[g]? = some (.cells cur 50 (0, 0))) := hg.trans G52.out
        have hxb3 : Hid (wq.heap[w6.heap.size]? = some (.cells #[.int .i64 h, .int .i64 w, .int .i64 c, .int .i64 lo, .int .i64 hi, .slice (some ⟨g, 0, none⟩) on xc, .int .i64 ot] 26 (0, 0))) := (ht.y w6.heap.size (Nat.le_refl _) (by omega)).trans hxb2.out
        obtain ⟨cX, fX, zX⟩ := cells_at hxb3.out
        obtain ⟨cG, fG, zG⟩ := cells_at G53.out
        clear ht hg hS'2 hXO'2 LW2 LB2 G52 hxb2
        go_upto_region 23 with fail
        have hsz : w5.heap.size ≤ wq.heap.size ∧ ws.heap.size ≤ wq.heap.size := by have := hS'3.out.b.size; omega
        obtain ⟨hsz1, hsz2⟩ := hsz
        have LWd : Hid (LW w5.heap.size w6.heap.size ws.heap.size wq.drew .i16 51 wa lw cw) := LW3.out.sf (Sf.drew _ _ _ _) kt2_16
        have G5d : Hid (wq.drew.heap[g]? = some (.cells cur 50 (0, 0))) := G53.out
        have hxd : Hid (wq.drew.heap[w6.heap.size]? = some (.cells #[.int .i64 h, .int .i64 w, .int .i64 c, .int .i64 lo, .int .i64 hi, .slice (some ⟨g, 0, none⟩) on xc, .int .i64 ot] 26 (0, 0))) := hxb3.out
        have hXd : Hid (XO w5.heap.size w6.heap.size ws.heap.size wq.drew g on xc k) := hXO'3.out.sf (Sf.drew _ _ _ _) rfl
        have hSd : Hid (Sf w5.heap.size w6.heap.size ws.heap.size ws wq.drew) := hS'3.out.trans (Sf.drew _ _ _ _)
        obtain ⟨v0, hv0⟩ : ∃ v0, cur[k * 22]? = some v0 := ⟨cur[k * 22]'(by omega), Array.getElem?_eq_getElem (by omega)⟩
        clear LW3 LB3 G53 hxb3 hXO'3 hS'3
        go_cut [] (fun wx => Sf w5.heap.size w6.heap.size ws.heap.size ws wx ∧ XO w5.heap.size w6.heap.size ws.heap.size wx g on xc (k + 1) ∧ (∃ cur2 : Array Value, wx.heap[g]? = some (.cells cur2 50 (0, 0)) ∧ ∃ v, cur2[k * 22]? = some v) ∧ wx.heap[w6.heap.size]? = some (.cells #[.int .i64 h, .int .i64 w, .int .i64 c, .int .i64 lo, .int .i64 hi, .slice (some ⟨g, 0, none⟩) on xc, .int .i64 ot] 26 (0, 0)))
        case first =>
          go_region_law ((refine step_app3 rfl (.tmp 114) (.tmp 115) rfl rfl rfl LWd.out (by omega) hsz1 hsz2 ?_; intro a3 c3 w3 l3 s3 r3; have G3 := r3 g cur G5d.out; have x3 := (s3.y w6.heap.size (Nat.le_refl _) (by omega)).trans hxd.out; obtain ⟨cX3, fX3, zX3⟩ := cells_at x3; obtain ⟨cG3, fG3, zG3⟩ := cells_at G3))
          all_goals
            have gx : g ≠ w6.heap.size := ne_ty x3 G3 (by decide)
            have hE : Hid (Sf w5.heap.size w6.heap.size ws.heap.size ws (w3.setCell ⟨g, k * 22 + 12, none⟩ (.slice a3 (lw + 3) c3)) ∧ XO w5.heap.size w6.heap.size ws.heap.size (w3.setCell ⟨g, k * 22 + 12, none⟩ (.slice a3 (lw + 3) c3)) g on xc (k + 1)) := ⟨(hSd.out.trans s3).trans (Sf.op g1 g2 G3), XO.setW (hXd.out.sf s3 (G3.trans G5d.out.symm)) l3 hlk⟩
            have x4 : (w3.setCell ⟨g, k * 22 + 12, none⟩ (.slice a3 (lw + 3) c3)).heap[w6.heap.size]? = some (.cells #[.int .i64 h, .int .i64 w, .int .i64 c, .int .i64 lo, .int .i64 hi, .slice (some ⟨g, 0, none⟩) on xc, .int .i64 ot] 26 (0, 0)) := (Below.heap_setCell _ _ _ _ (fun e => gx e.symm)).trans x3
            have G4 : (w3.setCell ⟨g, k * 22 + 12, none⟩ (.slice a3 (lw + 3) c3)).heap[g]? = some (.cells (cur.setIfInBounds (k * 22 + 12) (.slice a3 (lw + 3) c3)) 50 (0, 0)) := heap_setCell_at G3
            have hv1 : (cur.setIfInBounds (k * 22 + 12) (.slice a3 (lw + 3) c3))[k * 22]? = some v0 := by rw [Array.getElem?_setIfInBounds, if_neg (by omega)]; exact hv0
            go_wp2_with fail
            go_meet
            exact ⟨hE.out.1, hE.out.2, ⟨_, G4, _, hv1⟩, x4⟩
        case rest =>
        obtain ⟨s4, o4, ⟨cur2, G4, v4, hv4⟩, x4⟩ := hcut
        obtain ⟨wt, rfl⟩ : ∃ wo, wo = wc := ⟨_, rfl⟩
        have hE2 : Hid (Sf w5.heap.size w6.heap.size ws.heap.size ws (wt.setCell ⟨g, k * 22, none⟩ (.int .i64 77)) ∧ XO w5.heap.size w6.heap.size ws.heap.size (wt.setCell ⟨g, k * 22, none⟩ (.int .i64 77)) g on xc (k + 1)) := ⟨s4.trans (Sf.op g1 g2 G4), XO.setK o4 hlk⟩
        clear s4 o4 cX fX zX cG fG zG
        obtain ⟨cX, fX, zX⟩ := cells_at x4
        obtain ⟨cG, fG, zG⟩ := cells_at G4
        clear x4 G4
        go_wp2
        go_roundw
        case rel => exact ⟨k + 1, by omega, by go_num, hE2.out.1, fun g' e => by cases e; exact hE2.out.2⟩
        case measure => simp [intOf]; omega
      · go_wp2
        go_meet
        exact hS'1.out
  case rest =>
  obtain ⟨wv, rfl⟩ : ∃ wo, wo = wc := ⟨_, rfl⟩
  have hbv : Below w5.heap.size w5 wv := b5s.out.trans hcut.b
  have V9 : Hid (Wr.Own wv (W.heap.size + 1) (.slice (some ⟨gb, 0, none⟩) bn cb) (eAll (dMod h w c lo hi ot on O Z B))) := V5.out.below hbv
  have C9 : Hid (Wr.Own wv (w1.heap.size + 1) (.slice (some ⟨gc, 0, none⟩) cn cc) (eAll (dMod h w c lo hi ot on O Z B))) := C5.out.below hbv
  have K9 : Hid (Wr.Own wv w3.heap.size (.slice (some ⟨gk, 0, none⟩) kn ck) (eAll (dMod h w c lo hi ot on O Z B))) := K5.out.below hbv
  have Y9 : Hid (CRow wv (w6.heap.size + 1 + 1) (.slice ya on yc) on O2 Z2 B2) := crow_keep Y8.out fun k h1 h2 => hcut.y k (by omega) h2
  have hW5 : W.heap.size < w5.heap.size := by omega
  have hB9 : Hid (Below W.heap.size W wv) := S8.out.below.trans (hcut.b.mono (by omega))
  have hmb : Hid (wv.heap[W.heap.size]? = some (.cells #[.int .i64 h, .int .i64 w, .int .i64 c, .int .i64 lo, .int .i64 hi, .slice oa on oc, .int .i64 ot] 26 (0, 0))) := (hcut.b.block _ hW5).trans (S8.out.2 (W.heap.size, #[.int .i64 h, .int .i64 w, .int .i64 c, .int .i64 lo, .int .i64 hi, .slice oa on oc, .int .i64 ot], 26) (by simp)).1
  have hyb : Hid (wv.heap[w7.heap.size]? = some (.cells #[.int .i64 h, .int .i64 w, .int .i64 c, .int .i64 lo, .int .i64 hi, .slice ya on yc, .int .i64 ot] 26 (0, 0))) := (hcut.y _ (by omega) (by omega)).trans S8.out.h2
  have hsv : ws.heap.size ≤ wv.heap.size := hcut.b.size
  clear hbv hcut V5 C5 K5 b5s V8 C8 K8 X8 Y8 S8 L8 hXB X6s
  go_wp2_with fail
  refine (sameb_any (some ⟨gb, 0, none⟩) (some ⟨gk, 0, none⟩) bn cb kn ck _ _ _ (own_rw V9.out) (own_rw K9.out)).mono ?_
  rintro e wA ⟨rfl, bA⟩
  rw [decide_eq_true rfl]
  have VA : Hid (Wr.Own wA (W.heap.size + 1) (.slice (some ⟨gb, 0, none⟩) bn cb) (eAll (dMod h w c lo hi ot on O Z B))) := V9.out.below bA
  have CA : Hid (Wr.Own wA (w1.heap.size + 1) (.slice (some ⟨gc, 0, none⟩) cn cc) (eAll (dMod h w c lo hi ot on O Z B))) := C9.out.below bA
  have KA : Hid (Wr.Own wA w3.heap.size (.slice (some ⟨gk, 0, none⟩) kn ck) (eAll (dMod h w c lo hi ot on O Z B))) := K9.out.below bA
  have YA : Hid (CRow wA (w6.heap.size + 1 + 1) (.slice ya on yc) on O2 Z2 B2) := Y9.out.below bA
  have hBA : Hid (Below W.heap.size W wA) := hB9.out.trans (bA.mono (by omega))
  have hmA : Hid (wA.heap[W.heap.size]? = some (.cells #[.int .i64 h, .int .i64 w, .int .i64 c, .int .i64 lo, .int .i64 hi, .slice oa on oc, .int .i64 ot] 26 (0, 0))) := (bA.block _ (by omega)).trans hmb.out
  have hyA : Hid (wA.heap[w7.heap.size]? = some (.cells #[.int .i64 h, .int .i64 w, .int .i64 c, .int .i64 lo, .int .i64 hi, .slice ya on yc, .int .i64 ot] 26 (0, 0))) := (bA.block _ (by omega)).trans hyb.out
  have hsA : ws.heap.size ≤ wA.heap.size := Nat.le_trans hsv bA.size
  clear bA V9 C9 K9 Y9 hB9 hmb hyb hsv
  obtain ⟨c1, f1, z1⟩ := cells_at hmA.out
  obtain ⟨c2, f2, z2⟩ := cells_at hyA.out
  go_wp2_with fail
  refine (samem_any h w c lo hi ot ya oa on yc oc O Z B _ (YA.out.l.agree AG.out) (HL.out.below hBA.out)).mono ?_
  rintro e wB ⟨rfl, bB⟩
  have VB : Hid (Wr.Own wB (W.heap.size + 1) (.slice (some ⟨gb, 0, none⟩) bn cb) (eAll (dMod h w c lo hi ot on O Z B))) := VA.out.below bB
  have CB : Hid (Wr.Own wB (w1.heap.size + 1) (.slice (some ⟨gc, 0, none⟩) cn cc) (eAll (dMod h w c lo hi ot on O Z B))) := CA.out.below bB
  have KB : Hid (Wr.Own wB w3.heap.size (.slice (some ⟨gk, 0, none⟩) kn ck) (eAll (dMod h w c lo hi ot on O Z B))) := KA.out.below bB
  have YB : Hid (CRow wB (w6.heap.size + 1 + 1) (.slice ya on yc) on O2 Z2 B2) := YA.out.below bB
  have hBB : Hid (Below W.heap.size W wB) := hBA.out.trans (bB.mono (by omega))
  have hmB : Hid (wB.heap[W.heap.size]? = some (.cells #[.int .i64 h, .int .i64 w, .int .i64 c, .int .i64 lo, .int .i64 hi, .slice oa on oc, .int .i64 ot] 26 (0, 0))) := (bB.block _ (by omega)).trans hmA.out
  have hyB : Hid (wB.heap[w7.heap.size]? = some (.cells #[.int .i64 h, .int .i64 w, .int .i64 c, .int .i64 lo, .int .i64 hi, .slice ya on yc, .int .i64 ot] 26 (0, 0))) := (bB.block _ (by omega)).trans hyA.out
  have hsB : ws.heap.size ≤ wB.heap.size := Nat.le_trans hsA bB.size
  have hbn100 : bn ≤ 100000000 := by have := hbn'.out; have := hle.out; omega
  clear bB VA CA KA YA hBA hmA hyA hsA c1 f1 z1 c2 f2 z2
  go_upto_block 6 with fail
  go_cut [] (fun wx => ∃ zb : List Int, zb.length = bn ∧ Wr.Own wx (W.heap.size + 1) (.slice (some ⟨gb, 0, none⟩) bn cb) zb ∧ Wr.Kept [gb] wB wx)
  case first =>
    go_wp2_with fail
    go_loopw [137] (fun i wr => ∃ (j : Nat) (zb : List Int), j ≤ bn ∧ i = .int .i64 j ∧ zb.length = bn ∧ Wr.Own wr (W.heap.size + 1) (.slice (some ⟨gb, 0, none⟩) bn cb) zb ∧ Wr.Kept [gb] wB wr) (fun i _ => bn - (intOf i).toNat)
    case atStart => exact ⟨0, (eAll (dMod h w c lo hi ot on O Z B)), Nat.zero_le _, rfl, hbn'.out.symm, VB.out, Kept.of (Below.refl _ _)⟩
    case round =>
      obtain ⟨j, zb, hj, rfl, hl, hO, hK⟩ := hrel
      have hO' : Hid (Wr.Own wr (W.heap.size + 1) (.slice (some ⟨gb, 0, none⟩) bn cb) zb) := hO
      have hK' : Hid (Wr.Kept [gb] wB wr) := hK
      have hl' : Hid (zb.length = bn) := hl
      by_cases hjb : j < bn
      · obtain ⟨z, cJ, z0, z1, fJ, zJ, -, q1, q2, -⟩ := ownb_at hO hjb
        unfold maxLen at q2
        clear hO hK hl
        go_wp2
        go_roundw
        case rel => exact ⟨j + 1, _, by omega, by go_num, by rw [List.length_set]; exact hl'.out, own_setb hO'.out (xorB z0 z1), hK'.out.trans Kept.set⟩
        case measure => simp [intOf]; omega
      · clear hO hK hl
        go_wp2
        go_meet
        exact ⟨zb, hl'.out, hO'.out, hK'.out⟩
  case rest =>
  obtain ⟨zb, hlb, ob, kb⟩ := hcut
  obtain ⟨wD, rfl⟩ : ∃ wo, wo = wc := ⟨_, rfl⟩
  have OD : Hid (Wr.Own wD (W.heap.size + 1) (.slice (some ⟨gb, 0, none⟩) bn cb) zb) := ob
  have hlD : Hid (zb.length = bn) := hlb
  have hzD : wB.heap.size ≤ wD.heap.size := kb.2.2.2.1
  have KD : Hid (Wr.Kept [gb] wB wD) := kb
  clear hlb ob kb
  go_wp2_with (at_builtin; refine Wr.wpList_app rfl (.tmp 147) (.tmp 148) rfl (W.heap.size + 1) (.slice (some ⟨gb, 0, none⟩) bn cb) zb [1, 1, 1, 1] rfl (OD.out.alloc _) _ _ _ rfl (row4 wD) (by have := hlD.out; simp; omega) (by simp; omega) ?_; intro vE wE ownE grE nnE)
  obtain ⟨gl, cl, ln, rfl, hln2, hgl, hgl1⟩ := own_gb ownE (nnE (by simp))
  have hlnb : bn < ln := by rw [hln2]; have := hlD.out; simp; omega
  clear hln2
  have kE : Wr.Kept [gb] wB wE := (KD.out.trans (Kept.of (bal _ _))).trans (kept_gr grE)
  obtain ⟨zl, cl1, -, -, fl1, -, -, q1, q2, q3⟩ := ownb_at ownE hlnb
  obtain rfl : zl = 1 := by
    rw [List.getElem?_append_right (by have := hlD.out; omega), show bn - zb.length = 0 by have := hlD.out; omega] at q3
    simpa using q3.symm
  have OE : Hid (wE.cell? ⟨gl, bn, none⟩ = some (.int .u8 1)) := cl1
  have FE : Hid (∀ i, wE.frozen? ⟨gl, i, none⟩ = false) := fl1
  have CE : Hid (Wr.Own wE (w1.heap.size + 1) (.slice (some ⟨gc, 0, none⟩) cn cc) (eAll (dMod h w c lo hi ot on O Z B))) := own_keptb CB.out kE (by omega)
  have KE : Hid (Wr.Own wE w3.heap.size (.slice (some ⟨gk, 0, none⟩) kn ck) (eAll (dMod h w c lo hi ot on O Z B))) := own_keptb KB.out kE (by omega)
  have YE : Hid (CRow wE (w6.heap.size + 1 + 1) (.slice ya on yc) on O2 Z2 B2) := YB.out.kept kE (by simp; omega)
  have hBE : Hid (Below W.heap.size W wE) := hBB.out.trans (kept_bel kE (by omega) (by omega))
  have hmE : Hid (wE.heap[W.heap.size]? = some (.cells #[.int .i64 h, .int .i64 w, .int .i64 c, .int .i64 lo, .int .i64 hi, .slice oa on oc, .int .i64 ot] 26 (0, 0))) := (kE.2.2.2.2 _ (by omega) (by simp; omega)).trans hmB.out
  have hyE : Hid (wE.heap[w7.heap.size]? = some (.cells #[.int .i64 h, .int .i64 w, .int .i64 c, .int .i64 lo, .int .i64 hi, .slice ya on yc, .int .i64 ot] 26 (0, 0))) := (kE.2.2.2.2 _ (by omega) (by simp; omega)).trans hyB.out
  have hsE : ws.heap.size ≤ wE.heap.size := Nat.le_trans hsB kE.2.2.2.1
  clear ownE grE nnE kE cl1 fl1 q3 OD KD VB CB KB YB hBB hmB hyB
  go_wp2_with fail
  refine (sameb_any (some ⟨gc, 0, none⟩) (some ⟨gk, 0, none⟩) cn cc kn ck _ _ _ (own_rw CE.out) (own_rw KE.out)).mono ?_
  rintro e wF ⟨rfl, bF⟩
  rw [decide_eq_true rfl]
  have YF : Hid (CRow wF (w6.heap.size + 1 + 1) (.slice ya on yc) on O2 Z2 B2) := YE.out.below bF
  have hBF : Hid (Below W.heap.size W wF) := hBE.out.trans (bF.mono (by omega))
  have hmF := (bF.block _ (by omega)).trans hmE.out
  have hyF := (bF.block _ (by omega)).trans hyE.out
  have OF : Hid (wF.cell? ⟨gl, bn, none⟩ = some (.int .u8 1)) := (bF.cell hgl1).trans OE.out
  have hzF : wE.heap.size ≤ wF.heap.size := bF.size
  obtain ⟨c1, f1, z1⟩ := cells_at hmF
  obtain ⟨c2, f2, z2⟩ := cells_at hyF
  clear bF CE KE YE hBE hmE hyE hmF hyF OE FE
  go_wp2_with fail
  refine (samem_any h w c lo hi ot ya oa on yc oc O Z B _ (YF.out.l.agree AG.out) (HL.out.below hBF.out)).mono ?_
  rintro e wG ⟨rfl, bG⟩
  have hBG : Hid (Below W.heap.size W wG) := hBF.out.trans (bG.mono (by omega))
  have OG : wG.cell? ⟨gl, bn, none⟩ = some (.int .u8 1) := (bG.cell (p := ⟨gl, bn, none⟩) (by simp; omega)).trans OF.out
  clear bG YF hBF OF c1 f1 z1 c2 f2 z2
  go_wp2
  go_ret
  exact ⟨rfl, hBG.out⟩
end Go.Proofs.Ythagdpiocmcbmaa
