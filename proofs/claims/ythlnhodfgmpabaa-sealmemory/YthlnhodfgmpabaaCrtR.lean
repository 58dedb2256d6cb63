/- The walk of the document's Copy of layer 15. -/
import Derived.Test.YthlnhodfgmpabaaCrtQ
import Derived.Test.YthlnhodfgmpabaaGenA
namespace Go.Proofs.Ythlnhodfgmpabaa
open Go.ChangeShapes Go.WideShapes Go.ChangeAt Go.RowKit
set_option linter.unusedVariables false
/-- The first k lists, copied. -/
def QOk (w : World) (base : Nat) (v : Value) (P : List (List Pl)) (k : Nat) : Prop :=
  ∃ f : Nat → Value, w.ownsRow base 45 1 v k ((List.range k).map f) ∧ (∀ i l, i < k → P[i]? = some l → w.ownsRow base 47 6 (f i) l.length (l.flatMap pcs) ∧ l.length * 48 ≤ 140737488351232) ∧
    ∀ i j, i < j → j < k → ∀ b b', (f i).ownBlock = some b → (f j).ownBlock = some b' → b < b'
theorem QOk.below {w w' : World} {base : Nat} {v : Value} {P : List (List Pl)} {k : Nat} (h : QOk w base v P k) (q : Below w.heap.size w w') : QOk w' base v P k := by
  obtain ⟨f, h1, h2, h3⟩ := h
  exact ⟨f, owns_below h1 q, fun i l hi hl => ⟨owns_below (h2 i l hi hl).1 q, (h2 i l hi hl).2⟩, h3⟩
theorem QOk.nil (w : World) (base : Nat) (P : List (List Pl)) : QOk w base (.slice none 0 0) P 0 := ⟨fun _ => .slice none 0 0, World.ownsRow_nil _ _ _ _, fun i l hl => by omega, fun i j _ hj => by omega⟩
theorem QOk.slice {w : World} {base : Nat} {v : Value} {P : List (List Pl)} {k : Nat} (h : QOk w base v P k) : ∃ a cap, v = .slice a k cap := by
  obtain ⟨f, h1, -⟩ := h
  exact owns_slice h1
theorem QOk.all {w : World} {base : Nat} {v : Value} {P : List (List Pl)} {k : Nat} (h : QOk w base v P k) (hk : P.length = k) : QOwn w base v P := by
  subst hk
  obtain ⟨f, h1, h2, h3⟩ := h
  exact ⟨f, h1, fun i l hl => h2 i l (List.getElem?_eq_some_iff.1 hl).1 hl, h3⟩
theorem QOk.other {w w' : World} {base : Nat} {v : Value} {P : List (List Pl)} {k : Nat} (h : QOk w base v P k) (q : ∀ (g : Nat) (c : Array Value) (t : TypeId), t ≠ 25 → w.heap[g]? = some (.cells c t (0, 0)) → w'.heap[g]? = some (.cells c t (0, 0))) : QOk w' base v P k := by
  obtain ⟨f, h1, h2, h3⟩ := h
  exact ⟨f, owns_other h1 (fun g c => q g c _ (by decide)), fun i l hi hl => ⟨owns_other (h2 i l hi hl).1 (fun g c => q g c _ (by decide)), (h2 i l hi hl).2⟩, h3⟩
theorem QOk.add {w w' : World} {base B : Nat} {v v' nv : Value} {P : List (List Pl)} {k : Nat} {l : List Pl} (f : Nat → Value)
    (h2 : ∀ i l, i < k → P[i]? = some l → w.ownsRow base 47 6 (f i) l.length (l.flatMap pcs) ∧ l.length * 48 ≤ 140737488351232) (h3 : ∀ i j, i < j → j < k → ∀ b b', (f i).ownBlock = some b → (f j).ownBlock = some b' → b < b')
    (hB : ∀ i, i < k → ∀ b, (f i).ownBlock = some b → b < B) (hk : P[k]? = some l) (hn : w.ownsRow B 47 6 nv l.length (l.flatMap pcs)) (hbB : base ≤ B) (hlr : l.length * 48 ≤ 140737488351232) (hv : ∀ b, v.ownBlock = some b → ∃ c, w.heap[b]? = some (.cells c 45 (0, 0))) (g : w.grownBy w' v.ownBlock)
    (hown : w'.ownsRow base 45 1 v' (k + 1) ((List.range k).map f ++ [nv])) : QOk w' base v' P (k + 1) := by
  refine ⟨fun i => if i = k then nv else f i, ?_, fun i l' hi hl' => ?_, fun i j hij hj b b' hb hb' => ?_⟩
  · have e : (List.range (k + 1)).map (fun i => if i = k then nv else f i) = (List.range k).map f ++ [nv] := by
      rw [List.range_succ, List.map_append]
      simp only [List.map_cons, List.map_nil, if_true]
      refine congrArg (· ++ [nv]) (List.map_congr_left fun i hi => ?_)
      have : i < k := by simpa using hi
      simp [show i ≠ k by omega]
    rw [e]
    exact hown
  · by_cases e : i = k
    · subst e
      rw [hk] at hl'
      cases hl'
      simp only [if_true]
      exact ⟨owns_base (owns_grown hn g hv (by decide)) hbB, hlr⟩
    · simp only [e, if_false]
      exact ⟨owns_grown (h2 i l' (by omega) hl').1 g hv (by decide), (h2 i l' (by omega) hl').2⟩
  · simp only [show i ≠ k by omega, if_false] at hb
    by_cases e : j = k
    · subst e
      simp only [if_true] at hb'
      have := (hn.lt b' hb').1
      have := hB i hij b hb
      omega
    · simp only [e, if_false] at hb'
      exact h3 i j hij (by omega) b b' hb hb'
theorem lit6 (w : World) : (w.alloc (.cells #[] 47)).ownsRow w.heap.size 47 6 (.slice (some ⟨w.heap.size, 0, none⟩) 0 0) 0 [] :=
  World.ownsRow_lit (base := w.heap.size) (e := 47) (size := 6) w #[] 0 (Nat.le_refl _) (by unfold maxLen; omega) rfl
theorem lit2 (w : World) (b : Nat) (hb : b ≤ w.heap.size) : (w.alloc (.cells #[] 44)).ownsRow b 44 2 (.slice (some ⟨w.heap.size, 0, none⟩) 0 0) 0 [] :=
  World.ownsRow_lit (base := b) (e := 44) (size := 2) w #[] 0 hb (by unfold maxLen; omega) rfl
set_option maxHeartbeats 4000000 in
set_option maxRecDepth 100000 in
theorem ccopy_any (ra : Option Addr) (rn rc : Nat) (R : List (Int × Int)) (pa : Option Addr) (pn pc : Nat) (P : List (List Pl)) (W : World) (hR : ERow 2 scs W ra rn rc R) (hP : QRow W pa pn pc P) (hrn : rn * 16 ≤ 140737488351232) (hpn : pn * 24 ≤ 140737488351232) :
    Calls Try.prog 9 #[.agg #[.slice ra rn rc, .slice pa pn pc]] W fun e w' => ∃ ra' rc' pa' pc', e = .returned (.agg #[.slice ra' rn rc', .slice pa' pn pc']) ∧ w'.ownsRow W.heap.size 44 2 (.slice ra' rn rc') rn (R.flatMap scs) ∧ QOwn w' W.heap.size (.slice pa' pn pc') P ∧ Below W.heap.size W w' := by
  have l1 := hP.2.1
  have l2 := hP.2.2.1
  have l3 := hR.2.1
  have l4 := hR.2.2.1
  unfold maxLen at l2 l4
  have H1 : Hid (ERow 2 scs W ra rn rc R) := hR
  have H2 : Hid (QRow W pa pn pc P) := hP
  clear hR hP
  have s0 := ((St.start W).new (c := #[.slice ra rn rc, .slice pa pn pc]) (t := 25)).new (c := #[.slice none 0 0, .slice none 0 0]) (t := 25)
  simp only [World.size_alloc] at s0
  have H0 : Hid (St W _ ([(W.heap.size + 1, #[.slice none 0 0, .slice none 0 0], 25), (W.heap.size, #[.slice ra rn rc, .slice pa pn pc], 25)])) := s0
  clear s0
  go_enter Try.func9, Try.ntmps9
  go_wp2
  go_loopw [3, 9] (fun v i wr => ∃ (k : Nat), k ≤ pn ∧ i = .int .i64 k ∧ QOk wr W.heap.size v P k ∧ St W wr ([(W.heap.size + 1, #[.slice none 0 0, .slice none 0 0], 25), (W.heap.size, #[.slice ra rn rc, .slice pa pn pc], 25)])) (fun _ i _ => pn - (intOf i).toNat)
  case atStart => exact ⟨0, Nat.zero_le _, rfl, QOk.nil _ _ _, H0.out⟩
  case round =>
    clear H0
    obtain ⟨k, hk0, rfl, hQ, sr⟩ := hrel
    obtain ⟨va, vc, rfl⟩ := hQ.slice
    obtain ⟨c1, f1, zr1, c2, f2, zr2, -⟩ := sr.rules
    by_cases hlt : k < pn
    · obtain ⟨x, l, ca, cc, rfl, hPk, -, hcl, hE, hlr⟩ := (H2.out.below sr.below).at hlt
      obtain ⟨f, q1, q2, q3⟩ := hQ
      have HX : Hid (wr.ownsRow W.heap.size 45 1 (.slice va k vc) k ((List.range k).map f)) := q1
      have HQ2 : Hid (∀ i l, i < k → P[i]? = some l → wr.ownsRow W.heap.size 47 6 (f i) l.length (l.flatMap pcs) ∧ l.length * 48 ≤ 140737488351232) := q2
      have HQ3 : Hid (∀ i j, i < j → j < k → ∀ b b', (f i).ownBlock = some b → (f j).ownBlock = some b' → b < b') := q3
      have hPl := H2.out.1
      obtain ⟨ln, hln⟩ : ∃ ln, l.length = ln := ⟨_, rfl⟩
      rw [hln] at hcl hE hlr
      have HLN : Hid (l.length = ln) := hln
      have HE : Hid (ERow 6 pcs wr ca ln cc l) := hE
      have HPK : Hid (P[k]? = some l) := hPk
      have HPL : Hid (P.length = pn) := hPl
      have Hsr : Hid (St W wr _) := sr
      obtain ⟨i0, hi1, hz0, hz1, hz2⟩ := info_parts (show (Try.prog.info? 45).map (fun i => (i.zero, i.size, i.bytes)) = some (some (.slice none 0 0), 1, 24) by kernel_rfl)
      clear hE hPk q1 q2 q3 hln hPl sr
      go_upto_region 6 with (first
        | (at_builtin; refine wpList_appE (zv := (.agg #[.int .i64 0, .int .i64 0, .int .i64 0, .int .i64 0, .int .i64 0, .int .i64 0])) (T := 47) (S := 45) (by8 := 48) pcs pcs_len pcs_one Try.underlying45 (by kernel_rfl) rfl (by decide) (by decide) rfl (.tmp 14) (.tmp 15) rfl wr.heap.size (.slice (some ⟨wr.heap.size, 0, none⟩) 0 0) l rfl (lit6 wr) ca ln cc rfl (HE.out.below (bal _ _)) hlr (by simp) ?_; intro v1 w5 hO1 hg hnn; obtain ⟨va1, vc1, rfl⟩ := owns_slice hO1; have hb5 := app_below hg; have H5 : Hid (w5.ownsRow wr.heap.size 47 6 (.slice va1 ln vc1) ln (l.flatMap pcs)) := hO1; have HB5 : Hid (Below wr.heap.size wr w5) := hb5; clear hg hnn hO1 hb5 c1 f1 c2 f2 hcl)
        | (at_builtin; refine wpList_append_own _ rfl (.tmp 13) (.tmp 17) 23 rfl W.heap.size 45 i0 (.slice none 0 0) 1 24 Try.underlying23 hi1 hz0 hz1 hz2 rfl (by decide) (.slice va k vc) k ((List.range k).map f) rfl (owns_below HX.out (bt HB5.out (bal _ _))) ⟨w5.heap.size, 0, none⟩ 1 1 [.slice va1 ln vc1] rfl rfl new1 (by simp [Value.oneCell']) (by unfold maxLen; omega) (by omega) (Nat.le_trans Hsr.out.size (bt HB5.out (bal _ _)).size) ?_; intro v2 w9 hown hgr hnn2; have hB9 := bt HB5.out (bal w5 (.cells #[.slice va1 ln vc1] 45)); have hx9 := owns_below HX.out hB9; have hC2 := QOk.add (base := W.heap.size) (B := wr.heap.size) (nv := .slice va1 ln vc1) (l := l) f (fun i l' hi hl' => ⟨owns_below (HQ2.out i l' hi hl').1 hB9, (HQ2.out i l' hi hl').2⟩) HQ3.out (fun i hi b hb => ((HQ2.out i (P[i]'(by rw [HPL.out]; omega)) hi (List.getElem?_eq_getElem (by rw [HPL.out]; omega))).1.lt b hb).2) HPK.out (by rw [HLN.out]; exact owns_below H5.out (bal _ _)) Hsr.out.size (by rw [HLN.out]; exact hlr) (owns_ty hx9) hgr hown; have s10 := (Hsr.out.call hB9).grown hgr (fun b e => (hx9.lt b e).1) (fun y hy => by simp only [List.mem_cons, List.not_mem_nil, or_false] at hy; rcases hy with rfl | rfl; exact own_ne hx9 (Hsr.out.call hB9).h1 (by decide); exact own_ne hx9 (Hsr.out.call hB9).h2 (by decide)); have HC2 : Hid (QOk w9 W.heap.size v2 P (k + 1)) := hC2; have S10 : Hid (St W w9 _) := s10; clear hC2 s10 hx9 hB9 hown hgr hnn2))
      go_wp2
      go_round
      case rel => exact ⟨k + 1, by omega, by go_num, HC2.out, S10.out⟩
      case measure => simp [intOf]; omega
    · obtain rfl : k = pn := by omega
      have HQ : Hid (QOk wr W.heap.size (.slice va k vc) P k) := hQ
      have Hsr : Hid (St W wr ([(W.heap.size + 1, #[.slice none 0 0, .slice none 0 0], 25), (W.heap.size, #[.slice ra rn rc, .slice pa k pc], 25)])) := sr
      have HL : Hid (P.length = k) := H2.out.1
      clear hQ sr
      go_wp2_with (at_builtin; refine wpList_appE (zv := (.agg #[.int .i64 0, .int .i64 0])) (T := 44) (S := 22) (by8 := 16) scs scs_len scs_one Try.underlying22 (by kernel_rfl) rfl (by decide) (by decide) rfl (.tmp 20) (.tmp 22) rfl W.heap.size (.slice (some ⟨wr.heap.size, 0, none⟩) 0 0) R rfl (lit2 wr W.heap.size Hsr.out.size) ra rn rc rfl ((H1.out.below Hsr.out.below).below (bal _ _)) hrn (Nat.le_trans Hsr.out.size (bal _ _).size) ?_; intro v1 w5 hO1 hg hnn; obtain ⟨va1, vc1, rfl⟩ := owns_slice hO1; have hb5 := app_below hg; have H5 : Hid (w5.ownsRow W.heap.size 44 2 (.slice va1 rn vc1) rn (R.flatMap scs)) := hO1; have S5 : Hid (St W w5 ([(W.heap.size + 1, #[.slice none 0 0, .slice none 0 0], 25), (W.heap.size, #[.slice ra rn rc, .slice pa k pc], 25)])) := Hsr.out.call hb5; have HQ5 : Hid (QOk w5 W.heap.size (.slice va k vc) P k) := HQ.out.below hb5; clear hg hnn hO1 hb5 c1 f1 c2 f2; obtain ⟨c1, f1, zs1, c2, f2, zs2, -⟩ := S5.out.rules)
      have hoth : Hid (∀ (g : Nat) (c : Array Value) (t : TypeId), t ≠ 25 → w5.heap[g]? = some (.cells c t (0, 0)) → ((w5.setCell ⟨W.heap.size + 1, 0, none⟩ (.slice va1 rn vc1)).setCell ⟨W.heap.size + 1, 1, none⟩ (.slice va k vc)).heap[g]? = some (.cells c t (0, 0))) := fun g cc t ht hg => by
        have ng : g ≠ W.heap.size + 1 := ne_of_ty hg S5.out.h1 ht
        rw [Below.heap_setCell _ ⟨W.heap.size + 1, 1, none⟩ _ g ng, Below.heap_setCell _ ⟨W.heap.size + 1, 0, none⟩ _ g ng]
        exact hg
      exact bodyPost_ret (v := .agg #[.slice va1 rn vc1, .slice va k vc]) (by simp [results, Try.results9, go_sem, *]) rfl ⟨va1, vc1, va, vc, rfl, owns_other H5.out (fun g c => hoth.out g c _ (by decide)), (HQ5.out.other hoth.out).all HL.out, (S5.out.below.setCell (p := ⟨W.heap.size + 1, 0, none⟩) (Nat.le_succ _) _).setCell (p := ⟨W.heap.size + 1, 1, none⟩) (Nat.le_succ _) _⟩
end Go.Proofs.Ythlnhodfgmpabaa
