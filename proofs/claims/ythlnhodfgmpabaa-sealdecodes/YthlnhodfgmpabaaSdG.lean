/- The document's Decode of layer 16. -/
import Derived.Test.YthlnhodfgmpabaaSdC
import Derived.Test.YthlnhodfgmpabaaSdE
import Derived.Test.YthlnhodfgmpabaaSelD
import Derived.Deep.CutBlock
import Derived.Deep.DeepCutAuto
namespace Go.Proofs.Ythlnhodfgmpabaa.Sl
open Wr
open Go.ChangeShapes Go.WideShapes Go.ChangeAt Go.RowKit
set_option linter.unusedVariables false
theorem kept_two {a b c : World} {P M : Nat} (h : Wr.Kept [P] a b) (k : Wr.Kept [P, M] b c) (hM : a.heap.size ≤ M) : Wr.Kept [P] a c :=
  ⟨k.1.trans h.1, k.2.1.trans h.2.1, k.2.2.1.trans h.2.2.1, Nat.le_trans h.2.2.2.1 k.2.2.2.1, fun i hi hP => (k.2.2.2.2 i (Nat.lt_of_lt_of_le hi h.2.2.2.1) (fun e => by simp at hP e; omega)).trans (h.2.2.2.2 i hi hP)⟩
/-- 'append' of one element to a row of the call's own, in a region that draws its order. -/
theorem step_appE {nc by8 : Nat} {T S : TypeId} {zv : Value} (hu : Try.prog.underlying S = some (.slice T)) (hin : (Try.prog.info? T).map (fun i => (i.zero, i.size, i.bytes)) = some (some zv, nc, by8)) (hzs : zv.cells.size = nc) (hnc : 0 < nc)
    {w : World} {ops : Array Oper} {oo : Oper} {a : Act} {K : Act → World → Prop} {Q : Exit → Act → World → Prop} {E : Prop} (hgd : oo.guard = none) (sl x : Operand)
    (ho : oo.op = .call { callee := .builtin .append, args := #[sl, x], argTypes := #[S, S] }) (base k : Nat) (v : Value) (xs cs : List Value) (hs : a.eval sl = v) (hown : w.ownsRow base T nc v k xs) (ad : Addr) (hx : a.eval x = .slice (some ad) 1 1)
    (hl : cs.length = 1 * nc) (hcs : ∀ j u, cs[j]? = some u → w.cell? (ad.add j) = some u) (h1 : ∀ u ∈ cs, u.oneCell' = true) (hm : k + 1 ≤ maxLen) (hby : (k + 1) * by8 ≤ 140737488355328) (hb : base ≤ w.heap.size)
    (hK : ∀ v' w', w'.ownsRow base T nc v' (k + 1) (xs ++ cs) → w.grownBy w' v.ownBlock → K (a.put oo.dst v') w') :
    if Region.wanted oo (yielded ops a.tmps) = true then Oper.wp Try.prog oo a w K Q else E := by
  have hw : Region.wanted oo (yielded ops a.tmps) = true := by simp [Region.wanted, hgd]
  rw [if_pos hw]
  obtain ⟨i0, hi1, hz0, hz1, hz2⟩ := info_parts hin
  exact wp_append_own _ sl x S ho base T i0 zv nc by8 hu hi1 hz0 hz1 hz2 hzs hnc v k xs hs hown ad 1 1 cs hx hl hcs h1 hm hby hb fun v3 w3 hown hgr hnn => hK v3 w3 hown hgr
theorem front_low {w w' : World} {a a' : Option Addr} {len cap : Nat} {zs : List Int} (hr : Wr.Row w a len cap zs) (hf : frontE zs = 0) (ha : ∀ x, a' = some x → ∃ y, a = some y ∧ x.block = y.block) (hw : w.heap.size ≤ w'.heap.size) : ∀ x, a' = some x → x.block < w'.heap.size := by
  intro x hx
  obtain ⟨y, rfl, e⟩ := ha x hx
  have h4 : ¬ zs.length < 4 := fun h => by unfold frontE at hf; rw [if_pos h] at hf; cases hf
  have hl := hr.1
  have hc := hr.2.2.2.2.2 y rfl 0 (by omega)
  have := World.block_lt_of_cell? w _ hc
  rw [blk_add] at this
  omega
theorem front_e {zs : List Int} (h : frontE zs ≠ 0) : pAll zs = .inl (frontE zs, 0) := by
  unfold pAll
  unfold frontE at h ⊢
  by_cases c : zs.length < 4
  · rw [if_pos c, if_pos c]
  · rw [if_neg c] at h ⊢
    rw [if_neg c]
    by_cases d : zs.take 4 ≠ head4
    · rw [if_pos d, if_pos d]
    · rw [if_neg d] at h; exact absurd rfl h
theorem front_0 {zs : List Int} (h : frontE zs = 0) : pAll zs = match pCe (zs.drop 4) with | .inl e => .inl e | .inr (m, r) => if r = [] then .inr m else .inl (43, 0) := by
  unfold pAll
  unfold frontE at h
  by_cases c : zs.length < 4
  · rw [if_pos c] at h; cases h
  · rw [if_neg c] at h
    rw [if_neg c]
    by_cases d : zs.take 4 ≠ head4
    · rw [if_pos d] at h; cases h
    · rw [if_neg d]; rfl
theorem stp_nt {α : Type} {p : Nat → List Int → Sum (Int × Int) (α × List Int)} {t most : Int} {n : Nat} {s0 s1 s2 : Sum (Int × Int) (List Int)} {z : List α} (h1 : Stp (pN t most) s0 (n : Int) s1) (h2 : Stp (pI p n 0) s1 z s2) : Stp (fun zs => pbind (pN t most zs) fun n r => pI p n.toNat 0 r) s0 z s2 := by
  have e : pI p n 0 = (fun (m : Int) (r : List Int) => pI p m.toNat 0 r) (n : Int) := rfl
  rw [e] at h2
  exact h1.bind h2
theorem stp_end {zs z8 : List Int} {f8 qe qt : Int} {d : CeD} {s8 : Sum (Int × Int) (List Int)} (hP : pAll zs = match pCe (zs.drop 4) with | .inl e => .inl e | .inr (m, r) => if r = [] then .inr m else .inl (43, 0)) (h : Stp pCe (.inr (zs.drop 4)) d s8) (hs : (s8 = .inl (qe, qt) ∧ qe ≠ 0) ∨ (s8 = .inr z8 ∧ qe = 0 ∧ qt = 0 ∧ f8 = 0)) :
    (ntE (endR z8 f8) qe ≠ 0 ∧ pAll zs = .inl (ntE (endR z8 f8) qe, ntT (endR z8 f8) qe 0 qt)) ∨ (ntE (endR z8 f8) qe = 0 ∧ pAll zs = .inr d) := by
  rcases hs with ⟨rfl, hq⟩ | ⟨rfl, rfl, rfl, rfl⟩
  · cases h with
    | bad r e v h =>
      rw [(nt_q (e := endR z8 f8) (o := 0) (qt := qt) hq).1, (nt_q (e := endR z8 f8) (o := 0) (qt := qt) hq).2]
      exact .inl ⟨hq, by rw [hP, h]⟩
  · cases h with
    | ok r v rs h =>
      rw [h] at hP
      simp only at hP
      by_cases hz : z8 = []
      · rw [if_pos hz] at hP
        rw [show endR z8 0 = 0 by subst hz; rfl]
        exact .inr ⟨(nt_0 0 0 0).1, hP⟩
      · rw [if_neg hz] at hP
        have e : endR z8 0 = 43 := by
          cases z8 with
          | nil => exact absurd rfl hz
          | cons x l => simp [endR]
        rw [e, (nt_n (o := 0) (qt := 0) (show (43 : Int) ≠ 0 by decide)).1, (nt_n (o := 0) (qt := 0) (show (43 : Int) ≠ 0 by decide)).2]
        exact .inl ⟨by decide, hP⟩
set_option maxHeartbeats 8000000 in
set_option maxRecDepth 100000 in
theorem ddecode_any (a : Option Addr) (len cap : Nat) (zs : List Int) (w : World) (hr : Wr.Row w a len cap zs) (hs : len ≤ 140737488355328) :
    Calls Try.prog 16 #[.slice a len cap] w fun r w' => Dec zs w w' r ∧ Below w.heap.size w w' := by
  have s0 := ((St.start w).new (c := #[.slice none 0 0, .slice none 0 0]) (t := 25)).new (c := #[.int .i64 0, .int .i64 0, .int .i64 0]) (t := 30)
  simp only [World.size_alloc] at s0
  have S0 : Hid (St w _ _) := s0
  have HR : Hid (Wr.Row _ a len cap zs) := hr.below s0.below
  clear hr s0
  go_enter Try.func16, Try.ntmps16
  go_wp2_with fail
  refine Calls.mono (dfront_any a len cap zs _ HR.out) ?_
  rintro r wf ⟨⟨hf, rfl⟩ | ⟨hf, a', rfl, hR, ha⟩, b1⟩
  · have hE : Hid (pAll zs = .inl (frontE zs, 0)) := front_e hf
    have s1 := S0.out.call b1
    have hf' : Hid (frontE zs ≠ 0) := hf
    obtain ⟨fe, hfe⟩ : ∃ fe, frontE zs = fe := ⟨_, rfl⟩
    rw [hfe] at hE hf' ⊢
    have hB1 : Hid (Below w.heap.size w wf) := s1.below
    have hN := s1.h2
    have hM := s1.h1
    have hne : w.heap.size ≠ w.heap.size + 1 := by omega
    obtain ⟨c1, f1, z1⟩ := cells_at hN
    obtain ⟨c2, f2, z2⟩ := cells_at hM
    clear b1 hf s1 S0 HR hfe
    have hx2 : (fe == 0) = false := by simpa using hf'.out
    have hx3 : (fe != 0) = true := by simpa using hf'.out
    go_wp2
    obtain ⟨wz, hwz⟩ : ∃ wz, wz = ((((wf.setCell ⟨w.heap.size, 0, none⟩ (.slice none 0 0)).setCell ⟨w.heap.size, 1, none⟩ (.slice none 0 0)).setCell ⟨w.heap.size + 1, 0, none⟩ (.int .i64 fe)).setCell ⟨w.heap.size + 1, 1, none⟩ (.int .i64 0)).setCell ⟨w.heap.size + 1, 2, none⟩ (.int .i64 0) := ⟨_, rfl⟩
    rw [← hwz]
    obtain ⟨q1, q2, q3, q4⟩ := set23 hN hM hne (Nat.le_refl _) (Nat.le_succ _) hwz
    have Q3 : Hid (Below w.heap.size w wz) := hB1.out.trans q3
    clear hwz q3 q4 c1 f1 z1 c2 f2 z2 hN hM
    obtain ⟨c1, f1, z1⟩ := cells_at q1
    obtain ⟨c2, f2, z2⟩ := cells_at q2
    exact bodyPost_ret (v := .tuple #[.agg #[.slice none 0 0, .slice none 0 0], .agg #[.int .i64 fe, .int .i64 0, .int .i64 0]]) (by simp [results, Try.results16, go_sem, c1, c2]) rfl ⟨.inl ⟨fe, 0, hE.out, rfl⟩, Q3.out⟩
  have hz1 : w.heap.size + 2 ≤ wf.heap.size := by have := lt_of_heap (S0.out.call b1).h1; omega
  have S1 : Hid (St w wf _) := S0.out.call b1
  have hP : Hid (pAll zs = _) := front_0 hf
  have hlow := front_low HR.out hf ha b1.size
  have i0 : InR ((wf.alloc (.cells #[.slice a' (len - 4) (cap - 4), .int .i64 0, .int .i64 0, .int .i64 0, .int .i64 0, .int .i64 0, .int .i64 0] 64)).alloc (.cells #[.slice none 0 0, .slice none 0 0] 25)) wf.heap.size (zs.drop 4) 0 0 0 0 := ⟨a', len - 4, cap - 4, ((bal (wf.alloc (.cells #[.slice a' (len - 4) (cap - 4), .int .i64 0, .int .i64 0, .int .i64 0, .int .i64 0, .int .i64 0, .int .i64 0] 64)) _).block _ (by simp)).trans (heap_alloc_new wf _), hR.below (bt (bal wf _) (bal _ _)), hlow⟩
  have p0 : Hid (InQ ((wf.alloc (.cells #[.slice a' (len - 4) (cap - 4), .int .i64 0, .int .i64 0, .int .i64 0, .int .i64 0, .int .i64 0, .int .i64 0] 64)).alloc (.cells #[.slice none 0 0, .slice none 0 0] 25)) wf.heap.size 0 (.inr (zs.drop 4))) := i0
  have k0 : Hid (Wr.Kept [wf.heap.size] wf ((wf.alloc (.cells #[.slice a' (len - 4) (cap - 4), .int .i64 0, .int .i64 0, .int .i64 0, .int .i64 0, .int .i64 0, .int .i64 0] 64)).alloc (.cells #[.slice none 0 0, .slice none 0 0] 25))) := (Kept.of (bal _ _)).trans (Kept.of (bal _ _))
  have d0 : Hid ((((wf.alloc (.cells #[.slice a' (len - 4) (cap - 4), .int .i64 0, .int .i64 0, .int .i64 0, .int .i64 0, .int .i64 0, .int .i64 0] 64)).alloc (.cells #[.slice none 0 0, .slice none 0 0] 25))).heap[(wf.heap.size + 1)]? = some (.cells #[.slice none 0 0, .slice none 0 0] 25 (0, 0))) := by
    have := heap_alloc_new (wf.alloc (.cells #[.slice a' (len - 4) (cap - 4), .int .i64 0, .int .i64 0, .int .i64 0, .int .i64 0, .int .i64 0, .int .i64 0] 64)) (.cells #[.slice none 0 0, .slice none 0 0] 25)
    rw [show (wf.alloc (.cells #[.slice a' (len - 4) (cap - 4), .int .i64 0, .int .i64 0, .int .i64 0, .int .i64 0, .int .i64 0, .int .i64 0] 64)).heap.size = wf.heap.size + 1 by simp] at this
    exact this
  clear i0 hlow hR ha b1 HR S0 hf
  go_wp2_with fail
  refine Calls.mono (inN_any wf.heap.size 0 65 _ _ p0.out (by omega) (by omega)) ?_
  rintro r w1 ⟨n, s1, rfl, hn, st, p, k⟩
  have h1 : Hid (Stp (pN 0 65) (.inr (zs.drop 4)) (n : Int) s1) := st
  have p1 : Hid (InQ w1 wf.heap.size 0 s1) := p
  have k1 : Hid (Wr.Kept [wf.heap.size] wf w1) := k0.out.trans k
  have d1 : Hid (w1.heap[(wf.heap.size + 1)]? = some (.cells #[.slice none 0 0, .slice none 0 0] 25 (0, 0))) := (k.2.2.2.2 _ (lt_of_heap d0.out) (by simp)).trans d0.out
  have z1 : wf.heap.size + 2 ≤ w1.heap.size := by have := lt_of_heap d1.out; omega
  have hn65 : n ≤ 65 := by omega
  clear st p k p0 k0 d0 hn
  go_upto_block 0 with fail
  go_cut [] (fun wx => ∃ (z : List (Int × Int)) (s : Sum (Int × Int) (List Int)) (la : Option Addr) (lc : Nat), z.length ≤ 65 ∧ Stp (pI (fun _ => pSp 0) n 0) s1 z s ∧ wx.ownsRow (wf.heap.size + 2) 44 2 (.slice la z.length lc) z.length (z.flatMap scs) ∧ InQ wx wf.heap.size 0 s ∧ Wr.Kept [wf.heap.size] wf wx ∧ wx.heap[(wf.heap.size + 1)]? = some (.cells #[.slice la z.length lc, .slice none 0 0] 25 (0, 0)))
  case first =>
    go_wp2_with fail
    go_loopw [9] (fun i wr => ∃ (k : Nat) (z : List (Int × Int)) (s : Sum (Int × Int) (List Int)) (la : Option Addr) (lc : Nat), k ≤ n ∧ i = .int .i64 k ∧ z.length = k ∧ Stp (pI (fun _ => pSp 0) k 0) s1 z s ∧ wr.ownsRow w1.heap.size 44 2 (.slice la k lc) k (z.flatMap scs) ∧ InQ wr wf.heap.size 0 s ∧ Wr.Kept [wf.heap.size, (wf.heap.size + 1)] w1 wr ∧ wr.heap[(wf.heap.size + 1)]? = some (.cells #[.slice la k lc, .slice none 0 0] 25 (0, 0))) (fun i _ => n - (intOf i).toNat)
    case atStart => exact ⟨0, [], s1, none, 0, Nat.zero_le _, rfl, rfl, .nilI _, World.ownsRow_nil _ _ _ _, p1.out, Kept.of (Below.refl _ _), d1.out⟩
    case round =>
      obtain ⟨k, z, s, la, lc, hk, rfl, hz, hS, hO, hQ, hK, hd⟩ := hrel
      have hz' : Hid (z.length = k) := hz
      have hS' : Hid (Stp (pI (fun _ => pSp 0) k 0) s1 z s) := hS
      have hO' : Hid (wr.ownsRow w1.heap.size 44 2 (.slice la k lc) k (z.flatMap scs)) := hO
      have hQ' : Hid (InQ wr wf.heap.size 0 s) := hQ
      have hK' : Hid (Wr.Kept [wf.heap.size, (wf.heap.size + 1)] w1 wr) := hK
      have hd' : Hid (wr.heap[(wf.heap.size + 1)]? = some (.cells #[.slice la k lc, .slice none 0 0] 25 (0, 0))) := hd
      have EX : Hid ((k = n ∨ ∃ e, s = .inl e) → ∃ (z : List (Int × Int)) (s : Sum (Int × Int) (List Int)) (la : Option Addr) (lc : Nat), z.length ≤ 65 ∧ Stp (pI (fun _ => pSp 0) n 0) s1 z s ∧ wr.ownsRow (wf.heap.size + 2) 44 2 (.slice la z.length lc) z.length (z.flatMap scs) ∧ InQ wr wf.heap.size 0 s ∧ Wr.Kept [wf.heap.size] wf wr ∧ wr.heap[(wf.heap.size + 1)]? = some (.cells #[.slice la z.length lc, .slice none 0 0] 25 (0, 0))) := fun hx =>
        ⟨z, s, la, lc, by omega, by rcases hx with rfl | ⟨e, rfl⟩; exact hS; exact hS.moreI hk, by rw [hz]; exact owns_base hO z1, hQ, kept_two k1.out hK (by omega), by rw [hz]; exact hd⟩
      obtain ⟨zz, f, qe, qt, hi, hs⟩ := hQ.split
      obtain ⟨ra, rl, rc, hB, -, -⟩ := hi
      obtain ⟨cP, fP, zP⟩ := cells_at hB
      obtain ⟨cO, fO, zO⟩ := cells_at hd
      clear hS hO hQ hK hd hB hz
      by_cases hlk : k < n
      · by_cases hqe : qe = 0
        · subst hqe
          have qD : Hid (InQ wr.drew wf.heap.size 0 s) := hQ'.out.below (Below.refl _ _).drew
          have kD : Hid (Wr.Kept [wf.heap.size, (wf.heap.size + 1)] w1 wr.drew) := hK'.out.trans (Kept.of (Below.refl _ _).drew)
          have oD : Hid (wr.drew.ownsRow w1.heap.size 44 2 (.slice la k lc) k (z.flatMap scs)) := owns_below hO'.out (Below.refl _ _).drew
          have dD : Hid (wr.drew.heap[(wf.heap.size + 1)]? = some (.cells #[.slice la k lc, .slice none 0 0] 25 (0, 0))) := hd'.out
          clear EX hs hQ' hK' hO'
          go_wp2
          go_region_law (first
            | (go_simp; go_at_call 28; refine (inspan_any wf.heap.size 0 s _ qD.out).mono ?_; rintro e w3 ⟨v1, v2, s2, rfl, st, q1, k3⟩; have hd1 := (k3.2.2.2.2 _ (lt_of_heap dD.out) (by simp)).trans dD.out; obtain ⟨cQ, fQ, zQ⟩ := cells_at hd1; have hz3 : w1.heap.size ≤ w3.heap.size := (by have := k3.2.2.2.1; have := kD.out.2.2.2.1; omega); have o1 := owns_below (owns_kept oD.out k3 (by simp; omega)) (bal w3 (.cells #[.int .i64 v1, .int .i64 v2] 44)))
            | (refine step_appE (S := 22) (T := 44) (nc := 2) (by8 := 16) Try.underlying22 (show (Try.prog.info? 44).map (fun i => (i.zero, i.size, i.bytes)) = some (some (.agg #[.int .i64 0, .int .i64 0]), 2, 16) by kernel_rfl) rfl (by decide) rfl (.tmp 41) (.tmp 44) rfl w1.heap.size k (.slice la k lc) (z.flatMap scs) [.int .i64 v1, .int .i64 v2] rfl o1 ⟨w3.heap.size, 0, none⟩ rfl rfl (ecells (heap_alloc_new w3 _)) (by simp [Value.oneCell']) (by unfold maxLen; omega) (by omega) (by simp; omega) ?_; intro v5 w5 own5 gr5; have hb5 : Below w1.heap.size w3 w5 := ((bal w3 _).mono (by omega)).grown gr5 (by simp; omega) (fun b e => (o1.lt b e).1); have hd3 := (hb5.block _ (by omega)).trans hd1; obtain ⟨cS, fS, zS⟩ := cells_at hd3; obtain ⟨la3, lc3, rfl⟩ := owns_slice own5))
          all_goals
            have hE : Hid (Stp (pI (fun _ => pSp 0) (k + 1) 0) s1 (z ++ [(v1, v2)]) s2 ∧ (w5.setCell ⟨(wf.heap.size + 1), 0, none⟩ (.slice la3 (k + 1) lc3)).ownsRow w1.heap.size 44 2 (.slice la3 (k + 1) lc3) (k + 1) ((z ++ [(v1, v2)]).flatMap scs) ∧ InQ (w5.setCell ⟨(wf.heap.size + 1), 0, none⟩ (.slice la3 (k + 1) lc3)) wf.heap.size 0 s2 ∧ Wr.Kept [wf.heap.size, (wf.heap.size + 1)] w1 (w5.setCell ⟨(wf.heap.size + 1), 0, none⟩ (.slice la3 (k + 1) lc3)) ∧ (w5.setCell ⟨(wf.heap.size + 1), 0, none⟩ (.slice la3 (k + 1) lc3)).heap[(wf.heap.size + 1)]? = some (.cells #[.slice la3 (k + 1) lc3, .slice none 0 0] 25 (0, 0))) :=
              ⟨hS'.out.snocI (p := (fun _ => pSp 0)) st, by rw [flat_snoc]; exact owns_kept (L := [(wf.heap.size + 1)]) own5 Kept.set (by simp; omega), (q1.keep (hb5.mono (by omega))).keep (below_set (by omega)), (kept_below (kD.out.trans (k3.wide (by simp))) hb5).trans ((Kept.set (B := (wf.heap.size + 1))).wide (by simp)), set_at hd3⟩
            clear st q1 k3 own5 gr5 hb5 hd3 cS hd1 cQ cO o1
            go_wp2
            go_roundw
            case rel => exact ⟨k + 1, z ++ [(v1, v2)], s2, la3, lc3, by omega, by go_num, by rw [List.length_append, hz'.out]; rfl, hE.out.1, hE.out.2.1, hE.out.2.2.1, hE.out.2.2.2.1, hE.out.2.2.2.2⟩
            case measure => simp [intOf]; omega
        · have hb : (qe == 0) = false := by simpa using hqe
          have EX' : Hid _ := EX.out (.inr (by rcases hs with ⟨rfl, -⟩ | ⟨-, h, -⟩; exact ⟨_, rfl⟩; exact absurd h hqe))
          clear EX hs
          go_wp2
          go_meet
          exact EX'.out
      · have EX' : Hid _ := EX.out (.inl (by omega))
        clear EX hs
        go_wp2
        go_meet
        exact EX'.out
  case rest =>
  obtain ⟨R, s2, ra, rc, hR65, st, oR, p, k, hdd⟩ := hcut
  obtain ⟨w2, rfl⟩ : ∃ wo, wo = wc := ⟨_, rfl⟩
  obtain ⟨rn, hrn⟩ : ∃ rn, R.length = rn := ⟨_, rfl⟩
  rw [hrn] at oR hdd hR65
  have HRN : Hid (R.length = rn) := hrn
  have h2 : Hid (Stp (pI (fun _ => pSp 0) n 0) s1 R s2) := st
  have p2 : Hid (InQ w2 wf.heap.size 0 s2) := p
  have k2 : Hid (Wr.Kept [wf.heap.size] wf w2) := k
  have d2 : Hid (w2.heap[(wf.heap.size + 1)]? = some (.cells #[.slice ra rn rc, .slice none 0 0] 25 (0, 0))) := hdd
  have o2 : Hid (w2.ownsRow (wf.heap.size + 2) 44 2 (.slice ra rn rc) rn (R.flatMap scs)) := oR
  clear st oR p k hdd p1 k1 d1 z1 hrn
  go_wp2_with fail
  refine Calls.mono (inN_any wf.heap.size 0 64 _ _ p2.out (by omega) (by omega)) ?_
  rintro r w3 ⟨m, s3, rfl, hm, st, p, k⟩
  have h3 : Hid (Stp (pN 0 64) s2 (m : Int) s3) := st
  have p3 : Hid (InQ w3 wf.heap.size 0 s3) := p
  have k3 : Hid (Wr.Kept [wf.heap.size] wf w3) := k2.out.trans k
  have d3 : Hid (w3.heap[(wf.heap.size + 1)]? = some (.cells #[.slice ra rn rc, .slice none 0 0] 25 (0, 0))) := (k.2.2.2.2 _ (lt_of_heap d2.out) (by simp)).trans d2.out
  have o3 : Hid (w3.ownsRow (wf.heap.size + 2) 44 2 (.slice ra rn rc) rn (R.flatMap scs)) := owns_kept o2.out k (by simp)
  have z3 : wf.heap.size + 2 ≤ w3.heap.size := by have := lt_of_heap d3.out; omega
  have hm64 : m ≤ 64 := by omega
  clear st p k p2 k2 d2 o2 hm
  go_upto_block 2 with fail
  go_cut [] (fun wx => ∃ (z : List (List Pl)) (s : Sum (Int × Int) (List Int)) (la : Option Addr) (lc : Nat) (tt : Int), tt % 4096 = 0 ∧ Stp (pI (fun i => pLi ((i : Int) + 1)) m 0) s3 z s ∧ QOwn wx (wf.heap.size + 2) (.slice la z.length lc) z ∧ wx.ownsRow (wf.heap.size + 2) 44 2 (.slice ra rn rc) rn (R.flatMap scs) ∧ InQ wx wf.heap.size tt s ∧ Wr.Kept [wf.heap.size] wf wx ∧ wx.heap[(wf.heap.size + 1)]? = some (.cells #[.slice ra rn rc, .slice la z.length lc] 25 (0, 0)))
  case first =>
    go_wp2_with fail
    go_loopw [10] (fun i wr => ∃ (k : Nat) (z : List (List Pl)) (s : Sum (Int × Int) (List Int)) (la : Option Addr) (lc : Nat) (tt : Int), k ≤ m ∧ i = .int .i64 k ∧ z.length = k ∧ tt % 4096 = 0 ∧ Stp (pI (fun i => pLi ((i : Int) + 1)) k 0) s3 z s ∧ QOwn wr w3.heap.size (.slice la k lc) z ∧ InQ wr wf.heap.size tt s ∧ Wr.Kept [wf.heap.size, (wf.heap.size + 1)] w3 wr ∧ wr.heap[(wf.heap.size + 1)]? = some (.cells #[.slice ra rn rc, .slice la k lc] 25 (0, 0))) (fun i _ => m - (intOf i).toNat)
    case atStart => exact ⟨0, [], s3, none, 0, 0, Nat.zero_le _, rfl, rfl, rfl, .nilI _, QOwn.nil _ _, p3.out, Kept.of (Below.refl _ _), d3.out⟩
    case round =>
      obtain ⟨k, z, s, la, lc, tt, hk, rfl, hz, htt, hS, hO, hQ, hK, hd⟩ := hrel
      have hz' : Hid (z.length = k) := hz
      have hS' : Hid (Stp (pI (fun i => pLi ((i : Int) + 1)) k 0) s3 z s) := hS
      have hO' : Hid (QOwn wr w3.heap.size (.slice la k lc) z) := hO
      have hQ' : Hid (InQ wr wf.heap.size tt s) := hQ
      have hK' : Hid (Wr.Kept [wf.heap.size, (wf.heap.size + 1)] w3 wr) := hK
      have hd' : Hid (wr.heap[(wf.heap.size + 1)]? = some (.cells #[.slice ra rn rc, .slice la k lc] 25 (0, 0))) := hd
      have htt' : Hid (tt % 4096 = 0) := htt
      have EX : Hid ((k = m ∨ ∃ e, s = .inl e) → ∃ (z : List (List Pl)) (s : Sum (Int × Int) (List Int)) (la : Option Addr) (lc : Nat) (tt : Int), tt % 4096 = 0 ∧ Stp (pI (fun i => pLi ((i : Int) + 1)) m 0) s3 z s ∧ QOwn wr (wf.heap.size + 2) (.slice la z.length lc) z ∧ wr.ownsRow (wf.heap.size + 2) 44 2 (.slice ra rn rc) rn (R.flatMap scs) ∧ InQ wr wf.heap.size tt s ∧ Wr.Kept [wf.heap.size] wf wr ∧ wr.heap[(wf.heap.size + 1)]? = some (.cells #[.slice ra rn rc, .slice la z.length lc] 25 (0, 0))) := fun hx =>
        ⟨z, s, la, lc, tt, htt, by rcases hx with rfl | ⟨e, rfl⟩; exact hS; exact hS.moreI hk, by rw [hz]; exact qown_base hO z3, owns_kept o3.out hK (by simp), hQ, kept_two k3.out hK (by omega), by rw [hz]; exact hd⟩
      obtain ⟨zz, f, qe, qt, hi, hs⟩ := hQ.split
      obtain ⟨rra, rrl, rrc, hB, -, -⟩ := hi
      obtain ⟨cP, fP, zP⟩ := cells_at hB
      obtain ⟨cO, fO, zO⟩ := cells_at hd
      clear hS hO hQ hK hd hB hz htt
      by_cases hlk : k < m
      · by_cases hqe : qe = 0
        · subst hqe
          have qD : Hid (InQ (wr.setCell ⟨wf.heap.size, 2, none⟩ (.int .i64 ((k : Int) + 1))).drew wf.heap.size (((k : Int) + 1) * 4096) s) := (hQ'.out.op (by omega) (by have := htt'.out; omega)).below (Below.refl _ _).drew
          have kD : Hid (Wr.Kept [wf.heap.size, (wf.heap.size + 1)] w3 (wr.setCell ⟨wf.heap.size, 2, none⟩ (.int .i64 ((k : Int) + 1))).drew) := (hK'.out.trans ((Kept.set (B := wf.heap.size)).wide (by simp))).trans (Kept.of (Below.refl _ _).drew)
          have oD : Hid (QOwn (wr.setCell ⟨wf.heap.size, 2, none⟩ (.int .i64 ((k : Int) + 1))).drew w3.heap.size (.slice la k lc) z) := (qown_kept (L := [wf.heap.size]) hO'.out Kept.set (by simp; omega)).below (Below.refl _ _).drew
          have dD : Hid ((wr.setCell ⟨wf.heap.size, 2, none⟩ (.int .i64 ((k : Int) + 1))).drew.heap[(wf.heap.size + 1)]? = some (.cells #[.slice ra rn rc, .slice la k lc] 25 (0, 0))) := (Below.heap_setCell _ _ _ _ (by simp)).trans hd'.out
          obtain ⟨fq, fq1, fq2, fq3⟩ := oD.out
          rw [hz'.out] at fq1
          have F1 : Hid ((wr.setCell ⟨wf.heap.size, 2, none⟩ (.int .i64 ((k : Int) + 1))).drew.ownsRow w3.heap.size 45 1 (.slice la k lc) k ((List.range k).map fq)) := fq1
          have F2 : Hid (∀ i l, z[i]? = some l → (wr.setCell ⟨wf.heap.size, 2, none⟩ (.int .i64 ((k : Int) + 1))).drew.ownsRow w3.heap.size 47 6 (fq i) l.length (l.flatMap pcs) ∧ l.length * 48 ≤ 140737488351232) := fq2
          have F3 : Hid (∀ i j, i < j → j < z.length → ∀ b b', (fq i).ownBlock = some b → (fq j).ownBlock = some b' → b < b') := fq3
          have F4 : Hid (∀ i, i < z.length → ∀ b, (fq i).ownBlock = some b → b < wr.heap.size) := fun i hi b hb => by
            have := ((fq2 i z[i] (List.getElem?_eq_getElem hi)).1.lt b hb).2
            simpa using this
          have zr : w3.heap.size ≤ wr.heap.size := hK'.out.2.2.2.1
          clear EX hs hQ' hK' hO' fq1 fq2 fq3 oD
          go_wp2
          go_region_law (first
            | (go_simp; go_at_call 29; refine (inlist_any wf.heap.size ((k : Int) + 1) s _ qD.out (by omega)).mono ?_; rintro e w5 ⟨l, s5, na, nc, rfl, hl24, st, ol, q1, k5⟩; have hd1 := (k5.2.2.2.2 _ (lt_of_heap dD.out) (by simp)).trans dD.out; obtain ⟨cQ, fQ, zQ⟩ := cells_at hd1; have hz5 : wr.heap.size ≤ w5.heap.size := (by have := k5.2.2.2.1; simpa using this); obtain ⟨ln, hln⟩ : ∃ ln, l.length = ln := ⟨_, rfl⟩; rw [hln] at ol hl24 ⊢; have HLN : Hid (l.length = ln) := hln; clear hln; have o1 := owns_below (owns_kept F1.out k5 (by simp; omega)) (bal w5 (.cells #[.slice na ln nc] 45)))
            | (refine step_appE (S := 23) (T := 45) (nc := 1) (by8 := 24) Try.underlying23 (show (Try.prog.info? 45).map (fun i => (i.zero, i.size, i.bytes)) = some (some (.slice none 0 0), 1, 24) by kernel_rfl) rfl (by decide) rfl (.tmp 68) (.tmp 71) rfl w3.heap.size k (.slice la k lc) ((List.range k).map fq) [.slice na ln nc] rfl o1 ⟨w5.heap.size, 0, none⟩ rfl rfl (ecells (heap_alloc_new w5 _)) (by simp [Value.oneCell']) (by unfold maxLen; omega) (by omega) (by simp; omega) ?_; intro v7 w7 own7 gr7; have hb7 : Below w3.heap.size w5 w7 := ((bal w5 _).mono (by omega)).grown gr7 (by simp; omega) (fun b e => (o1.lt b e).1); have hd3 := (hb7.block _ (by omega)).trans hd1; obtain ⟨cS, fS, zS⟩ := cells_at hd3; obtain ⟨la3, lc3, rfl⟩ := owns_slice own7))
          all_goals
            have hQ7 : QOwn w7 w3.heap.size (.slice la3 (k + 1) lc3) (z ++ [l]) := QOwn.add (B := wr.heap.size) fq (by rw [hz'.out]; exact o1) (fun i l' hl' => ⟨owns_below (owns_kept (F2.out i l' hl').1 k5 (by simp; omega)) (bal _ _), (F2.out i l' hl').2⟩) F3.out F4.out (by rw [HLN.out]; have := owns_below ol (bal w5 (.cells #[.slice na ln nc] 45)); simpa using this) zr (by rw [HLN.out]; omega) gr7 (by rw [hz'.out]; exact own7)
            have hE : Hid (Stp (pI (fun i => pLi ((i : Int) + 1)) (k + 1) 0) s3 (z ++ [l]) s5 ∧ QOwn (w7.setCell ⟨(wf.heap.size + 1), 1, none⟩ (.slice la3 (k + 1) lc3)) w3.heap.size (.slice la3 (k + 1) lc3) (z ++ [l]) ∧ InQ (w7.setCell ⟨(wf.heap.size + 1), 1, none⟩ (.slice la3 (k + 1) lc3)) wf.heap.size (((k : Int) + 1) * 4096) s5 ∧ Wr.Kept [wf.heap.size, (wf.heap.size + 1)] w3 (w7.setCell ⟨(wf.heap.size + 1), 1, none⟩ (.slice la3 (k + 1) lc3)) ∧ (w7.setCell ⟨(wf.heap.size + 1), 1, none⟩ (.slice la3 (k + 1) lc3)).heap[(wf.heap.size + 1)]? = some (.cells #[.slice ra rn rc, .slice la3 (k + 1) lc3] 25 (0, 0))) :=
              ⟨hS'.out.snocI (p := (fun i => pLi ((i : Int) + 1))) st, qown_kept (L := [(wf.heap.size + 1)]) hQ7 Kept.set (by simp; omega), (q1.keep (hb7.mono (by omega))).keep (below_set (by omega)), (kept_below (kD.out.trans (k5.wide (by simp))) hb7).trans ((Kept.set (B := (wf.heap.size + 1))).wide (by simp)), set_at hd3⟩
            clear st q1 k5 own7 gr7 hb7 hd3 cS hd1 cQ cO o1 hQ7 ol
            go_wp2
            go_roundw
            case rel => exact ⟨k + 1, z ++ [l], s5, la3, lc3, ((k : Int) + 1) * 4096, by omega, by go_num, by rw [List.length_append, hz'.out]; rfl, by omega, hE.out.1, hE.out.2.1, hE.out.2.2.1, hE.out.2.2.2.1, hE.out.2.2.2.2⟩
            case measure => simp [intOf]; omega
        · have hb : (qe == 0) = false := by simpa using hqe
          have EX' : Hid _ := EX.out (.inr (by rcases hs with ⟨rfl, -⟩ | ⟨-, h, -⟩; exact ⟨_, rfl⟩; exact absurd h hqe))
          clear EX hs
          go_wp2
          go_meet
          exact EX'.out
      · have EX' : Hid _ := EX.out (.inl (by omega))
        clear EX hs
        go_wp2
        go_meet
        exact EX'.out
  case rest =>
  obtain ⟨Pz, s4, pa, pc, tt, htt, st, oP, oR, p, k, hdd⟩ := hcut
  obtain ⟨w4, rfl⟩ : ∃ wo, wo = wc := ⟨_, rfl⟩
  obtain ⟨pn, hpn⟩ : ∃ pn, Pz.length = pn := ⟨_, rfl⟩
  rw [hpn] at oP hdd
  have HPN : Hid (Pz.length = pn) := hpn
  have hM : Hid (Stp pCe (.inr (zs.drop 4)) (R, Pz) s4) := (stp_nt h1.out h2.out).bind (p := pRs) (q := fun R r => pbind (pLs r) fun P r' => .inr ((R, P), r')) ((stp_nt h3.out st : Stp pLs s2 Pz s4).last fun P => (R, P))
  have p4 : Hid (InQ (w4.setCell ⟨wf.heap.size, 2, none⟩ (.int .i64 0)) wf.heap.size 0 s4) := p.op (by omega) (by omega)
  have k4 : Hid (Wr.Kept [wf.heap.size] wf (w4.setCell ⟨wf.heap.size, 2, none⟩ (.int .i64 0))) := k.trans Kept.set
  have d4 : Hid ((w4.setCell ⟨wf.heap.size, 2, none⟩ (.int .i64 0)).heap[(wf.heap.size + 1)]? = some (.cells #[.slice ra rn rc, .slice pa pn pc] 25 (0, 0))) := (Below.heap_setCell _ _ _ _ (by simp)).trans hdd
  have o4 : Hid ((w4.setCell ⟨wf.heap.size, 2, none⟩ (.int .i64 0)).ownsRow (wf.heap.size + 2) 44 2 (.slice ra rn rc) rn (R.flatMap scs)) := owns_kept (L := [wf.heap.size]) oR Kept.set (by simp)
  have l4 : Hid (QOwn (w4.setCell ⟨wf.heap.size, 2, none⟩ (.int .i64 0)) (wf.heap.size + 2) (.slice pa pn pc) Pz) := qown_kept (L := [wf.heap.size]) oP Kept.set (by simp)
  obtain ⟨zz, ff, qq, qq2, hi, -⟩ := p.split
  obtain ⟨rra, rrl, rrc, hB, -, -⟩ := hi
  obtain ⟨cP, fP, zP⟩ := cells_at hB
  obtain ⟨z8, f8, qe, qt, i8, hs8⟩ := p4.out.split
  have I8 : Hid (InR (w4.setCell ⟨wf.heap.size, 2, none⟩ (.int .i64 0)) wf.heap.size z8 f8 0 qe qt) := i8
  have hEnd : Hid ((ntE (endR z8 f8) qe ≠ 0 ∧ pAll zs = .inl (ntE (endR z8 f8) qe, ntT (endR z8 f8) qe 0 qt)) ∨ (ntE (endR z8 f8) qe = 0 ∧ pAll zs = .inr (R, Pz))) := stp_end hP.out hM.out hs8
  clear st oR oP p k hdd p3 k3 d3 z3 o3 hB hpn p4 hM hs8 hP i8 h1 h2 h3
  go_wp2_with fail
  refine Calls.mono (dEnd_is wf.heap.size z8 f8 0 qe qt _ I8.out) ?_
  rintro r we ⟨rfl, rfl⟩
  clear cP fP zP
  go_wp2_with fail
  refine Calls.mono (note_any wf.heap.size z8 f8 0 qe qt (endR z8 f8) _ I8.out) ?_
  rintro r w9 ⟨rfl, i9, k⟩
  have i9' : InR w9 wf.heap.size z8 f8 0 (ntE (endR z8 f8) qe) (ntT (endR z8 f8) qe 0 qt) := i9
  obtain ⟨ee, hee⟩ : ∃ ee, ntE (endR z8 f8) qe = ee := ⟨_, rfl⟩
  obtain ⟨te, hte⟩ : ∃ te, ntT (endR z8 f8) qe 0 qt = te := ⟨_, rfl⟩
  rw [hee, hte] at hEnd i9'
  clear hee hte
  have d9 := (k.2.2.2.2 _ (lt_of_heap d4.out) (by simp)).trans d4.out
  have k9 : Hid (Wr.Kept [wf.heap.size] wf w9) := k4.out.trans k
  have o9 : Hid (w9.ownsRow (wf.heap.size + 2) 44 2 (.slice ra rn rc) rn (R.flatMap scs)) := owns_kept o4.out k (by simp)
  have l9 : Hid (QOwn w9 (wf.heap.size + 2) (.slice pa pn pc) Pz) := qown_kept l4.out k (by simp)
  have D9 : Hid (w9.heap[(wf.heap.size + 1)]? = some (.cells #[.slice ra rn rc, .slice pa pn pc] 25 (0, 0))) := d9
  obtain ⟨rra, rrl, rrc, hB, -, -⟩ := i9'
  obtain ⟨cP, fP, zP⟩ := cells_at hB
  clear i9 k k4 o4 l4 d4 I8 hB
  have hN : w9.heap[w.heap.size]? = some (.cells #[.slice none 0 0, .slice none 0 0] 25 (0, 0)) := (k9.out.2.2.2.2 _ (by omega) (by simp; omega)).trans S1.out.h2
  have hM : w9.heap[w.heap.size + 1]? = some (.cells #[.int .i64 0, .int .i64 0, .int .i64 0] 30 (0, 0)) := (k9.out.2.2.2.2 _ (by omega) (by simp; omega)).trans S1.out.h1
  have hB9 : Hid (Below w.heap.size w w9) := S1.out.below.trans ⟨k9.out.1, k9.out.2.1, k9.out.2.2.1, k9.out.2.2.2.1, fun i hi => k9.out.2.2.2.2 i (by omega) (by simp; omega)⟩
  have hne : w.heap.size ≠ w.heap.size + 1 := by omega
  clear S1 k9
  by_cases hee : ¬ ee = 0
  · have hA : Hid (pAll zs = .inl (ee, te)) := by rcases hEnd.out with ⟨-, h⟩ | ⟨h, -⟩; exact h; exact absurd h hee
    have hx3 : (ee != 0) = true := by simpa using hee
    have hx2 : (ee == 0) = false := by simpa using hee
    obtain ⟨c1, f1, z1⟩ := cells_at hN
    obtain ⟨c2, f2, z2⟩ := cells_at hM
    clear hEnd D9 o9 l9 hee
    go_wp2
    go_region_law (fail)
    all_goals
      obtain ⟨wz, hwz⟩ : ∃ wz, wz = ((((w9.setCell ⟨w.heap.size, 0, none⟩ (.slice none 0 0)).setCell ⟨w.heap.size, 1, none⟩ (.slice none 0 0)).setCell ⟨w.heap.size + 1, 0, none⟩ (.int .i64 ee)).setCell ⟨w.heap.size + 1, 1, none⟩ (.int .i64 (te / 4096))).setCell ⟨w.heap.size + 1, 2, none⟩ (.int .i64 (te % 4096)) := ⟨_, rfl⟩
      rw [← hwz]
      obtain ⟨q1, q2, q3, q4⟩ := set23 hN hM hne (Nat.le_refl _) (Nat.le_succ _) hwz
      have Q3 : Hid (Below w.heap.size w wz) := hB9.out.trans q3
      clear hwz q3 q4 c1 f1 z1 c2 f2 z2 hN hM
      obtain ⟨c1, f1, z1⟩ := cells_at q1
      obtain ⟨c2, f2, z2⟩ := cells_at q2
      go_wp2
      exact bodyPost_ret (v := .tuple #[.agg #[.slice none 0 0, .slice none 0 0], .agg #[.int .i64 ee, .int .i64 (te / 4096), .int .i64 (te % 4096)]]) (by simp [results, Try.results16, go_sem, c1, c2]) rfl ⟨.inl ⟨ee, te, hA.out, rfl⟩, Q3.out.drew⟩
  obtain rfl : ee = 0 := Decidable.not_not.1 hee
  clear hee
  have hA : Hid (pAll zs = .inr (R, Pz)) := by rcases hEnd.out with ⟨h, -⟩ | ⟨-, h⟩; exact absurd rfl h; exact h
  obtain ⟨c1, f1, z1⟩ := cells_at hN
  obtain ⟨c2, f2, z2⟩ := cells_at hM
  obtain ⟨c3, f3, z3⟩ := cells_at D9.out
  clear hEnd
  go_wp2
  obtain ⟨wz, hwz⟩ : ∃ wz, wz = ((((w9.setCell ⟨w.heap.size, 0, none⟩ (.slice ra rn rc)).setCell ⟨w.heap.size, 1, none⟩ (.slice pa pn pc)).setCell ⟨w.heap.size + 1, 0, none⟩ (.int .i64 0)).setCell ⟨w.heap.size + 1, 1, none⟩ (.int .i64 0)).setCell ⟨w.heap.size + 1, 2, none⟩ (.int .i64 0) := ⟨_, rfl⟩
  rw [← hwz]
  obtain ⟨q1, q2, q3, q4⟩ := set23 hN hM hne (Nat.le_refl _) (Nat.le_succ _) hwz
  have Q3 : Hid (Below w.heap.size w wz) := hB9.out.trans q3
  have QS : Hid (Wr.Kept [w.heap.size, w.heap.size + 1] w9 wz) := ⟨q3.os, q3.tape, q3.output, q3.size, fun k _ hk => q4 k (fun e => hk (by simp [e])) (fun e => hk (by simp [e]))⟩
  clear hwz q3 q4 c1 f1 z1 c2 f2 z2 c3 f3 z3 hN hM
  obtain ⟨c1, f1, z1⟩ := cells_at q1
  obtain ⟨c2, f2, z2⟩ := cells_at q2
  exact bodyPost_ret (v := .tuple #[.agg #[.slice ra rn rc, .slice pa pn pc], .agg #[.int .i64 0, .int .i64 0, .int .i64 0]]) (by simp [results, Try.results16, go_sem, c1, c2]) rfl ⟨.inr ⟨ra, rn, rc, R, pa, pn, pc, Pz, hA.out, HRN.out, HPN.out, rfl, owns_base (owns_kept o9.out QS.out (by simp; omega)) (by omega), qown_base (qown_kept l9.out QS.out (by simp; omega)) (by omega)⟩, Q3.out⟩
end Go.Proofs.Ythlnhodfgmpabaa.Sl
