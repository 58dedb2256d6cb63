/- What places of package terms returns of an op with a window: the places of a channel's terms at a position. Check, Shapes and Work of package model: what each answers. The document's Makes, Length, Lists and Labour of layer 8: what each returns. -/
import Derived.Test.YtcphealigifdiaaGreatGr11
import Derived.Test.YtcphealigifdiaaGreatGr12
import Derived.Test.YtcphealigifdiaaGreatGr13
import Derived.Test.YtcphealigifdiaaGreatGr15
/- What places of package terms returns of an op with a window: the places of a channel's terms at a position. -/
namespace Go.Proofs.YtcphealigifdiaaGreat
open Go.ChangeShapes Go.WideShapes Go.ChangeAt Go.RowKit Go.Shelf
set_option linter.unusedVariables false
attribute [local go_sem] Oper.semAt_some
/-- The place, whatever the tap's number is. -/
def covW (C p c : Int) : Int := if p = -1 then -1 else wrap64 (wrap64 (p * C) + c)
theorem covW_eq {C p c : Int} (hq : -1 ≤ p ∧ p ≤ 16384) (hd : 0 ≤ c ∧ c ≤ 1024) (hc : 1 ≤ C ∧ C ≤ 1024) : covW C p c = cov C p c := by
  unfold covW cov
  by_cases q1 : p = -1
  · rw [if_pos q1, if_pos q1]
  · rw [if_neg q1, if_neg q1]
    have p1 : 0 ≤ p * C := Int.mul_nonneg (by omega) (by omega)
    have p2 : p * C ≤ 16384 * 1024 := Int.mul_le_mul hq.2 hc.2 (by omega) (by omega)
    have e1 : wrap64 (p * C) = p * C := by unfold wrap64; omega
    rw [e1]
    unfold wrap64
    omega
set_option maxHeartbeats 1000000 in
theorem tplaceW_any (k a b m kh kw sh sw tp lf bt rt : Int) (wa : Option Addr) (lw wc : Nat) (ba : Option Addr) (lb bc : Nat) (sm ss um us z p lo hi h w c H V C : Int) (r : Nat) (W : World) (hr : W.heap[r]? = some (.cells #[Jv k, Jv a, Jv b, Jv m, Jv kh, Jv kw, Jv sh, Jv sw, Jv tp, Jv lf, Jv bt, Jv rt, .slice wa lw wc, .slice ba lb bc, Jv sm, Jv ss, Jv um, Jv us, Jv z, Jv p, Jv lo, Jv hi, Jv h, Jv w, Jv c, Jv H, Jv V, Jv C] 97 (0, 0))) (q d : Int) :
    Calls Tryz.prog 80 #[.pointer (some ⟨r, 0, none⟩), Jv q, Jv d] W fun e w' => e = .returned (Jv (covW c q d)) ∧ w' = W := by
  obtain ⟨y1, y2, y3⟩ := cells_at hr
  clear hr
  by_cases q1 : q = -1
  · subst q1
    rw [show covW c (-1) d = -1 from if_pos rfl]
    go_enter Tryz.func80, Tryz.ntmps80
    go_wp2
    go_ret
    exact ⟨rfl, rfl⟩
  · rw [show covW c q d = wrap64 (wrap64 (q * c) + d) from if_neg q1]
    have q1' : (q == -1) = false := by simp [q1]
    go_enter Tryz.func80, Tryz.ntmps80
    go_wp2
    go_ret
    exact ⟨rfl, rfl⟩
/-- What lies about the loop over the taps: the list so far in its variable, the op, the channels. -/
def QI (lo' hi' base Bx B3 B9 B10 r : Nat) (F G : Int) (w5 W : World) (l : List Int) (W' : World) : Prop :=
  ∃ v, Boxed W' Bx 111 v ∧ Nx.Own W' base v l ∧ (∀ b, v.ownBlock = some b → b < Bx ∨ hi' ≤ b) ∧ Boxed W' B3 113 (.pointer (some ⟨r, 0, none⟩)) ∧ Boxed W' B9 3 (Jv F) ∧ Boxed W' B10 3 (Jv G) ∧ Mid lo' hi' w5 W' ∧ Below W.heap.size W W' ∧ hi' ≤ W'.heap.size
theorem boxed_turn {W W' : World} {B : Nat} {t : TypeId} {v : Value} {row : Option Nat} (h : Boxed W B t v) (k : W.grownBy W' row) (hr : ∀ r, row = some r → ∃ o : Obj, W.heap[r]? = some o ∧ o.isCells = false) : Boxed W' B t v :=
  Go.Boxed.kept h k fun e => by
    obtain ⟨o, ho, hn⟩ := hr B e.symm
    rw [show W.heap[B]? = _ from h] at ho; cases ho; cases hn
theorem QI.turn {lo' hi' base Bx B3 B9 B10 r : Nat} {F G : Int} {w5 W : World} {l : List Int} {W1 W2 : World} {row : Option Nat} (h : QI lo' hi' base Bx B3 B9 B10 r F G w5 W l W1) (k : W1.grownBy W2 row) (hz : W.heap.size ≤ hi') (hr : ∀ q, row = some q → hi' ≤ q ∧ ∃ o : Obj, W1.heap[q]? = some o ∧ o.isCells = false) : QI lo' hi' base Bx B3 B9 B10 r F G w5 W l W2 := by
  obtain ⟨v, a1, a2, a3, a4, a5, a6, a7, a8, a9⟩ := h
  have hn : ∀ q, row = some q → ∃ o : Obj, W1.heap[q]? = some o ∧ o.isCells = false := fun q e => (hr q e).2
  refine ⟨v, boxed_turn a1 k hn, World.ownsRow.kept a2 k ?_, a3, boxed_turn a4 k hn, boxed_turn a5 k hn, boxed_turn a6 k hn, a7.trans (Mid.grown k fun b e => .inr (hr b e).1), a8.grown k a8.size (fun b e => Nat.le_trans hz (hr b e).1), Nat.le_trans a9 k.size⟩
  rcases a2.2 with ⟨rfl, _⟩ | ⟨g, cap, cur, rfl, _, hb, _⟩
  · exact .inl rfl
  · refine .inr fun e => ?_
    obtain ⟨o, ho, hn'⟩ := hn g (by rw [← e]; rfl)
    rw [hb] at ho; cases ho; cases hn'
/-- Behind 'list = append(list, z)'. -/
theorem QI.app {lo' hi' base Bx B3 B9 B10 r : Nat} {F G z : Int} {w5 W : World} {l : List Int} {W1 w1 : World} {v v' : Value} {tmp : Obj}
    (a1 : Boxed W1 Bx 111 v) (a2 : Nx.Own W1 base v l) (a3 : ∀ b, v.ownBlock = some b → b < Bx ∨ hi' ≤ b) (a4 : Boxed W1 B3 113 (.pointer (some ⟨r, 0, none⟩))) (a5 : Boxed W1 B9 3 (Jv F)) (a6 : Boxed W1 B10 3 (Jv G)) (a7 : Mid lo' hi' w5 W1) (a8 : Below W.heap.size W W1) (a9 : hi' ≤ W1.heap.size)
    (hB : W.heap.size ≤ base ∧ base ≤ Bx ∧ B3 < base ∧ Bx < B9 ∧ Bx < B10 ∧ B9 < lo' ∧ B10 < lo' ∧ lo' ≤ hi') (own' : Nx.Own w1 base v' (l ++ [z])) (gr : (W1.alloc tmp).grownBy w1 v.ownBlock) (hat : v'.ownBlock = v.ownBlock ∨ v'.ownBlock = some (W1.alloc tmp).heap.size) :
    Boxed w1 Bx 111 v ∧ KeepsOthers W1 (w1.setCell ⟨Bx, 0, none⟩ v') ∧ Mid lo' hi' W1 (w1.setCell ⟨Bx, 0, none⟩ v') ∧ QI lo' hi' base Bx B3 B9 B10 r F G w5 W (l ++ [z]) (w1.setCell ⟨Bx, 0, none⟩ v') := by
  have hrow : ∀ b, v.ownBlock = some b → base ≤ b := fun b e => a2.block e
  have hne : ∀ b t u, Boxed W1 b t u → b ≠ Bx → v.ownBlock ≠ some b → Boxed (w1.setCell ⟨Bx, 0, none⟩ v') b t u := fun b t u hb h1 h2 => ((hb.alloc tmp).kept gr (fun e => h2 e.symm)).other h1 v'
  have hv1 : Boxed w1 Bx 111 v := (a1.alloc tmp).kept gr (a1.not_row (by decide) a2)
  have hrb : v.ownBlock ≠ some Bx := fun e => (a1.not_row (by decide) a2) e.symm
  have hm : Mid lo' hi' W1 (w1.setCell ⟨Bx, 0, none⟩ v') := ((Mid.later ((Below.refl _ W1).alloc (Nat.le_refl _) tmp)).trans (Mid.grown gr fun b e => by have := a3 b e; omega)).trans (Mid.set _ (by omega))
  have hb : Below W.heap.size W1 (w1.setCell ⟨Bx, 0, none⟩ v') := (((Below.refl W.heap.size W1).alloc a8.size tmp).grown gr (by have := a8.size; simp; omega) fun j ej => (by have := hrow j ej; omega)).setCell (p := ⟨Bx, 0, none⟩) (by show W.heap.size ≤ Bx; omega) v'
  refine ⟨hv1, ?_, hm, v', hv1.set v', World.ownsRow.kept own' (grownBy_setCell' w1 Bx v') (.inr (hv1.not_row (by decide) own').symm), fun b e => ?_, hne _ _ _ a4 (by omega) (fun e => by have := hrow _ e; omega), hne _ _ _ a5 (by omega) (fun e => by have := a3 _ e; omega), hne _ _ _ a6 (by omega) (fun e => by have := a3 _ e; omega), a7.trans hm, a8.trans hb, Nat.le_trans a9 hb.size⟩
  · refine ((KeepsOthers.alloc W1 tmp).trans (KeepsOthers.of_grownBy gr fun j o ej hj => ?_)).trans (KeepsOthers.setCell _ _ _)
    have a2' : Nx.Own (W1.alloc tmp) base v l := a2.alloc tmp
    rcases a2'.2 with ⟨rfl, _⟩ | ⟨g, cap, cur, rfl, _, hgb, _⟩
    · simp [Value.ownBlock] at ej
    · obtain rfl : g = j := by simpa [Value.ownBlock] using ej
      rw [hgb] at hj; cases hj; rfl
  · rcases hat with h | h
    · exact a3 b (by rw [← h]; exact e)
    · rw [h, World.size_alloc] at e
      have := Option.some.inj e
      omega
/-- The places that go with these taps. -/
def pfl (nC : Nat) (c F : Int) (l : List (Int × Int)) : List Int := l.flatMap fun p => (List.range nC).map fun (j : Nat) => covW c p.2 (F + j)
theorem pfl_len (nC : Nat) (c F : Int) (l : List (Int × Int)) : (pfl nC c F l).length = l.length * nC := by
  induction l with
  | nil => simp [pfl]
  | cons x l ih => simp [pfl] at ih ⊢; rw [ih, Nat.add_mul]; omega
theorem pfl_snoc (nC : Nat) (c F : Int) (l : List (Int × Int)) (x : Int × Int) : pfl nC c F (l ++ [x]) = pfl nC c F l ++ (List.range nC).map fun (j : Nat) => covW c x.2 (F + j) := by simp [pfl]
theorem plA_at {k c ch h w kw t u : Int} {nC q j : Nat} (hk : k ≠ 1) (hn : (nC : Int) = chB k c ch - chF k ch) (hj : j < nC) : plA k c ch h w kw t u ((q * nC + j : Nat) : Int) = cov c (tpc h w kw t u (q : Int)) (chF k ch + (j : Int)) := by
  have e := spot_at (y := q) hj
  simp only [Prod.mk.injEq] at e
  obtain ⟨e1, e2⟩ := e
  unfold plA
  rw [if_neg hk]
  by_cases k2 : k = 2
  · rw [if_pos k2]
    have h1 : chF k ch = 0 := if_pos k2
    have h2 : chB k c ch = c := if_pos k2
    rw [h1, h2] at hn
    have hc : c = (nC : Int) := by omega
    rw [h1, hc, e1, e2, Int.zero_add]
  · rw [if_neg k2]
    have h1 : chF k ch = ch - 1 := if_neg k2
    have h2 : chB k c ch = ch := if_neg k2
    rw [h1, h2] at hn
    obtain rfl : nC = 1 := by omega
    obtain rfl : j = 0 := by omega
    rw [h1]
    simp
theorem plc_bd {h w y x : Int} (hh : 1 ≤ h ∧ h ≤ 1024) (hw : 1 ≤ w ∧ w ≤ 1024) (hm : h * w ≤ 16384) : -1 ≤ plc h w y x ∧ plc h w y x ≤ 16384 := by
  by_cases q : (0 ≤ y ∧ y < h) ∧ (0 ≤ x ∧ x < w)
  · rw [plc_in q]
    have := rowbd q.1.2 q.1.1 q.2.1 q.2.2
    omega
  · rw [plc_out q]; omega
/-- The places of all taps are those of the terms. -/
theorem pfl_tap {k c ch h w kw t u : Int} {nC : Nat} (hk : k ≠ 1) (hn : (nC : Int) = chB k c ch - chF k ch) (hF : 0 ≤ chF k ch) (hB : chB k c ch ≤ 1024) (hc : 1 ≤ c ∧ c ≤ 1024) (hh : 1 ≤ h ∧ h ≤ 1024) (hw : 1 ≤ w ∧ w ≤ 1024) (hm : h * w ≤ 16384) :
    ∀ N : Nat, pfl nC c (chF k ch) (tapL h w kw t u N) = plL k c ch h w kw t u (N * nC)
  | 0 => by simp [pfl, plL, tapL]
  | N + 1 => by
    rw [tapL_succ, pfl_snoc, pfl_tap hk hn hF hB hc hh hw hm N]
    have g : ∀ j, j ≤ nC → plL k c ch h w kw t u (N * nC + j) = plL k c ch h w kw t u (N * nC) ++ (List.range j).map fun (i : Nat) => covW c (tap h w kw t u N).2 (chF k ch + i) := by
      intro j
      induction j with
      | zero => intro _; simp
      | succ j ih =>
        intro hj
        rw [← Nat.add_assoc, plL_succ, ih (by omega), List.range_succ, List.map_append, ← List.append_assoc, plA_at hk hn (by omega)]
        rw [show (List.map (fun (i : Nat) => covW c (tap h w kw t u N).2 (chF k ch + i)) [j]) = [covW c (tap h w kw t u N).2 (chF k ch + j)] from rfl]
        rw [covW_eq (p := (tap h w kw t u N).2) (plc_bd hh hw hm) (by omega) hc]
        rfl
    rw [← g nC (Nat.le_refl _), Nat.add_mul, Nat.one_mul]
set_option maxRecDepth 100000 in
set_option maxHeartbeats 8000000 in
theorem places_w (k a b m kh kw sh sw tp lf bt rt : Int) (wa : Option Addr) (lw wc : Nat) (ba : Option Addr) (lb bc : Nat) (sm ss um us z p lo hi h w c H V C : Int) (r : Nat) (W : World) (hr : W.heap[r]? = some (.cells #[Jv k, Jv a, Jv b, Jv m, Jv kh, Jv kw, Jv sh, Jv sw, Jv tp, Jv lf, Jv bt, Jv rt, .slice wa lw wc, .slice ba lb bc, Jv sm, Jv ss, Jv um, Jv us, Jv z, Jv p, Jv lo, Jv hi, Jv h, Jv w, Jv c, Jv H, Jv V, Jv C] 97 (0, 0))) (s : Sit k kh kw sh sw tp lf bt rt h w c H V C lw lb) (k1 : k ≠ 1) (ch at' : Int) (hch : 1 ≤ ch ∧ ch ≤ C) (hat : 0 ≤ at' ∧ at' < H * V) (st : Nat) (hst : stR k kh kw h w c = (st : Int)) :
    Calls Tryz.prog 64 #[.pointer (some ⟨r, 0, none⟩), Jv ch, Jv at'] W fun e w' => (∃ v, e = .returned v ∧ Nx.Own w' W.heap.size v (plL k c ch h w kw (coR h w c kh kw sh sw tp lf bt rt at').1 (coR h w c kh kw sh sw tp lf bt rt at').2.1 st)) ∧ Below W.heap.size W w' := by
  obtain ⟨i0, hi0, hz0, hz1, hz2⟩ := info_parts Nx.Tryz.infoI
  have hlen : st ≤ 512 := by have := s.2.2.2.2.2.2.2.2.2; rw [hst] at this; omega
  have hrz : r < W.heap.size := lt_of_heap hr
  have hbk : Hid (∀ w', Below W.heap.size W w' → w'.heap[r]? = some (.cells #[Jv k, Jv a, Jv b, Jv m, Jv kh, Jv kw, Jv sh, Jv sw, Jv tp, Jv lf, Jv bt, Jv rt, .slice wa lw wc, .slice ba lb bc, Jv sm, Jv ss, Jv um, Jv us, Jv z, Jv p, Jv lo, Jv hi, Jv h, Jv w, Jv c, Jv H, Jv V, Jv C] 97 (0, 0))) := fun w' hb => (hb.block r hrz).trans hr
  have hL : Hid (∀ w', Below W.heap.size W w' → Calls Tryz.prog 77 #[.pointer (some ⟨r, 0, none⟩)] w' fun e w'' => e = .returned (Jv st) ∧ ∃ m, w'' = w'.drewN m) := fun w' hb => by rw [← hst]; exact tlen_any k a b m kh kw sh sw tp lf bt rt wa lw wc ba lb bc sm ss um us z p lo hi h w c H V C r w' (hbk.out w' hb) s
  obtain ⟨hk, hvA, hvB, hou, -, hwn, -, h3c, -⟩ := s
  have hC1 := (vS_yes hvB).2.2.1
  have hc1 := (vS_yes hvA).2.2.1
  have hd1 := (vS_yes hvA).1
  have hw1 := (vS_yes hvA).2.1
  obtain ⟨hk1, hk2⟩ := hwn (by omega)
  -- the channels
  have hF : 0 ≤ chF k ch := by unfold chF; split <;> omega
  have hB0 : chB k c ch ≤ 1024 := by unfold chB; split <;> omega
  have hFB : chF k ch < chB k c ch := by unfold chF chB; split <;> omega
  obtain ⟨nC, hnC⟩ : ∃ nC : Nat, (nC : Int) = chB k c ch - chF k ch := ⟨(chB k c ch - chF k ch).toNat, by omega⟩
  have hR : Hid (∀ w', Below W.heap.size W w' → Calls Tryz.prog 78 #[.pointer (some ⟨r, 0, none⟩), Jv ch] w' fun e w'' => e = .returned (.tuple #[Jv (chF k ch), Jv (chB k c ch)]) ∧ ∃ m, w'' = w'.drewN m) := fun w' hb => tread_any k a b m kh kw sh sw tp lf bt rt wa lw wc ba lb bc sm ss um us z p lo hi h w c H V C r w' (hbk.out w' hb) ch (by omega)
  -- the taps
  rcases coR_cases h w c kh kw sh sw tp lf bt rt at' with ⟨e, he, h2⟩ | ⟨rr, qq, he, hf, hn, hcc⟩
  · exfalso
    unfold coR at he
    rw [hou (by omega)] at he
    simp only at he
    rw [if_pos trivial, if_pos hat] at he
    simp at he
    omega
  have hcor := cor_of hf hn
  have htp : tapsOf h w c kh kw sh sw tp lf bt rt at' = tapL h w kw (coR h w c kh kw sh sw tp lf bt rt at').1 (coR h w c kh kw sh sw tp lf bt rt at').2.1 (kh * kw).toNat := by rw [tapsOf_ok hcc, hcc]
  obtain ⟨t, ht⟩ : ∃ t, (coR h w c kh kw sh sw tp lf bt rt at').1 = t := ⟨_, rfl⟩
  obtain ⟨u, hu⟩ : ∃ u, (coR h w c kh kw sh sw tp lf bt rt at').2.1 = u := ⟨_, rfl⟩
  rw [ht, hu] at htp ⊢
  obtain ⟨N, hN⟩ : ∃ N : Nat, kh * kw = (N : Int) := ⟨(kh * kw).toNat, by have := (mul_bd hk1.1 hk1.2 hk2.1 hk2.2).1; omega⟩
  have hN2 : N ≤ 1024 := by have := (mul_bd hk1.1 hk1.2 hk2.1 hk2.2).2; omega
  have hstN : st = N * nC := by
    have e : stR k kh kw h w c = (N : Int) * nC := by
      unfold stR
      rw [if_neg k1, hN, hnC]
      by_cases k2 : k = 2
      · rw [if_pos k2, show chB k c ch = c from if_pos k2, show chF k ch = 0 from if_pos k2, Int.sub_zero]
      · rw [if_neg k2, if_pos (by omega), show chB k c ch = ch from if_neg k2, show chF k ch = ch - 1 from if_neg k2, show ch - (ch - 1) = 1 by omega, Int.mul_one]
    rw [hst] at e
    exact_mod_cast e
  have htl : pfl nC c (chF k ch) (tapsOf h w c kh kw sh sw tp lf bt rt at') = plL k c ch h w kw t u st := by
    rw [htp, hN, Int.toNat_natCast, hstN]
    exact pfl_tap k1 hnC hF hB0 hc1 hd1 hw1 hcor.2.2.1 N
  have hnC2 : nC ≤ 1024 := by omega
  obtain ⟨ys, hys⟩ : ∃ ys, tapsOf h w c kh kw sh sw tp lf bt rt at' = ys := ⟨_, rfl⟩
  have HY : Hid (tapsOf h w c kh kw sh sw tp lf bt rt at' = ys) := hys
  have hyl : ys.length ≤ 1024 := by have := Nx.tapsOf_len h w c kh kw sh sw tp lf bt rt at'; rw [hys] at this; exact this
  rw [hys] at htl
  rw [← htl]
  obtain ⟨F, hFe⟩ : ∃ F, chF k ch = F := ⟨_, rfl⟩
  obtain ⟨G, hGe⟩ : ∃ G, chB k c ch = G := ⟨_, rfl⟩
  rw [hFe, hGe] at hR hnC hFB
  rw [hFe] at hF ⊢
  rw [hGe] at hB0
  have hPl : Hid (∀ (w' : World) (q d : Int), Below W.heap.size W w' → Calls Tryz.prog 80 #[.pointer (some ⟨r, 0, none⟩), Jv q, Jv d] w' fun e w'' => e = .returned (Jv (covW c q d)) ∧ w'' = w') := fun w' q d hb => tplaceW_any k a b m kh kw sh sw tp lf bt rt wa lw wc ba lb bc sm ss um us z p lo hi h w c H V C r w' (hbk.out w' hb) q d
  have k1' : (k == 1) = false := by simp [k1]
  have hst5 : st ≤ 2000000 := by omega
  clear hst hvA hvB hou h3c he hf hn hcc hcor htp ht hu hN hN2 hstN htl hys hFe hGe hlen hwn
  have s0 := (St.start W).new (c := #[.pointer (some ⟨r, 0, none⟩)]) (t := 113)
  have hfn : ∀ f, Fence.wide.fn f := fun _ => trivial
  have hdp : Fence.wide.depth = none := rfl
  refine (callsIn_wide (n := 3)).1 ?_
  refine callsIn_of_wp_marks Tryz.func64 rfl trivial ?_ rfl
  simp only [Tryz.ntmps64, List.size_toArray, List.length_cons, List.length_nil, Nat.reduceAdd, Nat.reduceSub, Array.replicate_succ, Array.replicate_zero, List.push_toArray, List.append_toArray, List.nil_append, List.cons_append]
  refine wpIn_wide.2 ?_
  go_wp2_with fail
  refine (hL.out _ s0.below).mono ?_
  rintro e w1 ⟨rfl, m, rfl⟩
  have s1 := s0.call (dbel _ m)
  obtain ⟨w1, hw1⟩ : ∃ w1, (W.alloc (.cells #[.pointer (some ⟨r, 0, none⟩)] 113)).drewN m = w1 := ⟨_, rfl⟩
  rw [hw1] at s1 ⊢
  have hz : W.heap.size + 1 = w1.heap.size := by rw [← hw1]; simp
  clear hw1
  obtain ⟨c1, f1, z1, -⟩ := s1.rules
  go_wp2_with (first
    | (at_make; refine wpList_make_own _ rfl _ _ 111 rfl w1.heap.size 3 i0 (Jv 0) 1 Tryz.underlying111 hi0 hz0 hz1 .i64 .i64 _ st rfl rfl rfl (by rw [hz2]; omega) (by unfold maxLen; omega) (by omega) ?_; intro w2 own2 gr2; have s2 := s1.call ((Below.refl w1.heap.size w1).grown gr2 (Nat.le_refl _) (fun b hb => by cases hb)); obtain ⟨c1', f1', z1', -⟩ := s2.rules; have hq := (cells_at (hbk.out _ s2.below)).1; have zr := Nat.lt_of_lt_of_le hrz s2.below.size))
  refine (hR.out _ (s2.skip _).below).mono ?_
  rintro e w3 ⟨rfl, m', rfl⟩
  have s3 := ((s2.new (c := #[.slice (some ⟨w1.heap.size, 0, none⟩) 0 st]) (t := 111)).call (dbel _ m'))
  have o3 : Nx.Own ((w2.alloc (.cells #[.slice (some ⟨w1.heap.size, 0, none⟩) 0 st] 111)).drewN m') w1.heap.size (.slice (some ⟨w1.heap.size, 0, none⟩) 0 st) [] := (Nx.Own.alloc (show Nx.Own w2 w1.heap.size (.slice (some ⟨w1.heap.size, 0, none⟩) 0 st) [] from own2) _).below (dbel _ m')
  obtain ⟨w3, hw3⟩ : ∃ w3, (w2.alloc (.cells #[.slice (some ⟨w1.heap.size, 0, none⟩) 0 st] 111)).drewN m' = w3 := ⟨_, rfl⟩
  rw [hw3] at s3 o3 ⊢
  have hz3 : w3.heap.size = w2.heap.size + 1 := by rw [← hw3]; simp
  have gz := gr2.size
  have hg12 : w1.heap.size < w2.heap.size := (World.ownsRow.lt own2 w1.heap.size rfl).2
  clear hw3 own2 gr2 c1 f1 c1' f1' hq z1 z1' s2 s1
  have s4 := (s3.new (c := #[Jv F]) (t := 3)).new (c := #[Jv G]) (t := 3)
  have o4 := (o3.alloc (.cells #[Jv F] 3)).alloc (.cells #[Jv G] 3)
  obtain ⟨c1, f1, z1, c2, f2, z2, -⟩ := s3.rules
  go_upto_region 10 with fail
  simp only [World.size_alloc] at s4
  obtain ⟨w4, hw4⟩ : ∃ w4, (w3.alloc (.cells #[Jv F] 3)).alloc (.cells #[Jv G] 3) = w4 := ⟨_, rfl⟩
  rw [hw4] at s4 o4 ⊢
  have hz4 : w4.heap.size = w3.heap.size + 1 + 1 := by rw [← hw4]; simp
  clear hw4 c1 f1 c2 f2 z1 z2 o3 s3
  have e2 := Wn.rule s4.h4
  have e3 := Wn.rule (hbk.out w4 s4.below)
  have hne : Nonempty (Wn w4) := ⟨Wn.mk w4 (Below.refl _ _)⟩
  refine (wpIn_wide (n := 3)).1 ?_
  refine region_tail_at 10 (C := fun w' => ∃ n : Wn w4, w' = n.w) rfl rfl (by kernel_rfl) (by kernel_rfl) ⟨Wn.mk _ (Below.refl _ _).drew, rfl⟩ ?_
  simp only [List.take_succ_cons, List.take_zero, List.drop_succ_cons, List.drop_zero]
  repeat (gi_big_quiet_step (fail))
  refine wpQuietIn_nil ?_
  rintro _ ⟨n, rfl⟩
  gi_wp2_with fail
  refine (callsIn_wide.2 (taps_any _ _ _ _ _ _ _ _ _ _ _ _ _)).mono ?_
  rintro e w5 ⟨⟨g, lb', rfl, hit⟩, hb5⟩
  rw [HY.out] at hit
  have s5 := (s4.call n.h).call hb5
  have o5 := (o4.below n.h).below hb5
  have hnz := n.h.size
  have hb5z := hb5.size
  gi_wp2
  obtain ⟨lo', hlo⟩ : ∃ x, n.w.heap.size = x := ⟨_, rfl⟩
  obtain ⟨hi', hhi⟩ : ∃ x, w5.heap.size = x := ⟨_, rfl⟩
  rw [hlo, hhi] at hit
  rw [hlo] at hnz
  rw [hlo, hhi] at hb5z
  obtain ⟨g', lb2, hv, heg, hseq⟩ := hit
  obtain ⟨rfl, rfl⟩ : g = g' ∧ lb' = lb2 := by simpa using hv
  have hbl : W.heap.size ≤ w1.heap.size ∧ w1.heap.size ≤ w2.heap.size ∧ W.heap.size < w1.heap.size ∧ w2.heap.size < w2.heap.size + 1 ∧ w2.heap.size < w2.heap.size + 1 + 1 ∧ w2.heap.size + 1 < lo' ∧ w2.heap.size + 1 + 1 < lo' ∧ lo' ≤ hi' := by omega
  have I0 : QI lo' hi' w1.heap.size w2.heap.size W.heap.size (w2.heap.size + 1) (w2.heap.size + 1 + 1) r F G w5 W (pfl nC c F []) w5 :=
    ⟨_, s5.h3, o5, fun b e => by simp [Value.ownBlock] at e; omega, s5.h4, by rw [← hz3]; exact s5.h2, by rw [← hz3]; exact s5.h1, Mid.refl _ _ _, s5.below, by omega⟩
  have HI0 : Hid (QI lo' hi' w1.heap.size w2.heap.size W.heap.size (w2.heap.size + 1) (w2.heap.size + 1 + 1) r F G w5 W (pfl nC c F []) w5) := I0
  clear s4 o4 s5 o5 e2 e3 hne I0 s0
  go_wp2
  refine (wpIn_wide (n := 3)).1 ?_
  refine wpIn_rangeFunc_ownG (F := Fence.wide) rfl (by omega) (gf := g) (lb := lb') rfl trivial heg (hseq w5 _ (Mid.refl _ _ _)) (fun h k => Mid.trans h k) (fun W l o o' _ h1 h2 _ => Mid.put W l o o' h1 h2) (Below.refl _ _) (fun _ => rfl)
    (fun (pre : List (Int × Int)) W' => QI lo' hi' w1.heap.size w2.heap.size W.heap.size (w2.heap.size + 1) (w2.heap.size + 1 + 1) r F G w5 W (pfl nC c F pre) W')
    (fun _ _ _ => False)
    (by rw [hhi]; exact fun pre W1 W2 row h k hr => h.turn k (by omega) hr)
    (fun _ _ _ _ _ hs _ _ => hs)
    HI0.out ?a₁ ?assign ?body ?done ?stop
  case assign =>
    intro l x W' K hK
    gi_wp2
    exact hK
  case stop =>
    rintro D c pre W' _ _ h _
    exact h.elim
  case done =>
    rintro D zs W' hD rfl ⟨v, a1, a2, a3, a4, a5, a6, a7, a8, a9⟩ hK
    obtain ⟨a', cap, rfl⟩ := Nx.ownsRow_slice a2
    have hc := a1.cell
    go_wp2
    refine ⟨by simp, .inl ⟨_, _, rfl, run_takeDeferred hK, ?_⟩⟩
    refine ⟨.slice a' (pfl nC c F zs).length cap, by simp [results, Tryz.f64, go_sem], ⟨_, rfl, ?_⟩, ?_⟩
    · exact Nx.Own.base (ownsRow_putObj a2 _ hK rfl) (by omega)
    · exact a8.trans (belowK_b (w := W) (Nat.le_refl _) W' D _ _ (by omega) hK rfl rfl)
  case body =>
    rintro l pre x W' hQ hlt
    have Ha : Hid (QI lo' hi' w1.heap.size w2.heap.size W.heap.size (w2.heap.size + 1) (w2.heap.size + 1 + 1) r F G w5 W (pfl nC c F pre) W') := hQ
    have hc9 : Hid (Boxed W' (w2.heap.size + 1) 3 (Jv F)) := by obtain ⟨v, a1, a2, a3, a4, a5, -⟩ := hQ; exact a5
    have hc9' := hc9.out.cell
    have hLe : Hid (∀ j, (pfl nC c F pre ++ (List.range j).map fun (i : Nat) => covW c x.2 (F + i)).length = pre.length * nC + j) := fun j => by rw [List.length_append, pfl_len]; simp
    have hbd : Hid (pre.length * nC ≤ 1048576) := by unfold Hid; have := Nat.mul_le_mul (show pre.length ≤ 1024 by omega) hnC2; omega
    have hmx : Tryz.prog.follows .mixedOrders = true := by kernel_rfl
    clear hQ HI0
    gi_wp2
    gi_loopw [13] (fun i wr => ∃ j : Nat, j ≤ nC ∧ i = Jv (F + j) ∧ QI lo' hi' w1.heap.size w2.heap.size W.heap.size (w2.heap.size + 1) (w2.heap.size + 1 + 1) r F G w5 W (pfl nC c F pre ++ (List.range j).map fun (i : Nat) => covW c x.2 (F + i)) wr ∧ KeepsOthers W' wr ∧ Mid lo' hi' W' wr) (fun i _ => (G - intOf i).toNat)
    case atStart => exact ⟨0, Nat.zero_le _, by simp, by simpa using Ha.out, KeepsOthers.refl _, Mid.refl _ _ _⟩
    case round =>
      obtain ⟨j, hj, rfl, ⟨v, b1, b2, b3, b4, b5, b6, b7, b8, b9⟩, hko, hmi⟩ := hrel
      obtain ⟨LL, hLL⟩ : ∃ LL, (pfl nC c F pre ++ (List.range j).map fun (i : Nat) => covW c x.2 (F + i)) = LL := ⟨_, rfl⟩
      have HLL : Hid ((pfl nC c F pre ++ (List.range j).map fun (i : Nat) => covW c x.2 (F + i)) = LL) := hLL
      have HLn : Hid (LL.length + 1 ≤ 10000000) := by unfold Hid; rw [← hLL, hLe.out]; have := hbd.out; omega
      rw [hLL] at b2
      clear hLL
      obtain ⟨a', cap, rfl⟩ := Nx.ownsRow_slice b2
      clear hc9 hc9'
      have hc1' := b1.cell
      have hf1' := b1.frozen
      have hc4' := b4.cell
      have hc6' := b6.cell
      have B1 : Hid (Boxed wr _ _ _) := b1
      have B2 : Hid (Nx.Own wr _ _ _) := b2
      have B3 : Hid (∀ b, _ → _) := b3
      have B4 : Hid (Boxed wr _ _ _) := b4
      have B5 : Hid (Boxed wr _ _ _) := b5
      have B6 : Hid (Boxed wr _ _ _) := b6
      have B7 : Hid (Mid _ _ _ _) := b7
      have B8 : Hid (Below _ _ _) := b8
      have b8z := b8.size
      clear b1 b2 b3 b4 b5 b6 b7 b8
      by_cases hjn : j < nC
      · have HS : Hid ((List.range (j + 1)).map (fun (i : Nat) => covW c x.2 (F + i)) = (List.range j).map (fun (i : Nat) => covW c x.2 (F + i)) ++ [covW c x.2 (F + j)]) := by unfold Hid; rw [List.range_succ, List.map_append]; rfl
        gi_wp2
        refine region_round (by kernel_rfl) rfl hmx ?_
        obtain ⟨wd, hwd⟩ : ∃ wd, wr.drew = wd := ⟨_, rfl⟩
        have hdd : Below wr.heap.size wr wd := by rw [← hwd]; exact (Below.refl _ _).drew
        have D1 : Hid (Boxed wd _ _ _) := boxed_below B1.out hdd
        have D2 : Hid (Nx.Own wd _ _ _) := B2.out.below hdd
        have D4 : Hid (Boxed wd _ _ _) := boxed_below B4.out hdd
        have D5 : Hid (Boxed wd _ _ _) := boxed_below B5.out hdd
        have D6 : Hid (Boxed wd _ _ _) := boxed_below B6.out hdd
        have D7 : Hid (Mid _ _ _ wd) := B7.out.trans (Mid.later hdd)
        have D8 : Hid (Below _ _ wd) := B8.out.trans (hdd.mono b8z)
        have d9 : hi' ≤ wd.heap.size := Nat.le_trans b9 hdd.size
        have Dk : Hid (KeepsOthers W' wd) := by unfold Hid; rw [← hwd]; exact hko.trans (KeepsOthers.drew wr)
        have Dm : Hid (Mid lo' hi' W' wd) := hmi.trans (Mid.later hdd)
        rw [hwd]
        clear hc1' hf1' hc4' hc6' B1 B2 B4 B5 B6 B7 B8 hko hmi hdd hwd
        have hc1' := D1.out.cell
        have hf1' := D1.out.frozen
        have hc4' := D4.out.cell
        have hBz : w2.heap.size < wd.heap.size := by omega
        --ORDERS
        refine wpAnyIn_take (i := 2) (v := Jv (x.2)) rfl rfl (by kernel_rfl) (by kernel_rfl) (by kernel_rfl) (fun _ _ _ h => h) ⟨Or.inl ⟨by rfl, fun w => by go_simp⟩, fun _ => rfl⟩ ?_
        refine wpAnyIn_take (i := 3) (v := Jv (F + j)) rfl rfl (by kernel_rfl) (by kernel_rfl) (by kernel_rfl) (fun _ _ _ h => h) ⟨Or.inl ⟨by rfl, fun w => by go_simp⟩, fun _ => rfl⟩ ?_
        refine wpAnyIn_ready (rs := [0, 1]) (by kernel_rfl) (by simp) ?_
        refine AllReadyIn.cons rfl (fun K hK => ?_) (AllReadyIn.cons rfl (fun K hK => ?_) AllReadyIn.nil)
        · go_simp
          refine hK _ _ ?_
          clear hK K
          refine wpAnyIn_ready (rs := [1]) (by kernel_rfl) (by simp) ?_
          refine AllReadyIn.cons rfl (fun K hK => ?_) AllReadyIn.nil
          go_simp
          refine hK _ _ ?_
          clear hK K
          refine wpAnyIn_ready (rs := [4]) (by kernel_rfl) (by simp) ?_
          refine AllReadyIn.cons rfl (fun K hK => ?_) AllReadyIn.nil
          go_simp
          refine (callsIn_wide.2 (hPl.out _ _ _ D8.out)).mono ?_
          rintro e w' ⟨rfl, hw'⟩
          have hw'' := hw'.symm
          subst hw''
          refine hK _ _ ?_
          clear hK K
          refine wpAnyIn_ready (rs := [5]) (by kernel_rfl) (by simp) ?_
          refine AllReadyIn.cons rfl (fun K hK => ?_) AllReadyIn.nil
          go_simp
          refine hK _ _ ?_
          clear hK K
          refine wpAnyIn_ready (rs := [6]) (by kernel_rfl) (by simp) ?_
          refine AllReadyIn.cons rfl (fun K hK => ?_) AllReadyIn.nil
          refine stepIn_app1 rfl (.tmp 59) (.tmp 64) rfl w1.heap.size _ _ rfl (D2.out.alloc _) _ (covW c x.2 (F + j)) rfl (one_cell wd _ _) HLn.out (by simp; omega) ?_
          intro v' w6 own' gr' hat'
          obtain ⟨q1, q2, q3, q4⟩ := QI.app (W1 := wd) D1.out D2.out B3.out D4.out D5.out D6.out D7.out D8.out d9 hbl own' gr' hat'
          obtain ⟨L2, hL2⟩ : ∃ L2, LL ++ [covW c x.2 (F + j)] = L2 := ⟨_, rfl⟩
          rw [hL2] at own' q4
          have HL2 : Hid (LL ++ [covW c x.2 (F + j)] = L2) := hL2
          clear hL2
          obtain ⟨a6, cap6, rfl⟩ := Nx.ownsRow_slice own'
          have hc7 := q1.cell
          have hf7 := q1.frozen
          refine hK _ _ ?_
          clear hK K
          refine wpAnyIn_ready (rs := [7]) (by kernel_rfl) (by simp) ?_
          refine AllReadyIn.cons rfl (fun K hK => ?_) AllReadyIn.nil
          go_simp
          refine hK _ _ ?_
          clear hK K
          refine wpAnyIn_done (by kernel_rfl) ?_ _
          gi_wp2
          go_roundw
          case rel => exact ⟨j + 1, by omega, by go_num, by rw [HS.out, ← List.append_assoc, HLL.out, HL2.out]; exact q4, Dk.out.trans q2, Dm.out.trans q3⟩
          case measure => simp [intOf]; omega
        · go_simp
          refine hK _ _ ?_
          clear hK K
          refine wpAnyIn_ready (rs := [0, 4]) (by kernel_rfl) (by simp) ?_
          refine AllReadyIn.cons rfl (fun K hK => ?_) (AllReadyIn.cons rfl (fun K hK => ?_) AllReadyIn.nil)
          · go_simp
            refine hK _ _ ?_
            clear hK K
            refine wpAnyIn_ready (rs := [4]) (by kernel_rfl) (by simp) ?_
            refine AllReadyIn.cons rfl (fun K hK => ?_) AllReadyIn.nil
            go_simp
            refine (callsIn_wide.2 (hPl.out _ _ _ D8.out)).mono ?_
            rintro e w' ⟨rfl, hw'⟩
            have hw'' := hw'.symm
            subst hw''
            refine hK _ _ ?_
            clear hK K
            refine wpAnyIn_ready (rs := [5]) (by kernel_rfl) (by simp) ?_
            refine AllReadyIn.cons rfl (fun K hK => ?_) AllReadyIn.nil
            go_simp
            refine hK _ _ ?_
            clear hK K
            refine wpAnyIn_ready (rs := [6]) (by kernel_rfl) (by simp) ?_
            refine AllReadyIn.cons rfl (fun K hK => ?_) AllReadyIn.nil
            refine stepIn_app1 rfl (.tmp 59) (.tmp 64) rfl w1.heap.size _ _ rfl (D2.out.alloc _) _ (covW c x.2 (F + j)) rfl (one_cell wd _ _) HLn.out (by simp; omega) ?_
            intro v' w6 own' gr' hat'
            obtain ⟨q1, q2, q3, q4⟩ := QI.app (W1 := wd) D1.out D2.out B3.out D4.out D5.out D6.out D7.out D8.out d9 hbl own' gr' hat'
            obtain ⟨L2, hL2⟩ : ∃ L2, LL ++ [covW c x.2 (F + j)] = L2 := ⟨_, rfl⟩
            rw [hL2] at own' q4
            have HL2 : Hid (LL ++ [covW c x.2 (F + j)] = L2) := hL2
            clear hL2
            obtain ⟨a6, cap6, rfl⟩ := Nx.ownsRow_slice own'
            have hc7 := q1.cell
            have hf7 := q1.frozen
            refine hK _ _ ?_
            clear hK K
            refine wpAnyIn_ready (rs := [7]) (by kernel_rfl) (by simp) ?_
            refine AllReadyIn.cons rfl (fun K hK => ?_) AllReadyIn.nil
            go_simp
            refine hK _ _ ?_
            clear hK K
            refine wpAnyIn_done (by kernel_rfl) ?_ _
            gi_wp2
            go_roundw
            case rel => exact ⟨j + 1, by omega, by go_num, by rw [HS.out, ← List.append_assoc, HLL.out, HL2.out]; exact q4, Dk.out.trans q2, Dm.out.trans q3⟩
            case measure => simp [intOf]; omega
          · go_simp
            refine (callsIn_wide.2 (hPl.out _ _ _ D8.out)).mono ?_
            rintro e w' ⟨rfl, hw'⟩
            have hw'' := hw'.symm
            subst hw''
            refine hK _ _ ?_
            clear hK K
            refine wpAnyIn_ready (rs := [0, 5]) (by kernel_rfl) (by simp) ?_
            refine AllReadyIn.cons rfl (fun K hK => ?_) (AllReadyIn.cons rfl (fun K hK => ?_) AllReadyIn.nil)
            · go_simp
              refine hK _ _ ?_
              clear hK K
              refine wpAnyIn_ready (rs := [5]) (by kernel_rfl) (by simp) ?_
              refine AllReadyIn.cons rfl (fun K hK => ?_) AllReadyIn.nil
              go_simp
              refine hK _ _ ?_
              clear hK K
              refine wpAnyIn_ready (rs := [6]) (by kernel_rfl) (by simp) ?_
              refine AllReadyIn.cons rfl (fun K hK => ?_) AllReadyIn.nil
              refine stepIn_app1 rfl (.tmp 59) (.tmp 64) rfl w1.heap.size _ _ rfl (D2.out.alloc _) _ (covW c x.2 (F + j)) rfl (one_cell wd _ _) HLn.out (by simp; omega) ?_
              intro v' w6 own' gr' hat'
              obtain ⟨q1, q2, q3, q4⟩ := QI.app (W1 := wd) D1.out D2.out B3.out D4.out D5.out D6.out D7.out D8.out d9 hbl own' gr' hat'
              obtain ⟨L2, hL2⟩ : ∃ L2, LL ++ [covW c x.2 (F + j)] = L2 := ⟨_, rfl⟩
              rw [hL2] at own' q4
              have HL2 : Hid (LL ++ [covW c x.2 (F + j)] = L2) := hL2
              clear hL2
              obtain ⟨a6, cap6, rfl⟩ := Nx.ownsRow_slice own'
              have hc7 := q1.cell
              have hf7 := q1.frozen
              refine hK _ _ ?_
              clear hK K
              refine wpAnyIn_ready (rs := [7]) (by kernel_rfl) (by simp) ?_
              refine AllReadyIn.cons rfl (fun K hK => ?_) AllReadyIn.nil
              go_simp
              refine hK _ _ ?_
              clear hK K
              refine wpAnyIn_done (by kernel_rfl) ?_ _
              gi_wp2
              go_roundw
              case rel => exact ⟨j + 1, by omega, by go_num, by rw [HS.out, ← List.append_assoc, HLL.out, HL2.out]; exact q4, Dk.out.trans q2, Dm.out.trans q3⟩
              case measure => simp [intOf]; omega
            · go_simp
              refine hK _ _ ?_
              clear hK K
              refine wpAnyIn_ready (rs := [0]) (by kernel_rfl) (by simp) ?_
              refine AllReadyIn.cons rfl (fun K hK => ?_) AllReadyIn.nil
              go_simp
              refine hK _ _ ?_
              clear hK K
              refine wpAnyIn_ready (rs := [6]) (by kernel_rfl) (by simp) ?_
              refine AllReadyIn.cons rfl (fun K hK => ?_) AllReadyIn.nil
              refine stepIn_app1 rfl (.tmp 59) (.tmp 64) rfl w1.heap.size _ _ rfl (D2.out.alloc _) _ (covW c x.2 (F + j)) rfl (one_cell wd _ _) HLn.out (by simp; omega) ?_
              intro v' w6 own' gr' hat'
              obtain ⟨q1, q2, q3, q4⟩ := QI.app (W1 := wd) D1.out D2.out B3.out D4.out D5.out D6.out D7.out D8.out d9 hbl own' gr' hat'
              obtain ⟨L2, hL2⟩ : ∃ L2, LL ++ [covW c x.2 (F + j)] = L2 := ⟨_, rfl⟩
              rw [hL2] at own' q4
              have HL2 : Hid (LL ++ [covW c x.2 (F + j)] = L2) := hL2
              clear hL2
              obtain ⟨a6, cap6, rfl⟩ := Nx.ownsRow_slice own'
              have hc7 := q1.cell
              have hf7 := q1.frozen
              refine hK _ _ ?_
              clear hK K
              refine wpAnyIn_ready (rs := [7]) (by kernel_rfl) (by simp) ?_
              refine AllReadyIn.cons rfl (fun K hK => ?_) AllReadyIn.nil
              go_simp
              refine hK _ _ ?_
              clear hK K
              refine wpAnyIn_done (by kernel_rfl) ?_ _
              gi_wp2
              go_roundw
              case rel => exact ⟨j + 1, by omega, by go_num, by rw [HS.out, ← List.append_assoc, HLL.out, HL2.out]; exact q4, Dk.out.trans q2, Dm.out.trans q3⟩
              case measure => simp [intOf]; omega
        --SREDRO
      · obtain rfl : j = nC := by omega
        gi_wp2
        exact ⟨hko.from _, hmi, by show QI lo' hi' w1.heap.size w2.heap.size W.heap.size (w2.heap.size + 1) (w2.heap.size + 1 + 1) r F G w5 W (pfl j c F (pre ++ [x])) wr; rw [pfl_snoc, HLL.out]; exact ⟨_, B1.out, B2.out, B3.out, B4.out, B5.out, B6.out, B7.out, B8.out, b9⟩⟩
end Go.Proofs.YtcphealigifdiaaGreat

/- Check, Shapes and Work of package model: what each answers. -/
namespace Go.Proofs.YtcphealigifdiaaGreat
open Go.ChangeShapes Go.WideShapes Go.ChangeAt Go.RowKit
set_option linter.unusedVariables false
theorem Shp.slice {w : World} {base : Nat} {v : Value} {L : List (Int × Int × Int)} (h : Shp w base v L) : ∃ a cap, v = .slice a L.length cap := by
  rcases h with ⟨rfl, rfl⟩ | ⟨g, cap, cur, rfl, -⟩
  · exact ⟨_, _, rfl⟩
  · exact ⟨_, _, rfl⟩
theorem Shp.below {w w' : World} {base : Nat} {v : Value} {L : List (Int × Int × Int)} (h : Shp w base v L) (q : Below w.heap.size w w') : Shp w' base v L := by
  rcases h with h | ⟨g, cap, cur, h1, h2, h3, h4⟩
  · exact .inl h
  · exact .inr ⟨g, cap, cur, h1, h2, (q.block _ (lt_of_heap h3)).trans h3, h4⟩
theorem Shp.base {w : World} {b c : Nat} {v : Value} {L : List (Int × Int × Int)} (h : Shp w b v L) (q : c ≤ b) : Shp w c v L := by
  rcases h with h | ⟨g, cap, cur, h1, h2, h3⟩
  · exact .inl h
  · exact .inr ⟨g, cap, cur, h1, by omega, h3⟩
theorem Shp.set3 {w : World} {N : Nat} {v a b c : Value} {L : List (Int × Int × Int)} (h : Shp w (N + 1) v L) : Shp (((w.setCell ⟨N, 0, none⟩ a).setCell ⟨N, 1, none⟩ b).setCell ⟨N, 2, none⟩ c) N v L := by
  rcases h with h | ⟨g, cap, cur, h1, h2, h3, h4⟩
  · exact .inl h
  · refine .inr ⟨g, cap, cur, h1, by omega, ?_, h4⟩
    rw [Below.heap_setCell _ _ _ _ (show g ≠ N by omega), Below.heap_setCell _ _ _ _ (show g ≠ N by omega), Below.heap_setCell _ _ _ _ (show g ≠ N by omega)]
    exact h3
set_option maxHeartbeats 1000000 in
theorem shapes_any (h w c lo hi ot : Int) (oa : Option Addr) (on oc : Nat) (O : Nat → Nat → Int) (W : World) (hM : MRow W oa on oc O) :
    Calls Tryz.prog 35 #[.agg #[Jv h, Jv w, Jv c, Jv lo, Jv hi, .slice oa on oc, Jv ot]] W fun e w' => ∃ v, e = .returned (.tuple #[v, .agg #[Jv (gtR O h w c lo hi ot on).1, Jv (gtR O h w c lo hi ot on).2.1, Jv 0]]) ∧ Shp w' W.heap.size v (gtR O h w c lo hi ot on).2.2.1 ∧ Below W.heap.size W w' := by
  have hG : Hid (∀ W, MRow W oa on oc O → _) := fun W hW => gothrough_any h w c lo hi ot oa on oc O W hW
  obtain ⟨Re, Ra, RL, Rw, hR⟩ : ∃ Re Ra RL Rw, gtR O h w c lo hi ot on = (Re, Ra, RL, Rw) := ⟨_, _, _, _, rfl⟩
  rw [hR] at hG ⊢
  simp only
  have hM2 : Hid (MRow W oa on oc O) := hM
  clear hR hM
  go_enter Tryz.func35, Tryz.ntmps35
  go_wp2_with fail
  refine Calls.mono (hG.out _ (hM2.out.below (St.start W).new.new.below)) ?_
  rintro e w1 ⟨v, rfl, hS, hb⟩
  obtain ⟨va, vc, rfl⟩ := hS.slice
  have s1 := ((St.start W).new.new).call hb
  simp only [World.size_alloc] at s1
  obtain ⟨c1, f1, z1, c2, f2, z2, -⟩ := s1.rules
  have hS2 : Hid (Shp w1 W.heap.size (.slice va RL.length vc) RL) := hS.base (by simp; omega)
  have hs1 : Hid (Below W.heap.size W w1) := s1.below
  have hlt : Hid (∀ g, W.heap.size + 1 + 1 ≤ g → g ≠ W.heap.size + 1) := fun g hg => by omega
  have hS3 : Hid (Shp w1 (W.heap.size + 1 + 1) (.slice va RL.length vc) RL) := by unfold Hid; simpa using hS
  clear hb hS s1
  go_wp2
  go_region_law (fail)
  all_goals
    go_wp2
    exact bodyPost_ret (v := .tuple #[.slice va RL.length vc, .agg #[Jv Re, Jv Ra, Jv 0]]) (by simp [results, Tryz.results35, go_sem, *]) rfl ⟨_, rfl, (by first | exact ((hS3.out.set3).below (bt (bal _ _) (bal _ _))).base (by omega) | exact ((hS3.out.set3).below (bt (bt (bal _ _) (bal _ _)) (Below.refl _ _).drew)).base (by omega)), (by first | exact al2b (set3b hs1.out (by omega)) _ _ | exact (al2b (set3b hs1.out (by omega)) _ _).drew)⟩
end Go.Proofs.YtcphealigifdiaaGreat

/- The document's Makes, Length, Lists and Labour of layer 8: what each returns. -/
namespace Go.Proofs.YtcphealigifdiaaGreat
open Go.ChangeShapes Go.WideShapes Go.ChangeAt Go.RowKit
set_option linter.unusedVariables false
/-! ### Length -/
set_option maxHeartbeats 1000000 in
theorem length_1 (a b m kh kw sh sw tp lf bt rt : Int) (wa : Option Addr) (lw wc : Nat) (ba : Option Addr) (lb bc : Nat) (sm ss um us z p lo hi : Int) (h w c : Int) (W : World) (g : vS h w c = true) (hw : (1 : Int) ≠ 1 → (1 ≤ kh ∧ kh ≤ 32) ∧ (1 ≤ kw ∧ kw ≤ 32)) :
    Calls Tryz.prog 32 #[.agg #[Jv 1, Jv a, Jv b, Jv m, Jv kh, Jv kw, Jv sh, Jv sw, Jv tp, Jv lf, Jv bt, Jv rt, .slice wa lw wc, .slice ba lb bc, Jv sm, Jv ss, Jv um, Jv us, Jv z, Jv p, Jv lo, Jv hi], .agg #[Jv h, Jv w, Jv c]] W fun e w' => e = .returned (Jv (stR 1 kh kw h w c)) ∧ Below W.heap.size W w' := by
  have hb : Below W.heap.size W ((W.alloc (.cells #[Jv 1, Jv a, Jv b, Jv m, Jv kh, Jv kw, Jv sh, Jv sw, Jv tp, Jv lf, Jv bt, Jv rt, .slice wa lw wc, .slice ba lb bc, Jv sm, Jv ss, Jv um, Jv us, Jv z, Jv p, Jv lo, Jv hi] 42)).alloc (.cells #[Jv h, Jv w, Jv c] 23)) := (St.start W).new.new.below
  have p3 : (1 ≤ h * w ∧ h * w ≤ 1048576) ∧ (1 ≤ h * w * c ∧ h * w * c ≤ 16384) := vS_bd g
  have c1 := (vS_yes g).2.2.1
  have hp : (1 : Int) ≠ 1 → (1 ≤ kh * kw ∧ kh * kw ≤ 1024) ∧ (1 ≤ kh * kw * c ∧ kh * kw * c ≤ 1048576) := fun q => by
    obtain ⟨hw1, hw2⟩ := hw q
    obtain ⟨p1, p2⟩ := mul_bd hw1.1 hw1.2 hw2.1 hw2.2
    obtain ⟨q1, q2⟩ := mul_bd p1 p2 c1.1 c1.2
    exact ⟨⟨p1, by omega⟩, q1, by omega⟩
  rw [show stR 1 kh kw h w c = (if (1 : Int) = 1 then h * w * c else if (1 : Int) = 2 then kh * kw * c else kh * kw) from rfl]
  simp at hp ⊢
  obtain ⟨p', ep⟩ : ∃ p', h * w = p' := ⟨_, rfl⟩
  obtain ⟨q', eq⟩ : ∃ q', kh * kw = q' := ⟨_, rfl⟩
  rw [ep] at p3
  try rw [eq] at hp
  try rw [ep]
  try rw [eq]
  clear g hw c1
  go_enter Tryz.func32, Tryz.ntmps32
  go_wp2
  go_ret
  exact ⟨rfl, hb⟩
set_option maxHeartbeats 1000000 in
theorem length_2 (a b m kh kw sh sw tp lf bt rt : Int) (wa : Option Addr) (lw wc : Nat) (ba : Option Addr) (lb bc : Nat) (sm ss um us z p lo hi : Int) (h w c : Int) (W : World) (g : vS h w c = true) (hw : (2 : Int) ≠ 1 → (1 ≤ kh ∧ kh ≤ 32) ∧ (1 ≤ kw ∧ kw ≤ 32)) :
    Calls Tryz.prog 32 #[.agg #[Jv 2, Jv a, Jv b, Jv m, Jv kh, Jv kw, Jv sh, Jv sw, Jv tp, Jv lf, Jv bt, Jv rt, .slice wa lw wc, .slice ba lb bc, Jv sm, Jv ss, Jv um, Jv us, Jv z, Jv p, Jv lo, Jv hi], .agg #[Jv h, Jv w, Jv c]] W fun e w' => e = .returned (Jv (stR 2 kh kw h w c)) ∧ Below W.heap.size W w' := by
  have hb : Below W.heap.size W ((W.alloc (.cells #[Jv 2, Jv a, Jv b, Jv m, Jv kh, Jv kw, Jv sh, Jv sw, Jv tp, Jv lf, Jv bt, Jv rt, .slice wa lw wc, .slice ba lb bc, Jv sm, Jv ss, Jv um, Jv us, Jv z, Jv p, Jv lo, Jv hi] 42)).alloc (.cells #[Jv h, Jv w, Jv c] 23)) := (St.start W).new.new.below
  have p3 : (1 ≤ h * w ∧ h * w ≤ 1048576) ∧ (1 ≤ h * w * c ∧ h * w * c ≤ 16384) := vS_bd g
  have c1 := (vS_yes g).2.2.1
  have hp : (2 : Int) ≠ 1 → (1 ≤ kh * kw ∧ kh * kw ≤ 1024) ∧ (1 ≤ kh * kw * c ∧ kh * kw * c ≤ 1048576) := fun q => by
    obtain ⟨hw1, hw2⟩ := hw q
    obtain ⟨p1, p2⟩ := mul_bd hw1.1 hw1.2 hw2.1 hw2.2
    obtain ⟨q1, q2⟩ := mul_bd p1 p2 c1.1 c1.2
    exact ⟨⟨p1, by omega⟩, q1, by omega⟩
  rw [show stR 2 kh kw h w c = (if (2 : Int) = 1 then h * w * c else if (2 : Int) = 2 then kh * kw * c else kh * kw) from rfl]
  simp at hp ⊢
  obtain ⟨p', ep⟩ : ∃ p', h * w = p' := ⟨_, rfl⟩
  obtain ⟨q', eq⟩ : ∃ q', kh * kw = q' := ⟨_, rfl⟩
  rw [ep] at p3
  try rw [eq] at hp
  try rw [ep]
  try rw [eq]
  clear g hw c1
  go_enter Tryz.func32, Tryz.ntmps32
  go_wp2
  go_ret
  exact ⟨rfl, hb⟩
set_option maxHeartbeats 1000000 in
theorem length_3 (a b m kh kw sh sw tp lf bt rt : Int) (wa : Option Addr) (lw wc : Nat) (ba : Option Addr) (lb bc : Nat) (sm ss um us z p lo hi : Int) (h w c : Int) (W : World) (g : vS h w c = true) (hw : (3 : Int) ≠ 1 → (1 ≤ kh ∧ kh ≤ 32) ∧ (1 ≤ kw ∧ kw ≤ 32)) :
    Calls Tryz.prog 32 #[.agg #[Jv 3, Jv a, Jv b, Jv m, Jv kh, Jv kw, Jv sh, Jv sw, Jv tp, Jv lf, Jv bt, Jv rt, .slice wa lw wc, .slice ba lb bc, Jv sm, Jv ss, Jv um, Jv us, Jv z, Jv p, Jv lo, Jv hi], .agg #[Jv h, Jv w, Jv c]] W fun e w' => e = .returned (Jv (stR 3 kh kw h w c)) ∧ Below W.heap.size W w' := by
  have hb : Below W.heap.size W ((W.alloc (.cells #[Jv 3, Jv a, Jv b, Jv m, Jv kh, Jv kw, Jv sh, Jv sw, Jv tp, Jv lf, Jv bt, Jv rt, .slice wa lw wc, .slice ba lb bc, Jv sm, Jv ss, Jv um, Jv us, Jv z, Jv p, Jv lo, Jv hi] 42)).alloc (.cells #[Jv h, Jv w, Jv c] 23)) := (St.start W).new.new.below
  have p3 : (1 ≤ h * w ∧ h * w ≤ 1048576) ∧ (1 ≤ h * w * c ∧ h * w * c ≤ 16384) := vS_bd g
  have c1 := (vS_yes g).2.2.1
  have hp : (3 : Int) ≠ 1 → (1 ≤ kh * kw ∧ kh * kw ≤ 1024) ∧ (1 ≤ kh * kw * c ∧ kh * kw * c ≤ 1048576) := fun q => by
    obtain ⟨hw1, hw2⟩ := hw q
    obtain ⟨p1, p2⟩ := mul_bd hw1.1 hw1.2 hw2.1 hw2.2
    obtain ⟨q1, q2⟩ := mul_bd p1 p2 c1.1 c1.2
    exact ⟨⟨p1, by omega⟩, q1, by omega⟩
  rw [show stR 3 kh kw h w c = (if (3 : Int) = 1 then h * w * c else if (3 : Int) = 2 then kh * kw * c else kh * kw) from rfl]
  simp at hp ⊢
  obtain ⟨p', ep⟩ : ∃ p', h * w = p' := ⟨_, rfl⟩
  obtain ⟨q', eq⟩ : ∃ q', kh * kw = q' := ⟨_, rfl⟩
  rw [ep] at p3
  try rw [eq] at hp
  try rw [ep]
  try rw [eq]
  clear g hw c1
  go_enter Tryz.func32, Tryz.ntmps32
  go_wp2
  go_ret
  exact ⟨rfl, hb⟩
set_option maxHeartbeats 1000000 in
theorem length_4 (a b m kh kw sh sw tp lf bt rt : Int) (wa : Option Addr) (lw wc : Nat) (ba : Option Addr) (lb bc : Nat) (sm ss um us z p lo hi : Int) (h w c : Int) (W : World) (g : vS h w c = true) (hw : (4 : Int) ≠ 1 → (1 ≤ kh ∧ kh ≤ 32) ∧ (1 ≤ kw ∧ kw ≤ 32)) :
    Calls Tryz.prog 32 #[.agg #[Jv 4, Jv a, Jv b, Jv m, Jv kh, Jv kw, Jv sh, Jv sw, Jv tp, Jv lf, Jv bt, Jv rt, .slice wa lw wc, .slice ba lb bc, Jv sm, Jv ss, Jv um, Jv us, Jv z, Jv p, Jv lo, Jv hi], .agg #[Jv h, Jv w, Jv c]] W fun e w' => e = .returned (Jv (stR 4 kh kw h w c)) ∧ Below W.heap.size W w' := by
  have hb : Below W.heap.size W ((W.alloc (.cells #[Jv 4, Jv a, Jv b, Jv m, Jv kh, Jv kw, Jv sh, Jv sw, Jv tp, Jv lf, Jv bt, Jv rt, .slice wa lw wc, .slice ba lb bc, Jv sm, Jv ss, Jv um, Jv us, Jv z, Jv p, Jv lo, Jv hi] 42)).alloc (.cells #[Jv h, Jv w, Jv c] 23)) := (St.start W).new.new.below
  have p3 : (1 ≤ h * w ∧ h * w ≤ 1048576) ∧ (1 ≤ h * w * c ∧ h * w * c ≤ 16384) := vS_bd g
  have c1 := (vS_yes g).2.2.1
  have hp : (4 : Int) ≠ 1 → (1 ≤ kh * kw ∧ kh * kw ≤ 1024) ∧ (1 ≤ kh * kw * c ∧ kh * kw * c ≤ 1048576) := fun q => by
    obtain ⟨hw1, hw2⟩ := hw q
    obtain ⟨p1, p2⟩ := mul_bd hw1.1 hw1.2 hw2.1 hw2.2
    obtain ⟨q1, q2⟩ := mul_bd p1 p2 c1.1 c1.2
    exact ⟨⟨p1, by omega⟩, q1, by omega⟩
  rw [show stR 4 kh kw h w c = (if (4 : Int) = 1 then h * w * c else if (4 : Int) = 2 then kh * kw * c else kh * kw) from rfl]
  simp at hp ⊢
  obtain ⟨p', ep⟩ : ∃ p', h * w = p' := ⟨_, rfl⟩
  obtain ⟨q', eq⟩ : ∃ q', kh * kw = q' := ⟨_, rfl⟩
  rw [ep] at p3
  try rw [eq] at hp
  try rw [ep]
  try rw [eq]
  clear g hw c1
  go_enter Tryz.func32, Tryz.ntmps32
  go_wp2
  go_ret
  exact ⟨rfl, hb⟩
theorem length_any (k a b m kh kw sh sw tp lf bt rt : Int) (wa : Option Addr) (lw wc : Nat) (ba : Option Addr) (lb bc : Nat) (sm ss um us z p lo hi : Int) (h w c : Int) (W : World) (hk : rdB k = true) (g : vS h w c = true) (hw : 2 ≤ k ∧ k ≤ 5 → (1 ≤ kh ∧ kh ≤ 32) ∧ (1 ≤ kw ∧ kw ≤ 32)) :
    Calls Tryz.prog 32 #[.agg #[Jv k, Jv a, Jv b, Jv m, Jv kh, Jv kw, Jv sh, Jv sw, Jv tp, Jv lf, Jv bt, Jv rt, .slice wa lw wc, .slice ba lb bc, Jv sm, Jv ss, Jv um, Jv us, Jv z, Jv p, Jv lo, Jv hi], .agg #[Jv h, Jv w, Jv c]] W fun e w' => e = .returned (Jv (stR k kh kw h w c)) ∧ Below W.heap.size W w' := by
  have hk' : 1 ≤ k ∧ k ≤ 4 := of_decide_eq_true hk
  rcases (show k = 1 ∨ k = 2 ∨ k = 3 ∨ k = 4 by omega) with rfl | rfl | rfl | rfl
  · exact length_1 a b m kh kw sh sw tp lf bt rt wa lw wc ba lb bc sm ss um us z p lo hi h w c W g (fun q => hw (by omega))
  · exact length_2 a b m kh kw sh sw tp lf bt rt wa lw wc ba lb bc sm ss um us z p lo hi h w c W g (fun q => hw (by omega))
  · exact length_3 a b m kh kw sh sw tp lf bt rt wa lw wc ba lb bc sm ss um us z p lo hi h w c W g (fun q => hw (by omega))
  · exact length_4 a b m kh kw sh sw tp lf bt rt wa lw wc ba lb bc sm ss um us z p lo hi h w c W g (fun q => hw (by omega))
/-! ### Makes -/
theorem set33b {w0 w : World} {B N M : Nat} {a b x c d e : Value} (h : Below B w0 w) (hN : B ≤ N) (hM : B ≤ M) : Below B w0 ((((((w.setCell ⟨N, 0, none⟩ a).setCell ⟨N, 1, none⟩ b).setCell ⟨N, 2, none⟩ x).setCell ⟨M, 0, none⟩ c).setCell ⟨M, 1, none⟩ d).setCell ⟨M, 2, none⟩ e) :=
  set3b (set3b h hN) hM
theorem set23b {w0 w : World} {B N M : Nat} {a b c d e : Value} (h : Below B w0 w) (hN : B ≤ N) (hM : B ≤ M) : Below B w0 (((((w.setCell ⟨N, 0, none⟩ a).setCell ⟨N, 1, none⟩ b).setCell ⟨M, 0, none⟩ c).setCell ⟨M, 1, none⟩ d).setCell ⟨M, 2, none⟩ e) :=
  set3b ((h.setCell (p := ⟨N, 0, none⟩) hN a).setCell (p := ⟨N, 1, none⟩) hN b) hM
def rmO (k m kh kw sh sw tp lf bt rt h w c : Int) : Int × Int × Int := if mkW k kh kw sh sw tp lf bt rt h w c = 0 then mkS k m kh kw sh sw tp lf bt rt h w c else (0, 0, 0)
set_option maxHeartbeats 1000000 in
theorem rmk_6 (a b m kh kw sh sw tp lf bt rt : Int) (wa : Option Addr) (lw wc : Nat) (ba : Option Addr) (lb bc : Nat) (sm ss um us z p lo hi : Int) (h w c : Int) (W : World) :
    Calls Tryz.prog 90 #[.agg #[Jv 6, Jv a, Jv b, Jv m, Jv kh, Jv kw, Jv sh, Jv sw, Jv tp, Jv lf, Jv bt, Jv rt, .slice wa lw wc, .slice ba lb bc, Jv sm, Jv ss, Jv um, Jv us, Jv z, Jv p, Jv lo, Jv hi], .agg #[Jv h, Jv w, Jv c]] W fun e w' => e = .returned (.tuple #[.agg #[Jv h, Jv w, Jv c], Jv 0]) ∧ Below W.heap.size W w' := by
  go_enter Tryz.func90, Tryz.ntmps90
  go_wp2_with fail
  refine (slid_any _ _).mono ?_
  rintro e w' ⟨rfl, rfl⟩
  go_wp2
  exact bodyPost_ret (v := .tuple #[.agg #[Jv h, Jv w, Jv c], Jv 0]) (by simp [results, Tryz.results90, go_sem, *]) rfl ⟨rfl, (St.start W).new.new.new.new.below⟩
set_option maxHeartbeats 1000000 in
theorem rmk_7 (a b m kh kw sh sw tp lf bt rt : Int) (wa : Option Addr) (lw wc : Nat) (ba : Option Addr) (lb bc : Nat) (sm ss um us z p lo hi : Int) (h w c : Int) (W : World) :
    Calls Tryz.prog 90 #[.agg #[Jv 7, Jv a, Jv b, Jv m, Jv kh, Jv kw, Jv sh, Jv sw, Jv tp, Jv lf, Jv bt, Jv rt, .slice wa lw wc, .slice ba lb bc, Jv sm, Jv ss, Jv um, Jv us, Jv z, Jv p, Jv lo, Jv hi], .agg #[Jv h, Jv w, Jv c]] W fun e w' => e = .returned (.tuple #[.agg #[Jv h, Jv w, Jv c], Jv 0]) ∧ Below W.heap.size W w' := by
  go_enter Tryz.func90, Tryz.ntmps90
  go_wp2_with fail
  refine (slid_any _ _).mono ?_
  rintro e w' ⟨rfl, rfl⟩
  go_wp2
  exact bodyPost_ret (v := .tuple #[.agg #[Jv h, Jv w, Jv c], Jv 0]) (by simp [results, Tryz.results90, go_sem, *]) rfl ⟨rfl, (St.start W).new.new.new.new.below⟩
set_option maxHeartbeats 1000000 in
theorem rmk_8 (a b m kh kw sh sw tp lf bt rt : Int) (wa : Option Addr) (lw wc : Nat) (ba : Option Addr) (lb bc : Nat) (sm ss um us z p lo hi : Int) (h w c : Int) (W : World) :
    Calls Tryz.prog 90 #[.agg #[Jv 8, Jv a, Jv b, Jv m, Jv kh, Jv kw, Jv sh, Jv sw, Jv tp, Jv lf, Jv bt, Jv rt, .slice wa lw wc, .slice ba lb bc, Jv sm, Jv ss, Jv um, Jv us, Jv z, Jv p, Jv lo, Jv hi], .agg #[Jv h, Jv w, Jv c]] W fun e w' => e = .returned (.tuple #[.agg #[Jv h, Jv w, Jv c], Jv 0]) ∧ Below W.heap.size W w' := by
  go_enter Tryz.func90, Tryz.ntmps90
  go_wp2_with fail
  refine (slid_any _ _).mono ?_
  rintro e w' ⟨rfl, rfl⟩
  go_wp2
  exact bodyPost_ret (v := .tuple #[.agg #[Jv h, Jv w, Jv c], Jv 0]) (by simp [results, Tryz.results90, go_sem, *]) rfl ⟨rfl, (St.start W).new.new.new.new.below⟩
set_option maxHeartbeats 1000000 in
theorem rmk_1 (a b m kh kw sh sw tp lf bt rt : Int) (wa : Option Addr) (lw wc : Nat) (ba : Option Addr) (lb bc : Nat) (sm ss um us z p lo hi : Int) (h w c : Int) (W : World) :
    Calls Tryz.prog 90 #[.agg #[Jv 1, Jv a, Jv b, Jv m, Jv kh, Jv kw, Jv sh, Jv sw, Jv tp, Jv lf, Jv bt, Jv rt, .slice wa lw wc, .slice ba lb bc, Jv sm, Jv ss, Jv um, Jv us, Jv z, Jv p, Jv lo, Jv hi], .agg #[Jv h, Jv w, Jv c]] W fun e w' => e = .returned (.tuple #[.agg #[Jv 1, Jv 1, Jv m], Jv 0]) ∧ Below W.heap.size W w' := by
  go_enter Tryz.func90, Tryz.ntmps90
  go_wp2_with fail
  refine (slid_any _ _).mono ?_
  rintro e w' ⟨rfl, rfl⟩
  go_wp2
  exact bodyPost_ret (v := .tuple #[.agg #[Jv 1, Jv 1, Jv m], Jv 0]) (by simp [results, Tryz.results90, go_sem, *]) rfl ⟨rfl, (St.start W).new.new.new.new.below⟩
set_option maxHeartbeats 1000000 in
theorem rmk_2w (a b m kh kw sh sw tp lf bt rt : Int) (wa : Option Addr) (lw wc : Nat) (ba : Option Addr) (lb bc : Nat) (sm ss um us z p lo hi : Int) (h w c x : Int) (W : World) (ho : ouR h w c kh kw sh sw tp lf bt rt = (0, 0, x)) (hx : x ≠ 0) :
    Calls Tryz.prog 90 #[.agg #[Jv 2, Jv a, Jv b, Jv m, Jv kh, Jv kw, Jv sh, Jv sw, Jv tp, Jv lf, Jv bt, Jv rt, .slice wa lw wc, .slice ba lb bc, Jv sm, Jv ss, Jv um, Jv us, Jv z, Jv p, Jv lo, Jv hi], .agg #[Jv h, Jv w, Jv c]] W fun e w' => e = .returned (.tuple #[.agg #[Jv 0, Jv 0, Jv 0], Jv x]) ∧ Below W.heap.size W w' := by
  have HO : Hid (ouR h w c kh kw sh sw tp lf bt rt = (0, 0, x)) := ho
  clear ho
  go_enter Tryz.func90, Tryz.ntmps90
  go_wp2_with fail
  refine (slid_any _ _).mono ?_
  rintro e w' ⟨rfl, rfl⟩
  go_wp2_with fail
  refine (rout_any _ _ _ _ _ _ _ _ _ _ _ _).mono ?_
  rintro e w1 ⟨rfl, hb'⟩
  have s1 := (St.start W).new.new.new.new.call hb'
  clear hb'
  try simp only [World.size_setCell] at s1
  try simp only [World.size_alloc] at s1
  obtain ⟨c1, f1, zw1_1, c2, f2, zw1_2, c3, f3, zw1_3, c4, f4, zw1_4, -⟩ := s1.rules
  rw [HO.out]
  go_wp2
  exact bodyPost_ret (v := .tuple #[.agg #[Jv 0, Jv 0, Jv 0], Jv x]) (by simp [results, Tryz.results90, go_sem, *]) rfl ⟨rfl, set3b s1.below (by omega)⟩
set_option maxHeartbeats 1000000 in
theorem rmk_2 (a b m kh kw sh sw tp lf bt rt : Int) (wa : Option Addr) (lw wc : Nat) (ba : Option Addr) (lb bc : Nat) (sm ss um us z p lo hi : Int) (h w c r q : Int) (W : World) (ho : ouR h w c kh kw sh sw tp lf bt rt = (r, q, 0)) :
    Calls Tryz.prog 90 #[.agg #[Jv 2, Jv a, Jv b, Jv m, Jv kh, Jv kw, Jv sh, Jv sw, Jv tp, Jv lf, Jv bt, Jv rt, .slice wa lw wc, .slice ba lb bc, Jv sm, Jv ss, Jv um, Jv us, Jv z, Jv p, Jv lo, Jv hi], .agg #[Jv h, Jv w, Jv c]] W fun e w' => e = .returned (.tuple #[.agg #[Jv r, Jv q, Jv m], Jv 0]) ∧ Below W.heap.size W w' := by
  have HO : Hid (ouR h w c kh kw sh sw tp lf bt rt = (r, q, 0)) := ho
  clear ho
  go_enter Tryz.func90, Tryz.ntmps90
  go_wp2_with fail
  refine (slid_any _ _).mono ?_
  rintro e w' ⟨rfl, rfl⟩
  go_wp2_with fail
  refine (rout_any _ _ _ _ _ _ _ _ _ _ _ _).mono ?_
  rintro e w1 ⟨rfl, hb'⟩
  have s1 := (St.start W).new.new.new.new.call hb'
  clear hb'
  try simp only [World.size_setCell] at s1
  try simp only [World.size_alloc] at s1
  obtain ⟨c1, f1, zw1_1, c2, f2, zw1_2, c3, f3, zw1_3, c4, f4, zw1_4, -⟩ := s1.rules
  rw [HO.out]
  go_wp2
  exact bodyPost_ret (v := .tuple #[.agg #[Jv r, Jv q, Jv m], Jv 0]) (by simp [results, Tryz.results90, go_sem, *]) rfl ⟨rfl, set33b s1.below (by omega) (by omega)⟩
set_option maxHeartbeats 1000000 in
theorem rmk_3w (a b m kh kw sh sw tp lf bt rt : Int) (wa : Option Addr) (lw wc : Nat) (ba : Option Addr) (lb bc : Nat) (sm ss um us z p lo hi : Int) (h w c x : Int) (W : World) (ho : ouR h w c kh kw sh sw tp lf bt rt = (0, 0, x)) (hx : x ≠ 0) :
    Calls Tryz.prog 90 #[.agg #[Jv 3, Jv a, Jv b, Jv m, Jv kh, Jv kw, Jv sh, Jv sw, Jv tp, Jv lf, Jv bt, Jv rt, .slice wa lw wc, .slice ba lb bc, Jv sm, Jv ss, Jv um, Jv us, Jv z, Jv p, Jv lo, Jv hi], .agg #[Jv h, Jv w, Jv c]] W fun e w' => e = .returned (.tuple #[.agg #[Jv 0, Jv 0, Jv 0], Jv x]) ∧ Below W.heap.size W w' := by
  have HO : Hid (ouR h w c kh kw sh sw tp lf bt rt = (0, 0, x)) := ho
  clear ho
  go_enter Tryz.func90, Tryz.ntmps90
  go_wp2_with fail
  refine (slid_any _ _).mono ?_
  rintro e w' ⟨rfl, rfl⟩
  go_wp2_with fail
  refine (rout_any _ _ _ _ _ _ _ _ _ _ _ _).mono ?_
  rintro e w1 ⟨rfl, hb'⟩
  have s1 := (St.start W).new.new.new.new.call hb'
  clear hb'
  try simp only [World.size_setCell] at s1
  try simp only [World.size_alloc] at s1
  obtain ⟨c1, f1, zw1_1, c2, f2, zw1_2, c3, f3, zw1_3, c4, f4, zw1_4, -⟩ := s1.rules
  rw [HO.out]
  go_wp2
  exact bodyPost_ret (v := .tuple #[.agg #[Jv 0, Jv 0, Jv 0], Jv x]) (by simp [results, Tryz.results90, go_sem, *]) rfl ⟨rfl, set3b s1.below (by omega)⟩
set_option maxHeartbeats 1000000 in
theorem rmk_3 (a b m kh kw sh sw tp lf bt rt : Int) (wa : Option Addr) (lw wc : Nat) (ba : Option Addr) (lb bc : Nat) (sm ss um us z p lo hi : Int) (h w c r q : Int) (W : World) (ho : ouR h w c kh kw sh sw tp lf bt rt = (r, q, 0)) :
    Calls Tryz.prog 90 #[.agg #[Jv 3, Jv a, Jv b, Jv m, Jv kh, Jv kw, Jv sh, Jv sw, Jv tp, Jv lf, Jv bt, Jv rt, .slice wa lw wc, .slice ba lb bc, Jv sm, Jv ss, Jv um, Jv us, Jv z, Jv p, Jv lo, Jv hi], .agg #[Jv h, Jv w, Jv c]] W fun e w' => e = .returned (.tuple #[.agg #[Jv r, Jv q, Jv c], Jv 0]) ∧ Below W.heap.size W w' := by
  have HO : Hid (ouR h w c kh kw sh sw tp lf bt rt = (r, q, 0)) := ho
  clear ho
  go_enter Tryz.func90, Tryz.ntmps90
  go_wp2_with fail
  refine (slid_any _ _).mono ?_
  rintro e w' ⟨rfl, rfl⟩
  go_wp2_with fail
  refine (rout_any _ _ _ _ _ _ _ _ _ _ _ _).mono ?_
  rintro e w1 ⟨rfl, hb'⟩
  have s1 := (St.start W).new.new.new.new.call hb'
  clear hb'
  try simp only [World.size_setCell] at s1
  try simp only [World.size_alloc] at s1
  obtain ⟨c1, f1, zw1_1, c2, f2, zw1_2, c3, f3, zw1_3, c4, f4, zw1_4, -⟩ := s1.rules
  rw [HO.out]
  go_wp2
  exact bodyPost_ret (v := .tuple #[.agg #[Jv r, Jv q, Jv c], Jv 0]) (by simp [results, Tryz.results90, go_sem, *]) rfl ⟨rfl, set23b s1.below (by omega) (by omega)⟩
set_option maxHeartbeats 1000000 in
theorem rmk_4w (a b m kh kw sh sw tp lf bt rt : Int) (wa : Option Addr) (lw wc : Nat) (ba : Option Addr) (lb bc : Nat) (sm ss um us z p lo hi : Int) (h w c x : Int) (W : World) (ho : ouR h w c kh kw sh sw tp lf bt rt = (0, 0, x)) (hx : x ≠ 0) :
    Calls Tryz.prog 90 #[.agg #[Jv 4, Jv a, Jv b, Jv m, Jv kh, Jv kw, Jv sh, Jv sw, Jv tp, Jv lf, Jv bt, Jv rt, .slice wa lw wc, .slice ba lb bc, Jv sm, Jv ss, Jv um, Jv us, Jv z, Jv p, Jv lo, Jv hi], .agg #[Jv h, Jv w, Jv c]] W fun e w' => e = .returned (.tuple #[.agg #[Jv 0, Jv 0, Jv 0], Jv x]) ∧ Below W.heap.size W w' := by
  have HO : Hid (ouR h w c kh kw sh sw tp lf bt rt = (0, 0, x)) := ho
  clear ho
  go_enter Tryz.func90, Tryz.ntmps90
  go_wp2_with fail
  refine (slid_any _ _).mono ?_
  rintro e w' ⟨rfl, rfl⟩
  go_wp2_with fail
  refine (rout_any _ _ _ _ _ _ _ _ _ _ _ _).mono ?_
  rintro e w1 ⟨rfl, hb'⟩
  have s1 := (St.start W).new.new.new.new.call hb'
  clear hb'
  try simp only [World.size_setCell] at s1
  try simp only [World.size_alloc] at s1
  obtain ⟨c1, f1, zw1_1, c2, f2, zw1_2, c3, f3, zw1_3, c4, f4, zw1_4, -⟩ := s1.rules
  rw [HO.out]
  go_wp2
  exact bodyPost_ret (v := .tuple #[.agg #[Jv 0, Jv 0, Jv 0], Jv x]) (by simp [results, Tryz.results90, go_sem, *]) rfl ⟨rfl, set3b s1.below (by omega)⟩
set_option maxHeartbeats 1000000 in
theorem rmk_4 (a b m kh kw sh sw tp lf bt rt : Int) (wa : Option Addr) (lw wc : Nat) (ba : Option Addr) (lb bc : Nat) (sm ss um us z p lo hi : Int) (h w c r q : Int) (W : World) (ho : ouR h w c kh kw sh sw tp lf bt rt = (r, q, 0)) :
    Calls Tryz.prog 90 #[.agg #[Jv 4, Jv a, Jv b, Jv m, Jv kh, Jv kw, Jv sh, Jv sw, Jv tp, Jv lf, Jv bt, Jv rt, .slice wa lw wc, .slice ba lb bc, Jv sm, Jv ss, Jv um, Jv us, Jv z, Jv p, Jv lo, Jv hi], .agg #[Jv h, Jv w, Jv c]] W fun e w' => e = .returned (.tuple #[.agg #[Jv r, Jv q, Jv c], Jv 0]) ∧ Below W.heap.size W w' := by
  have HO : Hid (ouR h w c kh kw sh sw tp lf bt rt = (r, q, 0)) := ho
  clear ho
  go_enter Tryz.func90, Tryz.ntmps90
  go_wp2_with fail
  refine (slid_any _ _).mono ?_
  rintro e w' ⟨rfl, rfl⟩
  go_wp2_with fail
  refine (rout_any _ _ _ _ _ _ _ _ _ _ _ _).mono ?_
  rintro e w1 ⟨rfl, hb'⟩
  have s1 := (St.start W).new.new.new.new.call hb'
  clear hb'
  try simp only [World.size_setCell] at s1
  try simp only [World.size_alloc] at s1
  obtain ⟨c1, f1, zw1_1, c2, f2, zw1_2, c3, f3, zw1_3, c4, f4, zw1_4, -⟩ := s1.rules
  rw [HO.out]
  go_wp2
  exact bodyPost_ret (v := .tuple #[.agg #[Jv r, Jv q, Jv c], Jv 0]) (by simp [results, Tryz.results90, go_sem, *]) rfl ⟨rfl, set23b s1.below (by omega) (by omega)⟩
set_option maxHeartbeats 1000000 in
theorem rmk_5w (a b m kh kw sh sw tp lf bt rt : Int) (wa : Option Addr) (lw wc : Nat) (ba : Option Addr) (lb bc : Nat) (sm ss um us z p lo hi : Int) (h w c x : Int) (W : World) (ho : ouR h w c kh kw sh sw tp lf bt rt = (0, 0, x)) (hx : x ≠ 0) :
    Calls Tryz.prog 90 #[.agg #[Jv 5, Jv a, Jv b, Jv m, Jv kh, Jv kw, Jv sh, Jv sw, Jv tp, Jv lf, Jv bt, Jv rt, .slice wa lw wc, .slice ba lb bc, Jv sm, Jv ss, Jv um, Jv us, Jv z, Jv p, Jv lo, Jv hi], .agg #[Jv h, Jv w, Jv c]] W fun e w' => e = .returned (.tuple #[.agg #[Jv 0, Jv 0, Jv 0], Jv x]) ∧ Below W.heap.size W w' := by
  have HO : Hid (ouR h w c kh kw sh sw tp lf bt rt = (0, 0, x)) := ho
  clear ho
  go_enter Tryz.func90, Tryz.ntmps90
  go_wp2_with fail
  refine (slid_any _ _).mono ?_
  rintro e w' ⟨rfl, rfl⟩
  go_wp2_with fail
  refine (rout_any _ _ _ _ _ _ _ _ _ _ _ _).mono ?_
  rintro e w1 ⟨rfl, hb'⟩
  have s1 := (St.start W).new.new.new.new.call hb'
  clear hb'
  try simp only [World.size_setCell] at s1
  try simp only [World.size_alloc] at s1
  obtain ⟨c1, f1, zw1_1, c2, f2, zw1_2, c3, f3, zw1_3, c4, f4, zw1_4, -⟩ := s1.rules
  rw [HO.out]
  go_wp2
  exact bodyPost_ret (v := .tuple #[.agg #[Jv 0, Jv 0, Jv 0], Jv x]) (by simp [results, Tryz.results90, go_sem, *]) rfl ⟨rfl, set3b s1.below (by omega)⟩
set_option maxHeartbeats 1000000 in
theorem rmk_5 (a b m kh kw sh sw tp lf bt rt : Int) (wa : Option Addr) (lw wc : Nat) (ba : Option Addr) (lb bc : Nat) (sm ss um us z p lo hi : Int) (h w c r q : Int) (W : World) (ho : ouR h w c kh kw sh sw tp lf bt rt = (r, q, 0)) :
    Calls Tryz.prog 90 #[.agg #[Jv 5, Jv a, Jv b, Jv m, Jv kh, Jv kw, Jv sh, Jv sw, Jv tp, Jv lf, Jv bt, Jv rt, .slice wa lw wc, .slice ba lb bc, Jv sm, Jv ss, Jv um, Jv us, Jv z, Jv p, Jv lo, Jv hi], .agg #[Jv h, Jv w, Jv c]] W fun e w' => e = .returned (.tuple #[.agg #[Jv r, Jv q, Jv c], Jv 0]) ∧ Below W.heap.size W w' := by
  have HO : Hid (ouR h w c kh kw sh sw tp lf bt rt = (r, q, 0)) := ho
  clear ho
  go_enter Tryz.func90, Tryz.ntmps90
  go_wp2_with fail
  refine (slid_any _ _).mono ?_
  rintro e w' ⟨rfl, rfl⟩
  go_wp2_with fail
  refine (rout_any _ _ _ _ _ _ _ _ _ _ _ _).mono ?_
  rintro e w1 ⟨rfl, hb'⟩
  have s1 := (St.start W).new.new.new.new.call hb'
  clear hb'
  try simp only [World.size_setCell] at s1
  try simp only [World.size_alloc] at s1
  obtain ⟨c1, f1, zw1_1, c2, f2, zw1_2, c3, f3, zw1_3, c4, f4, zw1_4, -⟩ := s1.rules
  rw [HO.out]
  go_wp2
  exact bodyPost_ret (v := .tuple #[.agg #[Jv r, Jv q, Jv c], Jv 0]) (by simp [results, Tryz.results90, go_sem, *]) rfl ⟨rfl, set23b s1.below (by omega) (by omega)⟩
theorem rmk_any (k a b m kh kw sh sw tp lf bt rt : Int) (wa : Option Addr) (lw wc : Nat) (ba : Option Addr) (lb bc : Nat) (sm ss um us z p lo hi : Int) (h w c : Int) (W : World) (hk : 1 ≤ k ∧ k ≤ 8) :
    Calls Tryz.prog 90 #[.agg #[Jv k, Jv a, Jv b, Jv m, Jv kh, Jv kw, Jv sh, Jv sw, Jv tp, Jv lf, Jv bt, Jv rt, .slice wa lw wc, .slice ba lb bc, Jv sm, Jv ss, Jv um, Jv us, Jv z, Jv p, Jv lo, Jv hi], .agg #[Jv h, Jv w, Jv c]] W fun e w' => e = .returned (.tuple #[.agg #[Jv (rmO k m kh kw sh sw tp lf bt rt h w c).1, Jv (rmO k m kh kw sh sw tp lf bt rt h w c).2.1, Jv (rmO k m kh kw sh sw tp lf bt rt h w c).2.2], Jv (mkW k kh kw sh sw tp lf bt rt h w c)]) ∧ Below W.heap.size W w' := by
  rcases eight hk with rfl | rfl | rfl | rfl | rfl | rfl | rfl | rfl
  · exact rmk_1 a b m kh kw sh sw tp lf bt rt wa lw wc ba lb bc sm ss um us z p lo hi h w c W
  · rcases ouR_cases h w c kh kw sh sw tp lf bt rt with ⟨x, ho, hx⟩ | ⟨r, q, ho, -⟩
    · have hx' : x ≠ 0 := by omega
      have hw : mkW 2 kh kw sh sw tp lf bt rt h w c = x := by unfold mkW; rw [if_pos (by decide), ho]
      have ho' : rmO 2 m kh kw sh sw tp lf bt rt h w c = (0, 0, 0) := by unfold rmO; rw [hw, if_neg hx']
      rw [ho', hw]
      exact rmk_2w a b m kh kw sh sw tp lf bt rt wa lw wc ba lb bc sm ss um us z p lo hi h w c x W ho hx'
    · have hw : mkW 2 kh kw sh sw tp lf bt rt h w c = 0 := by unfold mkW; rw [if_pos (by decide), ho]
      have ho' : rmO 2 m kh kw sh sw tp lf bt rt h w c = (r, q, m) := by unfold rmO; rw [hw, if_pos rfl]; unfold mkS; rw [ho]; rfl
      rw [ho', hw]
      exact rmk_2 a b m kh kw sh sw tp lf bt rt wa lw wc ba lb bc sm ss um us z p lo hi h w c r q W ho
  · rcases ouR_cases h w c kh kw sh sw tp lf bt rt with ⟨x, ho, hx⟩ | ⟨r, q, ho, -⟩
    · have hx' : x ≠ 0 := by omega
      have hw : mkW 3 kh kw sh sw tp lf bt rt h w c = x := by unfold mkW; rw [if_pos (by decide), ho]
      have ho' : rmO 3 m kh kw sh sw tp lf bt rt h w c = (0, 0, 0) := by unfold rmO; rw [hw, if_neg hx']
      rw [ho', hw]
      exact rmk_3w a b m kh kw sh sw tp lf bt rt wa lw wc ba lb bc sm ss um us z p lo hi h w c x W ho hx'
    · have hw : mkW 3 kh kw sh sw tp lf bt rt h w c = 0 := by unfold mkW; rw [if_pos (by decide), ho]
      have ho' : rmO 3 m kh kw sh sw tp lf bt rt h w c = (r, q, c) := by unfold rmO; rw [hw, if_pos rfl]; unfold mkS; rw [ho]; rfl
      rw [ho', hw]
      exact rmk_3 a b m kh kw sh sw tp lf bt rt wa lw wc ba lb bc sm ss um us z p lo hi h w c r q W ho
  · rcases ouR_cases h w c kh kw sh sw tp lf bt rt with ⟨x, ho, hx⟩ | ⟨r, q, ho, -⟩
    · have hx' : x ≠ 0 := by omega
      have hw : mkW 4 kh kw sh sw tp lf bt rt h w c = x := by unfold mkW; rw [if_pos (by decide), ho]
      have ho' : rmO 4 m kh kw sh sw tp lf bt rt h w c = (0, 0, 0) := by unfold rmO; rw [hw, if_neg hx']
      rw [ho', hw]
      exact rmk_4w a b m kh kw sh sw tp lf bt rt wa lw wc ba lb bc sm ss um us z p lo hi h w c x W ho hx'
    · have hw : mkW 4 kh kw sh sw tp lf bt rt h w c = 0 := by unfold mkW; rw [if_pos (by decide), ho]
      have ho' : rmO 4 m kh kw sh sw tp lf bt rt h w c = (r, q, c) := by unfold rmO; rw [hw, if_pos rfl]; unfold mkS; rw [ho]; rfl
      rw [ho', hw]
      exact rmk_4 a b m kh kw sh sw tp lf bt rt wa lw wc ba lb bc sm ss um us z p lo hi h w c r q W ho
  · rcases ouR_cases h w c kh kw sh sw tp lf bt rt with ⟨x, ho, hx⟩ | ⟨r, q, ho, -⟩
    · have hx' : x ≠ 0 := by omega
      have hw : mkW 5 kh kw sh sw tp lf bt rt h w c = x := by unfold mkW; rw [if_pos (by decide), ho]
      have ho' : rmO 5 m kh kw sh sw tp lf bt rt h w c = (0, 0, 0) := by unfold rmO; rw [hw, if_neg hx']
      rw [ho', hw]
      exact rmk_5w a b m kh kw sh sw tp lf bt rt wa lw wc ba lb bc sm ss um us z p lo hi h w c x W ho hx'
    · have hw : mkW 5 kh kw sh sw tp lf bt rt h w c = 0 := by unfold mkW; rw [if_pos (by decide), ho]
      have ho' : rmO 5 m kh kw sh sw tp lf bt rt h w c = (r, q, c) := by unfold rmO; rw [hw, if_pos rfl]; unfold mkS; rw [ho]; rfl
      rw [ho', hw]
      exact rmk_5 a b m kh kw sh sw tp lf bt rt wa lw wc ba lb bc sm ss um us z p lo hi h w c r q W ho
  · exact rmk_6 a b m kh kw sh sw tp lf bt rt wa lw wc ba lb bc sm ss um us z p lo hi h w c W
  · exact rmk_7 a b m kh kw sh sw tp lf bt rt wa lw wc ba lb bc sm ss um us z p lo hi h w c W
  · exact rmk_8 a b m kh kw sh sw tp lf bt rt wa lw wc ba lb bc sm ss um us z p lo hi h w c W
/-! ### Lists -/
def liW (k m c st : Int) : Int := if k ≤ 2 then m * st else if k = 3 then c * st else 0
def liB (k m c : Int) : Int := if k ≤ 2 then m else if k = 3 then c else 0
set_option maxHeartbeats 2000000 in
theorem lists_1 (a b m kh kw sh sw tp lf bt rt : Int) (wa : Option Addr) (lw wc : Nat) (ba : Option Addr) (lb bc : Nat) (sm ss um us z p lo hi : Int) (h w c st : Int) (W : World) (g : vS h w c = true) (hw : (2 : Int) ≤ 1 ∧ (1 : Int) ≤ 5 → (1 ≤ kh ∧ kh ≤ 32) ∧ (1 ≤ kw ∧ kw ≤ 32)) (hs : stR 1 kh kw h w c = st) (hs0 : 1 ≤ st ∧ st ≤ 1048576) (hm : 1 ≤ m ∧ m ≤ 1024) :
    Calls Tryz.prog 91 #[.agg #[Jv 1, Jv a, Jv b, Jv m, Jv kh, Jv kw, Jv sh, Jv sw, Jv tp, Jv lf, Jv bt, Jv rt, .slice wa lw wc, .slice ba lb bc, Jv sm, Jv ss, Jv um, Jv us, Jv z, Jv p, Jv lo, Jv hi], .agg #[Jv h, Jv w, Jv c]] W fun e w' => e = .returned (.tuple #[Jv (m * st), Jv m]) ∧ Below W.heap.size W w' := by
  have hL : Hid (∀ W, Calls Tryz.prog 32 #[.agg #[Jv 1, Jv a, Jv b, Jv m, Jv kh, Jv kw, Jv sh, Jv sw, Jv tp, Jv lf, Jv bt, Jv rt, .slice wa lw wc, .slice ba lb bc, Jv sm, Jv ss, Jv um, Jv us, Jv z, Jv p, Jv lo, Jv hi], .agg #[Jv h, Jv w, Jv c]] W fun e w' => e = .returned (Jv st) ∧ Below W.heap.size W w') := fun W => by rw [← hs]; exact length_any 1 a b m kh kw sh sw tp lf bt rt wa lw wc ba lb bc sm ss um us z p lo hi h w c W rfl g hw
  obtain ⟨q1, q2⟩ := mul_bd hm.1 hm.2 hs0.1 hs0.2
  clear hs g hw
  have s0 := ((St.start W).new (c := #[Jv 1, Jv a, Jv b, Jv m, Jv kh, Jv kw, Jv sh, Jv sw, Jv tp, Jv lf, Jv bt, Jv rt, .slice wa lw wc, .slice ba lb bc, Jv sm, Jv ss, Jv um, Jv us, Jv z, Jv p, Jv lo, Jv hi]) (t := 42)).new (c := #[Jv h, Jv w, Jv c]) (t := 23)
  simp only [World.size_alloc] at s0
  go_enter Tryz.func91, Tryz.ntmps91
  go_upto_region 4 with fail
  obtain ⟨c1, g1, c2, g2, -⟩ := rulesQ_st s0
  have hne := Nonempty.intro (Wd.mk _ s0)
  refine region_held s0 (by kernel_rfl) (by kernel_rfl) ?_
  go_big_quiet_step (fail)
  go_big_quiet_step (fail)
  go_big_quiet_want
  refine quiet_ld 42 (.tmp 2) rfl _ rfl 42 _ _ (Wd.hp (List.mem_cons_of_mem _ List.mem_cons_self)) Tryz.underlying42 rfl (by kernel_rfl) rfl ?_
  go_simp
  go_big_quiet_on
  repeat (go_big_quiet_step ((go_at_call 32; exact held_of (hL.out _))))
  refine wpQuiet_nil ?_
  intro _ hw'
  obtain ⟨nq, rfl⟩ := hw'
  go_wp2
  exact bodyPost_ret (v := .tuple #[Jv (m * st), Jv m]) (by simp [results, Tryz.results91, go_sem, *]) rfl ⟨rfl, nq.h.below⟩
set_option maxHeartbeats 2000000 in
theorem lists_2 (a b m kh kw sh sw tp lf bt rt : Int) (wa : Option Addr) (lw wc : Nat) (ba : Option Addr) (lb bc : Nat) (sm ss um us z p lo hi : Int) (h w c st : Int) (W : World) (g : vS h w c = true) (hw : (2 : Int) ≤ 2 ∧ (2 : Int) ≤ 5 → (1 ≤ kh ∧ kh ≤ 32) ∧ (1 ≤ kw ∧ kw ≤ 32)) (hs : stR 2 kh kw h w c = st) (hs0 : 1 ≤ st ∧ st ≤ 1048576) (hm : 1 ≤ m ∧ m ≤ 1024) :
    Calls Tryz.prog 91 #[.agg #[Jv 2, Jv a, Jv b, Jv m, Jv kh, Jv kw, Jv sh, Jv sw, Jv tp, Jv lf, Jv bt, Jv rt, .slice wa lw wc, .slice ba lb bc, Jv sm, Jv ss, Jv um, Jv us, Jv z, Jv p, Jv lo, Jv hi], .agg #[Jv h, Jv w, Jv c]] W fun e w' => e = .returned (.tuple #[Jv (m * st), Jv m]) ∧ Below W.heap.size W w' := by
  have hL : Hid (∀ W, Calls Tryz.prog 32 #[.agg #[Jv 2, Jv a, Jv b, Jv m, Jv kh, Jv kw, Jv sh, Jv sw, Jv tp, Jv lf, Jv bt, Jv rt, .slice wa lw wc, .slice ba lb bc, Jv sm, Jv ss, Jv um, Jv us, Jv z, Jv p, Jv lo, Jv hi], .agg #[Jv h, Jv w, Jv c]] W fun e w' => e = .returned (Jv st) ∧ Below W.heap.size W w') := fun W => by rw [← hs]; exact length_any 2 a b m kh kw sh sw tp lf bt rt wa lw wc ba lb bc sm ss um us z p lo hi h w c W rfl g hw
  obtain ⟨q1, q2⟩ := mul_bd hm.1 hm.2 hs0.1 hs0.2
  clear hs g hw
  have s0 := ((St.start W).new (c := #[Jv 2, Jv a, Jv b, Jv m, Jv kh, Jv kw, Jv sh, Jv sw, Jv tp, Jv lf, Jv bt, Jv rt, .slice wa lw wc, .slice ba lb bc, Jv sm, Jv ss, Jv um, Jv us, Jv z, Jv p, Jv lo, Jv hi]) (t := 42)).new (c := #[Jv h, Jv w, Jv c]) (t := 23)
  simp only [World.size_alloc] at s0
  go_enter Tryz.func91, Tryz.ntmps91
  go_upto_region 4 with fail
  obtain ⟨c1, g1, c2, g2, -⟩ := rulesQ_st s0
  have hne := Nonempty.intro (Wd.mk _ s0)
  refine region_held s0 (by kernel_rfl) (by kernel_rfl) ?_
  go_big_quiet_step (fail)
  go_big_quiet_step (fail)
  go_big_quiet_want
  refine quiet_ld 42 (.tmp 2) rfl _ rfl 42 _ _ (Wd.hp (List.mem_cons_of_mem _ List.mem_cons_self)) Tryz.underlying42 rfl (by kernel_rfl) rfl ?_
  go_simp
  go_big_quiet_on
  repeat (go_big_quiet_step ((go_at_call 32; exact held_of (hL.out _))))
  refine wpQuiet_nil ?_
  intro _ hw'
  obtain ⟨nq, rfl⟩ := hw'
  go_wp2
  exact bodyPost_ret (v := .tuple #[Jv (m * st), Jv m]) (by simp [results, Tryz.results91, go_sem, *]) rfl ⟨rfl, nq.h.below⟩
set_option maxHeartbeats 2000000 in
theorem lists_3 (a b m kh kw sh sw tp lf bt rt : Int) (wa : Option Addr) (lw wc : Nat) (ba : Option Addr) (lb bc : Nat) (sm ss um us z p lo hi : Int) (h w c st : Int) (W : World) (g : vS h w c = true) (hw : (2 : Int) ≤ 3 ∧ (3 : Int) ≤ 5 → (1 ≤ kh ∧ kh ≤ 32) ∧ (1 ≤ kw ∧ kw ≤ 32)) (hs : stR 3 kh kw h w c = st) (hs0 : 1 ≤ st ∧ st ≤ 1048576) (hm : 1 ≤ c ∧ c ≤ 1024) :
    Calls Tryz.prog 91 #[.agg #[Jv 3, Jv a, Jv b, Jv m, Jv kh, Jv kw, Jv sh, Jv sw, Jv tp, Jv lf, Jv bt, Jv rt, .slice wa lw wc, .slice ba lb bc, Jv sm, Jv ss, Jv um, Jv us, Jv z, Jv p, Jv lo, Jv hi], .agg #[Jv h, Jv w, Jv c]] W fun e w' => e = .returned (.tuple #[Jv (c * st), Jv c]) ∧ Below W.heap.size W w' := by
  have hL : Hid (∀ W, Calls Tryz.prog 32 #[.agg #[Jv 3, Jv a, Jv b, Jv m, Jv kh, Jv kw, Jv sh, Jv sw, Jv tp, Jv lf, Jv bt, Jv rt, .slice wa lw wc, .slice ba lb bc, Jv sm, Jv ss, Jv um, Jv us, Jv z, Jv p, Jv lo, Jv hi], .agg #[Jv h, Jv w, Jv c]] W fun e w' => e = .returned (Jv st) ∧ Below W.heap.size W w') := fun W => by rw [← hs]; exact length_any 3 a b m kh kw sh sw tp lf bt rt wa lw wc ba lb bc sm ss um us z p lo hi h w c W rfl g hw
  obtain ⟨q1, q2⟩ := mul_bd hm.1 hm.2 hs0.1 hs0.2
  clear hs g hw
  have s0 := ((St.start W).new (c := #[Jv 3, Jv a, Jv b, Jv m, Jv kh, Jv kw, Jv sh, Jv sw, Jv tp, Jv lf, Jv bt, Jv rt, .slice wa lw wc, .slice ba lb bc, Jv sm, Jv ss, Jv um, Jv us, Jv z, Jv p, Jv lo, Jv hi]) (t := 42)).new (c := #[Jv h, Jv w, Jv c]) (t := 23)
  simp only [World.size_alloc] at s0
  go_enter Tryz.func91, Tryz.ntmps91
  go_upto_region 6 with fail
  obtain ⟨c1, g1, c2, g2, -⟩ := rulesQ_st s0
  have hne := Nonempty.intro (Wd.mk _ s0)
  refine region_held s0 (by kernel_rfl) (by kernel_rfl) ?_
  go_big_quiet_step (fail)
  go_big_quiet_step (fail)
  go_big_quiet_want
  refine quiet_ld 42 (.tmp 2) rfl _ rfl 42 _ _ (Wd.hp (List.mem_cons_of_mem _ List.mem_cons_self)) Tryz.underlying42 rfl (by kernel_rfl) rfl ?_
  go_simp
  go_big_quiet_on
  repeat (go_big_quiet_step ((go_at_call 32; exact held_of (hL.out _))))
  refine wpQuiet_nil ?_
  intro _ hw'
  obtain ⟨nq, rfl⟩ := hw'
  go_wp2
  exact bodyPost_ret (v := .tuple #[Jv (c * st), Jv c]) (by simp [results, Tryz.results91, go_sem, *]) rfl ⟨rfl, nq.h.below⟩
set_option maxHeartbeats 1000000 in
theorem lists_0 (k a b m kh kw sh sw tp lf bt rt : Int) (wa : Option Addr) (lw wc : Nat) (ba : Option Addr) (lb bc : Nat) (sm ss um us z p lo hi : Int) (h w c : Int) (W : World) (hk : 4 ≤ k) :
    Calls Tryz.prog 91 #[.agg #[Jv k, Jv a, Jv b, Jv m, Jv kh, Jv kw, Jv sh, Jv sw, Jv tp, Jv lf, Jv bt, Jv rt, .slice wa lw wc, .slice ba lb bc, Jv sm, Jv ss, Jv um, Jv us, Jv z, Jv p, Jv lo, Jv hi], .agg #[Jv h, Jv w, Jv c]] W fun e w' => e = .returned (.tuple #[Jv 0, Jv 0]) ∧ Below W.heap.size W w' := by
  have e1 : (k == 1) = false := by simp; omega
  have e2 : (k == 2) = false := by simp; omega
  have e3 : (k == 3) = false := by simp; omega
  go_enter Tryz.func91, Tryz.ntmps91
  go_wp2
  exact bodyPost_ret (v := .tuple #[Jv 0, Jv 0]) (by simp [results, Tryz.results91, go_sem, *]) rfl ⟨rfl, (St.start W).new.new.below⟩
theorem lists_any (k a b m kh kw sh sw tp lf bt rt : Int) (wa : Option Addr) (lw wc : Nat) (ba : Option Addr) (lb bc : Nat) (sm ss um us z p lo hi : Int) (h w c st : Int) (W : World) (hk : 1 ≤ k ∧ k ≤ 8) (g : vS h w c = true) (hw : 2 ≤ k ∧ k ≤ 5 → (1 ≤ kh ∧ kh ≤ 32) ∧ (1 ≤ kw ∧ kw ≤ 32)) (hs : stR k kh kw h w c = st) (hs0 : 1 ≤ st ∧ st ≤ 1048576) (hm : k ≤ 2 → 1 ≤ m ∧ m ≤ 1024) :
    Calls Tryz.prog 91 #[.agg #[Jv k, Jv a, Jv b, Jv m, Jv kh, Jv kw, Jv sh, Jv sw, Jv tp, Jv lf, Jv bt, Jv rt, .slice wa lw wc, .slice ba lb bc, Jv sm, Jv ss, Jv um, Jv us, Jv z, Jv p, Jv lo, Jv hi], .agg #[Jv h, Jv w, Jv c]] W fun e w' => e = .returned (.tuple #[Jv (liW k m c st), Jv (liB k m c)]) ∧ Below W.heap.size W w' := by
  by_cases k4 : 4 ≤ k
  · have e1 : liW k m c st = 0 := by unfold liW; rw [if_neg (by omega), if_neg (by omega)]
    have e2 : liB k m c = 0 := by unfold liB; rw [if_neg (by omega), if_neg (by omega)]
    rw [e1, e2]
    exact lists_0 k a b m kh kw sh sw tp lf bt rt wa lw wc ba lb bc sm ss um us z p lo hi h w c W k4
  · rcases (show k = 1 ∨ k = 2 ∨ k = 3 by omega) with rfl | rfl | rfl
    · exact lists_1 a b m kh kw sh sw tp lf bt rt wa lw wc ba lb bc sm ss um us z p lo hi h w c st W g hw hs hs0 (hm (by decide))
    · exact lists_2 a b m kh kw sh sw tp lf bt rt wa lw wc ba lb bc sm ss um us z p lo hi h w c st W g hw hs hs0 (hm (by decide))
    · exact lists_3 a b m kh kw sh sw tp lf bt rt wa lw wc ba lb bc sm ss um us z p lo hi h w c st W g hw hs hs0 (vS_yes g).2.2.1
/-! ### Labour -/
set_option maxHeartbeats 2000000 in
theorem labour_r (k a b m kh kw sh sw tp lf bt rt : Int) (wa : Option Addr) (lw wc : Nat) (ba : Option Addr) (lb bc : Nat) (sm ss um us z p lo hi : Int) (h w c H V C n st : Int) (W : World) (hk : rdB k = true) (g : vS h w c = true) (hw : 2 ≤ k ∧ k ≤ 5 → (1 ≤ kh ∧ kh ≤ 32) ∧ (1 ≤ kw ∧ kw ≤ 32)) (hs : stR k kh kw h w c = st) (hs0 : 1 ≤ st ∧ st ≤ 1048576) (hg : vS H V C = true) (hn : H * V * C = n) :
    Calls Tryz.prog 75 #[.agg #[Jv k, Jv a, Jv b, Jv m, Jv kh, Jv kw, Jv sh, Jv sw, Jv tp, Jv lf, Jv bt, Jv rt, .slice wa lw wc, .slice ba lb bc, Jv sm, Jv ss, Jv um, Jv us, Jv z, Jv p, Jv lo, Jv hi], .agg #[Jv h, Jv w, Jv c], .agg #[Jv H, Jv V, Jv C]] W fun e w' => e = .returned (Jv (n * st)) ∧ Below W.heap.size W w' := by
  have hL : Hid (∀ W, Calls Tryz.prog 32 #[.agg #[Jv k, Jv a, Jv b, Jv m, Jv kh, Jv kw, Jv sh, Jv sw, Jv tp, Jv lf, Jv bt, Jv rt, .slice wa lw wc, .slice ba lb bc, Jv sm, Jv ss, Jv um, Jv us, Jv z, Jv p, Jv lo, Jv hi], .agg #[Jv h, Jv w, Jv c]] W fun e w' => e = .returned (Jv st) ∧ Below W.heap.size W w') := fun W => by rw [← hs]; exact length_any k a b m kh kw sh sw tp lf bt rt wa lw wc ba lb bc sm ss um us z p lo hi h w c W hk g hw
  obtain ⟨⟨p1, p2⟩, p3, p4⟩ := vS_bd hg
  obtain ⟨hv, eh⟩ : ∃ hv, H * V = hv := ⟨_, rfl⟩
  rw [eh] at p1 p2 p3 p4 hn
  rw [hn] at p3 p4
  obtain ⟨q1, q2⟩ := mul_bd p3 p4 hs0.1 hs0.2
  clear hs g hw hg
  go_enter Tryz.func75, Tryz.ntmps75
  have s0 := (((St.start W).new (c := #[Jv k, Jv a, Jv b, Jv m, Jv kh, Jv kw, Jv sh, Jv sw, Jv tp, Jv lf, Jv bt, Jv rt, .slice wa lw wc, .slice ba lb bc, Jv sm, Jv ss, Jv um, Jv us, Jv z, Jv p, Jv lo, Jv hi]) (t := 42)).new (c := #[Jv h, Jv w, Jv c]) (t := 23)).new (c := #[Jv H, Jv V, Jv C]) (t := 23)
  simp only [World.size_alloc] at s0
  go_wp2_with fail
  refine (rred_any _ _).mono ?_
  rintro e w' ⟨rfl, rfl⟩
  go_wp2_with (refine wpList_load_row rfl 42 (.tmp 3) rfl _ rfl 42 _ (0, 0) _ s0.h3 Tryz.underlying42 rfl (by kernel_rfl) ?_)
  refine (hL.out _).mono ?_
  rintro e w' ⟨rfl, hb⟩
  have s1 := s0.call hb
  clear hb
  go_wp2
  go_ret
  exact ⟨rfl, s1.below⟩
set_option maxHeartbeats 2000000 in
theorem labour_5 (a b m kh kw sh sw tp lf bt rt : Int) (wa : Option Addr) (lw wc : Nat) (ba : Option Addr) (lb bc : Nat) (sm ss um us z p lo hi : Int) (h w c H V C n : Int) (W : World) (hw : (1 ≤ kh ∧ kh ≤ 32) ∧ (1 ≤ kw ∧ kw ≤ 32)) (hg : vS H V C = true) (hn : H * V * C = n) :
    Calls Tryz.prog 75 #[.agg #[Jv 5, Jv a, Jv b, Jv m, Jv kh, Jv kw, Jv sh, Jv sw, Jv tp, Jv lf, Jv bt, Jv rt, .slice wa lw wc, .slice ba lb bc, Jv sm, Jv ss, Jv um, Jv us, Jv z, Jv p, Jv lo, Jv hi], .agg #[Jv h, Jv w, Jv c], .agg #[Jv H, Jv V, Jv C]] W fun e w' => e = .returned (Jv (n * kh * kw)) ∧ Below W.heap.size W w' := by
  obtain ⟨⟨p1, p2⟩, p3, p4⟩ := vS_bd hg
  obtain ⟨hv, eh⟩ : ∃ hv, H * V = hv := ⟨_, rfl⟩
  rw [eh] at p1 p2 p3 p4 hn
  rw [hn] at p3 p4
  obtain ⟨q1, q2⟩ := mul_bd p3 p4 hw.1.1 hw.1.2
  obtain ⟨q3, q4⟩ := mul_bd q1 q2 hw.2.1 hw.2.2
  obtain ⟨nk, ek⟩ : ∃ nk, n * kh = nk := ⟨_, rfl⟩
  rw [ek] at q1 q2 q3 q4 ⊢
  clear hg
  go_enter Tryz.func75, Tryz.ntmps75
  go_wp2_with fail
  refine (rred_any _ _).mono ?_
  rintro e w' ⟨rfl, rfl⟩
  go_wp2
  go_ret
  exact ⟨rfl, (St.start W).new.new.new.below⟩
set_option maxHeartbeats 2000000 in
theorem labour_6 (k a b m kh kw sh sw tp lf bt rt : Int) (wa : Option Addr) (lw wc : Nat) (ba : Option Addr) (lb bc : Nat) (sm ss um us z p lo hi : Int) (h w c H V C n : Int) (W : World) (hk : 6 ≤ k ∧ k ≤ 8) (hg : vS H V C = true) (hn : H * V * C = n) :
    Calls Tryz.prog 75 #[.agg #[Jv k, Jv a, Jv b, Jv m, Jv kh, Jv kw, Jv sh, Jv sw, Jv tp, Jv lf, Jv bt, Jv rt, .slice wa lw wc, .slice ba lb bc, Jv sm, Jv ss, Jv um, Jv us, Jv z, Jv p, Jv lo, Jv hi], .agg #[Jv h, Jv w, Jv c], .agg #[Jv H, Jv V, Jv C]] W fun e w' => e = .returned (Jv n) ∧ Below W.heap.size W w' := by
  obtain ⟨⟨p1, p2⟩, p3, p4⟩ := vS_bd hg
  obtain ⟨hv, eh⟩ : ∃ hv, H * V = hv := ⟨_, rfl⟩
  rw [eh] at p1 p2 p3 p4 hn
  rw [hn] at p3 p4
  have e1 : rdB k = false := decide_eq_false (by omega)
  have e2 : (k == 5) = false := by simp; omega
  clear hg hk
  go_enter Tryz.func75, Tryz.ntmps75
  go_wp2_with fail
  refine (rred_any _ _).mono ?_
  rintro e w' ⟨rfl, rfl⟩
  go_wp2
  go_ret
  exact ⟨rfl, (St.start W).new.new.new.below⟩
theorem labour_any (k a b m kh kw sh sw tp lf bt rt : Int) (wa : Option Addr) (lw wc : Nat) (ba : Option Addr) (lb bc : Nat) (sm ss um us z p lo hi : Int) (h w c H V C st : Int) (W : World) (hk : 1 ≤ k ∧ k ≤ 8) (g : vS h w c = true) (hw : 2 ≤ k ∧ k ≤ 5 → (1 ≤ kh ∧ kh ≤ 32) ∧ (1 ≤ kw ∧ kw ≤ 32)) (hs : stR k kh kw h w c = st) (hs0 : 1 ≤ st ∧ st ≤ 1048576) (hg : vS H V C = true) :
    Calls Tryz.prog 75 #[.agg #[Jv k, Jv a, Jv b, Jv m, Jv kh, Jv kw, Jv sh, Jv sw, Jv tp, Jv lf, Jv bt, Jv rt, .slice wa lw wc, .slice ba lb bc, Jv sm, Jv ss, Jv um, Jv us, Jv z, Jv p, Jv lo, Jv hi], .agg #[Jv h, Jv w, Jv c], .agg #[Jv H, Jv V, Jv C]] W fun e w' => e = .returned (Jv (H * V * C * st)) ∧ Below W.heap.size W w' := by
  by_cases k4 : k ≤ 4
  · exact labour_r k a b m kh kw sh sw tp lf bt rt wa lw wc ba lb bc sm ss um us z p lo hi h w c H V C _ st W (decide_eq_true (by omega)) g hw hs hs0 hg rfl
  · by_cases k5 : k = 5
    · subst k5
      have e : st = kh * kw := by rw [← hs]; rfl
      rw [e, ← Int.mul_assoc]
      exact labour_5 a b m kh kw sh sw tp lf bt rt wa lw wc ba lb bc sm ss um us z p lo hi h w c H V C _ W (hw (by decide)) hg rfl
    · have e : st = 1 := by rw [← hs]; unfold stR; rw [if_neg (by omega), if_neg (by omega), if_neg (by omega)]
      rw [e, Int.mul_one]
      exact labour_6 k a b m kh kw sh sw tp lf bt rt wa lw wc ba lb bc sm ss um us z p lo hi h w c H V C _ W (by omega) hg rfl
end Go.Proofs.YtcphealigifdiaaGreat
