/- take of package model: what it answers, and what it leaves in memory. -/
import Derived.Test.YtdknofbnhjdfjaaGr12
import Derived.Deep.RegionLawGrows
import Derived.ControlIn
/- take of package model: what it answers, and what it leaves in memory. -/
namespace Go.Proofs.Ytdknofbnhjdfjaa
open Go.ChangeShapes Go.WideShapes Go.ChangeAt Go.RowKit
set_option linter.unusedVariables false
theorem take_f (k a b m kh kw sh sw tp lf bt rt : Int) (wa : Option Addr) (lw cw : Nat) (ba : Option Addr) (lb cb : Nat) (sm ss um us z p lo hi : Int) (W0 W : World) (B g cap : Nat) (cur : Array Value) (L : List (Int × Int × Int)) (wk x : Int) (l : List (Nat × Array Value × TypeId))
    (s : St W0 W ((B, #[.slice (some ⟨g, 0, none⟩) L.length cap, .int .i64 wk], 98) :: (g, cur, 23) :: l)) (hf : fmE k a b L.length (ozB k b m kh kw sh sw tp lf bt rt lw lb sm ss um us z p) = x) (hx : x ≠ 0) (hcap : cap ≤ 65) (hlc : L.length ≤ cap) :
    Calls Try.prog 59 #[.pointer (some ⟨B, 0, none⟩), .agg #[.int .i64 k, .int .i64 a, .int .i64 b, .int .i64 m, .int .i64 kh, .int .i64 kw, .int .i64 sh, .int .i64 sw, .int .i64 tp, .int .i64 lf, .int .i64 bt, .int .i64 rt, .slice wa lw cw, .slice ba lb cb, .int .i64 sm, .int .i64 ss, .int .i64 um, .int .i64 us, .int .i64 z, .int .i64 p, .int .i64 lo, .int .i64 hi]] W fun e w' => e = .returned (.int .i64 x) ∧ St W0 w' ((B, #[.slice (some ⟨g, 0, none⟩) L.length cap, .int .i64 wk], 98) :: (g, cur, 23) :: l) := by
  have hF : Hid (∀ W, Calls Try.prog 80 #[.agg #[.int .i64 k, .int .i64 a, .int .i64 b, .int .i64 m, .int .i64 kh, .int .i64 kw, .int .i64 sh, .int .i64 sw, .int .i64 tp, .int .i64 lf, .int .i64 bt, .int .i64 rt, .slice wa lw cw, .slice ba lb cb, .int .i64 sm, .int .i64 ss, .int .i64 um, .int .i64 us, .int .i64 z, .int .i64 p, .int .i64 lo, .int .i64 hi], .int .i64 (L.length : Int)] W fun e w' => e = .returned (.int .i64 x) ∧ Below W.heap.size W w') := fun W => by rw [← hf]; exact form_any k a b m kh kw sh sw tp lf bt rt wa lw cw ba lb cb sm ss um us z p lo hi _ W
  obtain ⟨n, hn⟩ : ∃ n, L.length = n := ⟨_, rfl⟩
  rw [hn] at s hF hlc ⊢
  clear hf hn
  have s0 := s.new (c := #[.int .i64 k, .int .i64 a, .int .i64 b, .int .i64 m, .int .i64 kh, .int .i64 kw, .int .i64 sh, .int .i64 sw, .int .i64 tp, .int .i64 lf, .int .i64 bt, .int .i64 rt, .slice wa lw cw, .slice ba lb cb, .int .i64 sm, .int .i64 ss, .int .i64 um, .int .i64 us, .int .i64 z, .int .i64 p, .int .i64 lo, .int .i64 hi]) (t := 39)
  go_enter Try.func59, Try.ntmps59
  go_upto_region 1 with fail
  obtain ⟨c1, g1, c2, g2, c3, g3, -⟩ := rulesQ_st s0
  have hne := Nonempty.intro (Wd.mk _ s0)
  refine region_held s0 (by kernel_rfl) (by kernel_rfl) ?_
  go_big_quiet_want
  refine quiet_ld 39 (.tmp 3) rfl _ rfl 39 _ _ (Wd.hp (List.mem_cons_self)) Try.underlying39 rfl (by kernel_rfl) rfl ?_
  go_simp
  go_big_quiet_on
  repeat (go_big_quiet_step ((go_at_call 80; exact held_of (hF.out _))))
  refine wpQuiet_nil ?_
  intro _ hw'
  obtain ⟨nq, rfl⟩ := hw'
  go_wp2
  go_ret
  exact ⟨rfl, nq.h.tail⟩
theorem ne3 (T : TypeId) (hT : T = 23) (a b c d e f : Int) (v : Bool) (h : decide (a = d ∧ b = e ∧ c = f) = v) : ∀ W, (binOp .neq T (.agg #[.int .i64 a, .int .i64 b, .int .i64 c]) (.agg #[.int .i64 d, .int .i64 e, .int .i64 f])).run Try.prog W = .ok (.bool (!v)) W := by
  intro W; subst h hT; simp [go_sem]; repeat' split
  all_goals simp_all
def TkP (W0 : World) (B g cap n : Nat) (L : List (Int × Int × Int)) (l : List (Nat × Array Value × TypeId)) (e0 : Int) (made : Int × Int × Int) (wk2 : Int) (w' : World) : Prop :=
  ∃ (n' : Nat) (cur' : Array Value) (wk' : Int), St W0 w' ((B, #[.slice (some ⟨g, 0, none⟩) n' cap, .int .i64 wk'], 98) :: (g, cur', 23) :: l) ∧ (e0 = 0 → n' = n + 1 ∧ wk' = wk2 ∧ Cu cur' cap (L ++ [made]))
theorem TkP.no {W0 : World} {B g cap n n' : Nat} {L : List (Int × Int × Int)} {l : List (Nat × Array Value × TypeId)} {e0 : Int} {made : Int × Int × Int} {wk2 wk' : Int} {w' : World} {cur' : Array Value} (h : St W0 w' ((B, #[.slice (some ⟨g, 0, none⟩) n' cap, .int .i64 wk'], 98) :: (g, cur', 23) :: l)) (he : e0 ≠ 0) : TkP W0 B g cap n L l e0 made wk2 w' := ⟨n', cur', wk', h, fun q => absurd q he⟩
/-! ### The error, exit by exit -/
theorem tk_1 {k a b m kh kw sh sw tp lf bt rt : Int} {lw lb : Nat} {sm ss um us z p lo hi : Int} {L : List (Int × Int × Int)} {wk x : Int} (hf : fmE k a b L.length (ozB k b m kh kw sh sw tp lf bt rt lw lb sm ss um us z p) = x) (hx : x ≠ 0) : tkE k a b m kh kw sh sw tp lf bt rt lw lb sm ss um us z p lo hi L wk = x := by
  have : opE k a b m kh kw sh sw tp lf bt rt lw lb sm ss um us z p lo hi L = x := by unfold opE; rw [hf, if_pos hx]
  unfold tkE; rw [this, if_pos hx]
theorem tk_2 {k a b m kh kw sh sw tp lf bt rt : Int} {lw lb : Nat} {sm ss um us z p lo hi : Int} {L : List (Int × Int × Int)} {wk h w c x : Int} (hf : Hid (fmE k a b L.length (ozB k b m kh kw sh sw tp lf bt rt lw lb sm ss um us z p) = 0)) (hA : ShA L a = (h, w, c)) (hx : mkE k m kh kw sh sw tp lf bt rt h w c = x) (h0 : x ≠ 0) : tkE k a b m kh kw sh sw tp lf bt rt lw lb sm ss um us z p lo hi L wk = x := by
  have : opE k a b m kh kw sh sw tp lf bt rt lw lb sm ss um us z p lo hi L = x := by unfold opE; rw [hf.out, if_neg (by decide), hA]; simp only; rw [hx, if_pos h0]
  unfold tkE; rw [this, if_pos h0]
theorem tk_3 {k a b m kh kw sh sw tp lf bt rt : Int} {lw lb : Nat} {sm ss um us z p lo hi : Int} {L : List (Int × Int × Int)} {wk h w c : Int} (hf : Hid (fmE k a b L.length (ozB k b m kh kw sh sw tp lf bt rt lw lb sm ss um us z p) = 0)) (hA : ShA L a = (h, w, c)) (hx : mkE k m kh kw sh sw tp lf bt rt h w c = 0) (hn : decide (k = 6 ∧ ShA L a ≠ ShA L b) = true) : tkE k a b m kh kw sh sw tp lf bt rt lw lb sm ss um us z p lo hi L wk = 50 := by
  have hn' := of_decide_eq_true hn
  have : opE k a b m kh kw sh sw tp lf bt rt lw lb sm ss um us z p lo hi L = 50 := by
    unfold opE
    rw [if_neg (by rw [hf.out]; decide), if_neg (by rw [hA]; simp only; rw [hx]; decide), if_pos hn']
  unfold tkE; rw [this]; rfl
theorem tk_4 {k a b m kh kw sh sw tp lf bt rt : Int} {lw lb : Nat} {sm ss um us z p lo hi : Int} {L : List (Int × Int × Int)} {wk h w c st : Int} (hf : Hid (fmE k a b L.length (ozB k b m kh kw sh sw tp lf bt rt lw lb sm ss um us z p) = 0)) (hA : ShA L a = (h, w, c)) (hx : mkE k m kh kw sh sw tp lf bt rt h w c = 0) (hn : decide (k = 6 ∧ ShA L a ≠ ShA L b) = false) (hst : stR k kh kw h w c = st) (hr : decide (rdB k = true ∧ 512 < st) = true) : tkE k a b m kh kw sh sw tp lf bt rt lw lb sm ss um us z p lo hi L wk = 84 := by
  have hn' := of_decide_eq_false hn
  have hr' := of_decide_eq_true hr
  have : opE k a b m kh kw sh sw tp lf bt rt lw lb sm ss um us z p lo hi L = 84 := by
    unfold opE
    rw [if_neg (by rw [hf.out]; decide), if_neg (by rw [hA]; simp only; rw [hx]; decide), if_neg hn', if_pos (by unfold st3; rw [hA]; simp only; rw [hst]; exact hr')]
  unfold tkE; rw [this]; rfl
theorem opE_n {k a b m kh kw sh sw tp lf bt rt : Int} {lw lb : Nat} {sm ss um us z p lo hi : Int} {L : List (Int × Int × Int)} {h w c st H V C : Int} (hf : Hid (fmE k a b L.length (ozB k b m kh kw sh sw tp lf bt rt lw lb sm ss um us z p) = 0)) (hA : ShA L a = (h, w, c)) (hx : mkE k m kh kw sh sw tp lf bt rt h w c = 0) (hO : mkO k m kh kw sh sw tp lf bt rt h w c = (H, V, C)) (hn : decide (k = 6 ∧ ShA L a ≠ ShA L b) = false) (hst : stR k kh kw h w c = st) (hr : decide (rdB k = true ∧ 512 < st) = false) : opE k a b m kh kw sh sw tp lf bt rt lw lb sm ss um us z p lo hi L = nuE k C st lw lb sm ss um us z p lo hi := by
  have hn' := of_decide_eq_false hn
  have hr' := of_decide_eq_false hr
  rw [mkO_ok hx] at hO
  unfold opE
  rw [if_neg (by rw [hf.out]; decide), if_neg (by rw [hA]; simp only; rw [hx]; decide), if_neg hn', if_neg (by unfold st3; rw [hA]; simp only; rw [hst]; exact hr')]
  unfold st3 mk3
  rw [hA]
  simp only
  rw [hO, hst]
theorem mk_3 {k m kh kw sh sw tp lf bt rt h w c st H V C : Int} {s : Int × Int × Int} (hA : s = (h, w, c)) (hx : mkE k m kh kw sh sw tp lf bt rt h w c = 0) (hO : mkO k m kh kw sh sw tp lf bt rt h w c = (H, V, C)) (hst : stR k kh kw h w c = st) : mk3 k m kh kw sh sw tp lf bt rt s = (H, V, C) ∧ opW k m kh kw sh sw tp lf bt rt s = H * V * C * st := by
  rw [mkO_ok hx] at hO
  subst hA
  have e : mk3 k m kh kw sh sw tp lf bt rt (h, w, c) = (H, V, C) := hO
  refine ⟨e, ?_⟩
  unfold opW
  rw [e]
  simp only
  rw [show st3 k kh kw (h, w, c) = st from hst]
theorem St.drop3 {w0 w : World} {a b c : Nat × Array Value × TypeId} {l : List (Nat × Array Value × TypeId)} (h : St w0 w (a :: b :: c :: l)) : St w0 w (a :: b :: l) :=
  h.sub fun z hz => by simp only [List.mem_cons] at *; rcases hz with h | h | h <;> simp [h]
theorem St.up5 {w0 w : World} {a b c d e f : Nat × Array Value × TypeId} {l : List (Nat × Array Value × TypeId)} (h : St w0 w (a :: b :: c :: d :: e :: f :: l)) : St w0 w (f :: a :: b :: c :: d :: e :: l) :=
  h.sub fun z hz => by simp only [List.mem_cons] at *; rcases hz with h | h | h | h | h | h | h <;> simp [h]
theorem St.app3 {w0 w : World} {g o : Nat} {cur : Array Value} {t : TypeId} {x y z : Value} {l : List (Nat × Array Value × TypeId)} (h : St w0 w ((g, cur, t) :: l)) (hl : ∀ x ∈ l, x.1 ≠ g) :
    St w0 (w.setCells g (0 + o) [x, y, z]) ((g, ((cur.setIfInBounds o x).setIfInBounds (o + 1) y).setIfInBounds (o + 2) z, t) :: l) := by
  rw [Nat.zero_add]
  exact ((h.set hl (i := o) (v := x)).set hl (i := o + 1) (v := y)).set hl (i := o + 2) (v := z)
theorem spare_of {w : World} {g n : Nat} {cur : Array Value} {t : TypeId} {x y z : Value} (h : w.heap[g]? = some (.cells cur t (0, 0))) (hs : n * 3 + 3 ≤ cur.size) : ∀ j, j < [x, y, z].length → (w.cell? ⟨g, 0 + n * 3 + j, none⟩).isSome = true ∧ w.frozen? ⟨g, 0 + n * 3 + j, none⟩ = false := by
  intro j hj
  obtain ⟨a1, a2, -⟩ := cells_at h
  refine ⟨?_, a2 _⟩
  rw [a1, Array.getElem?_eq_getElem (by simp at hj; omega)]
  rfl
theorem new_cells {w : World} {b : Nat} {x y z : Value} {t : TypeId} (h : w.heap[b]? = some (.cells #[x, y, z] t (0, 0))) : ∀ j u, [x, y, z][j]? = some u → w.cell? ((⟨b, 0, none⟩ : Addr).add j) = some u := by
  intro j u hu
  rw [Addr.add_lit, Nat.zero_add, (cells_at h).1]
  simpa using hu
theorem mkE_win {k m kh kw sh sw tp lf bt rt h w c : Int} (hx : mkE k m kh kw sh sw tp lf bt rt h w c = 0) (hk : 2 ≤ k ∧ k ≤ 5) : (1 ≤ kh ∧ kh ≤ 32) ∧ (1 ≤ kw ∧ kw ≤ 32) := by
  rcases ouR_cases h w c kh kw sh sw tp lf bt rt with ⟨x, ho, hx'⟩ | ⟨r, q, ho, hf⟩
  · exfalso
    have hw : mkW k kh kw sh sw tp lf bt rt h w c = x := by unfold mkW; rw [if_pos hk, ho]
    unfold mkE at hx
    by_cases hM : mkM k m = false
    · rw [if_pos hM] at hx; cases hx
    · rw [if_neg hM, hw, if_pos (by omega)] at hx; omega
  · exact ⟨hf.2.1.1, hf.2.1.2.1⟩
theorem stR_bd {k kh kw h w c : Int} (hk : 1 ≤ k ∧ k ≤ 8) (g : vS h w c = true) (hw : 2 ≤ k ∧ k ≤ 5 → (1 ≤ kh ∧ kh ≤ 32) ∧ (1 ≤ kw ∧ kw ≤ 32)) : 1 ≤ stR k kh kw h w c ∧ stR k kh kw h w c ≤ 1048576 := by
  obtain ⟨-, q1, q2⟩ := vS_bd g
  obtain ⟨-, -, c1, -⟩ := vS_yes g
  unfold stR
  by_cases k1 : k = 1
  · rw [if_pos k1]; omega
  · rw [if_neg k1]
    by_cases k2 : k = 2
    · rw [if_pos k2]
      obtain ⟨a1, a2⟩ := hw (by omega)
      obtain ⟨p1, p2⟩ := mul_bd a1.1 a1.2 a2.1 a2.2
      obtain ⟨p3, p4⟩ := mul_bd p1 p2 c1.1 c1.2
      omega
    · rw [if_neg k2]
      by_cases k5 : k ≤ 5
      · rw [if_pos k5]
        obtain ⟨a1, a2⟩ := hw (by omega)
        obtain ⟨p1, p2⟩ := mul_bd a1.1 a1.2 a2.1 a2.2
        omega
      · rw [if_neg k5]; omega
theorem mkO_bd {k m kh kw sh sw tp lf bt rt h w c H V C : Int} (hx : mkE k m kh kw sh sw tp lf bt rt h w c = 0) (hO : mkO k m kh kw sh sw tp lf bt rt h w c = (H, V, C)) : (1 ≤ C ∧ C ≤ 1024) ∧ (1 ≤ H * V ∧ H * V ≤ 1048576) ∧ 1 ≤ H * V * C ∧ H * V * C ≤ 16384 := by
  rw [mkO_ok hx] at hO
  have hv : vS3 (mkS k m kh kw sh sw tp lf bt rt h w c) = true := by
    unfold mkE at hx
    by_cases hM : mkM k m = false
    · rw [if_pos hM] at hx; cases hx
    · rw [if_neg hM] at hx
      by_cases hw : mkW k kh kw sh sw tp lf bt rt h w c ≠ 0
      · rw [if_pos hw] at hx; exact absurd hx hw
      · rw [if_neg hw] at hx
        cases hv : vS3 (mkS k m kh kw sh sw tp lf bt rt h w c) with
        | true => rfl
        | false => rw [hv, if_pos rfl] at hx; cases hx
  rw [hO] at hv
  have := vS_bd hv
  exact ⟨(vS_yes hv).2.2.1, this⟩
set_option maxHeartbeats 4000000 in
set_option maxRecDepth 100000 in
theorem take_g (k a b m kh kw sh sw tp lf bt rt : Int) (wa : Option Addr) (lw cw : Nat) (ba : Option Addr) (lb cb : Nat) (sm ss um us z p lo hi : Int) (i : Nat) (W0 W : World) (B g cap n : Nat) (cur : Array Value) (L : List (Int × Int × Int)) (wk : Int) (l : List (Nat × Array Value × TypeId)) (ha : a = (i : Int)) (hn : L.length = n)
    (s : St W0 W ((B, #[.slice (some ⟨g, 0, none⟩) n cap, .int .i64 wk], 98) :: (g, cur, 23) :: l)) (hf : fmE k a b n (ozB k b m kh kw sh sw tp lf bt rt lw lb sm ss um us z p) = 0) (hcap : cap ≤ 65) (hwk : 0 ≤ wk ∧ wk ≤ 131072) (hlc : n < cap) (hin : i < n) (hC : Cu cur cap L) (hk : 1 ≤ k ∧ k ≤ 8) (hg0 : vS3 (ShA L i) = true) (hb6 : k = 6 → 0 ≤ b ∧ b < (n : Int)) (hgB : g ≠ B) (hd : ∀ x ∈ l, x.1 ≠ B ∧ x.1 ≠ g) :
    Calls Try.prog 59 #[.pointer (some ⟨B, 0, none⟩), .agg #[.int .i64 k, .int .i64 a, .int .i64 b, .int .i64 m, .int .i64 kh, .int .i64 kw, .int .i64 sh, .int .i64 sw, .int .i64 tp, .int .i64 lf, .int .i64 bt, .int .i64 rt, .slice wa lw cw, .slice ba lb cb, .int .i64 sm, .int .i64 ss, .int .i64 um, .int .i64 us, .int .i64 z, .int .i64 p, .int .i64 lo, .int .i64 hi]] W fun e w' => e = .returned (.int .i64 (tkE k i b m kh kw sh sw tp lf bt rt lw lb sm ss um us z p lo hi L wk)) ∧ TkP W0 B g cap n L l (tkE k i b m kh kw sh sw tp lf bt rt lw lb sm ss um us z p lo hi L wk) (mk3 k m kh kw sh sw tp lf bt rt (ShA L i)) (wk + opW k m kh kw sh sw tp lf bt rt (ShA L i)) w' := by
  subst ha
  obtain ⟨-, -, zB, -, -, zg, -⟩ := s.rules
  have hF : Hid (∀ W, Calls Try.prog 80 #[.agg #[.int .i64 k, .int .i64 (i : Int), .int .i64 b, .int .i64 m, .int .i64 kh, .int .i64 kw, .int .i64 sh, .int .i64 sw, .int .i64 tp, .int .i64 lf, .int .i64 bt, .int .i64 rt, .slice wa lw cw, .slice ba lb cb, .int .i64 sm, .int .i64 ss, .int .i64 um, .int .i64 us, .int .i64 z, .int .i64 p, .int .i64 lo, .int .i64 hi], .int .i64 (n : Int)] W fun e w' => e = .returned (.int .i64 0) ∧ Below W.heap.size W w') := fun W => by rw [← hf]; exact form_any k i b m kh kw sh sw tp lf bt rt wa lw cw ba lb cb sm ss um us z p lo hi _ W
  have HF : Hid (fmE k i b L.length (ozB k b m kh kw sh sw tp lf bt rt lw lb sm ss um us z p) = 0) := by rw [hn]; exact hf
  obtain ⟨h, w, c, hA⟩ : ∃ h w c, ShA L i = (h, w, c) := ⟨_, _, _, rfl⟩
  have hcur : cur[i * 3]? = some (.int .i64 h) ∧ cur[i * 3 + 1]? = some (.int .i64 w) ∧ cur[i * 3 + 2]? = some (.int .i64 c) := by
    have := hC.at (i := i) (by omega)
    unfold ShA at hA
    rw [Int.toNat_natCast] at hA
    rw [hA] at this
    exact this
  obtain ⟨u1, u2, u3⟩ := hcur
  have hg : vS h w c = true := by have q := hg0; rw [hA] at q; exact q
  have s0 := s.new (c := #[.int .i64 k, .int .i64 (i : Int), .int .i64 b, .int .i64 m, .int .i64 kh, .int .i64 kw, .int .i64 sh, .int .i64 sw, .int .i64 tp, .int .i64 lf, .int .i64 bt, .int .i64 rt, .slice wa lw cw, .slice ba lb cb, .int .i64 sm, .int .i64 ss, .int .i64 um, .int .i64 us, .int .i64 z, .int .i64 p, .int .i64 lo, .int .i64 hi]) (t := 39)
  obtain ⟨E, hEE⟩ : ∃ E, tkE k i b m kh kw sh sw tp lf bt rt lw lb sm ss um us z p lo hi L wk = E := ⟨_, rfl⟩
  obtain ⟨M3, hM3⟩ : ∃ M3, mk3 k m kh kw sh sw tp lf bt rt (ShA L i) = M3 := ⟨_, rfl⟩
  obtain ⟨K2, hK2⟩ : ∃ K2, wk + opW k m kh kw sh sw tp lf bt rt (ShA L i) = K2 := ⟨_, rfl⟩
  rw [hEE, hM3, hK2]
  have HEE : Hid (tkE k i b m kh kw sh sw tp lf bt rt lw lb sm ss um us z p lo hi L wk = E) := hEE
  have HM3 : Hid (mk3 k m kh kw sh sw tp lf bt rt (ShA L i) = M3) := hM3
  have HK2 : Hid (wk + opW k m kh kw sh sw tp lf bt rt (ShA L i) = K2) := hK2
  clear hEE hM3 hK2
  go_enter Try.func59, Try.ntmps59
  go_upto_region 1 with fail
  obtain ⟨c1, g1, c2, g2, c3, g3, -⟩ := rulesQ_st s0
  have hne := Nonempty.intro (Wd.mk _ s0)
  refine region_held s0 (by kernel_rfl) (by kernel_rfl) ?_
  go_big_quiet_want
  refine quiet_ld 39 (.tmp 3) rfl _ rfl 39 _ _ (Wd.hp (List.mem_cons_self)) Try.underlying39 rfl (by kernel_rfl) rfl ?_
  go_simp
  go_big_quiet_on
  repeat (go_big_quiet_step ((go_at_call 80; exact held_of (hF.out _))))
  refine wpQuiet_nil ?_
  intro _ hw'
  obtain ⟨nq, rfl⟩ := hw'
  obtain ⟨w1, hw1⟩ : ∃ w1, nq.w = w1 := ⟨_, rfl⟩
  have s1 : St W0 w1 _ := hw1 ▸ nq.h
  rw [hw1]
  clear c1 g1 c2 g2 c3 g3 hne hw1 hF hf s0
  clear nq
  obtain ⟨c1, f1, z1, c2, f2, z2, c3, f3, z3, -⟩ := s1.rules
  go_upto_region 4 with fail
  go_cut [6] (fun x6 wx => ∃ P : Nat, x6 = .pointer (some ⟨P, 0, none⟩) ∧ St W0 wx ((P, #[.int .i64 h, .int .i64 w, .int .i64 c], 23) :: (W.heap.size, #[.int .i64 k, .int .i64 (i : Int), .int .i64 b, .int .i64 m, .int .i64 kh, .int .i64 kw, .int .i64 sh, .int .i64 sw, .int .i64 tp, .int .i64 lf, .int .i64 bt, .int .i64 rt, .slice wa lw cw, .slice ba lb cb, .int .i64 sm, .int .i64 ss, .int .i64 um, .int .i64 us, .int .i64 z, .int .i64 p, .int .i64 lo, .int .i64 hi], 39) :: (B, #[.slice (some ⟨g, 0, none⟩) n cap, .int .i64 wk], 98) :: (g, cur, 23) :: l) ∧ w1.heap.size ≤ P)
  case first =>
    go_region_held3 (fun w' => (∀ j, w'.cell? ⟨W.heap.size, j, none⟩ = #[.int .i64 k, .int .i64 (i : Int), .int .i64 b, .int .i64 m, .int .i64 kh, .int .i64 kw, .int .i64 sh, .int .i64 sw, .int .i64 tp, .int .i64 lf, .int .i64 bt, .int .i64 rt, .slice wa lw cw, .slice ba lb cb, .int .i64 sm, .int .i64 ss, .int .i64 um, .int .i64 us, .int .i64 z, .int .i64 p, .int .i64 lo, .int .i64 hi][j]?) ∧ (∀ j, w'.cell? ⟨B, j, none⟩ = #[Value.slice (some ⟨g, 0, none⟩) n cap, .int .i64 wk][j]?) ∧ (∀ j, w'.cell? ⟨g, j, none⟩ = cur[j]?)) ((refine ⟨?_, ?_, ?_⟩ <;> (intro j; simp [go_sem, *]))) (fail)
    all_goals
      refine (show ∀ a' w', Met _ a' w' → _ from by assumption) _ _ ?_
      go_meet
      exact ⟨_, rfl, s1.new.drew, Nat.le_refl _⟩
  case rest =>
  obtain ⟨P, rfl, s2, hP⟩ := hcut
  clear c1 f1 c2 f2 c3 f3
  obtain ⟨x, hx⟩ : ∃ x, mkE k m kh kw sh sw tp lf bt rt h w c = x := ⟨_, rfl⟩
  obtain ⟨H, V, C, hO⟩ : ∃ H V C, mkO k m kh kw sh sw tp lf bt rt h w c = (H, V, C) := ⟨_, _, _, rfl⟩
  have hM : Hid (∀ W, Calls Try.prog 81 #[.agg #[.int .i64 k, .int .i64 (i : Int), .int .i64 b, .int .i64 m, .int .i64 kh, .int .i64 kw, .int .i64 sh, .int .i64 sw, .int .i64 tp, .int .i64 lf, .int .i64 bt, .int .i64 rt, .slice wa lw cw, .slice ba lb cb, .int .i64 sm, .int .i64 ss, .int .i64 um, .int .i64 us, .int .i64 z, .int .i64 p, .int .i64 lo, .int .i64 hi], .agg #[.int .i64 h, .int .i64 w, .int .i64 c]] W fun e w' => e = .returned (.tuple #[.agg #[.int .i64 H, .int .i64 V, .int .i64 C], .int .i64 x]) ∧ Below W.heap.size W w') := fun W => by
    have := makes_any k i b m kh kw sh sw tp lf bt rt wa lw cw ba lb cb sm ss um us z p lo hi h w c W hk hg
    rw [hO, hx] at this
    exact this
  obtain ⟨c1, f1, zz1, c2, f2, zz2, c3, f3, zz3, c4, f4, zz4, -⟩ := s2.rules
  go_wp2_with ((refine wpList_load_row rfl 39 (.tmp 3) rfl _ rfl 39 _ (0, 0) _ s2.h2 Try.underlying39 rfl (by kernel_rfl) ?_))
  refine (hM.out _).mono ?_
  rintro e w2 ⟨rfl, hb'⟩
  have s3 := s2.call hb'
  clear hb' c1 f1 c2 f2 c3 f3 c4 f4 hM s2
  obtain ⟨c1, f1, zw1, c2, f2, zw2, c3, f3, zw3, c4, f4, zw4, -⟩ := s3.rules
  by_cases hx0 : x = 0
  rotate_left
  · have hE : Hid (E = x) := HEE.out.symm.trans (tk_2 HF hA hx hx0)
    go_wp2
    go_ret
    exact ⟨ret1 hE.out.symm, TkP.no s3.new.tail.tail.tail (by rw [hE.out]; exact hx0)⟩
  subst hx0
  go_upto_region 8 with fail
  have s4 := s3.new (c := #[.int .i64 H, .int .i64 V, .int .i64 C]) (t := 23)
  obtain ⟨nb, hnb⟩ : ∃ nb, decide (k = 6 ∧ ShA L i ≠ ShA L b) = nb := ⟨_, rfl⟩
  clear c1 f1 c2 f2 c3 f3 c4 f4
  go_cut [52] (fun x52 wx => x52 = .bool nb ∧ St W0 wx ((w2.heap.size, #[.int .i64 H, .int .i64 V, .int .i64 C], 23) :: (P, #[.int .i64 h, .int .i64 w, .int .i64 c], 23) :: (W.heap.size, #[.int .i64 k, .int .i64 (i : Int), .int .i64 b, .int .i64 m, .int .i64 kh, .int .i64 kw, .int .i64 sh, .int .i64 sw, .int .i64 tp, .int .i64 lf, .int .i64 bt, .int .i64 rt, .slice wa lw cw, .slice ba lb cb, .int .i64 sm, .int .i64 ss, .int .i64 um, .int .i64 us, .int .i64 z, .int .i64 p, .int .i64 lo, .int .i64 hi], 39) :: (B, #[.slice (some ⟨g, 0, none⟩) n cap, .int .i64 wk], 98) :: (g, cur, 23) :: l))
  case first =>
    by_cases k6 : k = 6
    · subst k6
      obtain ⟨j, rfl⟩ := Int.eq_ofNat_of_zero_le (hb6 rfl).1
      have hj : j < n := by have := (hb6 rfl).2; omega
      obtain ⟨h', v', c', hB'⟩ : ∃ h' v' c', ShA L j = (h', v', c') := ⟨_, _, _, rfl⟩
      have hcur2 : cur[j * 3]? = some (.int .i64 h') ∧ cur[j * 3 + 1]? = some (.int .i64 v') ∧ cur[j * 3 + 2]? = some (.int .i64 c') := by
        have := hC.at (i := j) (by omega)
        unfold ShA at hB'
        rw [Int.toNat_natCast] at hB'
        rw [hB'] at this
        exact this
      obtain ⟨r1, r2, r3⟩ := hcur2
      obtain ⟨eb, heb⟩ : ∃ eb, decide (h = h' ∧ w = v' ∧ c = c') = eb := ⟨_, rfl⟩
      have qn := ne3 23 rfl h w c h' v' c' eb heb
      have hnb' : nb = !eb := by rw [← hnb, ← heb, hA, hB']; simp
      clear hnb heb hA hB'
      subst hnb'
      obtain ⟨q1, y1, q2, y2, q3, y3, q4, y4, q5, y5, -⟩ := rulesQ_st s4
      have hne := Nonempty.intro (Wd.mk _ s4)
      refine region_held s4 (by kernel_rfl) (by kernel_rfl) ?_
      repeat (go_big_quiet_step (fail))
      refine wpQuiet_nil ?_
      intro _ hw'
      obtain ⟨nq, rfl⟩ := hw'
      refine (show ∀ a' w', Met _ a' w' → _ from by assumption) _ _ ?_
      go_meet
      exact ⟨rfl, nq.h⟩
    · have k6' : (k == 6) = false := by simpa using k6
      have hnb' : nb = false := by rw [← hnb]; exact decide_eq_false (fun q => k6 q.1)
      clear hnb
      subst hnb'
      obtain ⟨q1, y1, q2, y2, q3, y3, q4, y4, q5, y5, -⟩ := rulesQ_st s4
      have hne := Nonempty.intro (Wd.mk _ s4)
      refine region_held s4 (by kernel_rfl) (by kernel_rfl) ?_
      repeat (go_big_quiet_step (fail))
      refine wpQuiet_nil ?_
      intro _ hw'
      obtain ⟨nq, rfl⟩ := hw'
      refine (show ∀ a' w', Met _ a' w' → _ from by assumption) _ _ ?_
      go_meet
      exact ⟨rfl, nq.h⟩
  case rest =>
  obtain ⟨rfl, s5⟩ := hcut
  obtain ⟨c1, f1, zv1, c2, f2, zv2, c3, f3, zv3, c4, f4, zv4, c5, f5, zv5, -⟩ := s5.rules
  cases nb with
  | true =>
    have hE : Hid (E = 50) := HEE.out.symm.trans (tk_3 HF hA hx hnb)
    go_wp2
    go_ret
    exact ⟨ret1 hE.out.symm, TkP.no s5.tail.tail.tail (by rw [hE.out]; exact (by decide))⟩
  | false =>
  obtain ⟨wc1, rfl⟩ : ∃ wo, wo = wc := ⟨_, rfl⟩
  obtain ⟨st, hst⟩ : ∃ st, stR k kh kw h w c = st := ⟨_, rfl⟩
  have hS : Hid (∀ W, Calls Try.prog 82 #[.agg #[.int .i64 k, .int .i64 (i : Int), .int .i64 b, .int .i64 m, .int .i64 kh, .int .i64 kw, .int .i64 sh, .int .i64 sw, .int .i64 tp, .int .i64 lf, .int .i64 bt, .int .i64 rt, .slice wa lw cw, .slice ba lb cb, .int .i64 sm, .int .i64 ss, .int .i64 um, .int .i64 us, .int .i64 z, .int .i64 p, .int .i64 lo, .int .i64 hi], .agg #[.int .i64 h, .int .i64 w, .int .i64 c]] W fun e w' => e = .returned (.int .i64 st) ∧ Below W.heap.size W w') := fun W => by rw [← hst]; exact steps_any k i b m kh kw sh sw tp lf bt rt wa lw cw ba lb cb sm ss um us z p lo hi h w c W hk hg (mkE_win hx)
  obtain ⟨st1, st2⟩ : 1 ≤ st ∧ st ≤ 1048576 := by rw [← hst]; exact stR_bd hk hg (mkE_win hx)
  obtain ⟨⟨C1, C2⟩, ⟨e1, e2⟩, e3, e4⟩ : (1 ≤ C ∧ C ≤ 1024) ∧ (1 ≤ H * V ∧ H * V ≤ 1048576) ∧ 1 ≤ H * V * C ∧ H * V * C ≤ 16384 := mkO_bd hx hO
  go_upto_region 10 with fail
  go_wp2_with ((refine wpList_load_row rfl 39 (.tmp 3) rfl _ rfl 39 _ (0, 0) _ s5.h3 Try.underlying39 rfl (by kernel_rfl) ?_))
  refine (hS.out _).mono ?_
  rintro e w3 ⟨rfl, hb'⟩
  have s6 := s5.call hb'
  clear hb' c1 f1 c2 f2 c3 f3 c4 f4 c5 f5 hS s5
  obtain ⟨c1, f1, zu1, c2, f2, zu2, c3, f3, zu3, c4, f4, zu4, c5, f5, zu5, -⟩ := s6.rules
  obtain ⟨rb, hrb⟩ : ∃ rb, decide (rdB k = true ∧ 512 < st) = rb := ⟨_, rfl⟩
  go_upto_region 11 with fail
  go_cut [62] (fun x62 wx => x62 = .bool rb ∧ wx = w3)
  case first =>
    cases hr : rdB k with
    | false =>
      have hrb' : rb = false := by rw [← hrb]; exact decide_eq_false (fun q => by rw [hr] at q; cases q.1)
      subst hrb'
      go_wp2_with fail
      refine (red_any _ _).mono ?_
      rintro e w' ⟨rfl, rfl⟩
      rw [hr]
      go_wp2_with fail
      go_meet
      exact ⟨rfl, rfl⟩
    | true =>
      have hrb' : rb = decide (512 < st) := by rw [← hrb]; simp [hr]
      subst hrb'
      go_wp2_with fail
      refine (red_any _ _).mono ?_
      rintro e w' ⟨rfl, rfl⟩
      rw [hr]
      go_wp2_with fail
      go_meet
      exact ⟨rfl, rfl⟩
  case rest =>
  obtain ⟨rfl, rfl⟩ := hcut
  cases rb with
  | true =>
    have hE : Hid (E = 84) := HEE.out.symm.trans (tk_4 HF hA hx hnb hst hrb)
    go_wp2
    go_ret
    exact ⟨ret1 hE.out.symm, TkP.no s6.tail.tail.tail (by rw [hE.out]; exact (by decide))⟩
  | false =>
  obtain ⟨y, hy⟩ : ∃ y, nuE k C st lw lb sm ss um us z p lo hi = y := ⟨_, rfl⟩
  have hN : Hid (∀ W, Calls Try.prog 83 #[.agg #[.int .i64 k, .int .i64 (i : Int), .int .i64 b, .int .i64 m, .int .i64 kh, .int .i64 kw, .int .i64 sh, .int .i64 sw, .int .i64 tp, .int .i64 lf, .int .i64 bt, .int .i64 rt, .slice wa lw cw, .slice ba lb cb, .int .i64 sm, .int .i64 ss, .int .i64 um, .int .i64 us, .int .i64 z, .int .i64 p, .int .i64 lo, .int .i64 hi], .int .i64 C, .int .i64 st] W fun e w' => e = .returned (.int .i64 y) ∧ Below W.heap.size W w') := fun W => by
    rw [← hy]; exact numbers_any k i b m kh kw sh sw tp lf bt rt wa lw cw ba lb cb sm ss um us z p lo hi C st W hk (by have := mul_bd C1 C2 st1 st2; omega)
  go_upto_region 13 with fail
  go_wp2_with ((refine wpList_load_row rfl 39 (.tmp 3) rfl _ rfl 39 _ (0, 0) _ s6.h3 Try.underlying39 rfl (by kernel_rfl) ?_))
  refine (hN.out _).mono ?_
  rintro e w4 ⟨rfl, hb'⟩
  have s7 := s6.call hb'
  clear hb' c1 f1 c2 f2 c3 f3 c4 f4 c5 f5 hN s6
  obtain ⟨c1, f1, zt1, c2, f2, zt2, c3, f3, zt3, c4, f4, zt4, c5, f5, zt5, -⟩ := s7.rules
  by_cases hy0 : y = 0
  rotate_left
  · have hE : Hid (E = y) := HEE.out.symm.trans (by unfold tkE; rw [opE_n HF hA hx hO hnb hst hrb, hy, if_pos hy0])
    go_wp2
    go_ret
    exact ⟨ret1 hE.out.symm, TkP.no s7.tail.tail.tail (by rw [hE.out]; exact hy0)⟩
  subst hy0
  go_upto_region 16 with fail
  have S8 := (s7.new (c := #[.int .i64 H, .int .i64 V, .int .i64 C]) (t := 23)).drew
  have hlg : ∀ x ∈ (w4.heap.size, #[Value.int .i64 H, .int .i64 V, .int .i64 C], 23) :: (w2.heap.size, #[.int .i64 H, .int .i64 V, .int .i64 C], 23) :: (P, #[.int .i64 h, .int .i64 w, .int .i64 c], 23) :: (W.heap.size, #[.int .i64 k, .int .i64 (i : Int), .int .i64 b, .int .i64 m, .int .i64 kh, .int .i64 kw, .int .i64 sh, .int .i64 sw, .int .i64 tp, .int .i64 lf, .int .i64 bt, .int .i64 rt, .slice wa lw cw, .slice ba lb cb, .int .i64 sm, .int .i64 ss, .int .i64 um, .int .i64 us, .int .i64 z, .int .i64 p, .int .i64 lo, .int .i64 hi], 39) :: (B, #[.slice (some ⟨g, 0, none⟩) n cap, .int .i64 wk], 98) :: l, x.1 ≠ g := by
    intro x hx
    simp only [List.mem_cons] at hx
    rcases hx with rfl | rfl | rfl | rfl | rfl | hx
    · simp only; omega
    · simp only; omega
    · simp only; omega
    · simp only; omega
    · simp only; omega
    · exact (hd x hx).2
  have S9 := S8.up5.app3 hlg (o := n * 3) (x := .int .i64 H) (y := .int .i64 V) (z := .int .i64 C)
  have hSp := fun j (hj : j < [Value.int .i64 H, .int .i64 V, .int .i64 C].length) => spare_of S8.up5.h1 (n := n) (by have := hC.1; omega) j hj
  have hNc := new_cells S8.h1
  have hlb : ∀ x ∈ (g, ((cur.setIfInBounds (n * 3) (.int .i64 H)).setIfInBounds (n * 3 + 1) (.int .i64 V)).setIfInBounds (n * 3 + 2) (.int .i64 C), 23) :: (w4.heap.size, #[Value.int .i64 H, .int .i64 V, .int .i64 C], 23) :: (w2.heap.size, #[.int .i64 H, .int .i64 V, .int .i64 C], 23) :: (P, #[.int .i64 h, .int .i64 w, .int .i64 c], 23) :: (W.heap.size, #[.int .i64 k, .int .i64 (i : Int), .int .i64 b, .int .i64 m, .int .i64 kh, .int .i64 kw, .int .i64 sh, .int .i64 sw, .int .i64 tp, .int .i64 lf, .int .i64 bt, .int .i64 rt, .slice wa lw cw, .slice ba lb cb, .int .i64 sm, .int .i64 ss, .int .i64 um, .int .i64 us, .int .i64 z, .int .i64 p, .int .i64 lo, .int .i64 hi], 39) :: l, x.1 ≠ B := by
    intro x hx
    simp only [List.mem_cons] at hx
    rcases hx with rfl | rfl | rfl | rfl | rfl | hx
    · simp only; omega
    · simp only; omega
    · simp only; omega
    · simp only; omega
    · simp only; omega
    · exact (hd x hx).1
  obtain ⟨i0, hi0, hz0, hz1, hz2⟩ := info_parts (show (Try.prog.info? 23).map (fun i => (i.zero, i.size, i.bytes)) = some (some (.agg #[.int .i64 0, .int .i64 0, .int .i64 0]), 3, 24) by kernel_rfl)
  have S9' : Hid (St W0 _ _) := S9
  have hSp' : Hid (∀ j, j < [Value.int .i64 H, .int .i64 V, .int .i64 C].length → _ ∧ _) := hSp
  have hNc' : Hid (∀ j u, _ → _) := hNc
  clear S9 hSp hNc
  go_cut [] (fun wx => St W0 wx ((B, #[.slice (some ⟨g, 0, none⟩) (n + 1) cap, .int .i64 wk], 98) :: (g, ((cur.setIfInBounds (n * 3) (.int .i64 H)).setIfInBounds (n * 3 + 1) (.int .i64 V)).setIfInBounds (n * 3 + 2) (.int .i64 C), 23) :: (w2.heap.size, #[.int .i64 H, .int .i64 V, .int .i64 C], 23) :: l))
  case first =>
    go_region_law ((refine step_append_room rfl (.tmp 75) (.tmp 77) 72 rfl 23 i0 3 Try.underlying72 hi0 hz1 g 0 n cap rfl ⟨w4.heap.size, 0, none⟩ 1 1 [.int .i64 H, .int .i64 V, .int .i64 C] rfl rfl hNc'.out (by simp [Value.oneCell']) (by omega) hSp'.out ?_; have S10 := S9'.out; generalize World.setCells _ _ _ _ = w5 at S10 ⊢; obtain ⟨-, -, -, -, -, -, cM, -, -, -, -, -, -, -, -, cB, fB, zzB, -⟩ := S10.rules))
    all_goals
      refine (show ∀ a' w', Met _ a' w' → _ from by assumption) _ _ ?_
      go_meet
      exact (S10.up5.set hlb (i := 0)).sub (by intro x hx; simp only [List.mem_cons] at hx ⊢; rcases hx with h | h | h | h <;> simp [h])
  case rest =>
  have s8 := hcut
  clear hcut c1 f1 c2 f2 c3 f3 c4 f4 c5 f5 S8 S9' hSp' hNc' s7
  obtain ⟨wc2, rfl⟩ : ∃ wo, wo = wc := ⟨_, rfl⟩
  obtain ⟨c1, f1, zs1, c2, f2, zs2, c3, f3, zs3, -⟩ := s8.rules
  obtain ⟨hm3, how⟩ := mk_3 hA hx hO hst
  have hE : Hid (E = if 131072 < wk + H * V * C * st then 86 else 0) := by
    unfold Hid; rw [← HEE.out]; unfold tkE; rw [opE_n HF hA hx hO hnb hst hrb, hy, if_neg (by decide), how]
  have hC' : Hid (Cu (((cur.setIfInBounds (n * 3) (.int .i64 H)).setIfInBounds (n * 3 + 1) (.int .i64 V)).setIfInBounds (n * 3 + 2) (.int .i64 C)) cap (L ++ [(H, V, C)])) := by
    have := hC.add (by omega) H V C
    rw [hn] at this
    exact this
  have HM : Hid (M3 = (H, V, C)) := by unfold Hid; rw [← HM3.out, hm3]
  have HK : Hid (K2 = wk + H * V * C * st) := by unfold Hid; rw [← HK2.out, how]
  clear hm3 how hx hO hA hst hnb hrb hy
  obtain ⟨e5, e6⟩ := mul_bd e3 e4 st1 st2
  obtain ⟨p1, hp1⟩ : ∃ p1, H * V = p1 := ⟨_, rfl⟩
  rw [hp1] at e1 e2 e3 e4 e5 e6 hE HK
  obtain ⟨p2, hp2⟩ : ∃ p2, p1 * C = p2 := ⟨_, rfl⟩
  rw [hp2] at e3 e4 e5 e6 hE HK
  obtain ⟨p3, hp3⟩ : ∃ p3, p2 * st = p3 := ⟨_, rfl⟩
  rw [hp3] at e5 e6 hE HK
  go_upto_region 17 with fail
  go_cut [] (fun wx => St W0 wx ((B, #[.slice (some ⟨g, 0, none⟩) (n + 1) cap, .int .i64 (wk + p3)], 98) :: (g, ((cur.setIfInBounds (n * 3) (.int .i64 H)).setIfInBounds (n * 3 + 1) (.int .i64 V)).setIfInBounds (n * 3 + 2) (.int .i64 C), 23) :: (w2.heap.size, #[.int .i64 H, .int .i64 V, .int .i64 C], 23) :: l))
  case first =>
    have hl8 : Hid (∀ x ∈ (g, ((cur.setIfInBounds (n * 3) (.int .i64 H)).setIfInBounds (n * 3 + 1) (.int .i64 V)).setIfInBounds (n * 3 + 2) (.int .i64 C), 23) :: (w2.heap.size, #[Value.int .i64 H, .int .i64 V, .int .i64 C], 23) :: l, x.1 ≠ B) := fun x hx => hlb x (by simp only [List.mem_cons] at hx ⊢; rcases hx with h | h | h <;> simp [h])
    clear hlb hlg c1 f1 c2 f2 c3 f3
    obtain ⟨q1, y1, q2, y2, q3, y3, -⟩ := rulesQ_st s8
    have hne := Nonempty.intro (Wd.mk _ s8)
    have hfn : ∀ f, Fence.wide.fn f := fun _ => trivial
    have hdp : Fence.wide.depth = none := rfl
    refine (wpIn_wide (n := 3)).1 ?_
    refine region_tail_at 17 (C := fun w' => ∃ n : Wd W0 _, w' = n.w) rfl rfl (by kernel_rfl) (by kernel_rfl) ⟨Wd.mk _ s8.drew, rfl⟩ ?_
    simp only [List.take_succ_cons, List.take_zero, List.drop_succ_cons, List.drop_zero]
    repeat (gi_big_quiet_step (fail))
    refine wpQuietIn_nil ?_
    rintro _ ⟨nq, rfl⟩
    obtain ⟨w6, hw6⟩ : ∃ w6, nq.w = w6 := ⟨_, rfl⟩
    have s86 : St W0 w6 _ := hw6 ▸ nq.h
    rw [hw6]
    clear q1 y1 q2 y2 q3 y3 hne hw6 s8
    clear nq
    obtain ⟨c1, f1, zq1, -⟩ := s86.rules
    gi_wp2
    go_meet
    exact s86.set hl8.out (i := 1)
  case rest =>
  have s9 := hcut.drop3
  clear hcut c1 f1 c2 f2 c3 f3 s8
  obtain ⟨c1, f1, zr1, c2, f2, zr2, -⟩ := s9.rules
  by_cases hw86 : 131072 < wk + p3
  · have hE2 : Hid (E = 86) := by unfold Hid; rw [hE.out, if_pos hw86]
    go_wp2
    go_ret
    exact ⟨ret1 hE2.out.symm, TkP.no s9 (by rw [hE2.out]; decide)⟩
  · have hE2 : Hid (E = 0) := by unfold Hid; rw [hE.out, if_neg hw86]
    go_wp2
    go_ret
    exact ⟨ret1 hE2.out.symm, _, _, _, s9, fun _ => ⟨rfl, HK.out.symm, by rw [HM.out]; exact hC'.out⟩⟩
theorem ShA_mem {L : List (Int × Int × Int)} {i : Nat} (h : i < L.length) : ShA L (i : Int) ∈ L := by
  unfold ShA
  rw [Int.toNat_natCast, List.getD_eq_getElem?_getD, List.getElem?_eq_getElem h]
  exact List.getElem_mem h
/-- take, whatever the op. -/
theorem take_any (k a b m kh kw sh sw tp lf bt rt : Int) (wa : Option Addr) (lw cw : Nat) (ba : Option Addr) (lb cb : Nat) (sm ss um us z p lo hi : Int) (W0 W : World) (B g cap n : Nat) (cur : Array Value) (L : List (Int × Int × Int)) (wk : Int) (l : List (Nat × Array Value × TypeId)) (hn : L.length = n)
    (s : St W0 W ((B, #[.slice (some ⟨g, 0, none⟩) n cap, .int .i64 wk], 98) :: (g, cur, 23) :: l)) (hcap : cap ≤ 65) (hwk : 0 ≤ wk ∧ wk ≤ 131072) (hlc : n < cap) (hC : Cu cur cap L) (hv : ∀ s ∈ L, vS3 s = true) (hgB : g ≠ B) (hd : ∀ x ∈ l, x.1 ≠ B ∧ x.1 ≠ g) :
    Calls Try.prog 59 #[.pointer (some ⟨B, 0, none⟩), .agg #[.int .i64 k, .int .i64 a, .int .i64 b, .int .i64 m, .int .i64 kh, .int .i64 kw, .int .i64 sh, .int .i64 sw, .int .i64 tp, .int .i64 lf, .int .i64 bt, .int .i64 rt, .slice wa lw cw, .slice ba lb cb, .int .i64 sm, .int .i64 ss, .int .i64 um, .int .i64 us, .int .i64 z, .int .i64 p, .int .i64 lo, .int .i64 hi]] W fun e w' => e = .returned (.int .i64 (tkE k a b m kh kw sh sw tp lf bt rt lw lb sm ss um us z p lo hi L wk)) ∧ TkP W0 B g cap n L l (tkE k a b m kh kw sh sw tp lf bt rt lw lb sm ss um us z p lo hi L wk) (mk3 k m kh kw sh sw tp lf bt rt (ShA L a)) (wk + opW k m kh kw sh sw tp lf bt rt (ShA L a)) w' := by
  by_cases hf : fmE k a b n (ozB k b m kh kw sh sw tp lf bt rt lw lb sm ss um us z p) = 0
  · obtain ⟨hk, ⟨ha0, han⟩, hb6, -⟩ := fmE_0 hf
    obtain ⟨i, rfl⟩ := Int.eq_ofNat_of_zero_le ha0
    exact take_g k i b m kh kw sh sw tp lf bt rt wa lw cw ba lb cb sm ss um us z p lo hi i W0 W B g cap n cur L wk l rfl hn s hf hcap hwk hlc (by omega) hC hk (hv _ (ShA_mem (by omega))) hb6 hgB hd
  · obtain ⟨x, hx⟩ : ∃ x, fmE k a b n (ozB k b m kh kw sh sw tp lf bt rt lw lb sm ss um us z p) = x := ⟨_, rfl⟩
    subst hn
    rw [hx] at hf
    rw [tk_1 hx hf]
    exact (take_f k a b m kh kw sh sw tp lf bt rt wa lw cw ba lb cb sm ss um us z p lo hi W0 W B g cap cur L wk x l s hx hf hcap (by omega)).mono fun e w' ⟨h1, h2⟩ => ⟨h1, TkP.no h2 hf⟩
end Go.Proofs.Ytdknofbnhjdfjaa
