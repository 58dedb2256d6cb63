/- What Quick of package norm returns. The walk of BoundNests. BoundNests. -/
import Derived.Test.YtcphealigifdiaaGr20
import Derived.Test.YtcphealigifdiaaGr23
import Derived.Test.YtcphealigifdiaaGr24
/- What Quick of package norm returns. -/
namespace Go.Proofs.Ytcphealigifdiaa
open Go.ChangeShapes Go.WideShapes Go.ChangeAt Go.RowKit
set_option linter.unusedVariables false
/-- What Quick answers: the ends and the error. -/
def quR (slo shi bi A R : Int) : Int × Int × Int := if vaB slo shi = true then (bi - A * R, bi + A * R, 0) else (0, 0, 30)
/-- What is known of an op that reduces. -/
theorem op_facts {h w c lo hi ot ch : Int} {oa : Option Addr} {on : Nat} {O : Nat → Nat → Int} {Z B : Nat → List Int} {W : World} (RL : List (Int × Int × Int)) (Rw : Int) (hR : gtR O h w c lo hi ot on = (0, 0, RL, Rw)) (i : Nat) (x : Addr) (wa : Option Addr) (lw cw : Nat) (ba : Option Addr) (lb cb : Nat) (x0 y0 z0 H V C : Int) (hF : Fnd W oa on O Z B RL i x wa lw cw ba lb cb x0 y0 z0 H V C) (hch : 1 ≤ ch ∧ ch ≤ C) :
    (siL (O i 0) (O i 4) (O i 5) (O i 6) (O i 7) (O i 8) (O i 9) (O i 10) (O i 11) x0 y0 z0 ch 0 (Z i)).length ≤ 512 ∧ (∀ t ∈ siL (O i 0) (O i 4) (O i 5) (O i 6) (O i 7) (O i 8) (O i 9) (O i 10) (O i 11) x0 y0 z0 ch 0 (Z i), -32768 ≤ t.1 ∧ t.1 ≤ 32767) ∧ I8 (O i 19) ∧ ((0 ≤ O i 8 ∧ O i 8 ≤ 31) ∧ (0 ≤ O i 9 ∧ O i 9 ≤ 31) ∧ (0 ≤ O i 10 ∧ O i 10 ≤ 31) ∧ (0 ≤ O i 11 ∧ O i 11 ≤ 31)) ∧ (-2147483648 ≤ biA (O i 0) ch (B i) ∧ biA (O i 0) ch (B i) ≤ 2147483647) := by
  have hSit := hF.2.2.2.2.2.2.2.2.2.1
  have hz := hF.2.2.2.2.2.1.2.2.2.1
  have hb := hF.2.2.2.2.2.2.1.2.2.2.1
  obtain ⟨f1, f2⟩ := siL_facts hSit hz hch 0
  obtain ⟨ja, jb, e1, hja, e3, hjb, hO⟩ := opd_of hR hF.1
  have hopd := (hO x0 y0 z0 H V C (by rw [← hF.2.2.2.2.2.2.2.1, e1, Int.toNat_natCast]) hF.2.2.2.2.2.2.2.2.1).1
  refine ⟨f1, fun t ht => (f2 t ht).1, ?_, side_nn hopd hSit.1.2, biA_bd hb⟩
  have := hopd.rz
  unfold rzB vlB at this; simp at this; exact ⟨this.2.1, this.2.2⟩
theorem quR_bd {slo shi bi A R : Int} (hA : 0 ≤ A ∧ A ≤ 33554432) (hR : vaB slo shi = true → 0 ≤ R ∧ R ≤ 128) (hb : -2147483648 ≤ bi ∧ bi ≤ 2147483647) : (-10000000000 ≤ (quR slo shi bi A R).1 ∧ (quR slo shi bi A R).1 ≤ 10000000000) ∧ (-10000000000 ≤ (quR slo shi bi A R).2.1 ∧ (quR slo shi bi A R).2.1 ≤ 10000000000) := by
  unfold quR
  split
  · rename_i g
    have := aw_bd hA (hR g)
    simp only
    omega
  · simp
theorem of_0 (h w c lo hi ot : Int) (oa : Option Addr) (on oc : Nat) (O : Nat → Nat → Int) (Z B : Nat → List Int) (W : World) (hL : LRow W oa on oc O Z B) (ch : Int) (RL : List (Int × Int × Int)) (Rw : Int) (hR : gtR O h w c lo hi ot on = (0, 0, RL, Rw)) (i : Nat) (x : Addr) (wa : Option Addr) (lw cw : Nat) (ba : Option Addr) (lb cb : Nat) (x0 y0 z0 H V C : Int) (hF : Fnd W oa on O Z B RL i x wa lw cw ba lb cb x0 y0 z0 H V C) (hch : 1 ≤ ch ∧ ch ≤ C) : ∀ W', Below W.heap.size W W' → Calls Try.prog 7 #[.agg #[Jv h, Jv w, Jv c, Jv lo, Jv hi, .slice oa on oc, Jv ot], Jv ((i : Int) + 1), Jv ch, Jv 0] W' fun e w' => (∃ v, e = .returned (.tuple #[v, Jv (biA (O i 0) ch (B i)), Jv 0]) ∧ OTm w' W'.heap.size v (siL (O i 0) (O i 4) (O i 5) (O i 6) (O i 7) (O i 8) (O i 9) (O i 10) (O i 11) x0 y0 z0 ch 0 (Z i))) ∧ Below W'.heap.size W' w' := fun W' hb => by
  have hv := (vS_bd hF.2.2.2.2.2.2.2.2.2.1.2.2.1).1
  exact of_ok h w c lo hi ot oa on oc O Z B W' (hL.below hb) ch 0 RL Rw hR i x wa lw cw ba lb cb x0 y0 z0 H V C (hF.below hb) hch ⟨by omega, by omega⟩
theorem nqu_ok (h w c lo hi ot : Int) (oa : Option Addr) (on oc : Nat) (O : Nat → Nat → Int) (Z B : Nat → List Int) (W : World) (hL : LRow W oa on oc O Z B) (ch : Int) (RL : List (Int × Int × Int)) (Rw : Int) (hR : gtR O h w c lo hi ot on = (0, 0, RL, Rw)) (i : Nat) (x : Addr) (wa : Option Addr) (lw cw : Nat) (ba : Option Addr) (lb cb : Nat) (x0 y0 z0 H V C : Int) (hF : Fnd W oa on O Z B RL i x wa lw cw ba lb cb x0 y0 z0 H V C) (hch : 1 ≤ ch ∧ ch ≤ C) (slo shi : Int) : Calls Try.prog 16 #[.agg #[Jv h, Jv w, Jv c, Jv lo, Jv hi, .slice oa on oc, Jv ot], Jv ((i : Int) + 1), Jv ch, .agg #[Jv slo, Jv shi]] W fun e w' => e = .returned (.tuple #[.agg #[Jv (quR slo shi (biA (O i 0) ch (B i)) (upS (siL (O i 0) (O i 4) (O i 5) (O i 6) (O i 7) (O i 8) (O i 9) (O i 10) (O i 11) x0 y0 z0 ch 0 (Z i)) - dnS (siL (O i 0) (O i 4) (O i 5) (O i 6) (O i 7) (O i 8) (O i 9) (O i 10) (O i 11) x0 y0 z0 ch 0 (Z i))) (rcV (O i 8) (O i 9) (O i 10) (O i 11) (O i 19) slo shi)).1, Jv (quR slo shi (biA (O i 0) ch (B i)) (upS (siL (O i 0) (O i 4) (O i 5) (O i 6) (O i 7) (O i 8) (O i 9) (O i 10) (O i 11) x0 y0 z0 ch 0 (Z i)) - dnS (siL (O i 0) (O i 4) (O i 5) (O i 6) (O i 7) (O i 8) (O i 9) (O i 10) (O i 11) x0 y0 z0 ch 0 (Z i))) (rcV (O i 8) (O i 9) (O i 10) (O i 11) (O i 19) slo shi)).2.1], Jv (quR slo shi (biA (O i 0) ch (B i)) (upS (siL (O i 0) (O i 4) (O i 5) (O i 6) (O i 7) (O i 8) (O i 9) (O i 10) (O i 11) x0 y0 z0 ch 0 (Z i)) - dnS (siL (O i 0) (O i 4) (O i 5) (O i 6) (O i 7) (O i 8) (O i 9) (O i 10) (O i 11) x0 y0 z0 ch 0 (Z i))) (rcV (O i 8) (O i 9) (O i 10) (O i 11) (O i 19) slo shi)).2.2]) ∧ Below W.heap.size W w' := by
  obtain ⟨f1, f2, f3, ⟨f4, f5, f6, f7⟩, f8⟩ := op_facts RL Rw hR i x wa lw cw ba lb cb x0 y0 z0 H V C hF hch
  have hO := of_0 h w c lo hi ot oa on oc O Z B W hL ch RL Rw hR i x wa lw cw ba lb cb x0 y0 z0 H V C hF hch
  unfold quR
  cases hs : vaB slo shi with
  | false =>
    rw [if_neg (by decide)]
    exact qu_30 h w c lo hi ot _ ch oa on oc W slo shi _ _ hO hs
  | true =>
    rw [if_pos rfl]
    have hva := vaB_yes hs
    have hsg := sg_all f2 f1
    have hx := hF.2.1
    subst hx
    exact qu_ok h w c lo hi ot ch x on oc i W slo shi _ _ _ _ O wa lw cw ba lb cb hF.1 hL.1 hL.2.1 hF.2.2.2.2.1 hO (fun v W hv => nuns_any v _ W hv f1 f2) (fun W => nrch_any (O i 0) (O i 1) (O i 2) (O i 3) (O i 4) (O i 5) (O i 6) (O i 7) (O i 8) (O i 9) (O i 10) (O i 11) wa lw cw ba lb cb (O i 14) (O i 15) (O i 16) (O i 17) (O i 18) (O i 19) (O i 20) (O i 21) slo shi W f4 f5 f6 f7 f3 hva) hs (by omega) (rcV_bd (by omega) (by omega) f3) f8
end Go.Proofs.Ytcphealigifdiaa

/- The walk of BoundNests. -/
namespace Go.Proofs.Ytcphealigifdiaa
open Go.ChangeShapes Go.WideShapes Go.ChangeAt Go.RowKit
set_option linter.unusedVariables false
theorem bneS (T : TypeId) (hT : T = 28) (a1 a2 b1 b2 : Int) (v : Bool) (h : decide (a1 = b1 ∧ a2 = b2) = v) : ∀ W, (binOp .neq T (.agg #[Jv a1, Jv a2]) (.agg #[Jv b1, Jv b2])).run Try.prog W = .ok (.bool (!v)) W := by
  intro W; subst h hT; simp [go_sem]; split <;> simp_all <;> split <;> simp_all
theorem xh_t {a b c d : Int} (h : xho a b c d = true) (w : World) : Calls Try.prog 17 #[.agg #[Jv a, Jv b], .agg #[Jv c, Jv d]] w fun e w' => e = .returned (.bool true) ∧ Below w.heap.size w w' := by
  have := xholds_any a b c d w
  rwa [h] at this
set_option maxHeartbeats 4000000 in
set_option maxRecDepth 100000 in
theorem nests_e (h w c lo hi : Int) (oa : Option Addr) (on oc : Nat) (ot op ch slo shi dp at' : Int) (ad : Option Addr) (n cap : Nat) (W : World) (ylo yhi E : Int) (hE : E ≠ 0) (HT : Hid (∀ W', Below W.heap.size W W' → Calls Try.prog 8 #[.agg #[Jv h, Jv w, Jv c, Jv lo, Jv hi, .slice oa on oc, Jv ot], Jv op, Jv ch, .agg #[Jv slo, Jv shi]] W' fun e w' => e = .returned (.tuple #[.agg #[Jv 0, Jv 0], Jv E]) ∧ Below W'.heap.size W' w')) :
    Calls Try.prog 5 #[.agg #[Jv h, Jv w, Jv c, Jv lo, Jv hi, .slice oa on oc, Jv ot, Jv op, Jv ch, Jv slo, Jv shi, Jv dp, Jv at', .slice ad n cap], .agg #[Jv ylo, Jv yhi]] W fun e w' => e = .returned (.bool true) ∧ Below W.heap.size W w' := by
  have s0 := ((St.start W).new (c := #[Jv h, Jv w, Jv c, Jv lo, Jv hi, .slice oa on oc, Jv ot, Jv op, Jv ch, Jv slo, Jv shi, Jv dp, Jv at', .slice ad n cap]) (t := 31)).new (c := #[Jv ylo, Jv yhi]) (t := 28)
  simp only [World.size_alloc] at s0
  have hE' : (E == 0) = false := by simp [hE]
  have q1 := beqS 28 rfl 0 0 0 0 true (by decide)
  go_enter Try.func5, Try.ntmps5
  go_wp2_with fail
  refine (fixed13_any _).mono ?_
  rintro e w1 ⟨rfl, hb⟩
  have s1 := s0.call hb
  clear hb s0
  obtain ⟨c1, f1, z1, c2, f2, z2, -⟩ := s1.rules
  go_wp2_with fail
  refine Calls.mono (HT.out _ s1.below) ?_
  rintro e w2 ⟨rfl, hb⟩
  have s2 := (s1.call hb).new (c := #[Jv 0, Jv 0]) (t := 28)
  clear hb s1 HT c1 f1 z1 c2 f2 z2
  obtain ⟨c1, f1, z1, -⟩ := s2.rules
  go_wp2
  go_ret
  exact ⟨rfl, s2.below⟩
set_option maxHeartbeats 16000000 in
set_option maxRecDepth 100000 in
theorem nests_w (h w c lo hi : Int) (oa : Option Addr) (on oc : Nat) (ot op ch slo shi dp at' : Int) (ad : Option Addr) (n cap : Nat) (W : World) (ylo yhi T1 T2 R1 R2 Q1 Q2 V1 V2 Z1 Z2 EZ U1 U2 EU S1 S2 ES O1 O2 EO Y1 Y2 EY : Int) (HT : Hid (∀ W', Below W.heap.size W W' → Calls Try.prog 8 #[.agg #[Jv h, Jv w, Jv c, Jv lo, Jv hi, .slice oa on oc, Jv ot], Jv op, Jv ch, .agg #[Jv slo, Jv shi]] W' fun e w' => e = .returned (.tuple #[.agg #[Jv T1, Jv T2], Jv 0]) ∧ Below W'.heap.size W' w')) (HR : Hid (∀ W', Below W.heap.size W W' → Calls Try.prog 9 #[.agg #[Jv h, Jv w, Jv c, Jv lo, Jv hi, .slice oa on oc, Jv ot], Jv op, Jv ch, .agg #[Jv slo, Jv shi]] W' fun e w' => e = .returned (.tuple #[.agg #[Jv R1, Jv R2], Jv 0]) ∧ Below W'.heap.size W' w')) (HP : Hid (∀ W', Below W.heap.size W W' → Calls Try.prog 10 #[.agg #[Jv h, Jv w, Jv c, Jv lo, Jv hi, .slice oa on oc, Jv ot], Jv op, Jv ch, .agg #[Jv slo, Jv shi], Jv 1] W' fun e w' => e = .returned (.tuple #[.agg #[Jv Q1, Jv Q2], Jv 0]) ∧ Below W'.heap.size W' w')) (HQ : Hid (∀ W', Below W.heap.size W W' → Calls Try.prog 11 #[.agg #[Jv h, Jv w, Jv c, Jv lo, Jv hi, .slice oa on oc, Jv ot], Jv op, Jv ch, .agg #[Jv slo, Jv shi]] W' fun e w' => e = .returned (.tuple #[.agg #[Jv Q1, Jv Q2], Jv 0]) ∧ Below W'.heap.size W' w')) (HW : Hid (∀ W', Below W.heap.size W W' → Calls Try.prog 16 #[.agg #[Jv h, Jv w, Jv c, Jv lo, Jv hi, .slice oa on oc, Jv ot], Jv op, Jv ch, .agg #[Jv slo, Jv shi]] W' fun e w' => e = .returned (.tuple #[.agg #[Jv V1, Jv V2], Jv 0]) ∧ Below W'.heap.size W' w')) (HZ : Hid (∀ W', Below W.heap.size W W' → Calls Try.prog 10 #[.agg #[Jv h, Jv w, Jv c, Jv lo, Jv hi, .slice oa on oc, Jv ot], Jv op, Jv ch, .agg #[Jv slo, Jv shi], Jv dp] W' fun e w' => e = .returned (.tuple #[.agg #[Jv Z1, Jv Z2], Jv EZ]) ∧ Below W'.heap.size W' w')) (HU : Hid (∀ W', Below W.heap.size W W' → Calls Try.prog 8 #[.agg #[Jv h, Jv w, Jv c, Jv lo, Jv hi, .slice oa on oc, Jv ot], Jv op, Jv ch, .agg #[Jv ylo, Jv yhi]] W' fun e w' => e = .returned (.tuple #[.agg #[Jv U1, Jv U2], Jv EU]) ∧ Below W'.heap.size W' w')) (HS : Hid (∀ W', Below W.heap.size W W' → Calls Try.prog 9 #[.agg #[Jv h, Jv w, Jv c, Jv lo, Jv hi, .slice oa on oc, Jv ot], Jv op, Jv ch, .agg #[Jv ylo, Jv yhi]] W' fun e w' => e = .returned (.tuple #[.agg #[Jv S1, Jv S2], Jv ES]) ∧ Below W'.heap.size W' w')) (HO : Hid (∀ W', Below W.heap.size W W' → Calls Try.prog 11 #[.agg #[Jv h, Jv w, Jv c, Jv lo, Jv hi, .slice oa on oc, Jv ot], Jv op, Jv ch, .agg #[Jv ylo, Jv yhi]] W' fun e w' => e = .returned (.tuple #[.agg #[Jv O1, Jv O2], Jv EO]) ∧ Below W'.heap.size W' w')) (HY : Hid (∀ W', Below W.heap.size W W' → Calls Try.prog 10 #[.agg #[Jv h, Jv w, Jv c, Jv lo, Jv hi, .slice oa on oc, Jv ot], Jv op, Jv ch, .agg #[Jv ylo, Jv yhi], Jv dp] W' fun e w' => e = .returned (.tuple #[.agg #[Jv Y1, Jv Y2], Jv EY]) ∧ Below W'.heap.size W' w'))
    (h1 : xho R1 R2 T1 T2 = true) (h2 : xho V1 V2 R1 R2 = true) (h3 : EZ = 0 → xho Z1 Z2 Q1 Q2 = true) (h4 : EU = 0 → xho ylo yhi slo shi = true → xho U1 U2 T1 T2 = true ∧ xho S1 S2 R1 R2 = true ∧ xho O1 O2 Q1 Q2 = true ∧ xho Y1 Y2 Z1 Z2 = true) :
    Calls Try.prog 5 #[.agg #[Jv h, Jv w, Jv c, Jv lo, Jv hi, .slice oa on oc, Jv ot, Jv op, Jv ch, Jv slo, Jv shi, Jv dp, Jv at', .slice ad n cap], .agg #[Jv ylo, Jv yhi]] W fun e w' => e = .returned (.bool true) ∧ Below W.heap.size W w' := by
  have s0 := ((St.start W).new (c := #[Jv h, Jv w, Jv c, Jv lo, Jv hi, .slice oa on oc, Jv ot, Jv op, Jv ch, Jv slo, Jv shi, Jv dp, Jv at', .slice ad n cap]) (t := 31)).new (c := #[Jv ylo, Jv yhi]) (t := 28)
  simp only [World.size_alloc] at s0
  have H1 : Hid (∀ w, _) := xh_t h1
  have H2 : Hid (∀ w, _) := xh_t h2
  have H3 : Hid (EZ = 0 → ∀ w, _) := fun q => xh_t (h3 q)
  have H4 : Hid (EU = 0 → xho ylo yhi slo shi = true → _) := h4
  have qn := bneS 28 rfl Q1 Q2 Q1 Q2 true (by simp)
  clear h1 h2 h3 h4
  go_enter Try.func5, Try.ntmps5
  go_wp2_with fail
  refine (fixed13_any _).mono ?_
  rintro e w1 ⟨rfl, hb⟩
  have s1 := s0.call hb
  clear hb s0
  obtain ⟨c1, f1, z1, c2, f2, z2, -⟩ := s1.rules
  go_wp2_with fail
  refine Calls.mono (HT.out _ s1.below) ?_
  rintro e w2 ⟨rfl, hb⟩
  have s2 := (s1.call hb).new (c := #[Jv T1, Jv T2]) (t := 28)
  clear hb s1 HT c1 f1 z1 c2 f2 z2
  obtain ⟨c1, f1, z1, c2, f2, z2, c3, f3, z3, -⟩ := s2.rules
  go_wp2_with fail
  refine Calls.mono (HR.out _ s2.below) ?_
  rintro e w3 ⟨rfl, hb⟩
  have s3 := (s2.call hb).new (c := #[Jv R1, Jv R2]) (t := 28)
  clear hb s2 HR c1 f1 z1 c2 f2 z2 c3 f3 z3
  obtain ⟨c1, f1, z1, c2, f2, z2, c3, f3, z3, c4, f4, z4, -⟩ := s3.rules
  go_wp2_with fail
  refine Calls.mono (HP.out _ s3.below) ?_
  rintro e w4 ⟨rfl, hb⟩
  have s4 := (s3.call hb).new (c := #[Jv Q1, Jv Q2]) (t := 28)
  clear hb s3 HP c1 f1 z1 c2 f2 z2 c3 f3 z3 c4 f4 z4
  obtain ⟨c1, f1, z1, c2, f2, z2, c3, f3, z3, c4, f4, z4, c5, f5, z5, -⟩ := s4.rules
  go_wp2_with fail
  refine Calls.mono (HQ.out _ s4.below) ?_
  rintro e w5 ⟨rfl, hb⟩
  have s5 := (s4.call hb).new (c := #[Jv Q1, Jv Q2]) (t := 28)
  clear hb s4 HQ c1 f1 z1 c2 f2 z2 c3 f3 z3 c4 f4 z4 c5 f5 z5
  obtain ⟨c1, f1, z1, c2, f2, z2, c3, f3, z3, c4, f4, z4, c5, f5, z5, c6, f6, z6, -⟩ := s5.rules
  go_wp2_with fail
  refine Calls.mono (HW.out _ s5.below) ?_
  rintro e w6 ⟨rfl, hb⟩
  have s6 := (s5.call hb).new (c := #[Jv V1, Jv V2]) (t := 28)
  clear hb s5 HW c1 f1 z1 c2 f2 z2 c3 f3 z3 c4 f4 z4 c5 f5 z5 c6 f6 z6
  obtain ⟨c1, f1, z1, c2, f2, z2, c3, f3, z3, c4, f4, z4, c5, f5, z5, c6, f6, z6, c7, f7, z7, -⟩ := s6.rules
  go_wp2_with fail
  refine Calls.mono (H1.out _) ?_
  rintro e w7 ⟨rfl, hb⟩
  have s7 := s6.call hb
  clear hb s6 c1 f1 z1 c2 f2 z2 c3 f3 z3 c4 f4 z4 c5 f5 z5 c6 f6 z6 c7 f7 z7
  obtain ⟨c1, f1, z1, c2, f2, z2, c3, f3, z3, c4, f4, z4, c5, f5, z5, c6, f6, z6, c7, f7, z7, -⟩ := s7.rules
  go_wp2_with fail
  refine Calls.mono (H2.out _) ?_
  rintro e w8 ⟨rfl, hb⟩
  have s8 := s7.call hb
  clear hb s7 c1 f1 z1 c2 f2 z2 c3 f3 z3 c4 f4 z4 c5 f5 z5 c6 f6 z6 c7 f7 z7
  obtain ⟨c1, f1, z1, c2, f2, z2, c3, f3, z3, c4, f4, z4, c5, f5, z5, c6, f6, z6, c7, f7, z7, -⟩ := s8.rules
  go_wp2_with fail
  refine Calls.mono (HZ.out _ s8.below) ?_
  rintro e w9 ⟨rfl, hb⟩
  have s9 := (s8.call hb).new (c := #[Jv Z1, Jv Z2]) (t := 28)
  clear hb s8 HZ c1 f1 z1 c2 f2 z2 c3 f3 z3 c4 f4 z4 c5 f5 z5 c6 f6 z6 c7 f7 z7
  obtain ⟨c1, f1, z1, c2, f2, z2, c3, f3, z3, c4, f4, z4, c5, f5, z5, c6, f6, z6, c7, f7, z7, c8, f8, z8, -⟩ := s9.rules
  clear H1 H2
  by_cases hz : EZ = 0
  · have HZ0 : Hid (∀ w, _) := H3.out hz
    subst hz
    clear H3
    go_wp2_with fail
    refine Calls.mono (HZ0.out _) ?_
    rintro e w10 ⟨rfl, hb⟩
    have s10 := s9.call hb
    clear hb s9 c1 f1 z1 c2 f2 z2 c3 f3 z3 c4 f4 z4 c5 f5 z5 c6 f6 z6 c7 f7 z7 c8 f8 z8
    obtain ⟨c1, f1, z1, c2, f2, z2, c3, f3, z3, c4, f4, z4, c5, f5, z5, c6, f6, z6, c7, f7, z7, c8, f8, z8, -⟩ := s10.rules
    go_wp2_with fail
    refine Calls.mono (HU.out _ s10.below) ?_
    rintro e w11 ⟨rfl, hb⟩
    have s11 := (s10.call hb).new (c := #[Jv U1, Jv U2]) (t := 28)
    clear hb s10 HU c1 f1 z1 c2 f2 z2 c3 f3 z3 c4 f4 z4 c5 f5 z5 c6 f6 z6 c7 f7 z7 c8 f8 z8
    obtain ⟨c1, f1, z1, c2, f2, z2, c3, f3, z3, c4, f4, z4, c5, f5, z5, c6, f6, z6, c7, f7, z7, c8, f8, z8, c9, f9, z9, -⟩ := s11.rules
    by_cases hu : EU = 0
    rotate_left
    · have hu' : (EU == 0) = false := by simp [hu]
      clear HS HO HY H4
      go_wp2
      go_ret
      exact ⟨rfl, s11.below⟩
    have HX : Hid (∀ w, _) := xholds_any ylo yhi slo shi
    cases hx : xho ylo yhi slo shi with
    | false =>
      rw [hx] at HX
      subst hu
      clear HS HO HY H4 hx
      go_wp2_with fail
      refine Calls.mono (HX.out _) ?_
      rintro e w12 ⟨rfl, hb⟩
      have s12 := s11.call hb
      clear hb s11 c1 f1 z1 c2 f2 z2 c3 f3 z3 c4 f4 z4 c5 f5 z5 c6 f6 z6 c7 f7 z7 c8 f8 z8 c9 f9 z9
      go_wp2
      go_ret
      exact ⟨rfl, s12.below⟩
    | true =>
      rw [hx] at HX
      obtain ⟨k1, k2, k3, k4⟩ := H4.out hu hx
      have K1 : Hid (∀ w, _) := xh_t k1
      have K2 : Hid (∀ w, _) := xh_t k2
      have K3 : Hid (∀ w, _) := xh_t k3
      have K4 : Hid (∀ w, _) := xh_t k4
      subst hu
      clear H4 hx k1 k2 k3 k4
      go_wp2_with fail
      refine Calls.mono (HX.out _) ?_
      rintro e w12 ⟨rfl, hb⟩
      have s12 := s11.call hb
      clear hb s11 c1 f1 z1 c2 f2 z2 c3 f3 z3 c4 f4 z4 c5 f5 z5 c6 f6 z6 c7 f7 z7 c8 f8 z8 c9 f9 z9
      obtain ⟨c1, f1, z1, c2, f2, z2, c3, f3, z3, c4, f4, z4, c5, f5, z5, c6, f6, z6, c7, f7, z7, c8, f8, z8, c9, f9, z9, -⟩ := s12.rules
      go_wp2_with fail
      refine Calls.mono (HS.out _ s12.below) ?_
      rintro e w13 ⟨rfl, hb⟩
      have s13 := (s12.call hb).new (c := #[Jv S1, Jv S2]) (t := 28)
      clear hb s12 HS c1 f1 z1 c2 f2 z2 c3 f3 z3 c4 f4 z4 c5 f5 z5 c6 f6 z6 c7 f7 z7 c8 f8 z8 c9 f9 z9
      obtain ⟨c1, f1, z1, c2, f2, z2, c3, f3, z3, c4, f4, z4, c5, f5, z5, c6, f6, z6, c7, f7, z7, c8, f8, z8, c9, f9, z9, c10, f10, z10, -⟩ := s13.rules
      go_wp2_with fail
      refine Calls.mono (HO.out _ s13.below) ?_
      rintro e w14 ⟨rfl, hb⟩
      have s14 := (s13.call hb).new (c := #[Jv O1, Jv O2]) (t := 28)
      clear hb s13 HO c1 f1 z1 c2 f2 z2 c3 f3 z3 c4 f4 z4 c5 f5 z5 c6 f6 z6 c7 f7 z7 c8 f8 z8 c9 f9 z9 c10 f10 z10
      obtain ⟨c1, f1, z1, c2, f2, z2, c3, f3, z3, c4, f4, z4, c5, f5, z5, c6, f6, z6, c7, f7, z7, c8, f8, z8, c9, f9, z9, c10, f10, z10, c11, f11, z11, -⟩ := s14.rules
      go_wp2_with fail
      refine Calls.mono (HY.out _ s14.below) ?_
      rintro e w15 ⟨rfl, hb⟩
      have s15 := (s14.call hb).new (c := #[Jv Y1, Jv Y2]) (t := 28)
      clear hb s14 HY c1 f1 z1 c2 f2 z2 c3 f3 z3 c4 f4 z4 c5 f5 z5 c6 f6 z6 c7 f7 z7 c8 f8 z8 c9 f9 z9 c10 f10 z10 c11 f11 z11
      obtain ⟨c1, f1, z1, c2, f2, z2, c3, f3, z3, c4, f4, z4, c5, f5, z5, c6, f6, z6, c7, f7, z7, c8, f8, z8, c9, f9, z9, c10, f10, z10, c11, f11, z11, c12, f12, z12, -⟩ := s15.rules
      go_wp2_with fail
      refine Calls.mono (K1.out _) ?_
      rintro e w16 ⟨rfl, hb⟩
      have s16 := s15.call hb
      clear hb s15 c1 f1 z1 c2 f2 z2 c3 f3 z3 c4 f4 z4 c5 f5 z5 c6 f6 z6 c7 f7 z7 c8 f8 z8 c9 f9 z9 c10 f10 z10 c11 f11 z11 c12 f12 z12
      obtain ⟨c1, f1, z1, c2, f2, z2, c3, f3, z3, c4, f4, z4, c5, f5, z5, c6, f6, z6, c7, f7, z7, c8, f8, z8, c9, f9, z9, c10, f10, z10, c11, f11, z11, c12, f12, z12, -⟩ := s16.rules
      go_wp2_with fail
      refine Calls.mono (K2.out _) ?_
      rintro e w17 ⟨rfl, hb⟩
      have s17 := s16.call hb
      clear hb s16 c1 f1 z1 c2 f2 z2 c3 f3 z3 c4 f4 z4 c5 f5 z5 c6 f6 z6 c7 f7 z7 c8 f8 z8 c9 f9 z9 c10 f10 z10 c11 f11 z11 c12 f12 z12
      obtain ⟨c1, f1, z1, c2, f2, z2, c3, f3, z3, c4, f4, z4, c5, f5, z5, c6, f6, z6, c7, f7, z7, c8, f8, z8, c9, f9, z9, c10, f10, z10, c11, f11, z11, c12, f12, z12, -⟩ := s17.rules
      go_wp2_with fail
      refine Calls.mono (K3.out _) ?_
      rintro e w18 ⟨rfl, hb⟩
      have s18 := s17.call hb
      clear hb s17 c1 f1 z1 c2 f2 z2 c3 f3 z3 c4 f4 z4 c5 f5 z5 c6 f6 z6 c7 f7 z7 c8 f8 z8 c9 f9 z9 c10 f10 z10 c11 f11 z11 c12 f12 z12
      obtain ⟨c1, f1, z1, c2, f2, z2, c3, f3, z3, c4, f4, z4, c5, f5, z5, c6, f6, z6, c7, f7, z7, c8, f8, z8, c9, f9, z9, c10, f10, z10, c11, f11, z11, c12, f12, z12, -⟩ := s18.rules
      go_wp2_with fail
      refine Calls.mono (K4.out _) ?_
      rintro e w19 ⟨rfl, hb⟩
      have s19 := s18.call hb
      clear hb s18 c1 f1 z1 c2 f2 z2 c3 f3 z3 c4 f4 z4 c5 f5 z5 c6 f6 z6 c7 f7 z7 c8 f8 z8 c9 f9 z9 c10 f10 z10 c11 f11 z11 c12 f12 z12
      go_wp2
      go_ret
      exact ⟨rfl, s19.below⟩
  · have hz' : (EZ == 0) = false := by simp [hz]
    clear H3
    go_wp2_with fail
    refine Calls.mono (HU.out _ s9.below) ?_
    rintro e w10 ⟨rfl, hb⟩
    have s10 := (s9.call hb).new (c := #[Jv U1, Jv U2]) (t := 28)
    clear hb s9 HU c1 f1 z1 c2 f2 z2 c3 f3 z3 c4 f4 z4 c5 f5 z5 c6 f6 z6 c7 f7 z7 c8 f8 z8
    obtain ⟨c1, f1, z1, c2, f2, z2, c3, f3, z3, c4, f4, z4, c5, f5, z5, c6, f6, z6, c7, f7, z7, c8, f8, z8, c9, f9, z9, -⟩ := s10.rules
    by_cases hu : EU = 0
    rotate_left
    · have hu' : (EU == 0) = false := by simp [hu]
      clear HS HO HY H4
      go_wp2
      go_ret
      exact ⟨rfl, s10.below⟩
    have HX : Hid (∀ w, _) := xholds_any ylo yhi slo shi
    cases hx : xho ylo yhi slo shi with
    | false =>
      rw [hx] at HX
      subst hu
      clear HS HO HY H4 hx
      go_wp2_with fail
      refine Calls.mono (HX.out _) ?_
      rintro e w11 ⟨rfl, hb⟩
      have s11 := s10.call hb
      clear hb s10 c1 f1 z1 c2 f2 z2 c3 f3 z3 c4 f4 z4 c5 f5 z5 c6 f6 z6 c7 f7 z7 c8 f8 z8 c9 f9 z9
      go_wp2
      go_ret
      exact ⟨rfl, s11.below⟩
    | true =>
      rw [hx] at HX
      obtain ⟨k1, k2, k3, k4⟩ := H4.out hu hx
      have K1 : Hid (∀ w, _) := xh_t k1
      have K2 : Hid (∀ w, _) := xh_t k2
      have K3 : Hid (∀ w, _) := xh_t k3
      have K4 : Hid (∀ w, _) := xh_t k4
      subst hu
      clear H4 hx k1 k2 k3 k4
      go_wp2_with fail
      refine Calls.mono (HX.out _) ?_
      rintro e w11 ⟨rfl, hb⟩
      have s11 := s10.call hb
      clear hb s10 c1 f1 z1 c2 f2 z2 c3 f3 z3 c4 f4 z4 c5 f5 z5 c6 f6 z6 c7 f7 z7 c8 f8 z8 c9 f9 z9
      obtain ⟨c1, f1, z1, c2, f2, z2, c3, f3, z3, c4, f4, z4, c5, f5, z5, c6, f6, z6, c7, f7, z7, c8, f8, z8, c9, f9, z9, -⟩ := s11.rules
      go_wp2_with fail
      refine Calls.mono (HS.out _ s11.below) ?_
      rintro e w12 ⟨rfl, hb⟩
      have s12 := (s11.call hb).new (c := #[Jv S1, Jv S2]) (t := 28)
      clear hb s11 HS c1 f1 z1 c2 f2 z2 c3 f3 z3 c4 f4 z4 c5 f5 z5 c6 f6 z6 c7 f7 z7 c8 f8 z8 c9 f9 z9
      obtain ⟨c1, f1, z1, c2, f2, z2, c3, f3, z3, c4, f4, z4, c5, f5, z5, c6, f6, z6, c7, f7, z7, c8, f8, z8, c9, f9, z9, c10, f10, z10, -⟩ := s12.rules
      go_wp2_with fail
      refine Calls.mono (HO.out _ s12.below) ?_
      rintro e w13 ⟨rfl, hb⟩
      have s13 := (s12.call hb).new (c := #[Jv O1, Jv O2]) (t := 28)
      clear hb s12 HO c1 f1 z1 c2 f2 z2 c3 f3 z3 c4 f4 z4 c5 f5 z5 c6 f6 z6 c7 f7 z7 c8 f8 z8 c9 f9 z9 c10 f10 z10
      obtain ⟨c1, f1, z1, c2, f2, z2, c3, f3, z3, c4, f4, z4, c5, f5, z5, c6, f6, z6, c7, f7, z7, c8, f8, z8, c9, f9, z9, c10, f10, z10, c11, f11, z11, -⟩ := s13.rules
      go_wp2_with fail
      refine Calls.mono (HY.out _ s13.below) ?_
      rintro e w14 ⟨rfl, hb⟩
      have s14 := (s13.call hb).new (c := #[Jv Y1, Jv Y2]) (t := 28)
      clear hb s13 HY c1 f1 z1 c2 f2 z2 c3 f3 z3 c4 f4 z4 c5 f5 z5 c6 f6 z6 c7 f7 z7 c8 f8 z8 c9 f9 z9 c10 f10 z10 c11 f11 z11
      obtain ⟨c1, f1, z1, c2, f2, z2, c3, f3, z3, c4, f4, z4, c5, f5, z5, c6, f6, z6, c7, f7, z7, c8, f8, z8, c9, f9, z9, c10, f10, z10, c11, f11, z11, c12, f12, z12, -⟩ := s14.rules
      go_wp2_with fail
      refine Calls.mono (K1.out _) ?_
      rintro e w15 ⟨rfl, hb⟩
      have s15 := s14.call hb
      clear hb s14 c1 f1 z1 c2 f2 z2 c3 f3 z3 c4 f4 z4 c5 f5 z5 c6 f6 z6 c7 f7 z7 c8 f8 z8 c9 f9 z9 c10 f10 z10 c11 f11 z11 c12 f12 z12
      obtain ⟨c1, f1, z1, c2, f2, z2, c3, f3, z3, c4, f4, z4, c5, f5, z5, c6, f6, z6, c7, f7, z7, c8, f8, z8, c9, f9, z9, c10, f10, z10, c11, f11, z11, c12, f12, z12, -⟩ := s15.rules
      go_wp2_with fail
      refine Calls.mono (K2.out _) ?_
      rintro e w16 ⟨rfl, hb⟩
      have s16 := s15.call hb
      clear hb s15 c1 f1 z1 c2 f2 z2 c3 f3 z3 c4 f4 z4 c5 f5 z5 c6 f6 z6 c7 f7 z7 c8 f8 z8 c9 f9 z9 c10 f10 z10 c11 f11 z11 c12 f12 z12
      obtain ⟨c1, f1, z1, c2, f2, z2, c3, f3, z3, c4, f4, z4, c5, f5, z5, c6, f6, z6, c7, f7, z7, c8, f8, z8, c9, f9, z9, c10, f10, z10, c11, f11, z11, c12, f12, z12, -⟩ := s16.rules
      go_wp2_with fail
      refine Calls.mono (K3.out _) ?_
      rintro e w17 ⟨rfl, hb⟩
      have s17 := s16.call hb
      clear hb s16 c1 f1 z1 c2 f2 z2 c3 f3 z3 c4 f4 z4 c5 f5 z5 c6 f6 z6 c7 f7 z7 c8 f8 z8 c9 f9 z9 c10 f10 z10 c11 f11 z11 c12 f12 z12
      obtain ⟨c1, f1, z1, c2, f2, z2, c3, f3, z3, c4, f4, z4, c5, f5, z5, c6, f6, z6, c7, f7, z7, c8, f8, z8, c9, f9, z9, c10, f10, z10, c11, f11, z11, c12, f12, z12, -⟩ := s17.rules
      go_wp2_with fail
      refine Calls.mono (K4.out _) ?_
      rintro e w18 ⟨rfl, hb⟩
      have s18 := s17.call hb
      clear hb s17 c1 f1 z1 c2 f2 z2 c3 f3 z3 c4 f4 z4 c5 f5 z5 c6 f6 z6 c7 f7 z7 c8 f8 z8 c9 f9 z9 c10 f10 z10 c11 f11 z11 c12 f12 z12
      go_wp2
      go_ret
      exact ⟨rfl, s18.below⟩
end Go.Proofs.Ytcphealigifdiaa

/- BoundNests. -/
namespace Go.Proofs.Ytcphealigifdiaa
open Go.ChangeShapes Go.WideShapes Go.ChangeAt Go.RowKit
set_option linter.unusedVariables false
theorem sit_N {k kh kw sh sw tp lf bt rt h w c H V C : Int} {lw lb : Nat} (s : Sit k kh kw sh sw tp lf bt rt h w c H V C lw lb) : 0 < (H * V).toNat := by have := (vS_bd s.2.2.1).1; omega
theorem spR_t {slo shi : Int} (h : vbB slo shi = true) (r : Int × Int) : spR slo shi r = (r.1, r.2, 0) := if_pos h
theorem spR_f {slo shi : Int} (h : vbB slo shi = false) (r : Int × Int) : spR slo shi r = (0, 0, 30) := if_neg (by rw [h]; decide)
/-- What is known of the four hulls: each is a span of numbers that are small. -/
theorem hb_vd {k kh kw sh sw tp lf bt rt h w c H V C p : Int} {lw lb : Nat} (s : Sit k kh kw sh sw tp lf bt rt h w c H V C lw lb) {zs : List Int} (hz : ∀ v ∈ zs, (Lit.int .i16 v).wf = true) {ch : Int} (hch : 1 ≤ ch ∧ ch ≤ C) {slo shi bi : Int} (hs : -128 ≤ slo ∧ slo ≤ shi ∧ shi ≤ 127) (hp : -128 ≤ p ∧ p ≤ 127) (hbi : -2147483648 ≤ bi ∧ bi ≤ 2147483647) : (Vd 10000000000 (hbT bi (fun (j : Nat) => enL slo shi p (siL k kh kw sh sw tp lf bt rt h w c ch (j : Int) zs)) (H * V).toNat) ∧ Vd 10000000000 (hbR bi (fun (j : Nat) => enL slo shi p (siL k kh kw sh sw tp lf bt rt h w c ch (j : Int) zs)) (H * V).toNat)) ∧ (Vd 10000000000 (hbP (fun (j : Nat) => enL slo shi p (siL k kh kw sh sw tp lf bt rt h w c ch (j : Int) zs)) (H * V).toNat) ∧ ∀ d : Nat, 0 < d → d ≤ 512 → Vd 10000000000 (hbD d (fun (j : Nat) => enL slo shi p (siL k kh kw sh sw tp lf bt rt h w c ch (j : Int) zs)) (H * V).toNat)) := by
  have hf : ∀ j : Nat, _ := fun j => row_facts s hz hch hs hp (j : Int)
  have hN := sit_N s
  have g : ∀ F : List (Int × Int) → List (Int × Int), (∀ E, Rb E → 0 < E.length → E.length ≤ 512 → 0 < (F E).length ∧ (F E).length ≤ 1000000 ∧ ∀ x ∈ F E, Vd 10000000000 x) → Vd 10000000000 (huA (piT F (fun (j : Nat) => enL slo shi p (siL k kh kw sh sw tp lf bt rt h w c ch (j : Int) zs)) (H * V).toNat)) := fun F hF => by
    refine hul_ok (piT_ne hN (hF _ (hf 0).1 (hf 0).2.1 (hf 0).2.2).1) fun x hx => ?_
    obtain ⟨j, hj, hx'⟩ := mem_piT.1 hx
    exact (hF _ (hf j).1 (hf j).2.1 (hf j).2.2).2.2 x hx'
  exact ⟨⟨g _ fun E h1 h2 h3 => ftot hbi h1 h3, g _ fun E h1 h2 h3 => frun hbi h1 h3⟩, g _ fun E h1 h2 h3 => fprd h1 h2 h3, fun d d1 d2 => g _ fun E h1 h2 h3 => fprt d1 d2 h1 h2 h3⟩
theorem hb_ne {k kh kw sh sw tp lf bt rt h w c H V C p : Int} {lw lb : Nat} (s : Sit k kh kw sh sw tp lf bt rt h w c H V C lw lb) {zs : List Int} (hz : ∀ v ∈ zs, (Lit.int .i16 v).wf = true) {ch : Int} (hch : 1 ≤ ch ∧ ch ≤ C) {slo shi bi : Int} (hs : -128 ≤ slo ∧ slo ≤ shi ∧ shi ≤ 127) (hp : -128 ≤ p ∧ p ≤ 127) (hbi : -2147483648 ≤ bi ∧ bi ≤ 2147483647) (d : Nat) : piT (fun E => [suS (bi, bi) E]) (fun (j : Nat) => enL slo shi p (siL k kh kw sh sw tp lf bt rt h w c ch (j : Int) zs)) (H * V).toNat ≠ [] ∧ piT (fun E => ruL (bi, bi) E) (fun (j : Nat) => enL slo shi p (siL k kh kw sh sw tp lf bt rt h w c ch (j : Int) zs)) (H * V).toNat ≠ [] ∧ piT (fun E => E) (fun (j : Nat) => enL slo shi p (siL k kh kw sh sw tp lf bt rt h w c ch (j : Int) zs)) (H * V).toNat ≠ [] ∧ piT (fun E => paL d E ++ E) (fun (j : Nat) => enL slo shi p (siL k kh kw sh sw tp lf bt rt h w c ch (j : Int) zs)) (H * V).toNat ≠ [] := by
  have hf := row_facts s hz hch hs hp ((0 : Nat) : Int)
  have hN := sit_N s
  exact ⟨piT_ne hN (by simp), piT_ne hN (by rw [ruL_len]; omega), piT_ne hN hf.2.1, piT_ne hN (by rw [List.length_append]; have := hf.2.1; omega)⟩
/-- Run holds Total; Part with the depth 1 is Product; with every depth it holds it. -/
theorem hb_in {k kh kw sh sw tp lf bt rt h w c H V C p : Int} {lw lb : Nat} (s : Sit k kh kw sh sw tp lf bt rt h w c H V C lw lb) {zs : List Int} (hz : ∀ v ∈ zs, (Lit.int .i16 v).wf = true) {ch : Int} (hch : 1 ≤ ch ∧ ch ≤ C) {slo shi bi : Int} (hs : -128 ≤ slo ∧ slo ≤ shi ∧ shi ≤ 127) (hp : -128 ≤ p ∧ p ≤ 127) (hbi : -2147483648 ≤ bi ∧ bi ≤ 2147483647) (d : Nat) : Inn (hbT bi (fun (j : Nat) => enL slo shi p (siL k kh kw sh sw tp lf bt rt h w c ch (j : Int) zs)) (H * V).toNat) (hbR bi (fun (j : Nat) => enL slo shi p (siL k kh kw sh sw tp lf bt rt h w c ch (j : Int) zs)) (H * V).toNat) ∧ hbD 1 (fun (j : Nat) => enL slo shi p (siL k kh kw sh sw tp lf bt rt h w c ch (j : Int) zs)) (H * V).toNat = hbP (fun (j : Nat) => enL slo shi p (siL k kh kw sh sw tp lf bt rt h w c ch (j : Int) zs)) (H * V).toNat ∧ Inn (hbP (fun (j : Nat) => enL slo shi p (siL k kh kw sh sw tp lf bt rt h w c ch (j : Int) zs)) (H * V).toNat) (hbD d (fun (j : Nat) => enL slo shi p (siL k kh kw sh sw tp lf bt rt h w c ch (j : Int) zs)) (H * V).toNat) := by
  obtain ⟨n1, n2, n3, n4⟩ := hb_ne s hz hch hs hp hbi d
  refine ⟨hul_in n1 n2 (piT_in fun j _ x hx => ?_), hbD_one (hb_ne s hz hch hs hp hbi 1).2.2.2, hul_in n3 n4 (piT_in fun j _ x hx => ⟨x, List.mem_append_right _ hx, Inn.refl _⟩)⟩
  simp only [List.mem_singleton] at hx
  subst hx
  exact ⟨_, suS_mem _ _, Inn.refl _⟩
/-- Quick holds Run. -/
theorem hb_quick {k kh kw sh sw tp lf bt rt h w c H V C p : Int} {lw lb : Nat} (s : Sit k kh kw sh sw tp lf bt rt h w c H V C lw lb) {zs : List Int} (hz : ∀ v ∈ zs, (Lit.int .i16 v).wf = true) {ch : Int} (hch : 1 ≤ ch ∧ ch ≤ C) {slo shi bi : Int} (hs : -128 ≤ slo ∧ slo ≤ shi ∧ shi ≤ 127) (hp : -128 ≤ p ∧ p ≤ 127) (hbi : -2147483648 ≤ bi ∧ bi ≤ 2147483647) : Inn (hbR bi (fun (j : Nat) => enL slo shi p (siL k kh kw sh sw tp lf bt rt h w c ch (j : Int) zs)) (H * V).toNat) (bi - (upS (siL k kh kw sh sw tp lf bt rt h w c ch 0 zs) - dnS (siL k kh kw sh sw tp lf bt rt h w c ch 0 zs)) * rcV tp lf bt rt p slo shi, bi + (upS (siL k kh kw sh sw tp lf bt rt h w c ch 0 zs) - dnS (siL k kh kw sh sw tp lf bt rt h w c ch 0 zs)) * rcV tp lf bt rt p slo shi) := by
  obtain ⟨-, n2, -, -⟩ := hb_ne s hz hch hs hp hbi 1
  have key : ∀ x ∈ piT (fun E => ruL (bi, bi) E) (fun (j : Nat) => enL slo shi p (siL k kh kw sh sw tp lf bt rt h w c ch (j : Int) zs)) (H * V).toNat, Inn x _ := fun x hx => by
    obtain ⟨j, hj, hx'⟩ := mem_piT.1 hx
    exact quick_run s hz hch hs hp (j : Int) ⟨by omega, by omega⟩ x hx'
  obtain ⟨-, ⟨x, hx, ex⟩, ⟨y, hy, ey⟩⟩ := huA_is n2
  have k1 := key x hx
  have k2 := key y hy
  show Inn (huA _) _
  unfold Inn at *
  omega
/-- Over a wider span. -/
theorem hb_wide {k kh kw sh sw tp lf bt rt h w c H V C p : Int} {lw lb : Nat} (s : Sit k kh kw sh sw tp lf bt rt h w c H V C lw lb) {zs : List Int} (hz : ∀ v ∈ zs, (Lit.int .i16 v).wf = true) {ch : Int} (hch : 1 ≤ ch ∧ ch ≤ C) {slo shi bi : Int} (hs : -128 ≤ slo ∧ slo ≤ shi ∧ shi ≤ 127) (hp : -128 ≤ p ∧ p ≤ 127) (hbi : -2147483648 ≤ bi ∧ bi ≤ 2147483647) {ylo yhi : Int} (hy : -128 ≤ ylo ∧ ylo ≤ yhi ∧ yhi ≤ 127) (g1 : ylo ≤ slo) (g2 : shi ≤ yhi) (d : Nat) (hd : 0 < d) :
    Inn (hbT bi (fun (j : Nat) => enL slo shi p (siL k kh kw sh sw tp lf bt rt h w c ch (j : Int) zs)) (H * V).toNat) (hbT bi (fun (j : Nat) => enL ylo yhi p (siL k kh kw sh sw tp lf bt rt h w c ch (j : Int) zs)) (H * V).toNat) ∧ Inn (hbR bi (fun (j : Nat) => enL slo shi p (siL k kh kw sh sw tp lf bt rt h w c ch (j : Int) zs)) (H * V).toNat) (hbR bi (fun (j : Nat) => enL ylo yhi p (siL k kh kw sh sw tp lf bt rt h w c ch (j : Int) zs)) (H * V).toNat) ∧ Inn (hbP (fun (j : Nat) => enL slo shi p (siL k kh kw sh sw tp lf bt rt h w c ch (j : Int) zs)) (H * V).toNat) (hbP (fun (j : Nat) => enL ylo yhi p (siL k kh kw sh sw tp lf bt rt h w c ch (j : Int) zs)) (H * V).toNat) ∧ Inn (hbD d (fun (j : Nat) => enL slo shi p (siL k kh kw sh sw tp lf bt rt h w c ch (j : Int) zs)) (H * V).toNat) (hbD d (fun (j : Nat) => enL ylo yhi p (siL k kh kw sh sw tp lf bt rt h w c ch (j : Int) zs)) (H * V).toNat) := by
  obtain ⟨n1, n2, n3, n4⟩ := hb_ne s hz hch hs hp hbi d
  obtain ⟨m1, m2, m3, m4⟩ := hb_ne s hz hch hy hp hbi d
  refine ⟨hul_in n1 m1 (piT_in fun j _ x hx => ?_), hul_in n2 m2 (piT_in fun j _ => win_run g1 hs.2.1 g2 _ bi), hul_in n3 m3 (piT_in fun j _ => win_prd g1 hs.2.1 g2 _), hul_in n4 m4 (piT_in fun j _ => win_prt g1 hs.2.1 g2 _ hd)⟩
  simp only [List.mem_singleton] at hx
  subst hx
  exact ⟨_, List.mem_singleton_self _, win_tot g1 hs.2.1 g2 _ bi⟩
theorem boundNests_walk (h w c lo hi : Int) (oa : Option Addr) (on oc : Nat) (ot op ch slo shi dp at' : Int) (ad : Option Addr) (n cap : Nat) (xs : List Int) (ylo yhi : Int) (W : World) (_ : (Lit.int .i64 h).wf = true) (_ : (Lit.int .i64 w).wf = true) (_ : (Lit.int .i64 c).wf = true) (_ : (Lit.int .i64 lo).wf = true) (_ : (Lit.int .i64 hi).wf = true) (wo : ORow 22 (OpIn W) W oa on oc) (hr : on * 208 ≤ 140737488351232) (_ : (Lit.int .i64 ot).wf = true) (_ : (Lit.int .i64 op).wf = true) (_ : (Lit.int .i64 ch).wf = true) (_ : (Lit.int .i64 slo).wf = true) (_ : (Lit.int .i64 shi).wf = true) (_ : (Lit.int .i64 dp).wf = true) (_ : (Lit.int .i64 at').wf = true) (hX : IRow .i8 W ad n cap xs) (hrx : n * 1 ≤ 140737488351232) (_ : (Lit.int .i64 ylo).wf = true) (_ : (Lit.int .i64 yhi).wf = true) : Calls Try.prog 5 #[.agg #[Jv h, Jv w, Jv c, Jv lo, Jv hi, .slice oa on oc, Jv ot, Jv op, Jv ch, Jv slo, Jv shi, Jv dp, Jv at', .slice ad n cap], .agg #[Jv ylo, Jv yhi]] W fun e w' => e = .returned (.bool true) ∧ Below W.heap.size W w' := by
  obtain ⟨O, Z, B, hL⟩ := lrow_of wo
  rcases bask h w c lo hi ot oa on oc O Z B W hL op ch with ⟨E, hE, h1⟩ | ⟨RL, Rw, hR, i, x, wa, lw, cw, ba, lb, cb, x0, y0, z0, H, V, C, rfl, hF, hch⟩
  · exact nests_e h w c lo hi oa on oc ot op ch slo shi dp at' ad n cap W ylo yhi E hE (fun W' hb => btot_bad h w c lo hi ot op ch oa on oc W' slo shi E hE (fun W'' hb' => h1 W'' (hb.trans (hb'.mono hb.size))))
  cases hs : vbB slo shi with
  | false =>
    refine nests_e h w c lo hi oa on oc ot _ ch slo shi dp at' ad n cap W ylo yhi 30 (by decide) (fun W' hb => ?_)
    have := btot_ok h w c lo hi ot oa on oc O Z B W' (hL.below hb) ch RL Rw hR i x wa lw cw ba lb cb x0 y0 z0 H V C (hF.below hb) hch slo shi
    rwa [spR_f hs] at this
  | true =>
    obtain ⟨N, hN⟩ : ∃ N, (siL (O i 0) (O i 4) (O i 5) (O i 6) (O i 7) (O i 8) (O i 9) (O i 10) (O i 11) x0 y0 z0 ch 0 (Z i)).length = N := ⟨_, rfl⟩
    have hSit := hF.2.2.2.2.2.2.2.2.2.1
    have hz := hF.2.2.2.2.2.1.2.2.2.1
    obtain ⟨-, -, -, -, hp, hbi, -⟩ := bfacts hL RL Rw hR i x wa lw cw ba lb cb x0 y0 z0 H V C hF hch
    have hv := vbB_yes hs
    have hN1 : 1 ≤ N := by
      rw [← hN]; unfold siL; rw [tmL_len]
      have := hSit.2.2.2.2.2.2.2.2.1; omega
    have hN5 : N ≤ 512 := by rw [← hN]; exact slen RL Rw hR i x wa lw cw ba lb cb x0 y0 z0 H V C hF hch
    obtain ⟨⟨v1, v2⟩, v3, v4⟩ := hb_vd hSit hz hch hv hp hbi
    obtain ⟨i1, i2, i3⟩ := hb_in hSit hz hch hv hp hbi dp.toNat
    have iq := hb_quick hSit hz hch hv hp hbi
    have qv : vaB slo shi = true := hs
    refine nests_w h w c lo hi oa on oc ot _ ch slo shi dp at' ad n cap W ylo yhi _ _ _ _ _ _ _ _ (spD slo shi dp N (hbD dp.toNat (fun (j : Nat) => enL slo shi (O i 19) (siL (O i 0) (O i 4) (O i 5) (O i 6) (O i 7) (O i 8) (O i 9) (O i 10) (O i 11) x0 y0 z0 ch (j : Int) (Z i))) (H * V).toNat)).1 (spD slo shi dp N (hbD dp.toNat (fun (j : Nat) => enL slo shi (O i 19) (siL (O i 0) (O i 4) (O i 5) (O i 6) (O i 7) (O i 8) (O i 9) (O i 10) (O i 11) x0 y0 z0 ch (j : Int) (Z i))) (H * V).toNat)).2.1 _ (spR ylo yhi (hbT (biA (O i 0) ch (B i)) (fun (j : Nat) => enL ylo yhi (O i 19) (siL (O i 0) (O i 4) (O i 5) (O i 6) (O i 7) (O i 8) (O i 9) (O i 10) (O i 11) x0 y0 z0 ch (j : Int) (Z i))) (H * V).toNat)).1 (spR ylo yhi (hbT (biA (O i 0) ch (B i)) (fun (j : Nat) => enL ylo yhi (O i 19) (siL (O i 0) (O i 4) (O i 5) (O i 6) (O i 7) (O i 8) (O i 9) (O i 10) (O i 11) x0 y0 z0 ch (j : Int) (Z i))) (H * V).toNat)).2.1 _ (spR ylo yhi (hbR (biA (O i 0) ch (B i)) (fun (j : Nat) => enL ylo yhi (O i 19) (siL (O i 0) (O i 4) (O i 5) (O i 6) (O i 7) (O i 8) (O i 9) (O i 10) (O i 11) x0 y0 z0 ch (j : Int) (Z i))) (H * V).toNat)).1 (spR ylo yhi (hbR (biA (O i 0) ch (B i)) (fun (j : Nat) => enL ylo yhi (O i 19) (siL (O i 0) (O i 4) (O i 5) (O i 6) (O i 7) (O i 8) (O i 9) (O i 10) (O i 11) x0 y0 z0 ch (j : Int) (Z i))) (H * V).toNat)).2.1 _ (spR ylo yhi (hbP (fun (j : Nat) => enL ylo yhi (O i 19) (siL (O i 0) (O i 4) (O i 5) (O i 6) (O i 7) (O i 8) (O i 9) (O i 10) (O i 11) x0 y0 z0 ch (j : Int) (Z i))) (H * V).toNat)).1 (spR ylo yhi (hbP (fun (j : Nat) => enL ylo yhi (O i 19) (siL (O i 0) (O i 4) (O i 5) (O i 6) (O i 7) (O i 8) (O i 9) (O i 10) (O i 11) x0 y0 z0 ch (j : Int) (Z i))) (H * V).toNat)).2.1 _ (spD ylo yhi dp N (hbD dp.toNat (fun (j : Nat) => enL ylo yhi (O i 19) (siL (O i 0) (O i 4) (O i 5) (O i 6) (O i 7) (O i 8) (O i 9) (O i 10) (O i 11) x0 y0 z0 ch (j : Int) (Z i))) (H * V).toNat)).1 (spD ylo yhi dp N (hbD dp.toNat (fun (j : Nat) => enL ylo yhi (O i 19) (siL (O i 0) (O i 4) (O i 5) (O i 6) (O i 7) (O i 8) (O i 9) (O i 10) (O i 11) x0 y0 z0 ch (j : Int) (Z i))) (H * V).toNat)).2.1 _
      (fun W' hb => by have q := btot_ok h w c lo hi ot oa on oc O Z B W' (hL.below hb) ch RL Rw hR i x wa lw cw ba lb cb x0 y0 z0 H V C (hF.below hb) hch slo shi; rw [spR_t hs] at q; exact q)
      (fun W' hb => by have q := brun_ok h w c lo hi ot oa on oc O Z B W' (hL.below hb) ch RL Rw hR i x wa lw cw ba lb cb x0 y0 z0 H V C (hF.below hb) hch slo shi; rw [spR_t hs] at q; exact q)
      (fun W' hb => by have q := bprt_ok h w c lo hi ot oa on oc O Z B W' (hL.below hb) ch RL Rw hR i x wa lw cw ba lb cb x0 y0 z0 H V C (hF.below hb) hch slo shi 1 N hN; unfold spD at q; rw [if_pos hs, if_pos ⟨by omega, by omega⟩, show (1 : Int).toNat = 1 from rfl, i2] at q; exact q)
      (fun W' hb => by have q := bprd_ok h w c lo hi ot oa on oc O Z B W' (hL.below hb) ch RL Rw hR i x wa lw cw ba lb cb x0 y0 z0 H V C (hF.below hb) hch slo shi; rw [spR_t hs] at q; exact q)
      (fun W' hb => by have q := nqu_ok h w c lo hi ot oa on oc O Z B W' (hL.below hb) ch RL Rw hR i x wa lw cw ba lb cb x0 y0 z0 H V C (hF.below hb) hch slo shi; unfold quR at q; rw [if_pos qv] at q; exact q)
      (fun W' hb => bprt_ok h w c lo hi ot oa on oc O Z B W' (hL.below hb) ch RL Rw hR i x wa lw cw ba lb cb x0 y0 z0 H V C (hF.below hb) hch slo shi dp N hN)
      (fun W' hb => btot_ok h w c lo hi ot oa on oc O Z B W' (hL.below hb) ch RL Rw hR i x wa lw cw ba lb cb x0 y0 z0 H V C (hF.below hb) hch ylo yhi)
      (fun W' hb => brun_ok h w c lo hi ot oa on oc O Z B W' (hL.below hb) ch RL Rw hR i x wa lw cw ba lb cb x0 y0 z0 H V C (hF.below hb) hch ylo yhi)
      (fun W' hb => bprd_ok h w c lo hi ot oa on oc O Z B W' (hL.below hb) ch RL Rw hR i x wa lw cw ba lb cb x0 y0 z0 H V C (hF.below hb) hch ylo yhi)
      (fun W' hb => bprt_ok h w c lo hi ot oa on oc O Z B W' (hL.below hb) ch RL Rw hR i x wa lw cw ba lb cb x0 y0 z0 H V C (hF.below hb) hch ylo yhi dp N hN)
      (xho_of i1 v1.2.1) (xho_of iq v2.2.1) (fun q => ?_) (fun q g => ?_)
    · unfold spD at q ⊢
      rw [if_pos hs] at q ⊢
      by_cases hd : 1 ≤ dp ∧ dp ≤ (N : Int)
      · rw [if_pos hd]
        exact xho_of i3 v3.2.1
      · rw [if_neg hd] at q; cases q
    · have hy : vbB ylo yhi = true := by
        cases e : vbB ylo yhi with
        | true => rfl
        | false => rw [spR_f e] at q; cases q
      have gg := of_decide_eq_true g
      rw [spR_t hy, spR_t hy, spR_t hy]
      unfold spD
      rw [if_pos hs, if_pos hy]
      by_cases hd : 1 ≤ dp ∧ dp ≤ (N : Int)
      · obtain ⟨w1, w2, w3, w4⟩ := hb_wide hSit hz hch hv hp hbi (vbB_yes hy) gg.2.1 gg.2.2 dp.toNat (by omega)
        rw [if_pos hd, if_pos hd]
        exact ⟨xho_of w1 v1.2.1, xho_of w2 v2.2.1, xho_of w3 v3.2.1, xho_of w4 (v4 dp.toNat (by omega) (by omega)).2.1⟩
      · obtain ⟨w1, w2, w3, -⟩ := hb_wide hSit hz hch hv hp hbi (vbB_yes hy) gg.2.1 gg.2.2 1 (by omega)
        rw [if_neg hd, if_neg hd]
        exact ⟨xho_of w1 v1.2.1, xho_of w2 v2.2.1, xho_of w3 v3.2.1, by decide⟩
end Go.Proofs.Ytcphealigifdiaa
