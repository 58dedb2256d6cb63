/- The walk of BoundReached. BoundReached. -/
import Derived.Test.YtcphealigifdiaaGr19
import Derived.Test.YtcphealigifdiaaGr26
import Derived.Test.YtcphealigifdiaaGr27
import Derived.Test.YtcphealigifdiaaGr29
/- The walk of BoundReached. -/
namespace Go.Proofs.Ytcphealigifdiaa
open Go.ChangeShapes Go.WideShapes Go.ChangeAt Go.RowKit
set_option linter.unusedVariables false
set_option maxHeartbeats 16000000 in
set_option maxRecDepth 100000 in
theorem reached_e (h w c lo hi : Int) (oa : Option Addr) (on oc : Nat) (ot op ch slo shi dp at' : Int) (ad : Option Addr) (n cap : Nat) (W : World) (np F F2 : Int) (hF : F ≠ 0) (HT : Hid (∀ W', Below W.heap.size W W' → Calls Try.prog 8 #[.agg #[Jv h, Jv w, Jv c, Jv lo, Jv hi, .slice oa on oc, Jv ot], Jv op, Jv ch, .agg #[Jv slo, Jv shi]] W' fun e w' => e = .returned (.tuple #[.agg #[Jv 0, Jv 0], Jv F]) ∧ Below W'.heap.size W' w')) (HPo : Hid (∀ W', Below W.heap.size W W' → Calls Try.prog 14 #[.agg #[Jv h, Jv w, Jv c, Jv lo, Jv hi, .slice oa on oc, Jv ot], Jv op] W' fun e w' => e = .returned (.tuple #[Jv np, Jv F2]) ∧ Below W'.heap.size W' w')) :
    Calls Try.prog 4 #[.agg #[Jv h, Jv w, Jv c, Jv lo, Jv hi, .slice oa on oc, Jv ot, Jv op, Jv ch, Jv slo, Jv shi, Jv dp, Jv at', .slice ad n cap]] W fun e w' => e = .returned (.bool true) ∧ Below W.heap.size W w' := by
  have s0 := (St.start W).new (c := #[Jv h, Jv w, Jv c, Jv lo, Jv hi, .slice oa on oc, Jv ot, Jv op, Jv ch, Jv slo, Jv shi, Jv dp, Jv at', .slice ad n cap]) (t := 31)
  have q1 := beqS 28 rfl 0 0 0 0 true (by decide)
  have hE : (F == 0) = false := by simp [hF]
  go_enter Try.func4, Try.ntmps4
  go_wp2_with fail
  refine (fixed13_any _).mono ?_
  rintro e w1 ⟨rfl, hb⟩
  have s1 := s0.call hb
  clear hb s0
  obtain ⟨c1, f1, z1, -⟩ := s1.rules
  go_wp2_with fail
  refine Calls.mono (HT.out _ s1.below) ?_
  rintro e w2 ⟨rfl, hb⟩
  have s2 := (s1.call hb).new (c := #[Jv 0, Jv 0]) (t := 28)
  clear hb s1 HT c1 f1 z1
  obtain ⟨c1, f1, z1, c2, f2, z2, -⟩ := s2.rules
  go_wp2_with fail
  refine Calls.mono (HPo.out _ s2.below) ?_
  rintro e w3 ⟨rfl, hb⟩
  have s3 := s2.call hb
  clear hb s2 HPo c1 f1 z1 c2 f2 z2
  obtain ⟨c1, f1, z1, c2, f2, z2, -⟩ := s3.rules
  go_wp2
  go_ret
  exact ⟨rfl, s3.below⟩
theorem set_map (A : List Int) (p : Nat) (z : Int) : (A.map (Value.int .i8)).toArray.setIfInBounds p (.int .i8 z) = ((A.set p z).map (Value.int .i8)).toArray := by
  apply Array.ext'
  simp
theorem map8_at (A : List Int) {p : Nat} (h : p < A.length) : (A.map (Value.int .i8)).toArray[p]? = some (.int .i8 (A.getD p 0)) := by simp [List.getD, h]
def I8L (A : List Int) : Prop := ∀ v ∈ A, -128 ≤ v ∧ v ≤ 127
theorem I8L.wf {A : List Int} (h : I8L A) : Wf .i8 A := fun v hv => mk_i8 (h v hv)
theorem irow_full {w : World} {g M : Nat} {zs : List Int} (h : w.heap[g]? = some (.cells (zs.map (Value.int .i8)).toArray 55 (0, 0))) (hb : I8L zs) (hl : zs.length = M) (hm : M ≤ 16384) : IRow .i8 w (some ⟨g, 0, none⟩) M M zs := by
  subst hl
  exact (own_full (base := 0) h hb.wf (by unfold maxLen; omega) (Nat.zero_le _)).facts.2.2.2.2.2.1
theorem own_at {T : TypeId} {w : World} {base N j : Nat} {v : Value} {zs : List Int} (h : Own .i64 T w base v zs) (hN : zs.length = N) (hj : j < N) : ∃ g cap, v = .slice (some ⟨g, 0, none⟩) N cap ∧ N ≤ cap ∧ cap ≤ 9223372036854775807 ∧ w.cell? ⟨g, j, none⟩ = some (Jv (zs.getD j 0)) := by
  subst hN
  rcases h.shape with ⟨-, rfl⟩ | ⟨g, cap, rfl, -, -, h1, h2, -, h3, -⟩
  · exact absurd hj (Nat.not_lt_zero _)
  · unfold maxLen at h2
    exact ⟨g, cap, rfl, h1, by omega, h3 j hj⟩
theorem Fl.i8 {n : Nat} {lo hi : Int} {s : Int → Bool} {TL : List (Int × Int)} {m : Nat} {A : List Int} (h : Fl n lo hi s TL m A) (hl : -128 ≤ lo ∧ lo ≤ hi ∧ hi ≤ 127) : I8L A := fun v hv => by rcases h.val v hv with rfl | rfl <;> omega
set_option maxHeartbeats 16000000 in
set_option maxRecDepth 100000 in
theorem reached_k (h w c lo hi : Int) (i : Nat) (x : Addr) (on oc : Nat) (ot ch slo shi dp at' : Int) (ad : Option Addr) (n cap : Nat) (W : World) (k0 a0 b0 m0 kh kw sh sw tp lf b2' rt : Int) (wa : Option Addr) (lw cw0 : Nat) (ba : Option Addr) (lb cb0 : Nat) (sm ss um us zp pd lo2 hi2 x0 y0 z0 H V C : Int) (T1 T2 : Int) (N M L NU : Nat) (TLs : Nat → List (Int × Int)) (rl rh : Nat → Int) (kf : Nat → Nat) (SU : List Int → List Int)
    (HT : Hid (∀ W', Below W.heap.size W W' → Calls Try.prog 8 #[.agg #[Jv h, Jv w, Jv c, Jv lo, Jv hi, .slice (some x) on oc, Jv ot], Jv ((i : Int) + 1), Jv ch, .agg #[Jv slo, Jv shi]] W' fun e w' => e = .returned (.tuple #[.agg #[Jv T1, Jv T2], Jv 0]) ∧ Below W'.heap.size W' w')) (HPo : Hid (∀ W', Below W.heap.size W W' → Calls Try.prog 14 #[.agg #[Jv h, Jv w, Jv c, Jv lo, Jv hi, .slice (some x) on oc, Jv ot], Jv ((i : Int) + 1)] W' fun e w' => e = .returned (.tuple #[Jv (N : Int), Jv 0]) ∧ Below W'.heap.size W' w')) (HFi : Hid (∀ W', Below W.heap.size W W' → Calls Try.prog 12 #[.agg #[Jv h, Jv w, Jv c, Jv lo, Jv hi, .slice (some x) on oc, Jv ot], Jv ((i : Int) + 1), Jv 0] W' fun e w' => e = .returned (.tuple #[.agg #[Jv k0, Jv a0, Jv b0, Jv m0, Jv kh, Jv kw, Jv sh, Jv sw, Jv tp, Jv lf, Jv b2', Jv rt, .slice wa lw cw0, .slice ba lb cb0, Jv sm, Jv ss, Jv um, Jv us, Jv zp, Jv pd, Jv lo2, Jv hi2, Jv x0, Jv y0, Jv z0, Jv H, Jv V, Jv C], Jv 0]) ∧ Below W'.heap.size W' w')) (HO : Hid (∀ W', ∀ m : Nat, m < N → Below W.heap.size W W' → Calls Try.prog 7 #[.agg #[Jv h, Jv w, Jv c, Jv lo, Jv hi, .slice (some x) on oc, Jv ot], Jv ((i : Int) + 1), Jv ch, Jv (m : Int)] W' fun e w' => (∃ v u, e = .returned (.tuple #[v, Jv u, Jv 0]) ∧ OTm w' W'.heap.size v (TLs m)) ∧ Below W'.heap.size W' w')) (HTo : Hid (∀ W', ∀ (g : Nat) (xs : List Int), IRow .i8 W' (some ⟨g, 0, none⟩) M M xs → Below W.heap.size W W' → Calls Try.prog 15 #[.agg #[Jv h, Jv w, Jv c, Jv lo, Jv hi, .slice (some x) on oc, Jv ot], Jv ((i : Int) + 1), .slice (some ⟨g, 0, none⟩) M M] W' fun e w' => (∃ v, e = .returned (.tuple #[v, Jv 0]) ∧ Own .i64 2 w' W'.heap.size v (SU xs)) ∧ Below W'.heap.size W' w'))
    (hxy : 0 ≤ x0 * y0 ∧ x0 * y0 ≤ 1048576) (hM : x0 * y0 * z0 = (M : Int)) (hM0 : M ≤ 16384) (hNb : N ≤ 1048576) (hsp : -128 ≤ slo ∧ slo ≤ shi ∧ shi ≤ 127)
    (hTl : ∀ m, m < N → (TLs m).length = L) (hL5 : L ≤ 512) (hPl : ∀ m, m < N → Pli M (TLs m)) (hC : 1 ≤ C ∧ C ≤ 1024) (hch : 1 ≤ ch ∧ ch ≤ C)
    (hkf : ∀ m : Nat, m < N → (0 ≤ (m : Int) * C ∧ (m : Int) * C ≤ 10000000000) ∧ (m : Int) * C + ch - 1 = (kf m : Int) ∧ kf m < NU) (hSL : ∀ A, (SU A).length = NU) (hNU : NU ≤ 1000000)
    (hSA : ∀ m A, m < N → Fl M slo shi sA (TLs m) L A → (SU A).getD (kf m) 0 = rl m) (hSB : ∀ m A, m < N → Fl M slo shi sB (TLs m) L A → (SU A).getD (kf m) 0 = rh m)
    (hEn : ∀ m, m < N → (T1 ≤ rl m ∧ rl m ≤ T2) ∧ (T1 ≤ rh m ∧ rh m ≤ T2)) (hA1 : ∃ j, j < N ∧ rl j = T1) (hA2 : ∃ j, j < N ∧ rh j = T2) :
    Calls Try.prog 4 #[.agg #[Jv h, Jv w, Jv c, Jv lo, Jv hi, .slice (some x) on oc, Jv ot, Jv ((i : Int) + 1), Jv ch, Jv slo, Jv shi, Jv dp, Jv at', .slice ad n cap]] W fun e w' => e = .returned (.bool true) ∧ Below W.heap.size W w' := by
  have s0 := (St.start W).new (c := #[Jv h, Jv w, Jv c, Jv lo, Jv hi, .slice (some x) on oc, Jv ot, Jv ((i : Int) + 1), Jv ch, Jv slo, Jv shi, Jv dp, Jv at', .slice ad n cap]) (t := 31)
  have HTl : Hid (∀ m, m < N → (TLs m).length = L) := hTl
  have HPl : Hid (∀ m, m < N → Pli M (TLs m)) := hPl
  have Hkf : Hid (∀ m : Nat, m < N → _) := hkf
  have HSL : Hid (∀ A, (SU A).length = NU) := hSL
  have HSA : Hid (∀ m A, m < N → Fl M slo shi sA (TLs m) L A → (SU A).getD (kf m) 0 = rl m) := hSA
  have HSB : Hid (∀ m A, m < N → Fl M slo shi sB (TLs m) L A → (SU A).getD (kf m) 0 = rh m) := hSB
  have HEn : Hid (∀ m, m < N → (T1 ≤ rl m ∧ rl m ≤ T2) ∧ (T1 ≤ rh m ∧ rh m ≤ T2)) := hEn
  have HA1 : Hid (∃ j, j < N ∧ rl j = T1) := hA1
  have HA2 : Hid (∃ j, j < N ∧ rh j = T2) := hA2
  clear hTl hPl hkf hSL hSA hSB hEn hA1 hA2
  obtain ⟨xy, hxy2⟩ : ∃ xy, x0 * y0 = xy := ⟨_, rfl⟩
  rw [hxy2] at hxy hM
  go_enter Try.func4, Try.ntmps4
  go_wp2_with fail
  refine (fixed13_any _).mono ?_
  rintro e w1 ⟨rfl, hb⟩
  have s1 := s0.call hb
  clear hb s0
  obtain ⟨c1, f1, z1, -⟩ := s1.rules
  go_wp2_with fail
  refine Calls.mono (HT.out _ s1.below) ?_
  rintro e w2 ⟨rfl, hb⟩
  have s2 := (s1.call hb).new (c := #[Jv T1, Jv T2]) (t := 28)
  clear hb s1 HT c1 f1 z1
  obtain ⟨c1, f1, z1, c2, f2, z2, -⟩ := s2.rules
  go_wp2_with fail
  refine Calls.mono (HPo.out _ s2.below) ?_
  rintro e w3 ⟨rfl, hb⟩
  have s3 := s2.call hb
  clear hb s2 HPo c1 f1 z1 c2 f2 z2
  obtain ⟨c1, f1, z1, c2, f2, z2, -⟩ := s3.rules
  go_wp2_with fail
  refine Calls.mono (HFi.out _ s3.below) ?_
  rintro e w4 ⟨rfl, hb⟩
  have s4 := (s3.call hb).new (c := #[Jv k0, Jv a0, Jv b0, Jv m0, Jv kh, Jv kw, Jv sh, Jv sw, Jv tp, Jv lf, Jv b2', Jv rt, .slice wa lw cw0, .slice ba lb cb0, Jv sm, Jv ss, Jv um, Jv us, Jv zp, Jv pd, Jv lo2, Jv hi2, Jv x0, Jv y0, Jv z0, Jv H, Jv V, Jv C]) (t := 49)
  clear hb s3 HFi c1 f1 z1 c2 f2 z2
  have S4 : Hid (St W _ _) := s4
  go_upto_region 8 with (refine wpList_st_new rfl 49 (.tmp 7) (.tmp 62) rfl w4 _ #[Jv k0, Jv a0, Jv b0, Jv m0, Jv kh, Jv kw, Jv sh, Jv sw, Jv tp, Jv lf, Jv b2', Jv rt, .slice wa lw cw0, .slice ba lb cb0, Jv sm, Jv ss, Jv um, Jv us, Jv zp, Jv pd, Jv lo2, Jv hi2, Jv x0, Jv y0, Jv z0, Jv H, Jv V, Jv C] rfl rfl (by kernel_rfl) rfl (by simp [Value.oneCell']) ?_)
  obtain ⟨w5, hw5⟩ : ∃ w5, w4.alloc (.cells #[Jv k0, Jv a0, Jv b0, Jv m0, Jv kh, Jv kw, Jv sh, Jv sw, Jv tp, Jv lf, Jv b2', Jv rt, .slice wa lw cw0, .slice ba lb cb0, Jv sm, Jv ss, Jv um, Jv us, Jv zp, Jv pd, Jv lo2, Jv hi2, Jv x0, Jv y0, Jv z0, Jv H, Jv V, Jv C] 49) = w5 := ⟨_, rfl⟩
  rw [hw5] at S4 ⊢
  obtain ⟨Bs, hBs⟩ : ∃ B, w4.heap.size = B := ⟨_, rfl⟩
  obtain ⟨Bt, hBt⟩ : ∃ B, w2.heap.size = B := ⟨_, rfl⟩
  rw [hBs, hBt] at S4
  rw [hBs, hBt]
  clear s4 hw5 hBs hBt
  go_wp2
  go_loopw [9, 10, 11] (fun lo' hi' at'' wr => ∃ m : Nat, m ≤ N ∧ m ≤ 40 ∧ lo' = .bool (orB (fun j => rl j == T1) m) ∧ hi' = .bool (orB (fun j => rh j == T2) m) ∧ at'' = Jv m ∧ St W wr [(Bs, #[Jv k0, Jv a0, Jv b0, Jv m0, Jv kh, Jv kw, Jv sh, Jv sw, Jv tp, Jv lf, Jv b2', Jv rt, .slice wa lw cw0, .slice ba lb cb0, Jv sm, Jv ss, Jv um, Jv us, Jv zp, Jv pd, Jv lo2, Jv hi2, Jv x0, Jv y0, Jv z0, Jv H, Jv V, Jv C], 49), (Bt, #[Jv T1, Jv T2], 28), (W.heap.size, #[Jv h, Jv w, Jv c, Jv lo, Jv hi, .slice (some x) on oc, Jv ot, Jv ((i : Int) + 1), Jv ch, Jv slo, Jv shi, Jv dp, Jv at', .slice ad n cap], 31)]) (fun _ _ i _ => N - (intOf i).toNat)
  case atStart => exact ⟨0, Nat.zero_le _, by omega, rfl, rfl, rfl, S4.out⟩
  case round =>
    obtain ⟨m, hm, hm4, rfl, rfl, rfl, hbw⟩ := hrel
    have Sr : Hid (St W wr [(Bs, #[Jv k0, Jv a0, Jv b0, Jv m0, Jv kh, Jv kw, Jv sh, Jv sw, Jv tp, Jv lf, Jv b2', Jv rt, .slice wa lw cw0, .slice ba lb cb0, Jv sm, Jv ss, Jv um, Jv us, Jv zp, Jv pd, Jv lo2, Jv hi2, Jv x0, Jv y0, Jv z0, Jv H, Jv V, Jv C], 49), (Bt, #[Jv T1, Jv T2], 28), (W.heap.size, #[Jv h, Jv w, Jv c, Jv lo, Jv hi, .slice (some x) on oc, Jv ot, Jv ((i : Int) + 1), Jv ch, Jv slo, Jv shi, Jv dp, Jv at', .slice ad n cap], 31)]) := hbw
    clear hbw
    obtain ⟨b1, hb1⟩ : ∃ b, orB (fun j => rl j == T1) m = b := ⟨_, rfl⟩
    obtain ⟨b2, hb2⟩ : ∃ b, orB (fun j => rh j == T2) m = b := ⟨_, rfl⟩
    have Hb1 : Hid (orB (fun j => rl j == T1) m = b1) := hb1
    have Hb2 : Hid (orB (fun j => rh j == T2) m = b2) := hb2
    rw [hb1, hb2]
    clear hb1 hb2
    by_cases hlt : ¬ m < N
    · have e1 : b1 = true := by obtain ⟨j, h1, h2⟩ := HA1.out; rw [← Hb1.out]; exact orB_of (j := j) (by simp [h2]) m (by omega)
      have e2 : b2 = true := by obtain ⟨j, h1, h2⟩ := HA2.out; rw [← Hb2.out]; exact orB_of (j := j) (by simp [h2]) m (by omega)
      subst e1 e2
      have hlt2 : ¬ ((m : Int) < (N : Int)) := by omega
      go_wp2
      go_ret
      exact ⟨rfl, Sr.out.below⟩
    have hlt : m < N := by omega
    have hlt2 : (m : Int) < (N : Int) := by omega
    by_cases h40 : ¬ m < 40
    · have e4 : m = 40 := by omega
      subst e4
      have h41 : (40 : Int) < (N : Int) := by omega
      cases b1 <;> cases b2
      all_goals
        go_wp2
        go_ret
        exact ⟨rfl, Sr.out.below⟩
    have h40' : (m : Int) < 40 := by omega
    by_cases hbb : (b1 && b2) = true
    · have e1 : b1 = true := by cases b1 <;> simp_all
      have e2 : b2 = true := by cases b2 <;> simp_all
      subst e1 e2
      go_wp2
      go_ret
      exact ⟨rfl, Sr.out.below⟩
    have HBB : Hid (¬ (b1 && b2) = true) := hbb
    clear hbb
    go_upto_region 10 with fail
    go_cut [77] from 64 to 76 (fun x wx => x = .bool true ∧ wx = wr)
    case first =>
      cases b1
      · go_wp2_with fail
        go_meet
        exact ⟨rfl, rfl⟩
      · cases b2
        · go_wp2_with fail
          go_meet
          exact ⟨rfl, rfl⟩
        · exact absurd rfl HBB.out
    obtain ⟨rfl, rfl⟩ := hcut
    obtain ⟨c1, f1, z1, c2, f2, z2, c3, f3, z3, -⟩ := Sr.out.rules
    go_wp2_with fail
    refine Calls.mono (HO.out _ m hlt Sr.out.below) ?_
    rintro e w6 ⟨⟨v, u, rfl, hOv⟩, hb⟩
    have S6 : Hid (St W w6 [(Bs, #[Jv k0, Jv a0, Jv b0, Jv m0, Jv kh, Jv kw, Jv sh, Jv sw, Jv tp, Jv lf, Jv b2', Jv rt, .slice wa lw cw0, .slice ba lb cb0, Jv sm, Jv ss, Jv um, Jv us, Jv zp, Jv pd, Jv lo2, Jv hi2, Jv x0, Jv y0, Jv z0, Jv H, Jv V, Jv C], 49), (Bt, #[Jv T1, Jv T2], 28), (W.heap.size, #[Jv h, Jv w, Jv c, Jv lo, Jv hi, .slice (some x) on oc, Jv ot, Jv ((i : Int) + 1), Jv ch, Jv slo, Jv shi, Jv dp, Jv at', .slice ad n cap], 31)]) := Sr.out.call hb
    obtain ⟨va, vc, rfl⟩ := hOv.slice
    rw [HTl.out m hlt] at hOv ⊢
    have T6 : Hid (TV w6 (.slice va L vc) (TLs m)) := hOv.tv
    clear hb hOv Sr c1 f1 z1 c2 f2 z2 c3 f3 z3
    obtain ⟨c1, f1, z1, -⟩ := S6.out.rules
    have hmk := run_mak kt_i8 M (by omega)
    go_upto_region 15 with fail
    have s8 := ((St.start w6).new (c := Array.replicate M (.int .i8 0)) (t := 55)).new (c := Array.replicate M (.int .i8 0)) (t := 55)
    simp only [World.size_alloc] at s8
    obtain ⟨w8, hw8⟩ : ∃ w8, (w6.alloc (.cells (Array.replicate M (.int .i8 0)) 55)).alloc (.cells (Array.replicate M (.int .i8 0)) 55) = w8 := ⟨_, rfl⟩
    rw [hw8] at s8 ⊢
    obtain ⟨gb, hgb⟩ : ∃ g, w6.heap.size + 1 = g := ⟨_, rfl⟩
    obtain ⟨ga, hga⟩ : ∃ g, w6.heap.size = g := ⟨_, rfl⟩
    obtain ⟨-, -, -, -, -, -, -, -, z3, -⟩ := S6.out.rules
    have hne : ga ≠ gb := by omega
    have hne' : gb ≠ ga := by omega
    have hWa : W.heap.size ≠ ga := by omega
    have hWb : W.heap.size ≠ gb := by omega
    clear z3
    rw [hgb, hga, rep_cells, ← flL_0 M slo] at s8
    rw [hgb, hga]
    have S8 : Hid (St w6 w8 _) := s8
    clear s8 hw8 hgb hga hmk c1 f1 z1
    go_wp2
    go_loopw [109] (fun ix wq => ∃ k : Nat, k ≤ M ∧ ix = Jv k ∧ St w6 wq [(gb, (((flL M slo k).map (Value.int .i8)).toArray), 55), (ga, (((flL M slo k).map (Value.int .i8)).toArray), 55)]) (fun i _ => M - (intOf i).toNat)
    case atStart => exact ⟨0, Nat.zero_le _, rfl, S8.out⟩
    obtain ⟨k, hk, rfl, hS⟩ := hrel
    have Sk : Hid (St w6 wr [(gb, (((flL M slo k).map (Value.int .i8)).toArray), 55), (ga, (((flL M slo k).map (Value.int .i8)).toArray), 55)]) := hS
    clear hS
    by_cases hkM : k < M
    · obtain ⟨-, -, -, -, -, -, c3, f3, z3, -⟩ := (S6.out.call Sk.out.below).rules
      obtain ⟨cb, fb, zb, ca, fa, za, -⟩ := Sk.out.rules
      have hla := flL_len slo hk
      have hca : wr.cell? ⟨ga, k, none⟩ = some (.int .i8 ((flL M slo k).getD k 0)) := by rw [ca, map8_at _ (by omega)]
      have hcb : wr.cell? ⟨gb, k, none⟩ = some (.int .i8 ((flL M slo k).getD k 0)) := by rw [cb, map8_at _ (by omega)]
      have hkM2 : (k : Int) < (M : Int) := by omega
      have SN : Hid (St w6 ((wr.setCell ⟨ga, k, none⟩ (.int .i8 slo)).setCell ⟨gb, k, none⟩ (.int .i8 slo)) [(gb, (((flL M slo (k + 1)).map (Value.int .i8)).toArray), 55), (ga, (((flL M slo (k + 1)).map (Value.int .i8)).toArray), 55)]) := by
        have q := ((Sk.out.up1.set (i := k) (v := .int .i8 slo) (by simp; exact fun e => hne e.symm)).up1).set (i := k) (v := .int .i8 slo) (by simp; exact hne)
        rw [set_map, flL_set slo hkM] at q
        exact q
      clear ca cb hla
      go_upto_region 18 with fail
      go_region
      all_goals
        go_wp2
        go_roundw
        case rel => exact ⟨k + 1, by omega, by go_num, SN.out.drew⟩
        case measure => simp [intOf]; omega
    obtain rfl : M = k := by omega
    rw [flL_all] at Sk
    obtain ⟨w9, rfl⟩ : ∃ w9, w9 = wr := ⟨_, rfl⟩
    clear hkM hk S8
    go_wp2
    go_loopw [129] (fun ix wq => ∃ (k : Nat) (A B : List Int), k ≤ L ∧ ix = Jv k ∧ Fl M slo shi sA (TLs m) k A ∧ Fl M slo shi sB (TLs m) k B ∧ St w6 wq [(gb, ((B.map (Value.int .i8)).toArray), 55), (ga, ((A.map (Value.int .i8)).toArray), 55)]) (fun i _ => L - (intOf i).toNat)
    case atStart => exact ⟨0, _, _, Nat.zero_le _, rfl, Fl.start _ _ _ _ _, Fl.start _ _ _ _ _, Sk.out⟩
    obtain ⟨k, A, B, hk, rfl, hFA, hFB, hS⟩ := hrel
    clear Sk
    have FA : Hid (Fl M slo shi sA (TLs m) k A) := hFA
    have FB : Hid (Fl M slo shi sB (TLs m) k B) := hFB
    have Sk : Hid (St w6 wr [(gb, ((B.map (Value.int .i8)).toArray), 55), (ga, ((A.map (Value.int .i8)).toArray), 55)]) := hS
    clear hS hFA hFB
    by_cases hkL : k < L
    · have hkl : Hid (k < (TLs m).length) := by unfold Hid; rw [HTl.out m hlt]; exact hkL
      obtain ⟨a9, c9, e9, -, -, h9⟩ := T6.out.below Sk.out.below
      obtain ⟨g, hg, hc⟩ := h9 (by have := hkl.out; omega)
      have e10 : va = some ⟨g, 0, none⟩ := by rw [(Value.slice.inj e9).1]; exact hg
      subst e10
      obtain ⟨q1, q2⟩ := TV.at hc hkl.out
      obtain ⟨ww, hww⟩ : ∃ x, ((TLs m).getD k (0, 0)).1 = x := ⟨_, rfl⟩
      obtain ⟨pp, hpp⟩ : ∃ x, ((TLs m).getD k (0, 0)).2 = x := ⟨_, rfl⟩
      rw [hww] at q1
      rw [hpp] at q2
      have Hp : Hid (pls (TLs m) k = pp ∧ wgs (TLs m) k = ww) := ⟨hpp, hww⟩
      have hbd := (HPl.out m hlt).bd k hkl.out
      rw [Hp.out.1] at hbd
      have s9 := Sk.out.new (c := #[Jv ww, Jv pp]) (t := 53)
      clear e9 h9 hg hc hww hpp
      go_upto_region 23 with fail
      obtain ⟨w10, hw10⟩ : ∃ w', wr.alloc (.cells #[Jv ww, Jv pp] 53) = w' := ⟨_, rfl⟩
      obtain ⟨Be, hBe⟩ : ∃ B, wr.heap.size = B := ⟨_, rfl⟩
      rw [hw10] at s9 ⊢
      rw [hBe] at s9 ⊢
      clear hw10 hBe q1 q2
      have S10 : Hid (St w6 w10 [(Be, #[Jv ww, Jv pp], 53), (gb, ((B.map (Value.int .i8)).toArray), 55), (ga, ((A.map (Value.int .i8)).toArray), 55)]) := s9
      clear s9
      obtain ⟨cx, fx, zx, cb, fb, zb, ca, fa, za, -⟩ := S10.out.rules
      obtain ⟨-, -, -, -, -, -, c3, f3, z3, -⟩ := (S6.out.call S10.out.below).rules
      by_cases hpad : pp = -1
      · subst hpad
        clear ca cb c3 f3 fa fb
        go_wp2
        go_roundw
        case rel => exact ⟨k + 1, A, B, by omega, by go_num, FA.out.pad (by rw [Hp.out.1]; decide), FB.out.pad (by rw [Hp.out.1]; decide), S10.out.tail⟩
        case measure => simp [intOf]; omega
      · obtain ⟨p, rfl⟩ : ∃ p : Nat, pp = (p : Int) := ⟨pp.toNat, by omega⟩
        have hpM : p < M := by omega
        have hpM2 : (p : Int) < (M : Int) := by omega
        have hp0 : ¬ ((p : Int) < 0) := by omega
        have hca : w10.cell? ⟨ga, p, none⟩ = some (.int .i8 (A.getD p 0)) := by rw [ca, map8_at _ (by rw [FA.out.len]; exact hpM)]
        have hcb : w10.cell? ⟨gb, p, none⟩ = some (.int .i8 (B.getD p 0)) := by rw [cb, map8_at _ (by rw [FB.out.len]; exact hpM)]
        clear hpad hbd ca cb
        by_cases hw : 0 < ww
        · have SN : Hid (St w6 (w10.setCell ⟨gb, p, none⟩ (.int .i8 shi)) [(gb, (((B.set p shi).map (Value.int .i8)).toArray), 55), (ga, ((A.map (Value.int .i8)).toArray), 55)]) := by
            have q := S10.out.tail.set (i := p) (v := .int .i8 shi) (by simp; exact hne)
            rw [set_map] at q
            exact q
          have HN : Hid (Fl M slo shi sA (TLs m) (k + 1) A ∧ Fl M slo shi sB (TLs m) (k + 1) (B.set p shi)) := ⟨FA.out.skip (HPl.out m hlt) hkl.out Hp.out.1 (by rw [Hp.out.2]; exact decide_eq_false (fun q => q hw)), FB.out.put (HPl.out m hlt) hkl.out Hp.out.1 (by rw [Hp.out.2]; exact decide_eq_true hw)⟩
          go_wp2
          go_roundw
          case rel => exact ⟨k + 1, _, _, by omega, by go_num, HN.out.1, HN.out.2, SN.out⟩
          case measure => simp [intOf]; omega
        · have SN : Hid (St w6 (w10.setCell ⟨ga, p, none⟩ (.int .i8 shi)) [(gb, ((B.map (Value.int .i8)).toArray), 55), (ga, (((A.set p shi).map (Value.int .i8)).toArray), 55)]) := by
            have q := (S10.out.tail.up1.set (i := p) (v := .int .i8 shi) (by simp; exact fun e => hne e.symm)).up1
            rw [set_map] at q
            exact q
          have HN : Hid (Fl M slo shi sA (TLs m) (k + 1) (A.set p shi) ∧ Fl M slo shi sB (TLs m) (k + 1) B) := ⟨FA.out.put (HPl.out m hlt) hkl.out Hp.out.1 (by rw [Hp.out.2]; exact decide_eq_true hw), FB.out.skip (HPl.out m hlt) hkl.out Hp.out.1 (by rw [Hp.out.2]; exact decide_eq_false hw)⟩
          go_wp2
          go_roundw
          case rel => exact ⟨k + 1, _, _, by omega, by go_num, HN.out.1, HN.out.2, SN.out⟩
          case measure => simp [intOf]; omega
    obtain rfl : L = k := by omega
    obtain ⟨w10, rfl⟩ : ∃ w', w' = wr := ⟨_, rfl⟩
    clear hkL hk
    have SR : Hid (St W w10 [(Bs, #[Jv k0, Jv a0, Jv b0, Jv m0, Jv kh, Jv kw, Jv sh, Jv sw, Jv tp, Jv lf, Jv b2', Jv rt, .slice wa lw cw0, .slice ba lb cb0, Jv sm, Jv ss, Jv um, Jv us, Jv zp, Jv pd, Jv lo2, Jv hi2, Jv x0, Jv y0, Jv z0, Jv H, Jv V, Jv C], 49), (Bt, #[Jv T1, Jv T2], 28), (W.heap.size, #[Jv h, Jv w, Jv c, Jv lo, Jv hi, .slice (some x) on oc, Jv ot, Jv ((i : Int) + 1), Jv ch, Jv slo, Jv shi, Jv dp, Jv at', .slice ad n cap], 31)]) := S6.out.call Sk.out.below
    have HIa : Hid (IRow .i8 w10 (some ⟨ga, 0, none⟩) M M A) := irow_full Sk.out.h2 (FA.out.i8 hsp) FA.out.len hM0
    have HIb : Hid (IRow .i8 w10 (some ⟨gb, 0, none⟩) M M B) := irow_full Sk.out.h1 (FB.out.i8 hsp) FB.out.len hM0
    have hkk := (Hkf.out m hlt).2.2
    obtain ⟨-, -, -, -, -, -, c3, f3, z3, -⟩ := SR.out.rules
    go_wp2_with fail
    refine Calls.mono (HTo.out _ ga A HIa.out SR.out.below) ?_
    rintro e w11 ⟨⟨v, rfl, hOu⟩, hb⟩
    obtain ⟨gu, cu, rfl, hu1, hu2, hu3⟩ := own_at hOu (HSL.out A) hkk
    rw [HSA.out m A hlt FA.out] at hu3
    have Hu3 : Hid (w11.cell? ⟨gu, kf m, none⟩ = some (Jv (rl m))) := hu3
    have S11 : Hid (St W w11 [(Bs, #[Jv k0, Jv a0, Jv b0, Jv m0, Jv kh, Jv kw, Jv sh, Jv sw, Jv tp, Jv lf, Jv b2', Jv rt, .slice wa lw cw0, .slice ba lb cb0, Jv sm, Jv ss, Jv um, Jv us, Jv zp, Jv pd, Jv lo2, Jv hi2, Jv x0, Jv y0, Jv z0, Jv H, Jv V, Jv C], 49), (Bt, #[Jv T1, Jv T2], 28), (W.heap.size, #[Jv h, Jv w, Jv c, Jv lo, Jv hi, .slice (some x) on oc, Jv ot, Jv ((i : Int) + 1), Jv ch, Jv slo, Jv shi, Jv dp, Jv at', .slice ad n cap], 31)]) := SR.out.call hb
    have HIb1 : Hid (IRow .i8 w11 (some ⟨gb, 0, none⟩) M M B) := HIb.out.below hb
    clear hb hOu hu3 SR HIa HIb c3 f3 z3 Sk T6 FA
    obtain ⟨-, -, -, -, -, -, c3, f3, z3, -⟩ := S11.out.rules
    go_wp2_with fail
    refine Calls.mono (HTo.out _ gb B HIb1.out S11.out.below) ?_
    rintro e w12 ⟨⟨v, rfl, hOu⟩, hb⟩
    obtain ⟨gv, cv, rfl, hv1, hv2, hv3⟩ := own_at hOu (HSL.out B) hkk
    rw [HSB.out m B hlt FB.out] at hv3
    have Hv3 : Hid (w12.cell? ⟨gv, kf m, none⟩ = some (Jv (rh m))) := hv3
    have Hu4 : Hid (w12.cell? ⟨gu, kf m, none⟩ = some (Jv (rl m))) := (hb.cell (World.block_lt_of_cell? w11 _ Hu3.out)).trans Hu3.out
    have S12 : Hid (St W w12 [(Bs, #[Jv k0, Jv a0, Jv b0, Jv m0, Jv kh, Jv kw, Jv sh, Jv sw, Jv tp, Jv lf, Jv b2', Jv rt, .slice wa lw cw0, .slice ba lb cb0, Jv sm, Jv ss, Jv um, Jv us, Jv zp, Jv pd, Jv lo2, Jv hi2, Jv x0, Jv y0, Jv z0, Jv H, Jv V, Jv C], 49), (Bt, #[Jv T1, Jv T2], 28), (W.heap.size, #[Jv h, Jv w, Jv c, Jv lo, Jv hi, .slice (some x) on oc, Jv ot, Jv ((i : Int) + 1), Jv ch, Jv slo, Jv shi, Jv dp, Jv at', .slice ad n cap], 31)]) := S11.out.call hb
    clear hb hOu hv3 S11 HIb1 c3 f3 z3 FB Hu3
    obtain ⟨c1, f1, z1, -, -, -, c3, f3, z3, -⟩ := S12.out.rules
    have hkm := (Hkf.out m hlt).2.1
    have hmb := (Hkf.out m hlt).1
    obtain ⟨mc, hmc⟩ : ∃ mc, (m : Int) * C = mc := ⟨_, rfl⟩
    rw [hmc] at hkm hmb
    obtain ⟨kk, hk9⟩ : ∃ kk, kf m = kk := ⟨_, rfl⟩
    rw [hk9] at hkm hkk Hu4 Hv3
    have Hkm : Hid (mc + ch - 1 = (kk : Int)) := hkm
    clear hkm hk9
    obtain ⟨r1, hr1⟩ : ∃ r, rl m = r := ⟨_, rfl⟩
    obtain ⟨r2, hr2⟩ : ∃ r, rh m = r := ⟨_, rfl⟩
    have hE := HEn.out m hlt
    rw [hr1] at Hu4 hE
    rw [hr2] at Hv3 hE
    have Hr : Hid (rl m = r1 ∧ rh m = r2) := ⟨hr1, hr2⟩
    clear hr1 hr2
    go_upto_region 31 with fail
    rw [Hkm.out]
    clear c1 f1 z1 c3 f3 z3 hmc hmb
    have h12 : St w12 w12 [] := St.start w12
    obtain ⟨c1, g1, c2, g2, c3, g3, -⟩ := S12.out.rulesM
    have hxu := wd_old h12 Hu4.out
    have hxv := wd_old h12 Hv3.out
    have hne9 := Nonempty.intro (Wd.mk _ h12)
    have hk0 : decide ((kk : Int) < 0) = false := decide_eq_false (by omega)
    have hk1 : decide ((NU : Int) ≤ (kk : Int)) = false := decide_eq_false (by omega)
    have hk2 : (kk : Int) < (NU : Int) := by omega
    have hk3 : decide (NU ≤ kk) = false := decide_eq_false (by omega)
    have hk4 : decide (kk < NU) = true := decide_eq_true hkk
    have hk5 : decide ((kk : Int) < (NU : Int)) = true := decide_eq_true hk2
    have H1 : Hid (∀ w, _) := xhas_t (a := T1) (b := T2) (x := r1) (decide_eq_true hE.1)
    have H2 : Hid (∀ w, _) := xhas_t (a := T1) (b := T2) (x := r2) (decide_eq_true hE.2)
    refine region_held h12 (by kernel_rfl) (by kernel_rfl) ?_
    repeat (go_big_quiet_step ((go_at_call 13; first | (with_reducible exact held_of (H1.out _)) | (with_reducible exact held_of (H2.out _)))))
    skip
    refine wpQuiet_nil ?_
    intro _ hw'
    obtain ⟨nq, rfl⟩ := hw'
    have b13 := nq.h.below
    obtain ⟨w13, hw13⟩ : ∃ w, nq.w = w := ⟨_, rfl⟩
    rw [hw13] at b13 ⊢
    have S13 : Hid (St W w13 [(Bs, #[Jv k0, Jv a0, Jv b0, Jv m0, Jv kh, Jv kw, Jv sh, Jv sw, Jv tp, Jv lf, Jv b2', Jv rt, .slice wa lw cw0, .slice ba lb cb0, Jv sm, Jv ss, Jv um, Jv us, Jv zp, Jv pd, Jv lo2, Jv hi2, Jv x0, Jv y0, Jv z0, Jv H, Jv V, Jv C], 49), (Bt, #[Jv T1, Jv T2], 28), (W.heap.size, #[Jv h, Jv w, Jv c, Jv lo, Jv hi, .slice (some x) on oc, Jv ot, Jv ((i : Int) + 1), Jv ch, Jv slo, Jv shi, Jv dp, Jv at', .slice ad n cap], 31)]) := S12.out.call b13
    have Hu5 : Hid (w13.cell? ⟨gu, kk, none⟩ = some (Jv r1)) := (b13.cell (World.block_lt_of_cell? w12 _ Hu4.out)).trans Hu4.out
    have Hv5 : Hid (w13.cell? ⟨gv, kk, none⟩ = some (Jv r2)) := (b13.cell (World.block_lt_of_cell? w12 _ Hv3.out)).trans Hv3.out
    clear c1 g1 c2 g2 c3 g3 hxu hxv hne9 h12 hw13 b13 S12 Hu4 Hv3 H1 H2
    go_upto_region 33 with fail
    go_cut [9] from 230 to 239 (fun x wx => x = .bool (b1 || (r1 == T1)) ∧ Below w13.heap.size w13 wx)
    case first =>
      have h1 : St w13 w13 [] := St.start w13
      obtain ⟨c1, g1, c2, g2, c3, g3, -⟩ := S13.out.rulesM
      have hxu := wd_old h1 Hu5.out
      have hne9 := Nonempty.intro (Wd.mk _ h1)
      cases b1
      all_goals
        refine region_held h1 (by kernel_rfl) (by kernel_rfl) ?_
        repeat (go_big_quiet_step (fail))
        refine wpQuiet_nil ?_
        intro _ hw'
        obtain ⟨nq, rfl⟩ := hw'
        refine (show ∀ a' w', Met _ a' w' → _ from by assumption) _ _ ?_
        go_meet
        exact ⟨rfl, nq.h.below⟩
    obtain ⟨rfl, hb⟩ := hcut
    obtain ⟨w14, rfl⟩ : ∃ w', w' = wc := ⟨_, rfl⟩
    have S14 : Hid (St W w14 [(Bs, #[Jv k0, Jv a0, Jv b0, Jv m0, Jv kh, Jv kw, Jv sh, Jv sw, Jv tp, Jv lf, Jv b2', Jv rt, .slice wa lw cw0, .slice ba lb cb0, Jv sm, Jv ss, Jv um, Jv us, Jv zp, Jv pd, Jv lo2, Jv hi2, Jv x0, Jv y0, Jv z0, Jv H, Jv V, Jv C], 49), (Bt, #[Jv T1, Jv T2], 28), (W.heap.size, #[Jv h, Jv w, Jv c, Jv lo, Jv hi, .slice (some x) on oc, Jv ot, Jv ((i : Int) + 1), Jv ch, Jv slo, Jv shi, Jv dp, Jv at', .slice ad n cap], 31)]) := S13.out.call hb
    have Hv6 : Hid (w14.cell? ⟨gv, kk, none⟩ = some (Jv r2)) := (hb.cell (World.block_lt_of_cell? w13 _ Hv5.out)).trans Hv5.out
    clear hb S13 Hu5
    have N1 : Hid (orB (fun j => rl j == T1) (m + 1) = (b1 || (r1 == T1))) := by unfold Hid; rw [orB, Hb1.out, Hr.out.1]
    have N2 : Hid (orB (fun j => rh j == T2) (m + 1) = (b2 || (r2 == T2))) := by unfold Hid; rw [orB, Hb2.out, Hr.out.2]
    obtain ⟨b3, hb3⟩ : ∃ b, (b1 || (r1 == T1)) = b := ⟨_, rfl⟩
    rw [hb3] at N1 ⊢
    clear hb3
    go_upto_region 34 with fail
    have h1 : St w14 w14 [] := St.start w14
    obtain ⟨c1, g1, c2, g2, c3, g3, -⟩ := S14.out.rulesM
    have hxu := wd_old h1 Hv6.out
    have hne9 := Nonempty.intro (Wd.mk _ h1)
    cases b2
    all_goals
      refine region_held h1 (by kernel_rfl) (by kernel_rfl) ?_
      repeat (go_big_quiet_step (fail))
      refine wpQuiet_nil ?_
      intro _ hw'
      obtain ⟨nq, rfl⟩ := hw'
      have b15 := nq.h.below
      obtain ⟨w15, hw15⟩ : ∃ w, nq.w = w := ⟨_, rfl⟩
      rw [hw15] at b15 ⊢
      have S15 : Hid (St W w15 [(Bs, #[Jv k0, Jv a0, Jv b0, Jv m0, Jv kh, Jv kw, Jv sh, Jv sw, Jv tp, Jv lf, Jv b2', Jv rt, .slice wa lw cw0, .slice ba lb cb0, Jv sm, Jv ss, Jv um, Jv us, Jv zp, Jv pd, Jv lo2, Jv hi2, Jv x0, Jv y0, Jv z0, Jv H, Jv V, Jv C], 49), (Bt, #[Jv T1, Jv T2], 28), (W.heap.size, #[Jv h, Jv w, Jv c, Jv lo, Jv hi, .slice (some x) on oc, Jv ot, Jv ((i : Int) + 1), Jv ch, Jv slo, Jv shi, Jv dp, Jv at', .slice ad n cap], 31)]) := S14.out.call b15
      clear c1 g1 c2 g2 c3 g3 hxu hne9 h1 hw15 b15 S14 Hv6
      go_wp2
      go_roundw
      case rel => exact ⟨m + 1, by omega, by omega, by rw [N1.out], by rw [N2.out]; rfl, by go_num, S15.out⟩
      case measure => simp [intOf]; omega
end Go.Proofs.Ytcphealigifdiaa

/- BoundReached. -/
namespace Go.Proofs.Ytcphealigifdiaa
open Go.ChangeShapes Go.WideShapes Go.ChangeAt Go.RowKit
set_option linter.unusedVariables false
theorem suL_at {k kh kw sh sw tp lf bt rt h w c C p ch : Int} {zs bs x : List Int} {n m : Nat} (hch : 1 ≤ ch ∧ ch ≤ C) (hn : m * C.toNat + (ch - 1).toNat < n) :
    (suL k kh kw sh sw tp lf bt rt h w c C p zs bs x n).getD (m * C.toNat + (ch - 1).toNat) 0 = suA k kh kw sh sw tp lf bt rt h w c p zs bs x ch (m : Int) := by
  unfold suL
  rw [List.getD_eq_getElem?_getD, List.getElem?_map, List.getElem?_range hn]
  have e : ((m * C.toNat + (ch - 1).toNat : Nat) : Int) = (m : Int) * C + ((ch - 1).toNat : Nat) := by
    rw [Int.natCast_add, Int.natCast_mul, Int.toNat_of_nonneg (show 0 ≤ C by omega)]
  obtain ⟨e1, e2⟩ := divmod_at (C := C) (q := m) (d := (ch - 1).toNat) (by omega)
  simp only [Option.map_some, Option.getD_some]
  rw [e, e1, e2, show (((ch - 1).toNat : Nat) : Int) + 1 = ch by omega]
theorem kf_ok {N : Nat} {HV C ch : Int} (hN : (N : Int) = HV) (hC : 1 ≤ C ∧ C ≤ 1024) (hch : 1 ≤ ch ∧ ch ≤ C) (hNb : N ≤ 1048576) {m : Nat} (hm : m < N) :
    (0 ≤ (m : Int) * C ∧ (m : Int) * C ≤ 10000000000) ∧ (m : Int) * C + ch - 1 = ((m * C.toNat + (ch - 1).toNat : Nat) : Int) ∧ m * C.toNat + (ch - 1).toNat < (HV * C).toNat := by
  have h0 := Int.mul_nonneg (show (0 : Int) ≤ (m : Int) by omega) (show 0 ≤ C by omega)
  have h1 := Int.mul_le_mul_of_nonneg_right (show (m : Int) ≤ 1048576 by omega) (show 0 ≤ C by omega)
  have h2 := Int.mul_le_mul_of_nonneg_right (show (m : Int) + 1 ≤ HV by omega) (show 0 ≤ C by omega)
  rw [Int.add_mul, Int.one_mul] at h2
  have e : ((m * C.toNat + (ch - 1).toNat : Nat) : Int) = (m : Int) * C + ((ch - 1).toNat : Nat) := by
    rw [Int.natCast_add, Int.natCast_mul, Int.toNat_of_nonneg (show 0 ≤ C by omega)]
  refine ⟨⟨h0, by omega⟩, by rw [e]; omega, ?_⟩
  omega
theorem boundReached_walk (h w c lo hi : Int) (oa : Option Addr) (on oc : Nat) (ot op ch slo shi dp at' : Int) (ad : Option Addr) (n cap : Nat) (xs : List Int) (W : World) (_ : (Lit.int .i64 h).wf = true) (_ : (Lit.int .i64 w).wf = true) (_ : (Lit.int .i64 c).wf = true) (_ : (Lit.int .i64 lo).wf = true) (_ : (Lit.int .i64 hi).wf = true) (wo : ORow 22 (OpIn W) W oa on oc) (hr : on * 208 ≤ 140737488351232) (_ : (Lit.int .i64 ot).wf = true) (_ : (Lit.int .i64 op).wf = true) (_ : (Lit.int .i64 ch).wf = true) (_ : (Lit.int .i64 slo).wf = true) (_ : (Lit.int .i64 shi).wf = true) (_ : (Lit.int .i64 dp).wf = true) (_ : (Lit.int .i64 at').wf = true) (hX : IRow .i8 W ad n cap xs) (hrx : n * 1 ≤ 140737488351232) : Calls Try.prog 4 #[.agg #[Jv h, Jv w, Jv c, Jv lo, Jv hi, .slice oa on oc, Jv ot, Jv op, Jv ch, Jv slo, Jv shi, Jv dp, Jv at', .slice ad n cap]] W fun e w' => e = .returned (.bool true) ∧ Below W.heap.size W w' := by
  obtain ⟨O, Z, B, hL⟩ := lrow_of wo
  obtain ⟨E, hf⟩ : ∃ E, fiE O h w c lo hi ot on op = E := ⟨_, rfl⟩
  by_cases hE : E = 0
  rotate_left
  · have hO : ∀ W', Below W.heap.size W W' → _ := fun W' hb => of_bad h w c lo hi ot oa on oc O Z B W' (hL.below hb) op ch 0 E hf hE
    exact reached_e h w c lo hi oa on oc ot op ch slo shi dp at' ad n cap W 0 E E hE
      (fun W' hb => btot_bad h w c lo hi ot op ch oa on oc W' slo shi E hE (fun W'' hb' => hO W'' (hb.trans (hb'.mono hb.size)))) (fun W' hb => posT_bad h w c lo hi ot oa on oc O Z B W' (hL.below hb) op E hf hE)
  subst hE
  obtain ⟨RL, Rw, hR, i, x, wa, lw, cw, ba, lb, cb, x0, y0, z0, H, V, C, rfl, hF⟩ := found h w c lo hi ot oa on oc O Z B W hL op hf
  by_cases hch : 1 ≤ ch ∧ ch ≤ C
  rotate_left
  · have hO : ∀ W', Below W.heap.size W W' → _ := fun W' hb => of_place h w c lo hi ot oa on oc O Z B W' (hL.below hb) ch 0 RL Rw hR i x wa lw cw ba lb cb x0 y0 z0 H V C (hF.below hb) (fun q => hch q.1)
    exact reached_e h w c lo hi oa on oc ot _ ch slo shi dp at' ad n cap W (H * V) 3 0 (by decide)
      (fun W' hb => btot_bad h w c lo hi ot _ ch oa on oc W' slo shi 3 (by decide) (fun W'' hb' => hO W'' (hb.trans (hb'.mono hb.size)))) (fun W' hb => posT_ok h w c lo hi ot oa on oc O Z B W' (hL.below hb) RL Rw hR i x wa lw cw ba lb cb x0 y0 z0 H V C (hF.below hb))
  have hT := fun (W' : World) (hb : Below W.heap.size W W') => btot_ok h w c lo hi ot oa on oc O Z B W' (hL.below hb) ch RL Rw hR i x wa lw cw ba lb cb x0 y0 z0 H V C (hF.below hb) hch slo shi
  have hPo := fun (W' : World) (hb : Below W.heap.size W W') => posT_ok h w c lo hi ot oa on oc O Z B W' (hL.below hb) RL Rw hR i x wa lw cw ba lb cb x0 y0 z0 H V C (hF.below hb)
  cases hs : vbB slo shi with
  | false =>
    rw [spR_f hs] at hT
    exact reached_e h w c lo hi oa on oc ot _ ch slo shi dp at' ad n cap W (H * V) 30 0 (by decide) hT hPo
  | true =>
    rw [spR_t hs] at hT
    have hSit := hF.2.2.2.2.2.2.2.2.2.1
    have hz := hF.2.2.2.2.2.1.2.2.2.1
    obtain ⟨-, -, -, -, hp, hbi, hHV⟩ := bfacts hL RL Rw hR i x wa lw cw ba lb cb x0 y0 z0 H V C hF hch
    have hv := vbB_yes hs
    have hox : oa = some x := hF.2.1
    subst hox
    have hon : on ≤ 1000000000000 := by omega
    have hva := vS_bd hSit.2.1
    have hvb := vS_bd hSit.2.2.1
    have hC := (vS_yes hSit.2.2.1).2.2.1
    have eN : (((H * V).toNat : Nat) : Int) = H * V := by omega
    have hTl : ∀ m : Nat, (siL (O i 0) (O i 4) (O i 5) (O i 6) (O i 7) (O i 8) (O i 9) (O i 10) (O i 11) x0 y0 z0 ch (m : Int) (Z i)).length = (stR (O i 0) (O i 4) (O i 5) x0 y0 z0).toNat := fun m => by unfold siL; rw [tmL_len]
    have hf1 : ∀ m : Nat, _ := fun m => siL_facts hSit hz hch (m : Int)
    have hrow : ∀ m : Nat, _ := fun m => row_facts hSit hz hch hv hp (m : Int)
    obtain ⟨a1, a2⟩ := hbT_ends (biA (O i 0) ch (B i)) (fun (j : Nat) => enL slo shi (O i 19) (siL (O i 0) (O i 4) (O i 5) (O i 6) (O i 7) (O i 8) (O i 9) (O i 10) (O i 11) x0 y0 z0 ch (j : Int) (Z i))) (H * V).toNat (by omega)
    refine reached_k h w c lo hi i x on oc ot ch slo shi dp at' ad n cap W (O i 0) (O i 1) (O i 2) (O i 3) (O i 4) (O i 5) (O i 6) (O i 7) (O i 8) (O i 9) (O i 10) (O i 11) wa lw cw ba lb cb (O i 14) (O i 15) (O i 16) (O i 17) (O i 18) (O i 19) (O i 20) (O i 21) x0 y0 z0 H V C _ _ (H * V).toNat (x0 * y0 * z0).toNat (stR (O i 0) (O i 4) (O i 5) x0 y0 z0).toNat (H * V * C).toNat (fun m => siL (O i 0) (O i 4) (O i 5) (O i 6) (O i 7) (O i 8) (O i 9) (O i 10) (O i 11) x0 y0 z0 ch (m : Int) (Z i)) (fun m => (suS (biA (O i 0) ch (B i), biA (O i 0) ch (B i)) ((fun (j : Nat) => enL slo shi (O i 19) (siL (O i 0) (O i 4) (O i 5) (O i 6) (O i 7) (O i 8) (O i 9) (O i 10) (O i 11) x0 y0 z0 ch (j : Int) (Z i))) m)).1) (fun m => (suS (biA (O i 0) ch (B i), biA (O i 0) ch (B i)) ((fun (j : Nat) => enL slo shi (O i 19) (siL (O i 0) (O i 4) (O i 5) (O i 6) (O i 7) (O i 8) (O i 9) (O i 10) (O i 11) x0 y0 z0 ch (j : Int) (Z i))) m)).2) (fun m => m * C.toNat + (ch - 1).toNat) (fun (xs' : List Int) => suL (O i 0) (O i 4) (O i 5) (O i 6) (O i 7) (O i 8) (O i 9) (O i 10) (O i 11) x0 y0 z0 C (O i 19) (Z i) (B i) xs' (H * V * C).toNat) hT
      (fun W' hb => by rw [eN]; exact hPo W' hb)
      (fun W' hb => rfind_ok h w c lo hi ot (some x) on oc O Z B W' (hL.below hb) hon 0 RL Rw hR i x wa lw cw ba lb cb x0 y0 z0 H V C (hF.below hb) ⟨by omega, by omega⟩)
      (fun W' m hm hb => (of_ok h w c lo hi ot (some x) on oc O Z B W' (hL.below hb) ch (m : Int) RL Rw hR i x wa lw cw ba lb cb x0 y0 z0 H V C (hF.below hb) hch ⟨by omega, by omega⟩).mono fun e w' q => ?_)
      (fun W' g xs' hI hb => (totals_ok h w c lo hi ot (some x) on oc O Z B W' (hL.below hb) RL Rw hR i x wa lw cw ba lb cb x0 y0 z0 H V C (hF.below hb) (some ⟨g, 0, none⟩) _ _ xs' hI).mono fun e w' q => ?_)
      ⟨by omega, by omega⟩ (by omega) (by omega) (by omega) hv (fun m _ => hTl m) (by rw [← hTl 0]; exact (hf1 0).1) (fun m _ => ⟨fun k hk => ?_, fun k l hk hl hn he => siL_inj hSit hch hk hl hn he⟩) hC hch
      (fun m hm => kf_ok eN hC hch (by omega) hm) (fun A => suL_len _ _ _ _ _ _ _ _ _ _ _ _ _ _ _ _ _ _) (by omega) (fun m A hm hA => ?_) (fun m A hm hA => ?_) (fun m hm => ?_) a1 a2
    · obtain ⟨⟨v, h1, h2⟩, h3⟩ := q
      exact ⟨⟨v, _, h1, h2⟩, h3⟩
    · obtain ⟨h1, h2⟩ := q
      rw [if_pos (by omega)] at h1
      exact ⟨h1, h2⟩
    · exact (by have := ((hf1 m).2 _ (getD_in hk)).2; unfold pls; omega)
    · rw [← hTl m] at hA
      have hk := (kf_ok eN hC hch (by omega) hm).2.2
      show (suL (O i 0) (O i 4) (O i 5) (O i 6) (O i 7) (O i 8) (O i 9) (O i 10) (O i 11) x0 y0 z0 C (O i 19) (Z i) (B i) A (H * V * C).toNat).getD (m * C.toNat + (ch - 1).toNat) 0 = _
      rw [suL_at hch hk]
      exact hA.lo
    · rw [← hTl m] at hA
      have hk := (kf_ok eN hC hch (by omega) hm).2.2
      show (suL (O i 0) (O i 4) (O i 5) (O i 6) (O i 7) (O i 8) (O i 9) (O i 10) (O i 11) x0 y0 z0 C (O i 19) (Z i) (B i) A (H * V * C).toNat).getD (m * C.toNat + (ch - 1).toNat) 0 = _
      rw [suL_at hch hk]
      exact hA.hi
    · have h1 := tot_at (biA (O i 0) ch (B i)) (fun (j : Nat) => enL slo shi (O i 19) (siL (O i 0) (O i 4) (O i 5) (O i 6) (O i 7) (O i 8) (O i 9) (O i 10) (O i 11) x0 y0 z0 ch (j : Int) (Z i))) (H * V).toNat m hm
      have h2 := suS_vd (s := (biA (O i 0) ch (B i), biA (O i 0) ch (B i))) (hrow m).1 (hrow m).2.2 (by unfold Vd; simp only; omega)
      unfold Inn at h1
      unfold Vd at h2
      exact ⟨⟨h1.1, Int.le_trans h2.2.1 h1.2⟩, ⟨Int.le_trans h1.1 h2.2.1, h1.2⟩⟩
end Go.Proofs.Ytcphealigifdiaa
