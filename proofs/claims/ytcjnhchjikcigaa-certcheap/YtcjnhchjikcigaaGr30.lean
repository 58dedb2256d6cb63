/- The document's Check, Chans: what each returns. What the document's Form of layer 15 returns. What the document's Cost of layer 15 returns. -/
import Derived.Test.YtcjnhchjikcigaaGr16
import Derived.Test.YtcjnhchjikcigaaGr23
import Derived.Test.YtcjnhchjikcigaaGr25
import Derived.Test.YtcjnhchjikcigaaGr28
/- The document's Check, Chans: what each returns. -/
namespace Go.Proofs.Ytcjnhchjikcigaa
open Go.ChangeShapes Go.WideShapes Go.ChangeAt Go.RowKit
set_option linter.unusedVariables false
set_option maxHeartbeats 4000000 in
set_option maxRecDepth 100000 in
theorem rcheck_any (h w c lo hi ot : Int) (oa : Option Addr) (on oc : Nat) (O : Nat → Nat → Int) (Z B : Nat → List Int) (W : World) (hL : LRow W oa on oc O Z B) (hon : on ≤ 1000000000000) (Re Ra Rw : Int) (RL : List (Int × Int × Int)) (hG : gtR O h w c lo hi ot on = (Re, Ra, RL, Rw)) :
    Calls Try.prog 32 #[.agg #[.int .i64 h, .int .i64 w, .int .i64 c, .int .i64 lo, .int .i64 hi, .slice oa on oc, .int .i64 ot]] W fun e w' => e = .returned (.agg #[.int .i64 Re, .int .i64 Ra, .int .i64 0]) ∧ Below W.heap.size W w' := by
  have hK : Hid (∀ w', Below W.heap.size W w' → _) := fun w' hb => look_any h w c lo hi ot oa on oc O Z B w' (hL.below hb) hon
  rw [hG] at hK
  simp only at hK
  clear hL hG
  have s0 := ((St.start W).new (c := #[.int .i64 h, .int .i64 w, .int .i64 c, .int .i64 lo, .int .i64 hi, .slice oa on oc, .int .i64 ot]) (t := 26)).new (c := #[.int .i64 0, .int .i64 0, .int .i64 0]) (t := 39)
  simp only [World.size_alloc] at s0
  go_enter Try.func32, Try.ntmps32
  go_wp2_with fail
  refine (hK.out _ s0.below).mono ?_
  rintro e w1 ⟨v, rfl, hO, hb⟩
  obtain ⟨va, vc, rfl⟩ := hO.slice
  have s1 := s0.call hb
  obtain ⟨c1, f1, z1, c2, f2, z2, -⟩ := s1.rules
  have Hs : Hid (Below W.heap.size W w1) := s1.below
  clear hb hO s0 s1
  go_wp2
  exact bodyPost_ret (v := .agg #[.int .i64 Re, .int .i64 Ra, .int .i64 0]) (by simp [results, Try.results32, go_sem, *]) rfl ⟨rfl, bt (set3b Hs.out (by omega)) (bal _ _)⟩
theorem osh_at {w : World} {base : Nat} {v : Value} {L : List (Int × Int × Int)} {n : Nat} (h : OSh w base v L) (hn : L.length = n + 1) : ∃ g cap, v = .slice (some ⟨g, 0, none⟩) (n + 1) cap ∧ n + 1 ≤ cap ∧ cap ≤ 9223372036854775807 ∧ ∀ i, i < n + 1 → w.cell? ⟨g, i * 3 + 2, none⟩ = some (.int .i64 (L.getD i (0, 0, 0)).2.2) := by
  obtain ⟨g, cap, cur, q1, q2, q3, q4, q5⟩ := h.cu (by omega)
  unfold maxLen at q5
  refine ⟨g, cap, by rw [q1, hn], by rw [← hn]; exact q4.2.1, by omega, fun i hi => ?_⟩
  obtain ⟨b1, b2, b3⟩ := q4.at (show i < L.length by omega)
  rw [(cells_at q3).1]
  exact b3
set_option maxHeartbeats 4000000 in
set_option maxRecDepth 100000 in
theorem rchans_any (h w c lo hi ot : Int) (oa : Option Addr) (on oc : Nat) (O : Nat → Nat → Int) (Z B : Nat → List Int) (W : World) (hL : LRow W oa on oc O Z B) (Rw : Int) (RL : List (Int × Int × Int)) (hG : gtR O h w c lo hi ot on = (0, 0, RL, Rw)) (i : Nat) (hi0 : i < on) :
    Calls Try.prog 34 #[.agg #[.int .i64 h, .int .i64 w, .int .i64 c, .int .i64 lo, .int .i64 hi, .slice oa on oc, .int .i64 ot], .int .i64 ((i : Int) + 1)] W fun e w' => e = .returned (.int .i64 (nuP O RL i)) ∧ Below W.heap.size W w' := by
  obtain ⟨-, hRl, ho64, -, -, -⟩ := gtR_ok hG
  have hK : Hid (∀ w', Below W.heap.size W w' → _) := fun w' hb => look_any h w c lo hi ot oa on oc O Z B w' (hL.below hb) (by omega)
  rw [hG] at hK
  simp only at hK
  obtain ⟨x, wa, lw, cw, ba, lb, cb, rfl, -, -, hop⟩ := hL.m.at hi0
  have hk := hop 0 _ rfl
  have e0 : (x.add (i * 22)).add 0 = x.add (i * 22) := by rw [Addr.add_add, Nat.add_zero]
  rw [e0] at hk
  have Hk : Hid (W.cell? (x.add (i * 22)) = some (.int .i64 (O i 0))) := hk
  have m1 := hL.1
  have m2 := hL.2.1
  unfold maxLen at m2
  have HR : Hid (∀ w, _) := rred_any (O i 0)
  obtain ⟨nu, hnu⟩ : ∃ nu, nuP O RL i = nu := ⟨_, rfl⟩
  rw [hnu]
  have HN : Hid ((if rdB (O i 0) = true then (RL.getD (i + 1) (0, 0, 0)).2.2 else 0) = nu) := hnu
  clear hL hG hop hk hnu
  have s0 := (St.start W).new (c := #[.int .i64 h, .int .i64 w, .int .i64 c, .int .i64 lo, .int .i64 hi, .slice (some x) on oc, .int .i64 ot]) (t := 26)
  go_enter Try.func34, Try.ntmps34
  go_wp2_with fail
  refine (hK.out _ s0.below).mono ?_
  rintro e w1 ⟨v, rfl, hO, hb⟩
  obtain ⟨g, cap, rfl, hcap, hcm, hsh⟩ := osh_at hO hRl
  have s1 := (s0.call hb).call (bal w1 (.cells #[.int .i64 0, .int .i64 0, .int .i64 0] 39))
  have hk1 : (w1.alloc (.cells #[.int .i64 0, .int .i64 0, .int .i64 0] 39)).cell? (x.add (i * 22)) = some (.int .i64 (O i 0)) := (s1.below.cell (World.block_lt_of_cell? W _ Hk.out)).trans Hk.out
  have hc1 := hsh (i + 1) (by omega)
  have hc2 : (w1.alloc (.cells #[.int .i64 0, .int .i64 0, .int .i64 0] 39)).cell? ⟨g, (i + 1) * 3 + 2, none⟩ = some (.int .i64 (RL.getD (i + 1) (0, 0, 0)).2.2) := ((bal w1 _).cell (World.block_lt_of_cell? w1 _ hc1)).trans hc1
  obtain ⟨c1, f1, z1, -⟩ := (s0.call hb).rules
  clear hb hO s0 hsh hc1 hRl hK Hk
  go_upto_region 2 with fail
  obtain ⟨w2, hw2⟩ : ∃ w2, w1.alloc (.cells #[.int .i64 0, .int .i64 0, .int .i64 0] 39) = w2 := ⟨_, rfl⟩
  rw [hw2] at s1 hk1 hc2 ⊢
  have S2 : Hid (St W w2 _) := s1
  clear hw2 c1 f1 z1
  obtain ⟨c1, f1, z1, -⟩ := s1.rules
  clear s1
  obtain ⟨C, hC⟩ : ∃ C, (RL.getD (i + 1) (0, 0, 0)).2.2 = C := ⟨_, rfl⟩
  rw [hC] at HN hc2
  clear hC
  cases q : rdB (O i 0) with
  | true =>
    have hn := HN.out
    rw [q, if_pos rfl] at hn
    subst hn
    rw [q] at HR
    go_wp2_with fail
    refine (HR.out _).mono ?_
    rintro e w3 ⟨rfl, hw3⟩
    have hw3' := hw3.symm
    subst hw3'
    go_wp2
    go_ret
    exact ⟨rfl, S2.out.below⟩
  | false =>
    have hn := HN.out
    rw [q, if_neg (by decide)] at hn
    subst hn
    rw [q] at HR
    go_wp2_with fail
    refine (HR.out _).mono ?_
    rintro e w3 ⟨rfl, hw3⟩
    have hw3' := hw3.symm
    subst hw3'
    go_wp2
    go_ret
    exact ⟨rfl, S2.out.below⟩
end Go.Proofs.Ytcjnhchjikcigaa

/- What the document's Form of layer 15 returns. -/
namespace Go.Proofs.Ytcjnhchjikcigaa
open Go.ChangeShapes Go.WideShapes Go.ChangeAt Go.RowKit
set_option linter.unusedVariables false
set_option maxHeartbeats 4000000 in
set_option maxRecDepth 100000 in
theorem rform_e (h w c lo hi ot : Int) (oa : Option Addr) (on oc : Nat) (O : Nat → Nat → Int) (Z B : Nat → List Int) (ra : Option Addr) (rn rc : Nat) (R : List (Int × Int)) (pa : Option Addr) (pn pc : Nat) (P : List (List Pl)) (W : World) (hL : LRow W oa on oc O Z B) (hon : on ≤ 1000000000000) (Re Ra Rw : Int) (RL : List (Int × Int × Int)) (hG : gtR O h w c lo hi ot on = (Re, Ra, RL, Rw)) (he : Re ≠ 0) :
    Calls Try.prog 13 #[.agg #[.int .i64 h, .int .i64 w, .int .i64 c, .int .i64 lo, .int .i64 hi, .slice oa on oc, .int .i64 ot], .agg #[.slice ra rn rc, .slice pa pn pc]] W fun e w' => e = .returned (.agg #[.int .i64 Re, .int .i64 Ra, .int .i64 0]) ∧ Below W.heap.size W w' := by
  have hK : Hid (∀ w', Below W.heap.size W w' → _) := fun w' hb => rcheck_any h w c lo hi ot oa on oc O Z B w' (hL.below hb) hon Re Ra Rw RL hG
  have he1 : (Re == 0) = false := by simp [he]
  clear hG hL
  have s0 := (((St.start W).new (c := #[.int .i64 h, .int .i64 w, .int .i64 c, .int .i64 lo, .int .i64 hi, .slice oa on oc, .int .i64 ot]) (t := 26)).new (c := #[.slice ra rn rc, .slice pa pn pc]) (t := 30)).new (c := #[.int .i64 0, .int .i64 0, .int .i64 0]) (t := 39)
  simp only [World.size_alloc] at s0
  go_enter Try.func13, Try.ntmps13
  go_wp2_with fail
  refine (hK.out _ s0.below).mono ?_
  rintro e w1 ⟨rfl, hb⟩
  have s1 := s0.call hb
  obtain ⟨c1, f1, z1, c2, f2, z2, c3, f3, z3, -⟩ := s1.rules
  have Hs : Hid (Below W.heap.size W w1) := s1.below
  clear hb s0 s1 hK
  go_wp2
  exact bodyPost_ret (v := .agg #[.int .i64 Re, .int .i64 Ra, .int .i64 0]) (by simp [results, Try.results13, go_sem, *]) rfl ⟨rfl, bt (set3b Hs.out (by omega)) (bal _ _)⟩
set_option maxHeartbeats 4000000 in
set_option maxRecDepth 100000 in
theorem rform_l (h w c lo hi ot : Int) (oa : Option Addr) (on oc : Nat) (O : Nat → Nat → Int) (Z B : Nat → List Int) (ra : Option Addr) (rn rc : Nat) (R : List (Int × Int)) (pa : Option Addr) (pn pc : Nat) (P : List (List Pl)) (W : World) (hL : LRow W oa on oc O Z B) (Rw : Int) (RL : List (Int × Int × Int)) (hG : gtR O h w c lo hi ot on = (0, 0, RL, Rw)) (hrn : rn ≤ 140737488351232) (hpn : pn ≤ 140737488351232) (hl : ¬ (rn = on + 1 ∧ pn = on)) :
    Calls Try.prog 13 #[.agg #[.int .i64 h, .int .i64 w, .int .i64 c, .int .i64 lo, .int .i64 hi, .slice oa on oc, .int .i64 ot], .agg #[.slice ra rn rc, .slice pa pn pc]] W fun e w' => e = .returned (.agg #[.int .i64 70, .int .i64 0, .int .i64 0]) ∧ Below W.heap.size W w' := by
  obtain ⟨-, hRl, ho64, -, -, -⟩ := gtR_ok hG
  have hK : Hid (∀ w', Below W.heap.size W w' → _) := fun w' hb => rcheck_any h w c lo hi ot oa on oc O Z B w' (hL.below hb) (by omega) 0 0 Rw RL hG
  clear hG hL
  have s0 := (((St.start W).new (c := #[.int .i64 h, .int .i64 w, .int .i64 c, .int .i64 lo, .int .i64 hi, .slice oa on oc, .int .i64 ot]) (t := 26)).new (c := #[.slice ra rn rc, .slice pa pn pc]) (t := 30)).new (c := #[.int .i64 0, .int .i64 0, .int .i64 0]) (t := 39)
  simp only [World.size_alloc] at s0
  go_enter Try.func13, Try.ntmps13
  go_wp2_with fail
  refine (hK.out _ s0.below).mono ?_
  rintro e w1 ⟨rfl, hb⟩
  have s1 := s0.call hb
  obtain ⟨c1, f1, z1, c2, f2, z2, c3, f3, z3, -⟩ := s1.rules
  have Hs : Hid (Below W.heap.size W w1) := s1.below
  clear hb s0 s1 hRl hK
  by_cases q1 : (rn : Int) = (on : Int) + 1
  · have q2 : ¬ (pn : Int) = (on : Int) := by omega
    clear hl
    go_wp2
    exact bodyPost_ret (v := .agg #[.int .i64 70, .int .i64 0, .int .i64 0]) (by simp [results, Try.results13, go_sem, *]) rfl ⟨rfl, bt (set3b Hs.out (by omega)) (bal _ _)⟩
  · clear hl
    go_wp2
    exact bodyPost_ret (v := .agg #[.int .i64 70, .int .i64 0, .int .i64 0]) (by simp [results, Try.results13, go_sem, *]) rfl ⟨rfl, bt (set3b Hs.out (by omega)) (bal _ _)⟩
set_option maxHeartbeats 8000000 in
set_option maxRecDepth 100000 in
theorem rform_w (h w c lo hi ot : Int) (oa : Option Addr) (on oc : Nat) (O : Nat → Nat → Int) (Z B : Nat → List Int) (ra : Option Addr) (rc : Nat) (R : List (Int × Int)) (pa : Option Addr) (pc : Nat) (P : List (List Pl)) (W : World) (hL : LRow W oa on oc O Z B) (hR : ERow 2 scs W ra (on + 1) rc R) (hP : QRow W pa on pc P) (Rw : Int) (RL : List (Int × Int × Int)) (hG : gtR O h w c lo hi ot on = (0, 0, RL, Rw)) (x1 x2 x3 : Int) (hX : foE 0 0 on (nuP O RL) R P = (x1, x2, x3)) :
    Calls Try.prog 13 #[.agg #[.int .i64 h, .int .i64 w, .int .i64 c, .int .i64 lo, .int .i64 hi, .slice oa on oc, .int .i64 ot], .agg #[.slice ra (on + 1) rc, .slice pa on pc]] W fun e w' => e = .returned (.agg #[.int .i64 x1, .int .i64 x2, .int .i64 x3]) ∧ Below W.heap.size W w' := by
  obtain ⟨-, hRl, ho64, -, -, -⟩ := gtR_ok hG
  have hK : Hid (∀ w', Below W.heap.size W w' → _) := fun w' hb => rcheck_any h w c lo hi ot oa on oc O Z B w' (hL.below hb) (by omega) 0 0 Rw RL hG
  have hCN : Hid (∀ (i : Nat), i < on → ∀ w', Below W.heap.size W w' → _) := fun i hi0 w' hb => rchans_any h w c lo hi ot oa on oc O Z B w' (hL.below hb) Rw RL hG i hi0
  have H2 : Hid (ERow 2 scs W ra (on + 1) rc R) := hR
  have H3 : Hid (QRow W pa on pc P) := hP
  have HL : Hid (R.length = on + 1 ∧ P.length = on) := ⟨hR.1, hP.1⟩
  have m3 := hR.2.1
  have m4 := hR.2.2.1
  have m5 := hP.2.1
  have m6 := hP.2.2.1
  unfold maxLen at m4 m6
  have HX : Hid (foE 0 0 on (nuP O RL) R P = (x1, x2, x3)) := hX
  clear hG hL hR hP hX hRl
  have s0 := (((St.start W).new (c := #[.int .i64 h, .int .i64 w, .int .i64 c, .int .i64 lo, .int .i64 hi, .slice oa on oc, .int .i64 ot]) (t := 26)).new (c := #[.slice ra (on + 1) rc, .slice pa on pc]) (t := 30)).new (c := #[.int .i64 0, .int .i64 0, .int .i64 0]) (t := 39)
  simp only [World.size_alloc] at s0
  go_enter Try.func13, Try.ntmps13
  go_wp2_with fail
  refine (hK.out _ s0.below).mono ?_
  rintro e w1 ⟨rfl, hb⟩
  have s1 := (s0.call hb).call (bal w1 (.cells #[.int .i64 0, .int .i64 0, .int .i64 0] 39))
  obtain ⟨c1, f1, z1, c2, f2, z2, c3, f3, z3, -⟩ := (s0.call hb).rules
  clear hb s0 hK
  go_upto_region 4 with fail
  obtain ⟨wS, hwS⟩ : ∃ wS, w1.alloc (.cells #[.int .i64 0, .int .i64 0, .int .i64 0] 39) = wS := ⟨_, rfl⟩
  rw [hwS] at s1 ⊢
  clear hwS c1 f1 z1 c2 f2 z2 c3 f3 z3
  obtain ⟨c1, f1, z1, c2, f2, z2, c3, f3, z3, -⟩ := s1.rules
  have S1 : Hid (St W wS ([(W.heap.size + 1 + 1, #[.int .i64 0, .int .i64 0, .int .i64 0], 39), (W.heap.size + 1, #[.slice ra (on + 1) rc, .slice pa on pc], 30), (W.heap.size, #[.int .i64 h, .int .i64 w, .int .i64 c, .int .i64 lo, .int .i64 hi, .slice oa on oc, .int .i64 ot], 26)])) := s1
  clear s1
  go_wp2
  go_loopw [39] (fun i wr => ∃ k : Nat, k ≤ on + 1 ∧ i = .int .i64 k ∧ raE (R.drop k) k = raE R 0 ∧ Below wS.heap.size wS wr) (fun i _ => on + 1 - (intOf i).toNat)
  case atStart => exact ⟨0, Nat.zero_le _, rfl, by simp, Below.refl _ _⟩
  case round =>
    obtain ⟨k, hk, rfl, hp, hbr⟩ := hrel
    clear c1 f1 c2 f2 c3 f3
    have sr := S1.out.call hbr
    obtain ⟨c1, f1, zr1, c2, f2, zr2, c3, f3, zr3, -⟩ := sr.rules
    by_cases hlt : k < on + 1
    · obtain ⟨x, p, rfl, -, hd, hc⟩ := (H2.out.below sr.below).at hlt
      obtain ⟨q1, q2⟩ := p
      rw [hd] at hp
      have hcell : Hid (∀ q v, [.int .i64 q1, .int .i64 q2][q]? = some v → wr.cell? ((x.add (k * 2)).add q) = some v) := hc
      have HP : Hid (raE ((q1, q2) :: R.drop (k + 1)) k = raE R 0) := hp
      have HV : Hid (∀ w, _) := rcvb_any q1 q2
      have hbb : Hid (Below wS.heap.size wS (wr.alloc (.cells #[.int .i64 q1, .int .i64 q2] 59))) := hbr.trans ((bal wr _).mono hbr.size)
      have sb := sr.new (c := #[.int .i64 q1, .int .i64 q2]) (t := 59)
      clear hc hd hp sr hbr
      go_upto_region 9 with (first
        | (refine wpList_load_any rfl 59 (.tmp 42) rfl _ rfl [.int .i64 q1, .int .i64 q2] _ hcell.out Try.underlying59 rfl (by kernel_rfl) ?_)
        | (refine wpList_st_new rfl 59 (.tmp 7) (.tmp 43) rfl wr _ #[.int .i64 q1, .int .i64 q2] rfl rfl (by kernel_rfl) rfl (by simp [Value.oneCell']) ?_))
      obtain ⟨B, hB⟩ : ∃ B, wr.heap.size = B := ⟨_, rfl⟩
      obtain ⟨wb, hwb⟩ : ∃ wb, wr.alloc (.cells #[.int .i64 q1, .int .i64 q2] 59) = wb := ⟨_, rfl⟩
      rw [hwb, hB] at sb
      rw [hwb] at hbb ⊢
      rw [hB]
      clear hwb hcell hB c1 f1 c2 f2 c3 f3
      obtain ⟨c0, f0, zb0, c1, f1, zb1, c2, f2, zb2, c3, f3, zb3, -⟩ := sb.rules
      cases hv : cvB (q1, q2) with
      | true =>
        rw [hv] at HV
        have HQ : Hid (raE (R.drop (k + 1)) (k + 1) = raE R 0) := (raE_yes hv).symm.trans HP.out
        clear HP hv
        go_wp2_with fail
        refine (HV.out _).mono ?_
        rintro e w2 ⟨rfl, hb⟩
        have hb2 : Hid (Below wS.heap.size wS w2) := hbb.out.trans (hb.mono hbb.out.size)
        clear hb c0 f0 c1 f1 c2 f2 c3 f3
        go_wp2
        go_roundw
        case rel => exact ⟨k + 1, by omega, by go_num, HQ.out, hb2.out⟩
        case measure => simp [intOf]; omega
      | false =>
        rw [hv] at HV
        have HQ := (raE_no hv).symm.trans HP.out
        have hX := HX.out
        rw [foE_r HL.out (by rw [← HQ]; simp), ← HQ] at hX
        simp only [Prod.mk.injEq] at hX
        obtain ⟨rfl, rfl, rfl⟩ := hX
        clear HP hv HX HQ
        go_wp2_with fail
        refine (HV.out _).mono ?_
        rintro e w2 ⟨rfl, hb⟩
        have s2 := sb.call hb
        clear hb c0 f0 c1 f1 c2 f2 c3 f3
        obtain ⟨c0, f0, zc0, c1, f1, zc1, c2, f2, zc2, c3, f3, zc3, -⟩ := s2.rules
        have Hs : Hid (Below W.heap.size W w2) := s2.below
        clear s2 sb
        go_wp2
        exact bodyPost_ret (v := .agg #[.int .i64 30, .int .i64 (k : Int), .int .i64 0]) (by simp [results, Try.results13, go_sem, *]) rfl ⟨rfl, set3b Hs.out (by omega)⟩
    · rw [List.drop_of_length_le (by rw [HL.out.1]; omega)] at hp
      have hX := HX.out
      rw [foE_p HL.out (by rw [← hp]; rfl)] at hX
      have HY : Hid (psE (nuP O RL) P 0 = (x1, x2, x3)) := hX
      clear hp hX HX sr
      go_wp2
      go_loopw [53] (fun i wv => ∃ k : Nat, k ≤ on ∧ i = .int .i64 k ∧ psE (nuP O RL) (P.drop k) k = (x1, x2, x3) ∧ Below wS.heap.size wS wv) (fun i _ => on - (intOf i).toNat)
      case atStart => exact ⟨0, Nat.zero_le _, rfl, by simpa using HY.out, hbr⟩
      case round =>
        clear c1 f1 c2 f2 c3 f3 zr1 zr2 zr3 hbr hlt hk HY
        obtain ⟨i, hi0, rfl, hp, hbr⟩ := hrel
        have sr := S1.out.call hbr
        obtain ⟨c1, f1, zr1, c2, f2, zr2, c3, f3, zr3, -⟩ := sr.rules
        by_cases hlt : i < on
        rotate_left
        · obtain rfl : i = on := by omega
          rw [List.drop_of_length_le (by rw [HL.out.2]; omega)] at hp
          unfold psE at hp
          simp only [Prod.mk.injEq] at hp
          obtain ⟨rfl, rfl, rfl⟩ := hp
          have Hs : Hid (Below W.heap.size W wr) := sr.below
          clear sr hbr
          go_wp2
          exact bodyPost_ret (v := .agg #[.int .i64 0, .int .i64 0, .int .i64 0]) (by simp [results, Try.results13, go_sem, *]) rfl ⟨rfl, set3b Hs.out (by omega)⟩
        · obtain ⟨x, l, ca, cc, rfl, -, hd, hcl, hE, -⟩ := (H3.out.below sr.below).at hlt
          rw [hd] at hp
          have HP : Hid (psE (nuP O RL) (l :: P.drop (i + 1)) i = (x1, x2, x3)) := hp
          have l2 := hE.2.1
          have l3 := hE.2.2.1
          unfold maxLen at l3
          obtain ⟨ln, hln⟩ : ∃ ln, l.length = ln := ⟨_, rfl⟩
          rw [hln] at hcl hE l2
          have HLN : Hid (l.length = ln) := hln
          have HE : Hid (ERow 6 pcs wr ca ln cc l) := hE
          have hCi : Hid (∀ w', Below W.heap.size W w' → _) := hCN.out i hlt
          obtain ⟨nu, hnu⟩ : ∃ nu, nuP O RL i = nu := ⟨_, rfl⟩
          rw [hnu] at hCi
          have HNU : Hid (nuP O RL i = nu) := hnu
          have Hsr : Hid (St W wr (_)) := sr
          clear hd hp hE hln hnu sr
          go_wp2_with fail
          refine (hCi.out _ Hsr.out.below).mono ?_
          rintro e w2 ⟨rfl, hb⟩
          have s2 := Hsr.out.call hb
          have hb2 := hbr.trans (hb.mono hbr.size)
          have HE2 : Hid (ERow 6 pcs w2 ca ln cc l) := HE.out.below hb
          clear hb hbr Hsr HE c1 f1 c2 f2 c3 f3 hCi hcl
          obtain ⟨c1, f1, zs1, c2, f2, zs2, c3, f3, zs3, -⟩ := s2.rules
          by_cases q : (ln : Int) = nu
          rotate_left
          · have hy : liE (nuP O RL i) ((i : Int) + 1) l = (70, (i : Int) + 1, 0) := by unfold liE; rw [HLN.out, HNU.out, if_neg q]
            have HQ := (psE_no (by rw [hy]; simp)).symm.trans HP.out
            rw [hy] at HQ
            simp only [Prod.mk.injEq] at HQ
            obtain ⟨rfl, rfl, rfl⟩ := HQ
            have Hs : Hid (Below W.heap.size W w2) := s2.below
            clear s2 hb2 hy HP
            go_wp2
            exact bodyPost_ret (v := .agg #[.int .i64 70, .int .i64 ((i : Int) + 1), .int .i64 0]) (by simp [results, Try.results13, go_sem, *]) rfl ⟨rfl, set3b Hs.out (by omega)⟩
          · have hy : liE (nuP O RL i) ((i : Int) + 1) l = plE ((i : Int) + 1) l 0 := by unfold liE; rw [HLN.out, HNU.out, if_pos q]
            have HY : Hid (liE (nuP O RL i) ((i : Int) + 1) l = plE ((i : Int) + 1) l 0) := hy
            subst q
            have Hb2 : Hid (Below wS.heap.size wS w2) := hb2
            clear s2 hb2 hy
            simp only
            go_wp2
            clear c1 f1 c2 f2 c3 f3
            go_loopw [70] (fun j wv => ∃ k : Nat, k ≤ ln ∧ j = .int .i64 k ∧ plE ((i : Int) + 1) (l.drop k) k = plE ((i : Int) + 1) l 0 ∧ Below w2.heap.size w2 wv) (fun j _ => ln - (intOf j).toNat)
            case atStart => exact ⟨0, Nat.zero_le _, rfl, by simp, Below.refl _ _⟩
            case round =>
              obtain ⟨j, hj0, rfl, hu, hbu⟩ := hrel
              have hbw := Hb2.out.trans (hbu.mono Hb2.out.size)
              have su := S1.out.call hbw
              by_cases hlj : j < ln
              rotate_left
              · rw [List.drop_of_length_le (by rw [HLN.out]; omega)] at hu
                have h0 : liE (nuP O RL i) ((i : Int) + 1) l = (0, 0, 0) := by rw [HY.out, ← hu]; rfl
                have HQ : Hid (psE (nuP O RL) (P.drop (i + 1)) (i + 1) = (x1, x2, x3)) := (psE_yes (by rw [h0])).symm.trans HP.out
                have Hbw : Hid (Below wS.heap.size wS wr) := hbw
                clear hu h0 su hbw hbu HP
                go_wp2
                go_roundw
                case rel => exact ⟨i + 1, by omega, by go_num, HQ.out, Hbw.out⟩
                case measure => simp [intOf]; omega
              · obtain ⟨s, p, rfl, -, hd, hc⟩ := (HE2.out.below hbu).at hlj
                obtain ⟨p1, p2, p3, p4, p5, p6⟩ := p
                rw [hd] at hu
                have hcell : Hid (∀ q v, [.int .i64 p1, .int .i64 p2, .int .i64 p3, .int .i64 p4, .int .i64 p5, .int .i64 p6][q]? = some v → wr.cell? ((s.add (j * 6)).add q) = some v) := hc
                have HU : Hid (plE ((i : Int) + 1) ((p1, p2, p3, p4, p5, p6) :: l.drop (j + 1)) j = plE ((i : Int) + 1) l 0) := hu
                have sb := su.new (c := #[.int .i64 p1, .int .i64 p2, .int .i64 p3, .int .i64 p4, .int .i64 p5, .int .i64 p6]) (t := 61)
                have hbb := bt hbu (bal wr (.cells #[.int .i64 p1, .int .i64 p2, .int .i64 p3, .int .i64 p4, .int .i64 p5, .int .i64 p6] 61))
                have HV1 : Hid (∀ w, _) := rcval_any p3 p4
                have HV2 : Hid (∀ w, _) := rcval_any p5 p6
                clear hc hd hu su hbw hbu
                go_upto_region 20 with (first
                  | (refine wpList_load_any rfl 61 (.tmp 73) rfl _ rfl [.int .i64 p1, .int .i64 p2, .int .i64 p3, .int .i64 p4, .int .i64 p5, .int .i64 p6] _ hcell.out Try.underlying61 rfl (by kernel_rfl) ?_)
                  | (refine wpList_st_new rfl 61 (.tmp 11) (.tmp 74) rfl wr _ #[.int .i64 p1, .int .i64 p2, .int .i64 p3, .int .i64 p4, .int .i64 p5, .int .i64 p6] rfl rfl (by kernel_rfl) rfl (by simp [Value.oneCell']) ?_))
                obtain ⟨B5, hB5⟩ : ∃ B5, wr.heap.size = B5 := ⟨_, rfl⟩
                obtain ⟨wb, hwb⟩ : ∃ wb, wr.alloc (.cells #[.int .i64 p1, .int .i64 p2, .int .i64 p3, .int .i64 p4, .int .i64 p5, .int .i64 p6] 61) = wb := ⟨_, rfl⟩
                rw [hwb, hB5] at sb
                rw [hwb] at hbb
                rw [hwb, hB5]
                clear hwb hcell hB5
                obtain ⟨c0, f0, zb0, c1, f1, zb1, c2, f2, zb2, c3, f3, zb3, -⟩ := sb.rules
                by_cases v1 : p3 ≤ p4
                · rw [decide_eq_true v1] at HV1
                  by_cases v2 : p5 ≤ p6
                  · rw [decide_eq_true v2] at HV2
                    have HQ : Hid (plE ((i : Int) + 1) (l.drop (j + 1)) (j + 1) = plE ((i : Int) + 1) l 0) := (plE_yes (by simp [pvB, v1, v2])).symm.trans HU.out
                    clear HU v1 v2
                    go_wp2_with fail
                    refine (HV1.out _).mono ?_
                    rintro e w6 ⟨rfl, hb⟩
                    have s6 := sb.call hb
                    have hb6 := bt hbb hb
                    clear hb c0 f0 c1 f1 c2 f2 c3 f3
                    obtain ⟨c0, f0, zc0, c1, f1, zc1, c2, f2, zc2, c3, f3, zc3, -⟩ := s6.rules
                    go_wp2_with fail
                    refine (HV2.out _).mono ?_
                    rintro e w7 ⟨rfl, hb⟩
                    have Hb7 : Hid (Below w2.heap.size w2 w7) := bt hb6 hb
                    clear hb c0 f0 c1 f1 c2 f2 c3 f3 s6 sb hbb hb6
                    go_wp2
                    go_roundw
                    case rel => exact ⟨j + 1, by omega, by go_num, HQ.out, Hb7.out⟩
                    case measure => simp [intOf]; omega
                  · rw [decide_eq_false v2] at HV2
                    have hy := (plE_no (by simp [pvB, v2])).symm.trans HU.out
                    have hz := HY.out
                    rw [← hy] at hz
                    have HQ := (psE_no (by rw [hz]; simp)).symm.trans HP.out
                    rw [hz] at HQ
                    simp only [Prod.mk.injEq] at HQ
                    obtain ⟨rfl, rfl, rfl⟩ := HQ
                    clear HU v1 v2 hy hz HP HY
                    go_wp2_with fail
                    refine (HV1.out _).mono ?_
                    rintro e w6 ⟨rfl, hb⟩
                    have s6 := sb.call hb
                    clear hb c0 f0 c1 f1 c2 f2 c3 f3
                    obtain ⟨c0, f0, zc0, c1, f1, zc1, c2, f2, zc2, c3, f3, zc3, -⟩ := s6.rules
                    go_wp2_with fail
                    refine (HV2.out _).mono ?_
                    rintro e w7 ⟨rfl, hb⟩
                    have s7 := s6.call hb
                    clear hb c0 f0 c1 f1 c2 f2 c3 f3
                    obtain ⟨c0, f0, zd0, c1, f1, zd1, c2, f2, zd2, c3, f3, zd3, -⟩ := s7.rules
                    have Hs : Hid (Below W.heap.size W w7) := s7.below
                    clear s7 s6 sb hbb
                    go_wp2
                    exact bodyPost_ret (v := .agg #[.int .i64 30, .int .i64 ((i : Int) + 1), .int .i64 ((j : Int) + 1)]) (by simp [results, Try.results13, go_sem, *]) rfl ⟨rfl, set3b Hs.out (by omega)⟩
                · rw [decide_eq_false v1] at HV1
                  have hy := (plE_no (by simp [pvB, v1])).symm.trans HU.out
                  have hz := HY.out
                  rw [← hy] at hz
                  have HQ := (psE_no (by rw [hz]; simp)).symm.trans HP.out
                  rw [hz] at HQ
                  simp only [Prod.mk.injEq] at HQ
                  obtain ⟨rfl, rfl, rfl⟩ := HQ
                  clear HU v1 hy hz HP HY
                  go_wp2_with fail
                  refine (HV1.out _).mono ?_
                  rintro e w6 ⟨rfl, hb⟩
                  have s6 := sb.call hb
                  clear hb c0 f0 c1 f1 c2 f2 c3 f3
                  obtain ⟨c0, f0, zc0, c1, f1, zc1, c2, f2, zc2, c3, f3, zc3, -⟩ := s6.rules
                  have Hs : Hid (Below W.heap.size W w6) := s6.below
                  clear s6 sb hbb
                  go_wp2
                  exact bodyPost_ret (v := .agg #[.int .i64 30, .int .i64 ((i : Int) + 1), .int .i64 ((j : Int) + 1)]) (by simp [results, Try.results13, go_sem, *]) rfl ⟨rfl, set3b Hs.out (by omega)⟩
/-- What the document's Form returns. -/
theorem rform_any (h w c lo hi ot : Int) (oa : Option Addr) (on oc : Nat) (O : Nat → Nat → Int) (Z B : Nat → List Int) (ra : Option Addr) (rn rc : Nat) (R : List (Int × Int)) (pa : Option Addr) (pn pc : Nat) (P : List (List Pl)) (W : World) (hL : LRow W oa on oc O Z B) (hon : on ≤ 1000000000000) (hR : ERow 2 scs W ra rn rc R) (hP : QRow W pa pn pc P) (hrn : rn ≤ 140737488351232) (hpn : pn ≤ 140737488351232) (Re Ra Rw : Int) (RL : List (Int × Int × Int)) (hG : gtR O h w c lo hi ot on = (Re, Ra, RL, Rw)) (x1 x2 x3 : Int) (hX : foE Re Ra on (nuP O RL) R P = (x1, x2, x3)) :
    Calls Try.prog 13 #[.agg #[.int .i64 h, .int .i64 w, .int .i64 c, .int .i64 lo, .int .i64 hi, .slice oa on oc, .int .i64 ot], .agg #[.slice ra rn rc, .slice pa pn pc]] W fun e w' => e = .returned (.agg #[.int .i64 x1, .int .i64 x2, .int .i64 x3]) ∧ Below W.heap.size W w' := by
  by_cases he : Re = 0
  · subst he
    obtain rfl : Ra = 0 := (gtR_st hG).2.1
    by_cases hl : rn = on + 1 ∧ pn = on
    · obtain ⟨rfl, hl2⟩ := hl
      subst hl2
      exact rform_w h w c lo hi ot oa pn oc O Z B ra rc R pa pc P W hL hR hP Rw RL hG x1 x2 x3 hX
    · have hl' : ¬ (R.length = on + 1 ∧ P.length = on) := by rw [hR.1, hP.1]; exact hl
      rw [foE_l hl'] at hX
      simp only [Prod.mk.injEq] at hX
      obtain ⟨rfl, rfl, rfl⟩ := hX
      exact rform_l h w c lo hi ot oa on oc O Z B ra rn rc R pa pn pc P W hL Rw RL hG hrn hpn hl
  · rw [foE_e he] at hX
    simp only [Prod.mk.injEq] at hX
    obtain ⟨rfl, rfl, rfl⟩ := hX
    exact rform_e h w c lo hi ot oa on oc O Z B ra rn rc R pa pn pc P W hL hon _ _ Rw RL hG he
end Go.Proofs.Ytcjnhchjikcigaa

/- What the document's Cost of layer 15 returns. -/
namespace Go.Proofs.Ytcjnhchjikcigaa
open Go.ChangeShapes Go.WideShapes Go.ChangeAt Go.RowKit
set_option linter.unusedVariables false
set_option maxHeartbeats 4000000 in
set_option maxRecDepth 100000 in
theorem rcost_f (h w c lo hi ot : Int) (oa : Option Addr) (on oc : Nat) (O : Nat → Nat → Int) (Z B : Nat → List Int) (ra : Option Addr) (rn rc : Nat) (R : List (Int × Int)) (pa : Option Addr) (pn pc : Nat) (P : List (List Pl)) (W : World) (hL : LRow W oa on oc O Z B) (hon : on ≤ 1000000000000) (hR : ERow 2 scs W ra rn rc R) (hP : QRow W pa pn pc P) (hrn : rn ≤ 140737488351232) (hpn : pn ≤ 140737488351232) (Re Ra Rw : Int) (RL : List (Int × Int × Int)) (hG : gtR O h w c lo hi ot on = (Re, Ra, RL, Rw)) (x1 x2 x3 : Int) (hX : foE Re Ra on (nuP O RL) R P = (x1, x2, x3)) (h0 : x1 ≠ 0) :
    Calls Try.prog 10 #[.agg #[.int .i64 h, .int .i64 w, .int .i64 c, .int .i64 lo, .int .i64 hi, .slice oa on oc, .int .i64 ot], .agg #[.slice ra rn rc, .slice pa pn pc]] W fun e w' => e = .returned (.tuple #[.agg #[.int .i64 0, .int .i64 0, .int .i64 0, .int .i64 0, .int .i64 0, .int .i64 0, .int .i64 0, .int .i64 0, .int .i64 0], .agg #[.int .i64 x1, .int .i64 x2, .int .i64 x3]]) ∧ Below W.heap.size W w' := by
  have HF : Hid (∀ w', Below W.heap.size W w' → _) := fun w' hb => rform_any h w c lo hi ot oa on oc O Z B ra rn rc R pa pn pc P w' (hL.below hb) hon (hR.below hb) (hP.below hb) hrn hpn Re Ra Rw RL hG x1 x2 x3 hX
  have he1 : (x1 == 0) = false := by simp [h0]
  clear hL hR hP hG hX
  have s0 := ((((St.start W).new (c := #[.int .i64 h, .int .i64 w, .int .i64 c, .int .i64 lo, .int .i64 hi, .slice oa on oc, .int .i64 ot]) (t := 26)).new (c := #[.slice ra rn rc, .slice pa pn pc]) (t := 30)).new (c := #[.int .i64 0, .int .i64 0, .int .i64 0, .int .i64 0, .int .i64 0, .int .i64 0, .int .i64 0, .int .i64 0, .int .i64 0]) (t := 36)).new (c := #[.int .i64 0, .int .i64 0, .int .i64 0]) (t := 39)
  simp only [World.size_alloc] at s0
  go_enter Try.func10, Try.ntmps10
  go_wp2_with fail
  refine (HF.out _ s0.below).mono ?_
  rintro e w1 ⟨rfl, hb⟩
  have s1 := (s0.call hb).new (c := #[.int .i64 x1, .int .i64 x2, .int .i64 x3]) (t := 39)
  have zz := (s0.call hb).size
  obtain ⟨-, -, z0, -⟩ := (s0.call hb).rules
  clear hb s0
  go_upto_region 3 with fail
  obtain ⟨B6, hB⟩ : ∃ B6, w1.heap.size = B6 := ⟨_, rfl⟩
  obtain ⟨w2, hw2⟩ : ∃ w2, w1.alloc (.cells #[.int .i64 x1, .int .i64 x2, .int .i64 x3] 39) = w2 := ⟨_, rfl⟩
  rw [hw2, hB] at s1
  rw [hw2, hB]
  rw [hB] at zz z0
  clear hw2 hB
  have S2 : Hid (St W w2.drew _) := s1.drew
  clear s1
  refine regionC (fun w' => w'.heap[B6]? = some (.cells #[.int .i64 x1, .int .i64 x2, .int .i64 x3] 39 (0, 0))) (by kernel_rfl) ?_
  refine takeC 0 (v := .agg #[.int .i64 0, .int .i64 0, .int .i64 0, .int .i64 0, .int .i64 0, .int .i64 0, .int .i64 0, .int .i64 0, .int .i64 0]) rfl rfl (by kernel_rfl) (by kernel_rfl) (by kernel_rfl) (fun _ _ _ h => h) (fun _ => by kernel_rfl) (by kernel_rfl) (fun w' hw' => by kernel_rfl) ?_
  refine takeC 1 (v := .agg #[.int .i64 x1, .int .i64 x2, .int .i64 x3]) rfl rfl (by kernel_rfl) (by kernel_rfl) (by kernel_rfl) (fun _ _ _ h => h) (fun _ => by kernel_rfl) (by kernel_rfl) (fun w' hw' => run_la 39 (.tmp 6) rfl ⟨B6, 0, none⟩ (by kernel_rfl) [.int .i64 x1, .int .i64 x2, .int .i64 x3] _ (ecells hw') Try.underlying39 rfl (by kernel_rfl)) ?_
  obtain ⟨w3, hw3⟩ : ∃ w3, w2.drew = w3 := ⟨_, rfl⟩
  rw [hw3] at S2 ⊢
  clear hw3
  refine stepC 2 S2.out.h1 (by kernel_rfl) rfl (fun K hK => step_wp rfl (wp_store_row 36 (.tmp 4) (.tmp 24) rfl (W.heap.size + 1 + 1) #[.int .i64 0, .int .i64 0, .int .i64 0, .int .i64 0, .int .i64 0, .int .i64 0, .int .i64 0, .int .i64 0, .int .i64 0] (by kernel_rfl) (by kernel_rfl) 36 #[.int .i64 0, .int .i64 0, .int .i64 0, .int .i64 0, .int .i64 0, .int .i64 0, .int .i64 0, .int .i64 0, .int .i64 0] S2.out.h3 (by kernel_rfl) rfl (by simp [Value.oneCell']) (hK _ _ ?_)))
  have S4 := (S2.out.sub (l' := [(W.heap.size + 1 + 1, #[.int .i64 0, .int .i64 0, .int .i64 0, .int .i64 0, .int .i64 0, .int .i64 0, .int .i64 0, .int .i64 0, .int .i64 0], 36), (B6, #[.int .i64 x1, .int .i64 x2, .int .i64 x3], 39), (W.heap.size + 1 + 1 + 1, #[.int .i64 0, .int .i64 0, .int .i64 0], 39)]) (by simp)).row #[.int .i64 0, .int .i64 0, .int .i64 0, .int .i64 0, .int .i64 0, .int .i64 0, .int .i64 0, .int .i64 0, .int .i64 0] (by simp; omega)
  obtain ⟨w4, hw4⟩ : ∃ w4, w3.setRow (W.heap.size + 1 + 1) #[.int .i64 0, .int .i64 0, .int .i64 0, .int .i64 0, .int .i64 0, .int .i64 0, .int .i64 0, .int .i64 0, .int .i64 0] = w4 := ⟨_, rfl⟩
  rw [hw4] at S4 ⊢
  have S5 : Hid (St W w4 _) := S4
  clear hw4 S4 S2
  refine stepC 3 S5.out.h2 (by kernel_rfl) rfl (fun K hK => step_wp rfl (wp_store_row 39 (.tmp 5) (.tmp 25) rfl (W.heap.size + 1 + 1 + 1) #[.int .i64 x1, .int .i64 x2, .int .i64 x3] (by kernel_rfl) (by kernel_rfl) 39 #[.int .i64 0, .int .i64 0, .int .i64 0] S5.out.h3 (by kernel_rfl) rfl (by simp [Value.oneCell']) (hK _ _ ?_)))
  have S6 := (S5.out.sub (l' := [(W.heap.size + 1 + 1 + 1, #[.int .i64 0, .int .i64 0, .int .i64 0], 39), (W.heap.size + 1 + 1, #[.int .i64 0, .int .i64 0, .int .i64 0, .int .i64 0, .int .i64 0, .int .i64 0, .int .i64 0, .int .i64 0, .int .i64 0], 36), (B6, #[.int .i64 x1, .int .i64 x2, .int .i64 x3], 39)]) (by simp)).row #[.int .i64 x1, .int .i64 x2, .int .i64 x3] (by simp; omega)
  obtain ⟨w5, hw5⟩ : ∃ w5, w4.setRow (W.heap.size + 1 + 1 + 1) #[.int .i64 x1, .int .i64 x2, .int .i64 x3] = w5 := ⟨_, rfl⟩
  rw [hw5] at S6 ⊢
  have S7 : Hid (St W w5 _) := S6
  clear hw5 S6 S5
  refine doneC S7.out.h3 (by kernel_rfl) ?_ _
  go_wp2
  exact bodyPost_ret (results_row_row Try.results10 _ _ (W.heap.size + 1 + 1) (W.heap.size + 1 + 1 + 1) 36 39 _ _ _ _ (by kernel_rfl) (by kernel_rfl) S7.out.h2 S7.out.h1 Try.underlying36 rfl (by kernel_rfl) Try.underlying39 rfl (by kernel_rfl)) rfl ⟨rfl, S7.out.below⟩
/-- One plan more, as the document adds it up. -/
theorem ad_16 {r1 r2 r3 r4 LN QP d : Int} {p : Pl} (h : p.1 = 16) (hd : p.2.1 = d) : adT (r1, r2, r3, r4) (coS p LN) QP = (r1 + LN * QP, r2 + LN * QP, r3, r4 + bkV LN d * QP) := by
  rw [coS_16 h, hd]
  unfold adT
  simp
theorem ad_32 {r1 r2 r3 r4 LN QP : Int} {p : Pl} (h : p.1 = 32) : adT (r1, r2, r3, r4) (coS p LN) QP = (r1, r2, r3 + LN * QP, r4 + LN * QP) := by
  rw [coS_32 h]
  unfold adT
  simp
end Go.Proofs.Ytcjnhchjikcigaa
