/- What Form of package cert returns, of a well-formed model and lists of the right length. What Same of package cert returns. What Same of package cert and Same of its document return. Sums of ops that reduce, in plain numbers: their terms, their bias, and what is known of such an op of a well-formed model. -/
import Derived.Test.YtcjnhchjikcigaaGr14
import Derived.Test.YtcjnhchjikcigaaGr15
/- What Form of package cert returns, of a well-formed model and lists of the right length. -/
namespace Go.Proofs.Ytcjnhchjikcigaa
open Go.ChangeShapes Go.WideShapes Go.ChangeAt Go.RowKit
set_option linter.unusedVariables false
/-- What the blocks hold, in each world that keeps what lies here. -/
def RulesE (w : World) : List (Nat × Array Value × TypeId) → Prop
  | [] => True
  | (B, c, _) :: l => (∀ (n : Wd w []) i, n.w.cell? ⟨B, i, none⟩ = c[i]?) ∧ (∀ (n : Wd w []), B < n.w.heap.size) ∧ RulesE w l
theorem rulesE_of {w : World} : ∀ (l : List (Nat × Array Value × TypeId)), (∀ x ∈ l, w.heap[x.1]? = some (.cells x.2.1 x.2.2)) → RulesE w l
  | [], _ => trivial
  | (B, c, t) :: l, h => by
    have h0 : w.heap[B]? = some (.cells c t) := h _ List.mem_cons_self
    refine ⟨fun n i => ?_, fun n => ?_, rulesE_of l fun x hx => h x (List.mem_cons_of_mem _ hx)⟩
    · have h1 : n.w.heap[B]? = some (.cells c t) := by rw [n.h.below.block _ (lt_of_heap h0)]; exact h0
      simp [World.cell?, h1]
    · exact Nat.lt_of_lt_of_le (lt_of_heap h0) n.h.below.size
theorem St.rulesE {w0 w : World} {l : List (Nat × Array Value × TypeId)} (h : St w0 w l) : RulesE w l := rulesE_of l fun x hx => (h.2 x hx).1
/-- Cells that lie here lie in each world that keeps what lies here. -/
theorem wd_cells {w : World} {l : List Value} {x : Addr} (h : ∀ j v, l[j]? = some v → w.cell? (x.add j) = some v) : ∀ wz, (∃ n : Wd w [], wz = n.w) → ∀ j v, l[j]? = some v → wz.cell? (x.add j) = some v := fun wz hw j v hj => by
  obtain ⟨n, rfl⟩ := hw
  exact (n.h.below.cell (World.block_lt_of_cell? w _ (h j v hj))).trans (h j v hj)
set_option maxHeartbeats 8000000 in
set_option maxRecDepth 100000 in
theorem cform_w (h w c lo hi ot : Int) (oa : Option Addr) (on oc : Nat) (O : Nat → Nat → Int) (ra : Option Addr) (rc : Nat) (R : List (Int × Int)) (pa : Option Addr) (pc : Nat) (P : List (List Pl)) (W : World) (hM : MRow W oa on oc O) (hR : ERow 2 scs W ra (on + 1) rc R) (hP : QRow W pa on pc P) (Rw : Int) (RL : List (Int × Int × Int)) (hG : gtR O h w c lo hi ot on = (0, 0, RL, Rw)) (x1 x2 x3 : Int) (hX : foE 0 0 on (nuP O RL) R P = (x1, x2, x3)) :
    Calls Try.prog 12 #[.agg #[.int .i64 h, .int .i64 w, .int .i64 c, .int .i64 lo, .int .i64 hi, .slice oa on oc, .int .i64 ot], .agg #[.slice ra (on + 1) rc, .slice pa on pc]] W fun e w' => e = .returned (.agg #[.int .i64 x1, .int .i64 x2, .int .i64 x3]) ∧ Below W.heap.size W w' := by
  have hS : Hid (∀ W, MRow W oa on oc O → _) := fun W hW => shapes_any h w c lo hi ot oa on oc O W hW
  obtain ⟨-, hRl, ho64, -, -, -⟩ := gtR_ok hG
  rw [hG] at hS
  simp only at hS
  have H1 : Hid (MRow W oa on oc O) := hM
  have H2 : Hid (ERow 2 scs W ra (on + 1) rc R) := hR
  have H3 : Hid (QRow W pa on pc P) := hP
  have HL : Hid (R.length = on + 1 ∧ P.length = on) := ⟨hR.1, hP.1⟩
  have m1 := hM.1
  have m2 := hM.2.1
  have m3 := hR.2.1
  have m4 := hR.2.2.1
  have m5 := hP.2.1
  have m6 := hP.2.2.1
  unfold maxLen at m2 m4 m6
  have HX : Hid (foE 0 0 on (nuP O RL) R P = (x1, x2, x3)) := hX
  have qn := neFo 39 rfl 0 0 0 0 0 0 true (by decide)
  clear hG hM hR hP hX
  have s0 := (((St.start W).new (c := #[.int .i64 h, .int .i64 w, .int .i64 c, .int .i64 lo, .int .i64 hi, .slice oa on oc, .int .i64 ot]) (t := 26)).new (c := #[.slice ra (on + 1) rc, .slice pa on pc]) (t := 30)).new (c := #[.int .i64 0, .int .i64 0, .int .i64 0]) (t := 39)
  simp only [World.size_alloc] at s0
  go_enter Try.func12, Try.ntmps12
  go_wp2_with fail
  refine Calls.mono (hS.out _ (H1.out.below s0.below)) ?_
  rintro e w1 ⟨v, rfl, hSh, hb⟩
  have s1 := (s0.call hb).call (bal w1 (.cells #[.int .i64 0, .int .i64 0, .int .i64 0] 39))
  obtain ⟨g, cap, rfl, hcap, hsh⟩ := shp_at hSh hRl
  have HSH : Hid (∀ i, i < on + 1 → ∀ A B C, RL.getD i (0, 0, 0) = (A, B, C) → ∀ j u, [Value.int .i64 A, .int .i64 B, .int .i64 C][j]? = some u → (w1.alloc (.cells #[.int .i64 0, .int .i64 0, .int .i64 0] 39)).cell? ((⟨g, i * 3, none⟩ : Addr).add j) = some u) := fun i hi A B C e j u hj => by
    have := hsh i hi A B C e j u hj
    exact ((bal w1 _).cell (World.block_lt_of_cell? w1 _ this)).trans this
  obtain ⟨c1, f1, z1, c2, f2, z2, c3, f3, z3, -⟩ := (s0.call hb).rules
  clear hb hSh s0 hRl hsh hS
  go_upto_region 4 with fail
  obtain ⟨wS, hwS⟩ : ∃ wS, w1.alloc (.cells #[.int .i64 0, .int .i64 0, .int .i64 0] 39) = wS := ⟨_, rfl⟩
  rw [hwS] at s1 HSH ⊢
  clear hwS c1 f1 z1 c2 f2 z2 c3 f3 z3
  obtain ⟨c1, f1, z1, c2, f2, z2, c3, f3, z3, -⟩ := s1.rules
  have S1 : Hid (St W wS ([(W.heap.size + 1 + 1, #[.int .i64 0, .int .i64 0, .int .i64 0], 39), (W.heap.size + 1, #[.slice ra (on + 1) rc, .slice pa on pc], 30), (W.heap.size, #[.int .i64 h, .int .i64 w, .int .i64 c, .int .i64 lo, .int .i64 hi, .slice oa on oc, .int .i64 ot], 26)])) := s1
  clear s1
  have hlen : (((on + 1 : Nat) : Int)) = 1 + (on : Int) := by omega
  go_wp2
  clear hlen
  go_loopw [43] (fun i wr => ∃ k : Nat, k ≤ on + 1 ∧ i = .int .i64 k ∧ raE (R.drop k) k = raE R 0 ∧ Below wS.heap.size wS wr) (fun i _ => on + 1 - (intOf i).toNat)
  case atStart => exact ⟨0, Nat.zero_le _, rfl, by simp, Below.refl _ _⟩
  case round =>
    obtain ⟨k, hk, rfl, hp, hbr⟩ := hrel
    clear c1 f1 c2 f2 c3 f3
    have sr := S1.out.call hbr
    obtain ⟨c1, f1, zr1, c2, f2, zr2, c3, f3, zr3, -⟩ := sr.rules
    by_cases hlt : k < on + 1
    · obtain ⟨x, p, rfl, -, hd, hc⟩ := (H2.out.below sr.below).at hlt
      obtain ⟨q1, q2⟩ := p
      rw [hd] at hp
      have hcell : Hid (∀ q v, [.int .i64 q1, .int .i64 q2][q]? = some v → wr.cell? ((x.add (k * 2)).add q) = some v) := hc
      have HP : Hid (raE ((q1, q2) :: R.drop (k + 1)) k = raE R 0) := hp
      have HV : Hid (∀ w, _) := cofv_any q1 q2
      have hbb : Hid (Below wS.heap.size wS (wr.alloc (.cells #[.int .i64 q1, .int .i64 q2] 59))) := hbr.trans ((bal wr _).mono hbr.size)
      have sb := sr.new (c := #[.int .i64 q1, .int .i64 q2]) (t := 59)
      clear hc hd hp sr hbr
      go_upto_region 9 with (first
        | (refine wpList_load_any rfl 59 (.tmp 46) rfl _ rfl [.int .i64 q1, .int .i64 q2] _ hcell.out Try.underlying59 rfl (by kernel_rfl) ?_)
        | (refine wpList_st_new rfl 59 (.tmp 8) (.tmp 47) rfl wr _ #[.int .i64 q1, .int .i64 q2] rfl rfl (by kernel_rfl) rfl (by simp [Value.oneCell']) ?_))
      obtain ⟨B, hB⟩ : ∃ B, wr.heap.size = B := ⟨_, rfl⟩
      obtain ⟨wb, hwb⟩ : ∃ wb, wr.alloc (.cells #[.int .i64 q1, .int .i64 q2] 59) = wb := ⟨_, rfl⟩
      rw [hwb, hB] at sb
      rw [hwb] at hbb ⊢
      rw [hB]
      clear hwb hcell hB c1 f1 c2 f2 c3 f3
      obtain ⟨c0, f0, zb0, c1, f1, zb1, c2, f2, zb2, c3, f3, zb3, -⟩ := sb.rules
      cases hv : cvB (q1, q2) with
      | true =>
        rw [hv] at HV
        have HQ : Hid (raE (R.drop (k + 1)) (k + 1) = raE R 0) := (raE_yes hv).symm.trans HP.out
        clear HP hv
        go_wp2_with fail
        refine (HV.out _).mono ?_
        rintro e w2 ⟨rfl, hb⟩
        have hb2 : Hid (Below wS.heap.size wS w2) := hbb.out.trans (hb.mono hbb.out.size)
        clear hb c0 f0 c1 f1 c2 f2 c3 f3
        go_wp2
        go_roundw
        case rel => exact ⟨k + 1, by omega, by go_num, HQ.out, hb2.out⟩
        case measure => simp [intOf]; omega
      | false =>
        rw [hv] at HV
        have HQ := (raE_no hv).symm.trans HP.out
        have hX := HX.out
        rw [foE_r HL.out (by rw [← HQ]; simp), ← HQ] at hX
        simp only [Prod.mk.injEq] at hX
        obtain ⟨rfl, rfl, rfl⟩ := hX
        clear HP hv HX HQ
        go_wp2_with fail
        refine (HV.out _).mono ?_
        rintro e w2 ⟨rfl, hb⟩
        have s2 := sb.call hb
        clear hb c0 f0 c1 f1 c2 f2 c3 f3
        obtain ⟨c0, f0, zc0, c1, f1, zc1, c2, f2, zc2, c3, f3, zc3, -⟩ := s2.rules
        have Hs : Hid (Below W.heap.size W w2) := s2.below
        clear s2 sb
        go_wp2
        exact bodyPost_ret (v := .agg #[.int .i64 30, .int .i64 (k : Int), .int .i64 0]) (by simp [results, Try.results12, go_sem, *]) rfl ⟨rfl, set3b Hs.out (by omega)⟩
    · rw [List.drop_of_length_le (by rw [HL.out.1]; omega)] at hp
      have hX := HX.out
      rw [foE_p HL.out (by rw [← hp]; rfl)] at hX
      have HY : Hid (psE (nuP O RL) P 0 = (x1, x2, x3)) := hX
      clear hp hX HX sr
      go_wp2
      go_loopw [57] (fun i wv => ∃ k : Nat, k ≤ on ∧ i = .int .i64 k ∧ psE (nuP O RL) (P.drop k) k = (x1, x2, x3) ∧ Below wS.heap.size wS wv) (fun i _ => on - (intOf i).toNat)
      case atStart => exact ⟨0, Nat.zero_le _, rfl, by simpa using HY.out, hbr⟩
      case round =>
        clear c1 f1 c2 f2 c3 f3 zr1 zr2 zr3 hbr hlt hk HY
        obtain ⟨i, hi0, rfl, hp, hbr⟩ := hrel
        have sr := S1.out.call hbr
        obtain ⟨c1, f1, zr1, c2, f2, zr2, c3, f3, zr3, -⟩ := sr.rules
        by_cases hlt : i < on
        rotate_left
        · obtain rfl : i = on := by omega
          rw [List.drop_of_length_le (by rw [HL.out.2]; omega)] at hp
          unfold psE at hp
          simp only [Prod.mk.injEq] at hp
          obtain ⟨rfl, rfl, rfl⟩ := hp
          have Hs : Hid (Below W.heap.size W wr) := sr.below
          clear sr hbr
          go_wp2
          exact bodyPost_ret (v := .agg #[.int .i64 0, .int .i64 0, .int .i64 0]) (by simp [results, Try.results12, go_sem, *]) rfl ⟨rfl, set3b Hs.out (by omega)⟩
        · obtain ⟨x, l, ca, cc, rfl, -, hd, hcl, hE, -⟩ := (H3.out.below sr.below).at hlt
          obtain ⟨y, wa, lw, cw, ba, lb, cb, rfl, e12, e13, hop⟩ := (H1.out.below sr.below).at hlt
          obtain ⟨A, V, C, hABC⟩ : ∃ A V C, RL.getD (i + 1) (0, 0, 0) = (A, V, C) := ⟨_, _, _, rfl⟩
          rw [hd] at hp
          have HP : Hid (psE (nuP O RL) (l :: P.drop (i + 1)) i = (x1, x2, x3)) := hp
          obtain ⟨ln, hln⟩ : ∃ ln, l.length = ln := ⟨_, rfl⟩
          rw [hln] at hcl hE
          have HE : Hid (ERow 6 pcs wr ca ln cc l) := hE
          have hCo : Hid (∀ wz, (∃ n : Wd wr [], wz = n.w) → ∀ j v, [.int .i64 (O i 0), .int .i64 (O i 1), .int .i64 (O i 2), .int .i64 (O i 3), .int .i64 (O i 4), .int .i64 (O i 5), .int .i64 (O i 6), .int .i64 (O i 7), .int .i64 (O i 8), .int .i64 (O i 9), .int .i64 (O i 10), .int .i64 (O i 11), .slice wa lw cw, .slice ba lb cb, .int .i64 (O i 14), .int .i64 (O i 15), .int .i64 (O i 16), .int .i64 (O i 17), .int .i64 (O i 18), .int .i64 (O i 19), .int .i64 (O i 20), .int .i64 (O i 21)][j]? = some v → wz.cell? ((y.add (i * 22)).add j) = some v) := wd_cells hop
          have hCs : Hid (∀ wz, (∃ n : Wd wr [], wz = n.w) → ∀ j v, [Value.int .i64 A, .int .i64 V, .int .i64 C][j]? = some v → wz.cell? ((⟨g, (i + 1) * 3, none⟩ : Addr).add j) = some v) := wd_cells (fun j u hj => (hbr.cell (World.block_lt_of_cell? _ _ (HSH.out (i + 1) (by omega) A V C hABC j u hj))).trans (HSH.out (i + 1) (by omega) A V C hABC j u hj))
          have hN : Hid ((if rdB (O i 0) = true then C else 0) = nuP O RL i) := by unfold Hid nuP; rw [hABC]
          have hPl : Hid (∀ n : Wd wr [], Calls Try.prog 30 #[.agg #[.int .i64 (O i 0), .int .i64 (O i 1), .int .i64 (O i 2), .int .i64 (O i 3), .int .i64 (O i 4), .int .i64 (O i 5), .int .i64 (O i 6), .int .i64 (O i 7), .int .i64 (O i 8), .int .i64 (O i 9), .int .i64 (O i 10), .int .i64 (O i 11), .slice wa lw cw, .slice ba lb cb, .int .i64 (O i 14), .int .i64 (O i 15), .int .i64 (O i 16), .int .i64 (O i 17), .int .i64 (O i 18), .int .i64 (O i 19), .int .i64 (O i 20), .int .i64 (O i 21)], .agg #[.int .i64 A, .int .i64 V, .int .i64 C]] n.w fun e w' => e = .returned (.int .i64 (nuP O RL i)) ∧ Below n.w.heap.size n.w w') := fun n => by
            have := cplan_any (O i 0) (O i 1) (O i 2) (O i 3) (O i 4) (O i 5) (O i 6) (O i 7) (O i 8) (O i 9) (O i 10) (O i 11) wa lw cw ba lb cb (O i 14) (O i 15) (O i 16) (O i 17) (O i 18) (O i 19) (O i 20) (O i 21) A V C n.w
            rw [hN.out] at this
            exact this
          have hFo : Hid (∀ w, ERow 6 pcs w ca ln cc l → _) := fun w hw => cfol_any ca ln cc l ((i : Int) + 1) (nuP O RL i) w hw (by omega)
          obtain ⟨y1, y2, y3, hY⟩ : ∃ y1 y2 y3, liE (nuP O RL i) ((i : Int) + 1) l = (y1, y2, y3) := ⟨_, _, _, rfl⟩
          rw [hY] at hFo
          simp only at hFo
          have HYY : Hid (liE (nuP O RL i) ((i : Int) + 1) l = (y1, y2, y3)) := hY
          obtain ⟨nu, hnu⟩ : ∃ nu, nuP O RL i = nu := ⟨_, rfl⟩
          rw [hnu] at hPl hFo
          clear hd hp hE hop e12 e13 hABC hln hY hN hnu
          go_upto_region 15 with fail
          have hSt := St.start wr
          have Hbr : Hid (Below wS.heap.size wS wr) := hbr
          obtain ⟨q1, y1', q2, y2', q3, y3', -⟩ := sr.rulesE
          have hne := Nonempty.intro (Wd.mk _ hSt)
          clear sr hbr
          refine region_held hSt (by kernel_rfl) (by kernel_rfl) ?_
          go_big_quiet_step (fail)
          go_big_quiet_step (fail)
          go_big_quiet_step (fail)
          go_big_quiet_step (fail)
          go_big_quiet_want
          refine quiet_la 70 (.tmp 65) rfl _ rfl [.int .i64 (O i 0), .int .i64 (O i 1), .int .i64 (O i 2), .int .i64 (O i 3), .int .i64 (O i 4), .int .i64 (O i 5), .int .i64 (O i 6), .int .i64 (O i 7), .int .i64 (O i 8), .int .i64 (O i 9), .int .i64 (O i 10), .int .i64 (O i 11), .slice wa lw cw, .slice ba lb cb, .int .i64 (O i 14), .int .i64 (O i 15), .int .i64 (O i 16), .int .i64 (O i 17), .int .i64 (O i 18), .int .i64 (O i 19), .int .i64 (O i 20), .int .i64 (O i 21)] _ hCo.out Try.underlying70 rfl (by kernel_rfl) rfl ?_
          go_simp
          go_big_quiet_on
          go_big_quiet_step (fail)
          go_big_quiet_step (fail)
          go_big_quiet_step (fail)
          go_big_quiet_step (fail)
          go_big_quiet_want
          refine quiet_la 23 (.tmp 70) rfl _ rfl [.int .i64 A, .int .i64 V, .int .i64 C] _ hCs.out Try.underlying23 rfl (by kernel_rfl) rfl ?_
          go_simp
          go_big_quiet_on
          repeat (go_big_quiet_step ((go_at_call 30; exact held_of (hPl.out _))))
          refine wpQuiet_nil ?_
          intro _ hw'
          obtain ⟨nq, rfl⟩ := hw'
          obtain ⟨w5, hw5⟩ : ∃ w5, nq.w = w5 := ⟨_, rfl⟩
          have hb5 : Below wr.heap.size wr w5 := hw5 ▸ nq.h.below
          rw [hw5]
          have HB5 : Hid (Below wS.heap.size wS w5) := Hbr.out.trans (hb5.mono Hbr.out.size)
          have HE5 : Hid (ERow 6 pcs w5 ca ln cc l) := HE.out.below hb5
          clear q1 y1' q2 y2' q3 y3' hne hw5 hSt hCo hCs hPl hb5 HE Hbr c1 f1 c2 f2 c3 f3
          clear nq
          go_wp2_with fail
          refine (hFo.out _ HE5.out).mono ?_
          rintro e w6 ⟨rfl, hb⟩
          have hb6 := HB5.out.trans (hb.mono HB5.out.size)
          have hb7 : Hid (Below wS.heap.size wS (w6.alloc (.cells #[.int .i64 y1, .int .i64 y2, .int .i64 y3] 39))) := hb6.trans ((bal w6 _).mono hb6.size)
          have s6 := S1.out.call hb6
          obtain ⟨c1, f1, zs1, c2, f2, zs2, c3, f3, zs3, -⟩ := s6.rules
          by_cases hy : y1 = 0
          · obtain ⟨h0, -⟩ := liE_0 (show (liE (nuP O RL i) ((i : Int) + 1) l).1 = 0 by rw [HYY.out]; exact hy)
            have e0 := HYY.out.symm.trans h0
            simp only [Prod.mk.injEq] at e0
            obtain ⟨rfl, rfl, rfl⟩ := e0
            have HQ : Hid (psE (nuP O RL) (P.drop (i + 1)) (i + 1) = (x1, x2, x3)) := (psE_yes (by rw [HYY.out])).symm.trans HP.out
            clear hb hb6 HB5 HE5 s6 c1 f1 c2 f2 c3 f3 hFo HP HYY hy h0
            go_wp2
            go_roundw
            case rel => exact ⟨i + 1, by omega, by go_num, HQ.out, hb7.out⟩
            case measure => simp [intOf]; omega
          · have HQ := (psE_no (by rw [HYY.out]; exact hy)).symm.trans HP.out
            rw [HYY.out] at HQ
            simp only [Prod.mk.injEq] at HQ
            obtain ⟨rfl, rfl, rfl⟩ := HQ
            have qm := neFo 39 rfl y1 y2 y3 0 0 0 false (decide_eq_false (fun q => hy q.1))
            have Hs : Hid (Below W.heap.size W w6) := s6.below
            clear hb hb6 HB5 HE5 s6 hFo HP HYY hy qn
            go_wp2
            exact bodyPost_ret (v := .agg #[.int .i64 y1, .int .i64 y2, .int .i64 y3]) (by simp [results, Try.results12, go_sem, *]) rfl ⟨rfl, bt (set3b Hs.out (by omega)) (bal _ _)⟩
/-- What Form returns. -/
theorem cform_any (h w c lo hi ot : Int) (oa : Option Addr) (on oc : Nat) (O : Nat → Nat → Int) (ra : Option Addr) (rn rc : Nat) (R : List (Int × Int)) (pa : Option Addr) (pn pc : Nat) (P : List (List Pl)) (W : World) (hM : MRow W oa on oc O) (hR : ERow 2 scs W ra rn rc R) (hP : QRow W pa pn pc P) (hrn : rn ≤ 140737488351232) (hpn : pn ≤ 140737488351232) (Re Ra Rw : Int) (RL : List (Int × Int × Int)) (hG : gtR O h w c lo hi ot on = (Re, Ra, RL, Rw)) (x1 x2 x3 : Int) (hX : foE Re Ra on (nuP O RL) R P = (x1, x2, x3)) :
    Calls Try.prog 12 #[.agg #[.int .i64 h, .int .i64 w, .int .i64 c, .int .i64 lo, .int .i64 hi, .slice oa on oc, .int .i64 ot], .agg #[.slice ra rn rc, .slice pa pn pc]] W fun e w' => e = .returned (.agg #[.int .i64 x1, .int .i64 x2, .int .i64 x3]) ∧ Below W.heap.size W w' := by
  by_cases he : Re = 0
  · subst he
    obtain rfl : Ra = 0 := (gtR_st hG).2.1
    by_cases hl : rn = on + 1 ∧ pn = on
    · obtain ⟨rfl, hl2⟩ := hl
      subst hl2
      exact cform_w h w c lo hi ot oa pn oc O ra rc R pa pc P W hM hR hP Rw RL hG x1 x2 x3 hX
    · have hl' : ¬ (R.length = on + 1 ∧ P.length = on) := by rw [hR.1, hP.1]; exact hl
      rw [foE_l hl'] at hX
      simp only [Prod.mk.injEq] at hX
      obtain ⟨rfl, rfl, rfl⟩ := hX
      exact cform_l h w c lo hi ot oa on oc O ra rn rc R pa pn pc P W hM Rw RL hG hrn hpn hl
  · rw [foE_e he] at hX
    simp only [Prod.mk.injEq] at hX
    obtain ⟨rfl, rfl, rfl⟩ := hX
    exact cform_e h w c lo hi ot oa on oc O ra rn rc R pa pn pc P W hM _ _ Rw RL hG he
end Go.Proofs.Ytcjnhchjikcigaa

/- What Same of package cert returns. -/
namespace Go.Proofs.Ytcjnhchjikcigaa
open Go.ChangeShapes Go.WideShapes Go.ChangeAt Go.RowKit
set_option linter.unusedVariables false
theorem neS2 (a1 a2 b1 b2 : Int) (v : Bool) (h : decide ((a1, a2) = (b1, b2)) = v) : ∀ W, (binOp .neq 59 (.agg #[.int .i64 a1, .int .i64 a2]) (.agg #[.int .i64 b1, .int .i64 b2])).run Try.prog W = .ok (.bool (!v)) W := by
  intro W; subst h; simp [go_sem]; repeat' split
  all_goals simp_all
theorem neC6 (a1 a2 a3 a4 a5 a6 b1 b2 b3 b4 b5 b6 : Int) (v : Bool) (h : decide ((a1, a2, a3, a4, a5, a6) = (b1, b2, b3, b4, b5, b6)) = v) : ∀ W, (binOp .neq 61 (.agg #[.int .i64 a1, .int .i64 a2, .int .i64 a3, .int .i64 a4, .int .i64 a5, .int .i64 a6]) (.agg #[.int .i64 b1, .int .i64 b2, .int .i64 b3, .int .i64 b4, .int .i64 b5, .int .i64 b6])).run Try.prog W = .ok (.bool (!v)) W := by
  intro W; subst h; simp [go_sem]; repeat' split
  all_goals simp_all
theorem te_step {α : Type} {xs ys : List α} {k : Nat} {p : α} (hx : xs[k]? = some p) (hy : ys[k]? = some p) (h : xs.take k = ys.take k) : xs.take (k + 1) = ys.take (k + 1) := by
  rw [List.take_add_one, List.take_add_one, hx, hy, h]
theorem te_ne {α : Type} {xs ys : List α} {k : Nat} {p q : α} (hx : xs[k]? = some p) (hy : ys[k]? = some q) (h : p ≠ q) : xs ≠ ys := fun e => by
  rw [e, hy] at hx
  exact h (Option.some.inj hx).symm
theorem te_end {α : Type} {xs ys : List α} {k n : Nat} (hx : xs.length = n) (hy : ys.length = n) (hk : n ≤ k) (h : xs.take k = ys.take k) : xs = ys := by
  rwa [List.take_of_length_le (by omega), List.take_of_length_le (by omega)] at h
set_option maxHeartbeats 4000000 in
set_option maxRecDepth 100000 in
theorem eqS_any (a b : Option Addr) (n c m d : Nat) (xs ys : List (Int × Int)) (W : World) (ha : ERow 2 scs W a n c xs) (hb : ERow 2 scs W b m d ys) :
    Calls Try.prog 39 #[.slice a n c, .slice b m d] W fun e w' => e = .returned (.bool (decide (xs = ys))) ∧ Below W.heap.size W w' := by
  have l1 := ha.2.1
  have l2 := ha.2.2.1
  have l3 := hb.2.1
  have l4 := hb.2.2.1
  unfold maxLen at l2 l4
  have H1 : Hid (ERow 2 scs W a n c xs) := ha
  have H2 : Hid (ERow 2 scs W b m d ys) := hb
  clear ha hb
  by_cases hnm : n = m
  rotate_left
  · rw [decide_eq_false (fun e : xs = ys => hnm (by rw [← H1.out.1, ← H2.out.1, e]))]
    have hn2 : ¬ (n : Int) = (m : Int) := by omega
    clear H1 H2 hnm
    go_enter Try.func39, Try.ntmps39
    go_wp2
    go_ret
    exact ⟨rfl, Below.refl _ _⟩
  · subst hnm
    obtain ⟨v, hv⟩ : ∃ v, decide (xs = ys) = v := ⟨_, rfl⟩
    rw [hv]
    have HV : Hid (decide (xs = ys) = v) := hv
    clear hv
    go_enter Try.func39, Try.ntmps39
    go_wp2
    go_loopw [13] (fun i wr => ∃ k : Nat, k ≤ n ∧ i = .int .i64 k ∧ xs.take k = ys.take k ∧ Below W.heap.size W wr) (fun i _ => n - (intOf i).toNat)
    case atStart => exact ⟨0, Nat.zero_le _, rfl, by simp, Below.refl _ _⟩
    case round =>
      obtain ⟨k, hk, rfl, ht, hbr⟩ := hrel
      by_cases hlt : k < n
      rotate_left
      · have e := te_end H1.out.1 H2.out.1 (by omega) ht
        have hv := HV.out
        rw [decide_eq_true e] at hv
        subst hv
        have Hb : Hid (Below W.heap.size W wr) := hbr
        clear ht hbr e
        go_wp2
        go_ret
        exact ⟨rfl, Hb.out⟩
      · obtain ⟨x, p, rfl, hp, -, hcx⟩ := (H1.out.below hbr).at hlt
        obtain ⟨y, q, rfl, hq, -, hcy⟩ := (H2.out.below hbr).at hlt
        have HT : Hid (xs.take k = ys.take k) := ht
        have Hbr : Hid (Below W.heap.size W wr) := hbr
        obtain ⟨a1, a2⟩ := p
        obtain ⟨b1, b2⟩ := q
        have hCx : Hid (∀ wz, (∃ n : Wd wr [], wz = n.w) → ∀ j v, [.int .i64 a1, .int .i64 a2][j]? = some v → wz.cell? ((x.add (k * 2)).add j) = some v) := wd_cells hcx
        have hCy : Hid (∀ wz, (∃ n : Wd wr [], wz = n.w) → ∀ j v, [.int .i64 b1, .int .i64 b2][j]? = some v → wz.cell? ((y.add (k * 2)).add j) = some v) := wd_cells hcy
        have HP : Hid (xs[k]? = some _) := hp
        have HQ : Hid (ys[k]? = some _) := hq
        clear hcx hcy ht hbr hp hq
        obtain ⟨ev, hev⟩ : ∃ ev, ev = decide ((⟨a1, a2⟩ : Int × Int) = ⟨b1, b2⟩) := ⟨_, rfl⟩
        have hN := neS2 a1 a2 b1 b2 ev hev.symm
        have HEV : Hid (ev = _) := hev
        clear hev
        go_upto_region 6 with fail
        have hSt := St.start wr
        have hne := Nonempty.intro (Wd.mk _ hSt)
        refine region_held hSt (by kernel_rfl) (by kernel_rfl) ?_
        go_big_quiet_step (fail)
        go_big_quiet_step (fail)
        go_big_quiet_step (fail)
        go_big_quiet_want
        refine quiet_la 59 (.tmp 18) rfl _ rfl [.int .i64 a1, .int .i64 a2] _ hCx.out Try.underlying59 rfl (by kernel_rfl) rfl ?_
        go_simp
        go_big_quiet_on
        go_big_quiet_step (fail)
        go_big_quiet_step (fail)
        go_big_quiet_step (fail)
        go_big_quiet_want
        refine quiet_la 59 (.tmp 22) rfl _ rfl [.int .i64 b1, .int .i64 b2] _ hCy.out Try.underlying59 rfl (by kernel_rfl) rfl ?_
        go_simp
        go_big_quiet_on
        repeat (go_big_quiet_step (fail))
        refine wpQuiet_nil ?_
        intro _ hw'
        obtain ⟨nq, rfl⟩ := hw'
        obtain ⟨w5, hw5⟩ : ∃ w5, nq.w = w5 := ⟨_, rfl⟩
        have hb5 : Below wr.heap.size wr w5 := hw5 ▸ nq.h.below
        rw [hw5]
        have HB5 : Hid (Below W.heap.size W w5) := bt Hbr.out hb5
        clear hne hw5 hSt hCx hCy hb5 Hbr
        clear nq
        cases ev with
        | true =>
          have e := of_decide_eq_true HEV.out.symm
          have HT2 : Hid (xs.take (k + 1) = ys.take (k + 1)) := te_step HP.out (by rw [e]; exact HQ.out) HT.out
          clear e HEV HT HP HQ hN
          go_wp2
          go_roundw
          case rel => exact ⟨k + 1, by omega, by go_num, HT2.out, HB5.out⟩
          case measure => simp [intOf]; omega
        | false =>
          have e := te_ne HP.out HQ.out (of_decide_eq_false HEV.out.symm)
          have hv := HV.out
          rw [decide_eq_false e] at hv
          subst hv
          clear e HEV HT HP HQ hN
          go_wp2
          go_ret
          exact ⟨rfl, HB5.out⟩
set_option maxHeartbeats 4000000 in
set_option maxRecDepth 100000 in
theorem eqC_any (a b : Option Addr) (n c m d : Nat) (xs ys : List (Pl)) (W : World) (ha : ERow 6 pcs W a n c xs) (hb : ERow 6 pcs W b m d ys) :
    Calls Try.prog 38 #[.slice a n c, .slice b m d] W fun e w' => e = .returned (.bool (decide (xs = ys))) ∧ Below W.heap.size W w' := by
  have l1 := ha.2.1
  have l2 := ha.2.2.1
  have l3 := hb.2.1
  have l4 := hb.2.2.1
  unfold maxLen at l2 l4
  have H1 : Hid (ERow 6 pcs W a n c xs) := ha
  have H2 : Hid (ERow 6 pcs W b m d ys) := hb
  clear ha hb
  by_cases hnm : n = m
  rotate_left
  · rw [decide_eq_false (fun e : xs = ys => hnm (by rw [← H1.out.1, ← H2.out.1, e]))]
    have hn2 : ¬ (n : Int) = (m : Int) := by omega
    clear H1 H2 hnm
    go_enter Try.func38, Try.ntmps38
    go_wp2
    go_ret
    exact ⟨rfl, Below.refl _ _⟩
  · subst hnm
    obtain ⟨v, hv⟩ : ∃ v, decide (xs = ys) = v := ⟨_, rfl⟩
    rw [hv]
    have HV : Hid (decide (xs = ys) = v) := hv
    clear hv
    go_enter Try.func38, Try.ntmps38
    go_wp2
    go_loopw [13] (fun i wr => ∃ k : Nat, k ≤ n ∧ i = .int .i64 k ∧ xs.take k = ys.take k ∧ Below W.heap.size W wr) (fun i _ => n - (intOf i).toNat)
    case atStart => exact ⟨0, Nat.zero_le _, rfl, by simp, Below.refl _ _⟩
    case round =>
      obtain ⟨k, hk, rfl, ht, hbr⟩ := hrel
      by_cases hlt : k < n
      rotate_left
      · have e := te_end H1.out.1 H2.out.1 (by omega) ht
        have hv := HV.out
        rw [decide_eq_true e] at hv
        subst hv
        have Hb : Hid (Below W.heap.size W wr) := hbr
        clear ht hbr e
        go_wp2
        go_ret
        exact ⟨rfl, Hb.out⟩
      · obtain ⟨x, p, rfl, hp, -, hcx⟩ := (H1.out.below hbr).at hlt
        obtain ⟨y, q, rfl, hq, -, hcy⟩ := (H2.out.below hbr).at hlt
        have HT : Hid (xs.take k = ys.take k) := ht
        have Hbr : Hid (Below W.heap.size W wr) := hbr
        obtain ⟨a1, a2, a3, a4, a5, a6⟩ := p
        obtain ⟨b1, b2, b3, b4, b5, b6⟩ := q
        have hCx : Hid (∀ wz, (∃ n : Wd wr [], wz = n.w) → ∀ j v, [.int .i64 a1, .int .i64 a2, .int .i64 a3, .int .i64 a4, .int .i64 a5, .int .i64 a6][j]? = some v → wz.cell? ((x.add (k * 6)).add j) = some v) := wd_cells hcx
        have hCy : Hid (∀ wz, (∃ n : Wd wr [], wz = n.w) → ∀ j v, [.int .i64 b1, .int .i64 b2, .int .i64 b3, .int .i64 b4, .int .i64 b5, .int .i64 b6][j]? = some v → wz.cell? ((y.add (k * 6)).add j) = some v) := wd_cells hcy
        have HP : Hid (xs[k]? = some _) := hp
        have HQ : Hid (ys[k]? = some _) := hq
        clear hcx hcy ht hbr hp hq
        obtain ⟨ev, hev⟩ : ∃ ev, ev = decide ((⟨a1, a2, a3, a4, a5, a6⟩ : Pl) = ⟨b1, b2, b3, b4, b5, b6⟩) := ⟨_, rfl⟩
        have hN := neC6 a1 a2 a3 a4 a5 a6 b1 b2 b3 b4 b5 b6 ev hev.symm
        have HEV : Hid (ev = _) := hev
        clear hev
        go_upto_region 6 with fail
        have hSt := St.start wr
        have hne := Nonempty.intro (Wd.mk _ hSt)
        refine region_held hSt (by kernel_rfl) (by kernel_rfl) ?_
        go_big_quiet_step (fail)
        go_big_quiet_step (fail)
        go_big_quiet_step (fail)
        go_big_quiet_want
        refine quiet_la 61 (.tmp 18) rfl _ rfl [.int .i64 a1, .int .i64 a2, .int .i64 a3, .int .i64 a4, .int .i64 a5, .int .i64 a6] _ hCx.out Try.underlying61 rfl (by kernel_rfl) rfl ?_
        go_simp
        go_big_quiet_on
        go_big_quiet_step (fail)
        go_big_quiet_step (fail)
        go_big_quiet_step (fail)
        go_big_quiet_want
        refine quiet_la 61 (.tmp 22) rfl _ rfl [.int .i64 b1, .int .i64 b2, .int .i64 b3, .int .i64 b4, .int .i64 b5, .int .i64 b6] _ hCy.out Try.underlying61 rfl (by kernel_rfl) rfl ?_
        go_simp
        go_big_quiet_on
        repeat (go_big_quiet_step (fail))
        refine wpQuiet_nil ?_
        intro _ hw'
        obtain ⟨nq, rfl⟩ := hw'
        obtain ⟨w5, hw5⟩ : ∃ w5, nq.w = w5 := ⟨_, rfl⟩
        have hb5 : Below wr.heap.size wr w5 := hw5 ▸ nq.h.below
        rw [hw5]
        have HB5 : Hid (Below W.heap.size W w5) := bt Hbr.out hb5
        clear hne hw5 hSt hCx hCy hb5 Hbr
        clear nq
        cases ev with
        | true =>
          have e := of_decide_eq_true HEV.out.symm
          have HT2 : Hid (xs.take (k + 1) = ys.take (k + 1)) := te_step HP.out (by rw [e]; exact HQ.out) HT.out
          clear e HEV HT HP HQ hN
          go_wp2
          go_roundw
          case rel => exact ⟨k + 1, by omega, by go_num, HT2.out, HB5.out⟩
          case measure => simp [intOf]; omega
        | false =>
          have e := te_ne HP.out HQ.out (of_decide_eq_false HEV.out.symm)
          have hv := HV.out
          rw [decide_eq_false e] at hv
          subst hv
          clear e HEV HT HP HQ hN
          go_wp2
          go_ret
          exact ⟨rfl, HB5.out⟩
/-- Are the lists of plans the same? -/
noncomputable def smP (P Q : List (List Pl)) : Bool := @decide (P = Q) (Classical.propDecidable _)
theorem smP_t {P Q : List (List Pl)} (h : P = Q) : smP P Q = true := @decide_eq_true _ (Classical.propDecidable _) h
theorem smP_f {P Q : List (List Pl)} (h : P ≠ Q) : smP P Q = false := @decide_eq_false _ (Classical.propDecidable _) h
theorem same1_any (a b : Option Addr) (n c m d : Nat) (xs ys : List Pl) (W : World) (ha : ERow 6 pcs W a n c xs) (hb : ERow 6 pcs W b m d ys) :
    Calls Try.prog 37 #[.slice a n c, .slice b m d] W fun e w' => e = .returned (.bool (decide (xs = ys))) ∧ Below W.heap.size W w' := by
  have H : Hid (Calls Try.prog 38 #[.slice a n c, .slice b m d] W _) := eqC_any a b n c m d xs ys W ha hb
  clear ha hb
  go_enter Try.func37, Try.ntmps37
  go_wp2_with fail
  refine H.out.mono ?_
  rintro e w1 ⟨rfl, hb⟩
  go_wp2
  go_ret
  exact ⟨rfl, hb⟩
set_option maxHeartbeats 4000000 in
set_option maxRecDepth 100000 in
theorem eqF_any (a b : Option Addr) (n c m d : Nat) (P Q : List (List Pl)) (W : World) (ha : QRow W a n c P) (hb : QRow W b m d Q) :
    Calls Try.prog 40 #[.slice a n c, .slice b m d, .func (.func 37) #[] #[]] W fun e w' => e = .returned (.bool (smP P Q)) ∧ Below W.heap.size W w' := by
  have l1 := ha.2.1
  have l2 := ha.2.2.1
  have l3 := hb.2.1
  have l4 := hb.2.2.1
  unfold maxLen at l2 l4
  have H1 : Hid (QRow W a n c P) := ha
  have H2 : Hid (QRow W b m d Q) := hb
  clear ha hb
  by_cases hnm : n = m
  rotate_left
  · rw [smP_f (fun e : P = Q => hnm (by rw [← H1.out.1, ← H2.out.1, e]))]
    have hn2 : ¬ (n : Int) = (m : Int) := by omega
    clear H1 H2 hnm
    go_enter Try.func40, Try.ntmps40
    go_wp2
    go_ret
    exact ⟨rfl, Below.refl _ _⟩
  · subst hnm
    obtain ⟨v, hv⟩ : ∃ v, smP P Q = v := ⟨_, rfl⟩
    rw [hv]
    have HV : Hid (smP P Q = v) := hv
    clear hv
    go_enter Try.func40, Try.ntmps40
    go_wp2
    go_loopw [17] (fun i wr => ∃ k : Nat, k ≤ n ∧ i = .int .i64 k ∧ P.take k = Q.take k ∧ Below W.heap.size W wr) (fun i _ => n - (intOf i).toNat)
    case atStart => exact ⟨0, Nat.zero_le _, rfl, by simp, Below.refl _ _⟩
    case round =>
      obtain ⟨k, hk, rfl, ht, hbr⟩ := hrel
      by_cases hlt : k < n
      rotate_left
      · have e := te_end H1.out.1 H2.out.1 (by omega) ht
        have hv := HV.out
        rw [smP_t e] at hv
        subst hv
        have Hb : Hid (Below W.heap.size W wr) := hbr
        clear ht hbr e
        go_wp2
        go_ret
        exact ⟨rfl, Hb.out⟩
      · obtain ⟨x, p, xa, xc, rfl, hp, -, hcx, hex, -⟩ := (H1.out.below hbr).at hlt
        obtain ⟨y, q, ya, yc, rfl, hq, -, hcy, hey, -⟩ := (H2.out.below hbr).at hlt
        have HT : Hid (P.take k = Q.take k) := ht
        have HP : Hid (P[k]? = some p) := hp
        have HQ : Hid (Q[k]? = some q) := hq
        obtain ⟨np, hnp⟩ : ∃ np, p.length = np := ⟨_, rfl⟩
        obtain ⟨nq, hnq⟩ : ∃ nq, q.length = nq := ⟨_, rfl⟩
        rw [hnp] at hcx hex
        rw [hnq] at hcy hey
        have HS : Hid (Calls Try.prog 37 #[.slice xa np xc, .slice ya nq yc] wr _) := same1_any xa ya np xc nq yc p q wr hex hey
        have Hbr : Hid (Below W.heap.size W wr) := hbr
        obtain ⟨ev, hev⟩ : ∃ ev, decide (p = q) = ev := ⟨_, rfl⟩
        rw [hev] at HS
        have HEV : Hid (decide (p = q) = ev) := hev
        clear hev hex hey hnp hnq ht hp hq hbr
        go_wp2_with fail
        refine HS.out.mono ?_
        rintro e w5 ⟨rfl, hb5⟩
        have HB5 : Hid (Below W.heap.size W w5) := bt Hbr.out hb5
        clear hb5 Hbr HS hcx hcy
        cases ev with
        | true =>
          have e := of_decide_eq_true HEV.out
          have HT2 : Hid (P.take (k + 1) = Q.take (k + 1)) := te_step HP.out (by rw [e]; exact HQ.out) HT.out
          clear e HEV HT HP HQ
          go_wp2
          go_roundw
          case rel => exact ⟨k + 1, by omega, by go_num, HT2.out, HB5.out⟩
          case measure => simp [intOf]; omega
        | false =>
          have e := te_ne HP.out HQ.out (of_decide_eq_false HEV.out)
          have hv := HV.out
          rw [smP_f e] at hv
          subst hv
          clear e HEV HT HP HQ
          go_wp2
          go_ret
          exact ⟨rfl, HB5.out⟩
end Go.Proofs.Ytcjnhchjikcigaa

/- What Same of package cert and Same of its document return. -/
namespace Go.Proofs.Ytcjnhchjikcigaa
open Go.ChangeShapes Go.WideShapes Go.ChangeAt Go.RowKit
set_option linter.unusedVariables false
/-- Are the certificates the same? -/
noncomputable def ceB (R : List (Int × Int)) (P : List (List Pl)) (S : List (Int × Int)) (Q : List (List Pl)) : Bool := if R = S then smP P Q else false
theorem ceB_n {R S : List (Int × Int)} {P Q : List (List Pl)} (h : R ≠ S) : ceB R P S Q = false := if_neg h
theorem ceB_y {R S : List (Int × Int)} {P Q : List (List Pl)} (h : R = S) : ceB R P S Q = smP P Q := if_pos h
theorem ceB_t {R : List (Int × Int)} {P : List (List Pl)} : ceB R P R P = true := by rw [ceB_y rfl, smP_t rfl]
theorem ceB_m {R S : List (Int × Int)} {P Q : List (List Pl)} (h : P ≠ Q) : ceB R P S Q = false := by unfold ceB; rw [smP_f h]; split <;> rfl
theorem ceB_sym (R S : List (Int × Int)) (P Q : List (List Pl)) : ceB S Q R P = ceB R P S Q := by
  by_cases h : R = S
  · subst h
    by_cases g : P = Q
    · subst g; rfl
    · rw [ceB_m g, ceB_m (fun e => g e.symm)]
  · rw [ceB_n h, ceB_n (fun e => h e.symm)]
set_option maxHeartbeats 4000000 in
set_option maxRecDepth 100000 in
theorem csame_any (ra : Option Addr) (rn rc : Nat) (R : List (Int × Int)) (pa : Option Addr) (pn pc : Nat) (P : List (List Pl)) (sa : Option Addr) (sn sc : Nat) (S : List (Int × Int)) (qa : Option Addr) (qn qc : Nat) (Q : List (List Pl)) (W : World) (h1 : ERow 2 scs W ra rn rc R) (h2 : QRow W pa pn pc P) (h3 : ERow 2 scs W sa sn sc S) (h4 : QRow W qa qn qc Q) :
    Calls Try.prog 16 #[.agg #[.slice ra rn rc, .slice pa pn pc], .agg #[.slice sa sn sc, .slice qa qn qc]] W fun e w' => e = .returned (.bool (ceB R P S Q)) ∧ Below W.heap.size W w' := by
  have s0 := ((St.start W).new (c := #[.slice ra rn rc, .slice pa pn pc]) (t := 30)).new (c := #[.slice sa sn sc, .slice qa qn qc]) (t := 30)
  simp only [World.size_alloc] at s0
  have HE : Hid (∀ w', Below W.heap.size W w' → _) := fun w' hb => eqS_any ra sa rn rc sn sc R S w' (h1.below hb) (h3.below hb)
  have HF : Hid (∀ w', Below W.heap.size W w' → _) := fun w' hb => eqF_any pa qa pn pc qn qc P Q w' (h2.below hb) (h4.below hb)
  clear h1 h2 h3 h4
  by_cases hr : R = S
  · rw [ceB_y hr]
    rw [decide_eq_true hr] at HE
    clear hr
    go_enter Try.func16, Try.ntmps16
    go_wp2_with fail
    refine (HE.out _ s0.below).mono ?_
    rintro e w1 ⟨rfl, hb⟩
    have s1 := s0.call hb
    obtain ⟨c1, f1, z1, c2, f2, z2, -⟩ := s1.rules
    clear hb
    go_wp2_with fail
    refine (HF.out _ s1.below).mono ?_
    rintro e w2 ⟨rfl, hb⟩
    have s2 : Hid (St W w2 _) := s1.call hb
    clear hb c1 f1 c2 f2
    go_wp2
    go_ret
    exact ⟨rfl, s2.out.below⟩
  · rw [ceB_n hr]
    rw [decide_eq_false hr] at HE
    clear hr
    go_enter Try.func16, Try.ntmps16
    go_wp2_with fail
    refine (HE.out _ s0.below).mono ?_
    rintro e w1 ⟨rfl, hb⟩
    have s1 : Hid (St W w1 _) := s0.call hb
    clear hb
    go_wp2
    go_ret
    exact ⟨rfl, s1.out.below⟩
/-! ### The document's -/
set_option maxHeartbeats 4000000 in
set_option maxRecDepth 100000 in
theorem rsame_l (ra : Option Addr) (rn rc : Nat) (R : List (Int × Int)) (pa : Option Addr) (pn pc : Nat) (P : List (List Pl)) (sa : Option Addr) (sn sc : Nat) (S : List (Int × Int)) (qa : Option Addr) (qn qc : Nat) (Q : List (List Pl)) (W : World) (h1 : ERow 2 scs W ra rn rc R) (h2 : QRow W pa pn pc P) (h3 : ERow 2 scs W sa sn sc S) (h4 : QRow W qa qn qc Q) (hl : ¬ (rn = sn ∧ pn = qn)) :
    Calls Try.prog 15 #[.agg #[.slice ra rn rc, .slice pa pn pc], .agg #[.slice sa sn sc, .slice qa qn qc]] W fun e w' => e = .returned (.bool false) ∧ Below W.heap.size W w' := by
  clear h1 h2 h3 h4
  by_cases q1 : (rn : Int) = (sn : Int)
  · have q2 : ¬ (pn : Int) = (qn : Int) := by omega
    clear hl
    go_enter Try.func15, Try.ntmps15
    go_wp2
    go_ret
    exact ⟨rfl, bt (bal _ _) (bal _ _)⟩
  · clear hl
    go_enter Try.func15, Try.ntmps15
    go_wp2
    go_ret
    exact ⟨rfl, bt (bal _ _) (bal _ _)⟩
set_option maxHeartbeats 8000000 in
set_option maxRecDepth 100000 in
theorem rsame_w (ra : Option Addr) (rn rc : Nat) (R : List (Int × Int)) (pa : Option Addr) (pn pc : Nat) (P : List (List Pl)) (sa : Option Addr) (sc : Nat) (S : List (Int × Int)) (qa : Option Addr) (qc : Nat) (Q : List (List Pl)) (W : World) (h1 : ERow 2 scs W ra rn rc R) (h2 : QRow W pa pn pc P) (h3 : ERow 2 scs W sa rn sc S) (h4 : QRow W qa pn qc Q) :
    Calls Try.prog 15 #[.agg #[.slice ra rn rc, .slice pa pn pc], .agg #[.slice sa rn sc, .slice qa pn qc]] W fun e w' => e = .returned (.bool (ceB R P S Q)) ∧ Below W.heap.size W w' := by
  have l1 := h1.2.1
  have l2 := h1.2.2.1
  have l3 := h2.2.1
  have l4 := h2.2.2.1
  have l5 := h3.2.1
  have l6 := h3.2.2.1
  have l7 := h4.2.1
  have l8 := h4.2.2.1
  unfold maxLen at l2 l4 l6 l8
  have H1 : Hid (ERow 2 scs W ra rn rc R) := h1
  have H2 : Hid (QRow W pa pn pc P) := h2
  have H3 : Hid (ERow 2 scs W sa rn sc S) := h3
  have H4 : Hid (QRow W qa pn qc Q) := h4
  clear h1 h2 h3 h4
  obtain ⟨v, hv⟩ : ∃ v, ceB R P S Q = v := ⟨_, rfl⟩
  rw [hv]
  have HV : Hid (ceB R P S Q = v) := hv
  clear hv
  have s0 := ((St.start W).new (c := #[.slice ra rn rc, .slice pa pn pc]) (t := 30)).new (c := #[.slice sa rn sc, .slice qa pn qc]) (t := 30)
  simp only [World.size_alloc] at s0
  have S0 : Hid (St W _ ([(W.heap.size + 1, #[.slice sa rn sc, .slice qa pn qc], 30), (W.heap.size, #[.slice ra rn rc, .slice pa pn pc], 30)])) := s0
  clear s0
  go_enter Try.func15, Try.ntmps15
  go_wp2
  go_loopw [27] (fun i wr => ∃ k : Nat, k ≤ rn ∧ i = .int .i64 k ∧ R.take k = S.take k ∧ St W wr ([(W.heap.size + 1, #[.slice sa rn sc, .slice qa pn qc], 30), (W.heap.size, #[.slice ra rn rc, .slice pa pn pc], 30)])) (fun i _ => rn - (intOf i).toNat)
  case atStart => exact ⟨0, Nat.zero_le _, rfl, by simp, S0.out⟩
  case round =>
    clear S0
    obtain ⟨k, hk, rfl, ht, sr⟩ := hrel
    by_cases hlt : k < rn
    · obtain ⟨x, p, rfl, hp, -, hcx⟩ := (H1.out.below sr.below).at hlt
      obtain ⟨y, q, rfl, hq, -, hcy⟩ := (H3.out.below sr.below).at hlt
      have HT : Hid (R.take k = S.take k) := ht
      obtain ⟨a1, a2⟩ := p
      obtain ⟨b1, b2⟩ := q
      have hCx : Hid (∀ wz, (∃ n : Wd wr [], wz = n.w) → ∀ j v, [.int .i64 a1, .int .i64 a2][j]? = some v → wz.cell? ((x.add (k * 2)).add j) = some v) := wd_cells hcx
      have hCy : Hid (∀ wz, (∃ n : Wd wr [], wz = n.w) → ∀ j v, [.int .i64 b1, .int .i64 b2][j]? = some v → wz.cell? ((y.add (k * 2)).add j) = some v) := wd_cells hcy
      have HP : Hid (R[k]? = some _) := hp
      have HQ : Hid (S[k]? = some _) := hq
      clear hcx hcy ht hp hq
      obtain ⟨ev, hev⟩ : ∃ ev, ev = decide ((a1, a2) = (b1, b2)) := ⟨_, rfl⟩
      have hN := neS2 a1 a2 b1 b2 ev hev.symm
      have HEV : Hid (ev = _) := hev
      clear hev
      go_upto_region 6 with fail
      have hSt := St.start wr
      obtain ⟨q1, y1, q2, y2, -⟩ := sr.rulesE
      have Hsr : Hid (St W wr (_)) := sr
      have hne := Nonempty.intro (Wd.mk _ hSt)
      clear sr
      refine region_held hSt (by kernel_rfl) (by kernel_rfl) ?_
      go_big_quiet_step (fail)
      go_big_quiet_step (fail)
      go_big_quiet_step (fail)
      go_big_quiet_step (fail)
      go_big_quiet_want
      refine quiet_la 59 (.tmp 33) rfl _ rfl [.int .i64 a1, .int .i64 a2] _ hCx.out Try.underlying59 rfl (by kernel_rfl) rfl ?_
      go_simp
      go_big_quiet_on
      go_big_quiet_step (fail)
      go_big_quiet_step (fail)
      go_big_quiet_step (fail)
      go_big_quiet_step (fail)
      go_big_quiet_want
      refine quiet_la 59 (.tmp 38) rfl _ rfl [.int .i64 b1, .int .i64 b2] _ hCy.out Try.underlying59 rfl (by kernel_rfl) rfl ?_
      go_simp
      go_big_quiet_on
      repeat (go_big_quiet_step (fail))
      refine wpQuiet_nil ?_
      intro _ hw'
      obtain ⟨nq, rfl⟩ := hw'
      obtain ⟨w5, hw5⟩ : ∃ w5, nq.w = w5 := ⟨_, rfl⟩
      have hb5 : Below wr.heap.size wr w5 := hw5 ▸ nq.h.below
      rw [hw5]
      have S5 : Hid (St W w5 (_)) := Hsr.out.call hb5
      clear hne hw5 hSt hCx hCy hb5 q1 y1 q2 y2 Hsr
      clear nq
      cases ev with
      | true =>
        have e := of_decide_eq_true HEV.out.symm
        have HT2 : Hid (R.take (k + 1) = S.take (k + 1)) := te_step HP.out (by rw [e]; exact HQ.out) HT.out
        clear e HEV HT HP HQ hN
        go_wp2
        go_roundw
        case rel => exact ⟨k + 1, by omega, by go_num, HT2.out, S5.out⟩
        case measure => simp [intOf]; omega
      | false =>
        have e := te_ne HP.out HQ.out (of_decide_eq_false HEV.out.symm)
        have hv := HV.out
        rw [ceB_n e] at hv
        subst hv
        clear e HEV HT HP HQ hN
        go_wp2
        go_ret
        exact ⟨rfl, S5.out.below⟩
    · have e := te_end H1.out.1 H3.out.1 (by omega) ht
      have hv := HV.out
      rw [ceB_y e] at hv
      have HW : Hid (smP P Q = v) := hv
      obtain ⟨c1, f1, z1, c2, f2, z2, -⟩ := sr.rules
      have Hsr : Hid (St W wr (_)) := sr
      clear ht e hv HV sr
      go_wp2
      clear c1 f1 c2 f2
      go_loopw [45] (fun i wv => ∃ k : Nat, k ≤ pn ∧ i = .int .i64 k ∧ P.take k = Q.take k ∧ St W wv ([(W.heap.size + 1, #[.slice sa rn sc, .slice qa pn qc], 30), (W.heap.size, #[.slice ra rn rc, .slice pa pn pc], 30)])) (fun i _ => pn - (intOf i).toNat)
      case atStart => exact ⟨0, Nat.zero_le _, rfl, by simp, Hsr.out⟩
      case round =>
        clear Hsr z1 z2
        obtain ⟨i, hi0, rfl, ht, sr⟩ := hrel
        by_cases hli : i < pn
        rotate_left
        · have e := te_end H2.out.1 H4.out.1 (by omega) ht
          have hv := HW.out
          rw [smP_t e] at hv
          subst hv
          have Hsr : Hid (St W wr (_)) := sr
          clear ht e sr
          go_wp2
          go_ret
          exact ⟨rfl, Hsr.out.below⟩
        · obtain ⟨x, p, xa, xc, rfl, hp, -, hcx, hex, -⟩ := (H2.out.below sr.below).at hli
          obtain ⟨y, q, ya, yc, rfl, hq, -, hcy, hey, -⟩ := (H4.out.below sr.below).at hli
          have HT : Hid (P.take i = Q.take i) := ht
          have HP : Hid (P[i]? = some p) := hp
          have HQ : Hid (Q[i]? = some q) := hq
          obtain ⟨np, hnp⟩ : ∃ np, p.length = np := ⟨_, rfl⟩
          obtain ⟨nq, hnq⟩ : ∃ nq, q.length = nq := ⟨_, rfl⟩
          rw [hnp] at hcx hex
          rw [hnq] at hcy hey
          have HX : Hid (ERow 6 pcs wr xa np xc p) := hex
          have HY : Hid (ERow 6 pcs wr ya nq yc q) := hey
          have m1 := hex.2.1
          have m2 := hex.2.2.1
          have m3 := hey.2.1
          have m4 := hey.2.2.1
          unfold maxLen at m2 m4
          have qx : ∀ n : Wd wr [], n.w.cell? (x.add i) = some (.slice xa np xc) := fun n => (n.h.below.cell (World.block_lt_of_cell? wr _ hcx)).trans hcx
          have qy : ∀ n : Wd wr [], n.w.cell? (y.add i) = some (.slice ya nq yc) := fun n => (n.h.below.cell (World.block_lt_of_cell? wr _ hcy)).trans hcy
          have Hcx : Hid (wr.cell? (x.add i) = some (.slice xa np xc)) := hcx
          have Hcy : Hid (wr.cell? (y.add i) = some (.slice ya nq yc)) := hcy
          have HN1 : Hid (p.length = np) := hnp
          have HN2 : Hid (q.length = nq) := hnq
          clear hnp hnq hex hey ht hp hq hcx hcy
          go_upto_region 12 with fail
          have hSt := St.start wr
          obtain ⟨q1, y1, q2, y2, -⟩ := sr.rulesE
          have Hsr : Hid (St W wr (_)) := sr
          have hne := Nonempty.intro (Wd.mk _ hSt)
          clear sr
          refine region_held hSt (by kernel_rfl) (by kernel_rfl) ?_
          repeat (go_big_quiet_step (fail))
          refine wpQuiet_nil ?_
          intro _ hw'
          obtain ⟨nw, rfl⟩ := hw'
          obtain ⟨w5, hw5⟩ : ∃ w5, nw.w = w5 := ⟨_, rfl⟩
          have hb5 : Below wr.heap.size wr w5 := hw5 ▸ nw.h.below
          rw [hw5]
          have s5 := Hsr.out.call hb5
          have hcx : w5.cell? (x.add i) = some (.slice xa np xc) := (hb5.cell (World.block_lt_of_cell? wr _ Hcx.out)).trans Hcx.out
          have hcy : w5.cell? (y.add i) = some (.slice ya nq yc) := (hb5.cell (World.block_lt_of_cell? wr _ Hcy.out)).trans Hcy.out
          have HX5 : Hid (ERow 6 pcs w5 xa np xc p) := HX.out.below hb5
          have HY5 : Hid (ERow 6 pcs w5 ya nq yc q) := HY.out.below hb5
          clear hne hw5 hSt hb5 q1 y1 q2 y2 Hsr qx qy HX HY Hcx Hcy
          clear nw
          obtain ⟨c1, f1, z1, c2, f2, z2, -⟩ := s5.rules
          have S5 : Hid (St W w5 (_)) := s5
          clear s5
          by_cases hnn : (np : Int) = (nq : Int)
          rotate_left
          · have e := te_ne HP.out HQ.out (fun e => hnn (by rw [← HN1.out, ← HN2.out, e]))
            have hv := HW.out
            rw [smP_f e] at hv
            subst hv
            clear e HT HP HQ hcx hcy c1 f1 c2 f2
            go_wp2
            go_ret
            exact ⟨rfl, S5.out.below⟩
          · obtain rfl : np = nq := by omega
            clear hnn
            simp only [bne_self_eq_false]
            go_wp2
            clear c1 f1 c2 f2
            go_loopw [67] (fun j wv => ∃ k : Nat, k ≤ np ∧ j = .int .i64 k ∧ p.take k = q.take k ∧ Below w5.heap.size w5 wv) (fun j _ => np - (intOf j).toNat)
            case atStart => exact ⟨0, Nat.zero_le _, rfl, by simp, Below.refl _ _⟩
            case round =>
              obtain ⟨j, hj0, rfl, hu, hbr⟩ := hrel
              have sr := S5.out.call hbr
              by_cases hlj : j < np
              rotate_left
              · have e := te_end HN1.out HN2.out (by omega) hu
                have HT2 : Hid (P.take (i + 1) = Q.take (i + 1)) := te_step HP.out (by rw [e]; exact HQ.out) HT.out
                have Hsr : Hid (St W wr (_)) := sr
                clear e hu sr hbr HT HP HQ hcx hcy
                go_wp2
                go_roundw
                case rel => exact ⟨i + 1, by omega, by go_num, HT2.out, Hsr.out⟩
                case measure => simp [intOf]; omega
              · obtain ⟨s, a, rfl, ha, -, hca⟩ := (HX5.out.below hbr).at hlj
                obtain ⟨t, b, rfl, hb, -, hcb⟩ := (HY5.out.below hbr).at hlj
                obtain ⟨a1, a2, a3, a4, a5, a6⟩ := a
                obtain ⟨b1, b2, b3, b4, b5, b6⟩ := b
                have hCx : Hid (∀ wz, (∃ n : Wd wr [], wz = n.w) → ∀ r v, [.int .i64 a1, .int .i64 a2, .int .i64 a3, .int .i64 a4, .int .i64 a5, .int .i64 a6][r]? = some v → wz.cell? ((s.add (j * 6)).add r) = some v) := wd_cells hca
                have hCy : Hid (∀ wz, (∃ n : Wd wr [], wz = n.w) → ∀ r v, [.int .i64 b1, .int .i64 b2, .int .i64 b3, .int .i64 b4, .int .i64 b5, .int .i64 b6][r]? = some v → wz.cell? ((t.add (j * 6)).add r) = some v) := wd_cells hcb
                have HA : Hid (p[j]? = some _) := ha
                have HB : Hid (q[j]? = some _) := hb
                have HU : Hid (p.take j = q.take j) := hu
                have hcx' := (hbr.cell (World.block_lt_of_cell? w5 _ hcx)).trans hcx
                have hcy' := (hbr.cell (World.block_lt_of_cell? w5 _ hcy)).trans hcy
                have qx : ∀ n : Wd wr [], n.w.cell? (x.add i) = some (.slice (some s) np xc) := fun n => (n.h.below.cell (World.block_lt_of_cell? wr _ hcx')).trans hcx'
                have qy : ∀ n : Wd wr [], n.w.cell? (y.add i) = some (.slice (some t) np yc) := fun n => (n.h.below.cell (World.block_lt_of_cell? wr _ hcy')).trans hcy'
                obtain ⟨ev, hev⟩ : ∃ ev, ev = decide ((a1, a2, a3, a4, a5, a6) = (b1, b2, b3, b4, b5, b6)) := ⟨_, rfl⟩
                have hN := neC6 a1 a2 a3 a4 a5 a6 b1 b2 b3 b4 b5 b6 ev hev.symm
                have HEV : Hid (ev = _) := hev
                have Hbr : Hid (Below w5.heap.size w5 wr) := hbr
                clear hev hca hcb ha hb hu hcx' hcy' hbr
                go_upto_region 17 with fail
                have hSt := St.start wr
                obtain ⟨q1, y1, q2, y2, -⟩ := sr.rulesE
                have hne := Nonempty.intro (Wd.mk _ hSt)
                clear sr hcx hcy
                refine region_held hSt (by kernel_rfl) (by kernel_rfl) ?_
                go_big_quiet_step (fail)
                go_big_quiet_step (fail)
                go_big_quiet_step (fail)
                go_big_quiet_step (fail)
                go_big_quiet_step (fail)
                go_big_quiet_step (fail)
                go_big_quiet_step (fail)
                go_big_quiet_want
                refine quiet_la 61 (.tmp 76) rfl _ rfl [.int .i64 a1, .int .i64 a2, .int .i64 a3, .int .i64 a4, .int .i64 a5, .int .i64 a6] _ hCx.out Try.underlying61 rfl (by kernel_rfl) rfl ?_
                go_simp
                go_big_quiet_on
                go_big_quiet_step (fail)
                go_big_quiet_step (fail)
                go_big_quiet_step (fail)
                go_big_quiet_step (fail)
                go_big_quiet_step (fail)
                go_big_quiet_step (fail)
                go_big_quiet_step (fail)
                go_big_quiet_want
                refine quiet_la 61 (.tmp 84) rfl _ rfl [.int .i64 b1, .int .i64 b2, .int .i64 b3, .int .i64 b4, .int .i64 b5, .int .i64 b6] _ hCy.out Try.underlying61 rfl (by kernel_rfl) rfl ?_
                go_simp
                go_big_quiet_on
                repeat (go_big_quiet_step (fail))
                refine wpQuiet_nil ?_
                intro _ hw'
                obtain ⟨nw, rfl⟩ := hw'
                obtain ⟨w7, hw7⟩ : ∃ w7, nw.w = w7 := ⟨_, rfl⟩
                have hb7 : Below wr.heap.size wr w7 := hw7 ▸ nw.h.below
                rw [hw7]
                have HB7 : Hid (Below w5.heap.size w5 w7) := Hbr.out.trans (hb7.mono Hbr.out.size)
                clear hne hw7 hSt hb7 q1 y1 q2 y2 qx qy Hbr hCx hCy
                clear nw
                cases ev with
                | true =>
                  have e := of_decide_eq_true HEV.out.symm
                  have HT2 : Hid (p.take (j + 1) = q.take (j + 1)) := te_step HA.out (by rw [e]; exact HB.out) HU.out
                  clear e HEV HU HA HB hN
                  go_wp2
                  go_roundw
                  case rel => exact ⟨j + 1, by omega, by go_num, HT2.out, HB7.out⟩
                  case measure => simp [intOf]; omega
                | false =>
                  have e := te_ne HP.out HQ.out (te_ne HA.out HB.out (of_decide_eq_false HEV.out.symm))
                  have hv := HW.out
                  rw [smP_f e] at hv
                  subst hv
                  clear e HEV HU HA HB hN
                  go_wp2
                  go_ret
                  exact ⟨rfl, (S5.out.call HB7.out).below⟩
theorem rsame_any (ra : Option Addr) (rn rc : Nat) (R : List (Int × Int)) (pa : Option Addr) (pn pc : Nat) (P : List (List Pl)) (sa : Option Addr) (sn sc : Nat) (S : List (Int × Int)) (qa : Option Addr) (qn qc : Nat) (Q : List (List Pl)) (W : World) (h1 : ERow 2 scs W ra rn rc R) (h2 : QRow W pa pn pc P) (h3 : ERow 2 scs W sa sn sc S) (h4 : QRow W qa qn qc Q) :
    Calls Try.prog 15 #[.agg #[.slice ra rn rc, .slice pa pn pc], .agg #[.slice sa sn sc, .slice qa qn qc]] W fun e w' => e = .returned (.bool (ceB R P S Q)) ∧ Below W.heap.size W w' := by
  by_cases hl : rn = sn ∧ pn = qn
  · obtain ⟨rfl, rfl⟩ := hl
    exact rsame_w ra rn rc R pa pn pc P sa sc S qa qc Q W h1 h2 h3 h4
  · have hf : ceB R P S Q = false := by
      by_cases e : R = S
      · refine ceB_m (fun q => hl ⟨?_, ?_⟩)
        · rw [← h1.1, ← h3.1, e]
        · rw [← h2.1, ← h4.1, q]
      · exact ceB_n e
    rw [hf]
    exact rsame_l ra rn rc R pa pn pc P sa sn sc S qa qn qc Q W h1 h2 h3 h4 hl
end Go.Proofs.Ytcjnhchjikcigaa

/- Sums of ops that reduce, in plain numbers: their terms, their bias, and what is known of such an op of a well-formed model. -/
namespace Go.Proofs.Ytcjnhchjikcigaa
open Go.ChangeShapes Go.WideShapes Go.ChangeAt Go.RowKit
set_option linter.unusedVariables false
/-- An op that reduces: its kind, its window, the shape that it reads, the one that it makes, how long its lists are. -/
def Sit (k kh kw sh sw tp lf bt rt h w c H V C : Int) (lw lb : Nat) : Prop :=
  (1 ≤ k ∧ k ≤ 4) ∧ vS h w c = true ∧ vS H V C = true ∧ (2 ≤ k → ouR h w c kh kw sh sw tp lf bt rt = (H, V, 0)) ∧ (k = 1 → H = 1 ∧ V = 1) ∧ (2 ≤ k → (1 ≤ kh ∧ kh ≤ 32) ∧ (1 ≤ kw ∧ kw ≤ 32)) ∧
    (k ≤ 3 → (lw : Int) = C * stR k kh kw h w c ∧ (lb : Int) = C) ∧ (3 ≤ k → C = c) ∧ (1 ≤ stR k kh kw h w c ∧ stR k kh kw h w c ≤ 512)
theorem op_sit {k a b m kh kw sh sw tp lf bt rt : Int} {lw lb : Nat} {sm ss um us z p lo hi wk : Int} {L : List (Int × Int × Int)} (hx : tkE k a b m kh kw sh sw tp lf bt rt lw lb sm ss um us z p lo hi L wk = 0) (hk : 1 ≤ k ∧ k ≤ 4) (hv : ∀ s ∈ L, vS3 s = true)
    {h w c H V C : Int} (hA : ShA L a = (h, w, c)) (hB : mk3 k m kh kw sh sw tp lf bt rt (h, w, c) = (H, V, C)) : Sit k kh kw sh sw tp lf bt rt h w c H V C lw lb := by
  obtain ⟨t1, -, -, ⟨a0, a1⟩, -, t6⟩ := tk_0 hx hv
  have hg : vS h w c = true := by
    obtain ⟨i, rfl⟩ := Int.eq_ofNat_of_zero_le a0
    have := hv _ (ShA_mem (show i < L.length by omega))
    rw [hA] at this
    exact this
  have h1 : opE k a b m kh kw sh sw tp lf bt rt lw lb sm ss um us z p lo hi L = 0 := by
    unfold tkE at hx
    by_cases q : opE k a b m kh kw sh sw tp lf bt rt lw lb sm ss um us z p lo hi L ≠ 0
    · rw [if_pos q] at hx; exact hx
    · exact Decidable.not_not.1 q
  rw [hA] at t1 t6
  rw [hB] at t1
  have fit := fit_of (A := (h, w, c)) t6 (by rw [hB]; exact t1)
  rw [hB] at fit
  obtain ⟨f1, f2, -⟩ := fit
  have hw : 2 ≤ k ∧ k ≤ 5 → (1 ≤ kh ∧ kh ≤ 32) ∧ (1 ≤ kw ∧ kw ≤ 32) := mkE_win t6
  have hst := stR_bd (k := k) (kh := kh) (kw := kw) (by omega) hg hw
  unfold opE at h1
  rw [hA] at h1
  rw [hB] at h1
  by_cases q1 : fmE k a b L.length (ozB k b m kh kw sh sw tp lf bt rt lw lb sm ss um us z p) ≠ 0
  · rw [if_pos q1] at h1; exact absurd h1 q1
  rw [if_neg q1] at h1
  simp only at h1
  rw [t6, if_neg (by decide), if_neg (by omega)] at h1
  by_cases q2 : rdB k = true ∧ 512 < st3 k kh kw (h, w, c)
  · rw [if_pos q2] at h1; cases h1
  rw [if_neg q2] at h1
  have h512 : stR k kh kw h w c ≤ 512 := by
    by_cases q : stR k kh kw h w c ≤ 512
    · exact q
    · exact absurd ⟨decide_eq_true (by omega), by show 512 < stR k kh kw h w c; omega⟩ q2
  unfold nuE at h1
  have hle : leB k C (st3 k kh kw (h, w, c)) lw lb = true := by
    cases q : leB k C (st3 k kh kw (h, w, c)) lw lb with
    | true => rfl
    | false => rw [q, if_pos rfl] at h1; cases h1
  have hle' := of_decide_eq_true hle
  refine ⟨hk, hg, f1, fun q => (f2 (by omega)).1, fun q => ?_, fun q => hw (by omega), hle', fun q => (f2 (by omega)).2 (by omega), hst.1, h512⟩
  subst q
  have : mk3 1 m kh kw sh sw tp lf bt rt (h, w, c) = (1, 1, m) := by unfold mk3 mkS; rw [if_pos rfl]
  rw [this] at hB
  simp only [Prod.mk.injEq] at hB
  exact ⟨hB.1.symm, hB.2.1.symm⟩
/-- An op that reduces, of a well-formed model. -/
theorem sit_of {O : Nat → Nat → Int} {h w c lo hi ot t wk : Int} {on : Nat} {L : List (Int × Int × Int)} (q : gtR O h w c lo hi ot on = (0, t, L, wk)) {i : Nat} (hi0 : i < on) (hk : 1 ≤ O i 0 ∧ O i 0 ≤ 4) :
    ∃ j : Nat, O i 1 = (j : Int) ∧ j ≤ i ∧ ∀ x y z H V C, ShA L (j : Int) = (x, y, z) → ShA L ((i + 1 : Nat) : Int) = (H, V, C) → Sit (O i 0) (O i 4) (O i 5) (O i 6) (O i 7) (O i 8) (O i 9) (O i 10) (O i 11) x y z H V C (O i 12).toNat (O i 13).toNat := by
  obtain ⟨hx, rfl, q2⟩ := gtR_st q
  clear q
  have q := q2
  have hv : vS3 (h, w, c) = true := (ouE_0 hx).1
  obtain ⟨wi, g1, -⟩ := stG_pre hv on L wk q (i + 1) (by omega)
  obtain ⟨L0, wk0, h0, hx0, hL, -⟩ := stG_step g1
  obtain ⟨w2, g2, -⟩ := stG_pre hv on L wk q i (by omega)
  rw [g2] at h0
  simp only [Prod.mk.injEq, true_and] at h0
  obtain ⟨rfl, rfl⟩ := h0
  obtain ⟨i1, i2, -⟩ := stG_inv hv i _ _ g2
  obtain ⟨t1, -, -, ⟨a0, a1⟩, -, t6⟩ := tk_0 hx0 i2
  obtain ⟨j, hj⟩ := Int.eq_ofNat_of_zero_le a0
  rw [hj] at a1
  have e1 : ShA (L.take (i + 1)) (j : Int) = ShA L (j : Int) := ShA_take (by omega)
  have e2 : ShA L ((i + 1 : Nat) : Int) = mk3 (O i 0) (O i 3) (O i 4) (O i 5) (O i 6) (O i 7) (O i 8) (O i 9) (O i 10) (O i 11) (ShA L (j : Int)) := by
    rw [← ShA_take (n := i + 1 + 1) (by omega), hL]
    unfold ShA at e1 ⊢
    rw [Int.toNat_natCast]
    simp only [List.getD]
    rw [List.getElem?_append_right (by omega), i1, Nat.sub_self]
    unfold oM ShA
    rw [hj, Int.toNat_natCast]
    rw [Int.toNat_natCast] at e1
    simp only [List.getElem?_cons_zero, Option.getD_some]
    rw [e1]
    rfl
  refine ⟨j, hj, by omega, fun x y z H V C hA hB => ?_⟩
  exact op_sit hx0 hk i2 (by rw [hj, e1]; exact hA) (by rw [← hB, e2, hA])
/-! ### The terms -/
/-- The place of channel c where a tap covers p. -/
def cov (C p c : Int) : Int := if p = -1 then -1 else p * C + c
/-- What tap q covers, the corner being at t, u. -/
def tpc (h w kw t u q : Int) : Int := plc h w (t + q / kw) (u + q % kw)
def plA (k C ch h w kw t u i : Int) : Int := if k = 1 then i else if k = 2 then cov C (tpc h w kw t u (i / C)) (i % C) else cov C (tpc h w kw t u i) (ch - 1)
def wgA (k ch st : Int) (z : List Int) (i : Int) : Int := if k = 4 then 1 else z.getD ((ch - 1) * st + i).toNat 0
def biA (k ch : Int) (b : List Int) : Int := if k = 4 then 0 else b.getD (ch - 1).toNat 0
def tmL (k C ch h w kw t u st : Int) (z : List Int) (n : Nat) : List (Int × Int) := (List.range n).map fun (i : Nat) => (wgA k ch st z i, plA k C ch h w kw t u i)
theorem tmL_len (k C ch h w kw t u st : Int) (z : List Int) (n : Nat) : (tmL k C ch h w kw t u st z n).length = n := by simp [tmL]
theorem tmL_succ (k C ch h w kw t u st : Int) (z : List Int) (n : Nat) : tmL k C ch h w kw t u st z (n + 1) = tmL k C ch h w kw t u st z n ++ [(wgA k ch st z n, plA k C ch h w kw t u n)] := by simp [tmL, List.range_succ]
/-- The terms of a channel at a position. -/
def siL (k kh kw sh sw tp lf bt rt h w c ch at' : Int) (z : List Int) : List (Int × Int) :=
  tmL k c ch h w kw (coR h w c kh kw sh sw tp lf bt rt at').1 (coR h w c kh kw sh sw tp lf bt rt at').2.1 (stR k kh kw h w c) z (stR k kh kw h w c).toNat
/-- The error of an op that is asked. -/
def fiE (O : Nat → Nat → Int) (h w c lo hi ot : Int) (on : Nat) (op : Int) : Int :=
  if (gtR O h w c lo hi ot on).1 ≠ 0 then (gtR O h w c lo hi ot on).1 else if ¬ (1 ≤ op ∧ op ≤ (on : Int)) then 3 else if rdB (O (op - 1).toNat 0) = false then 81 else 0
theorem fiE_err {O : Nat → Nat → Int} {h w c lo hi ot op e : Int} {on : Nat} (g : (gtR O h w c lo hi ot on).1 = e) (he : e ≠ 0) : fiE O h w c lo hi ot on op = e := by unfold fiE; rw [g, if_pos he]
theorem fiE_3 {O : Nat → Nat → Int} {h w c lo hi ot op : Int} {on : Nat} (g : (gtR O h w c lo hi ot on).1 = 0) (ho : ¬ (1 ≤ op ∧ op ≤ (on : Int))) : fiE O h w c lo hi ot on op = 3 := by unfold fiE; rw [g, if_neg (by decide), if_pos ho]
theorem fiE_81 {O : Nat → Nat → Int} {h w c lo hi ot : Int} {on i : Nat} (g : (gtR O h w c lo hi ot on).1 = 0) (ho : i < on) (hk : rdB (O i 0) = false) : fiE O h w c lo hi ot on ((i : Int) + 1) = 81 := by
  unfold fiE; rw [g, if_neg (by decide), if_neg (by omega), show ((i : Int) + 1 - 1).toNat = i by omega, hk, if_pos rfl]
theorem fiE_0 {O : Nat → Nat → Int} {h w c lo hi ot : Int} {on i : Nat} (g : (gtR O h w c lo hi ot on).1 = 0) (ho : i < on) (hk : rdB (O i 0) = true) : fiE O h w c lo hi ot on ((i : Int) + 1) = 0 := by
  unfold fiE; rw [g, if_neg (by decide), if_neg (by omega), show ((i : Int) + 1 - 1).toNat = i by omega, hk, if_neg (by decide)]
end Go.Proofs.Ytcjnhchjikcigaa
