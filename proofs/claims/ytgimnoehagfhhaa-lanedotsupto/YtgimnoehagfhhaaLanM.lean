/- What the statements' wide returns; the walk of LaneDots. -/
import Derived.Test.YtgimnoehagfhhaaLanL
import Derived.BigQuiet
namespace Go.Proofs.Ytgimnoehagfhhaa
open Go.ChangeShapes Go.WideShapes Go.ChangeAt Go.RowKit
set_option linter.unusedVariables false
theorem wf64 {k : IntKind} {z : Int} (hk : k = .i8 ∨ k = .i16 ∨ k = .i32 ∨ k = .i64) (h : (Lit.int k z).wf = true) : (Lit.int .i64 z).wf = true := by
  rcases hk with rfl | rfl | rfl | rfl
  · exact mk_i64 (by have := wf_i8 h; omega)
  · exact mk_i64 (by have := wf_i16 h; omega)
  · exact mk_i64 (by have := wf_i32 h; omega)
  · exact h
theorem take_snoc {zs : List Int} {k : Nat} {c : Int} (h : zs[k]? = some c) : zs.take k ++ [c] = zs.take (k + 1) := by rw [List.take_add_one, h]; rfl
set_option maxHeartbeats 1000000 in
theorem wide_i8 (a : Option Addr) (len cap : Nat) (zs : List Int) (w : World) (hr : IRow .i8 w a len cap zs) (hs : len ≤ 1048576) :
    Calls Try.prog 19 #[.slice a len cap] w fun e w' => ∃ v, e = .returned v ∧ Own .i64 2 w' w.heap.size v zs ∧ Below w.heap.size w w' := by
  have hl : Hid (zs.length = len) := hr.1
  have hcm := hr.2.1
  have hmm := hr.2.2.1
  unfold maxLen at hmm
  go_enter Try.func19, Try.ntmps19
  go_wp2
  go_loopw [3, 8] (fun v i wr => ∃ k : Nat, k ≤ len ∧ i = .int .i64 k ∧ Own .i64 2 wr w.heap.size v (zs.take k) ∧ Below w.heap.size w wr) (fun _ i _ => len - (intOf i).toNat)
  case atStart => exact ⟨0, Nat.zero_le _, rfl, own_none _ _ _ _, Below.refl _ _⟩
  case round =>
    obtain ⟨k, hk, rfl, own, bel⟩ := hrel
    by_cases hlt : k < len
    · obtain ⟨x, d, rfl, hc, hwf, hzk, -⟩ := (hr.below bel).at hlt
      have hS : Hid (zs.take k ++ [d] = zs.take (k + 1)) := take_snoc hzk
      have hw64 := wf64 (by simp) hwf
      have hb := wf_i8 hwf
      have own3 := own.alloc (.cells #[.int .i64 d] 2)
      have b3 := bel.alloc bel.size (.cells #[.int .i64 d] 2)
      have hl1 : Hid ((zs.take k).length + [d].length ≤ 10000000) := by
        have h1 := hl.out; simp only [Hid, List.length_singleton, List.length_take]; omega
      clear hwf hzk
      go_wp2_with (at_builtin; refine wpList_app kt_i64 rfl (.tmp 12) (.tmp 15) rfl w.heap.size _ _ [d] rfl own3 _ _ _ rfl (row_one .i64 2 _ d hw64) hl1.out b3.size ?_; intro v4 w4 own4 gr4 nn4)
      go_roundw
      case rel => exact ⟨k + 1, by omega, by go_num, hS.out ▸ own4, own3.bel b3 gr4 (Nat.le_refl _) b3.size⟩
      case measure => simp [intOf]; omega
    · have hT : Hid (zs.take k = zs) := List.take_of_length_le (by have := hl.out; omega)
      rw [hT.out] at own
      have own' : Hid (Own .i64 2 wr w.heap.size _ zs) := own
      clear own hT
      go_wp2
      go_ret
      exact ⟨_, rfl, own'.out, bel⟩
set_option maxHeartbeats 1000000 in
theorem wide_i16 (a : Option Addr) (len cap : Nat) (zs : List Int) (w : World) (hr : IRow .i16 w a len cap zs) (hs : len ≤ 1048576) :
    Calls Try.prog 18 #[.slice a len cap] w fun e w' => ∃ v, e = .returned v ∧ Own .i64 2 w' w.heap.size v zs ∧ Below w.heap.size w w' := by
  have hl : Hid (zs.length = len) := hr.1
  have hcm := hr.2.1
  have hmm := hr.2.2.1
  unfold maxLen at hmm
  go_enter Try.func18, Try.ntmps18
  go_wp2
  go_loopw [3, 8] (fun v i wr => ∃ k : Nat, k ≤ len ∧ i = .int .i64 k ∧ Own .i64 2 wr w.heap.size v (zs.take k) ∧ Below w.heap.size w wr) (fun _ i _ => len - (intOf i).toNat)
  case atStart => exact ⟨0, Nat.zero_le _, rfl, own_none _ _ _ _, Below.refl _ _⟩
  case round =>
    obtain ⟨k, hk, rfl, own, bel⟩ := hrel
    by_cases hlt : k < len
    · obtain ⟨x, d, rfl, hc, hwf, hzk, -⟩ := (hr.below bel).at hlt
      have hS : Hid (zs.take k ++ [d] = zs.take (k + 1)) := take_snoc hzk
      have hw64 := wf64 (by simp) hwf
      have hb := wf_i16 hwf
      have own3 := own.alloc (.cells #[.int .i64 d] 2)
      have b3 := bel.alloc bel.size (.cells #[.int .i64 d] 2)
      have hl1 : Hid ((zs.take k).length + [d].length ≤ 10000000) := by
        have h1 := hl.out; simp only [Hid, List.length_singleton, List.length_take]; omega
      clear hwf hzk
      go_wp2_with (at_builtin; refine wpList_app kt_i64 rfl (.tmp 12) (.tmp 15) rfl w.heap.size _ _ [d] rfl own3 _ _ _ rfl (row_one .i64 2 _ d hw64) hl1.out b3.size ?_; intro v4 w4 own4 gr4 nn4)
      go_roundw
      case rel => exact ⟨k + 1, by omega, by go_num, hS.out ▸ own4, own3.bel b3 gr4 (Nat.le_refl _) b3.size⟩
      case measure => simp [intOf]; omega
    · have hT : Hid (zs.take k = zs) := List.take_of_length_le (by have := hl.out; omega)
      rw [hT.out] at own
      have own' : Hid (Own .i64 2 wr w.heap.size _ zs) := own
      clear own hT
      go_wp2
      go_ret
      exact ⟨_, rfl, own'.out, bel⟩
theorem rdot_ok (N : Nat) (wa xa : Option Addr) (cw cx : Nat) (zs ys : List Int) (wd dp bi : Int) (W : World) (hN : N ≤ 140737488355328) (hw : IRow .i64 W wa N cw zs) (hx : IRow .i64 W xa N cx ys)
    (hz : ∀ z ∈ zs, -32768 ≤ z ∧ z ≤ 32767) (hy : ∀ z ∈ ys, -128 ≤ z ∧ z ≤ 127) (hE : rfE N N wd dp = 0) (hb : -2147483648 ≤ bi ∧ bi ≤ 2147483647) (F : Ty × Ty × Int) (hF : dtR wd dp bi (pz zs ys) = F) :
    Calls Try.prog 22 #[.slice wa N cw, .slice xa N cx, .int .i64 wd, .int .i64 dp, .int .i64 bi] W fun e w' => e = .returned (.tuple #[.int .i64 F.2.2, .agg (trk F.1 F.2.1)]) ∧ Below W.heap.size W w' := by
  have hE2 : (wd = 16 ∨ wd = 32) ∧ 1 ≤ dp ∧ dp ≤ N := by
    unfold rfE at hE
    split at hE
    · cases hE
    · split at hE
      · cases hE
      · split at hE
        · cases hE
        · omega
  obtain ⟨d, rfl⟩ : ∃ d : Nat, dp = (d : Int) := ⟨dp.toNat, by omega⟩
  unfold dtR at hF
  by_cases h32 : wd = 32
  · rw [if_pos h32] at hF
    subst h32 hF
    exact rdot_32 d N wa xa cw cx zs ys bi W hN hw hx hz hy (by omega) hb _ rfl
  · rw [if_neg h32, Int.toNat_natCast] at hF
    obtain rfl : wd = 16 := by omega
    exact rdot_16 d N wa xa cw cx zs ys bi W hN hw hx hz hy (by omega) hb F hF
theorem rfE_len {n m : Nat} {wd dp : Int} (h : rfE n m wd dp = 0) : n = m := by
  unfold rfE at h
  split at h
  · cases h
  · omega
theorem dtR_bd {n : Nat} {wd dp bi : Int} (hn : n ≤ 1048576) (ps : List Int) (hE : rfE n n wd dp = 0) (hb : -2147483648 ≤ bi ∧ bi ≤ 2147483647) : -2147483648 ≤ (dtR wd dp bi ps).2.2 ∧ (dtR wd dp bi ps).2.2 ≤ 2147483647 := by
  unfold dtR
  split
  · have := (gaT_ok (N := 2147483648) (by omega) ps Ty.z bi 0 Ty.ok_z (by omega)).2
    simp only
    omega
  · exact (elT_ok (d := dp.toNat) ps 0 Ty.z Ty.z bi 0 0 Ty.ok_z Ty.ok_z hb).2.2
set_option maxHeartbeats 4000000 in
theorem laneDots_walk (wa : Option Addr) (n cw : Nat) (zs : List Int) (xa : Option Addr) (m cx : Nat) (ys : List Int) (wd dp bi : Int) (W : World) (hw : IRow .i16 W wa n cw zs) (hx : IRow .i8 W xa m cx ys)
    (_w2 : (Lit.int .i64 wd).wf = true) (_w3 : (Lit.int .i64 dp).wf = true) (w4 : (Lit.int .i32 bi).wf = true) (hu : n + m ≤ 1048576) :
    Calls Try.prog 5 #[.agg #[.slice wa n cw, .slice xa m cx, .int .i64 wd, .int .i64 dp, .int .i32 bi]] W fun e w' => e = .returned (.bool true) ∧ Below W.heap.size W w' := by
  have hbi := wf_i32 w4
  have hcw := hw.2.1
  have hmw := hw.2.2.1
  have hcx := hx.2.1
  have hmx := hx.2.2.1
  unfold maxLen at hmw hmx
  have H16 : Hid (∀ w', Below W.heap.size W w' → _) := fun w' hb => wide_i16 wa n cw zs w' (hw.below hb) (by omega)
  have H8 : Hid (∀ w', Below W.heap.size W w' → _) := fun w' hb => wide_i8 xa m cx ys w' (hx.below hb) (by omega)
  have s1 := (St.start W).new (c := #[.slice wa n cw, .slice xa m cx, .int .i64 wd, .int .i64 dp, .int .i32 bi]) (t := 42)
  have HS1 : Hid (St W _ _) := s1.drew
  clear s1
  go_enter Try.func5, Try.ntmps5
  go_upto_region 1 with fail
  go_cut [3, 4] from 12 to 17 (fun v3 v4 wx => ∃ B, W.heap.size < B ∧ Own .i64 2 wx B v3 zs ∧ Own .i64 2 wx B v4 ys ∧ St W wx [(W.heap.size, #[.slice wa n cw, .slice xa m cx, .int .i64 wd, .int .i64 dp, .int .i32 bi], 42)])
  case first =>
    go_region_with (first
      | (go_at_call 18; refine (H16.out _ s2.below).mono ?_; rintro e w3 ⟨v3, rfl, o3, b3⟩; have s3 := s2.call b3; have p3 := o2.below b3)
      | (go_at_call 19; refine (H8.out _ s2.below).mono ?_; rintro e w3 ⟨v3, rfl, o3, b3⟩; have s3 := s2.call b3; have p3 := o2.below b3)
      | (go_at_call 18; refine (H16.out _ HS1.out.below).mono ?_; rintro e w2 ⟨v2, rfl, o2, b2⟩; have s2 := HS1.out.call b2; obtain ⟨c2, f2, z2, -⟩ := s2.rules)
      | (go_at_call 19; refine (H8.out _ HS1.out.below).mono ?_; rintro e w2 ⟨v2, rfl, o2, b2⟩; have s2 := HS1.out.call b2; obtain ⟨c2, f2, z2, -⟩ := s2.rules))
    all_goals (go_wp2_with fail; go_meet; case rel => exact ⟨_, by simp, p3, o3.base b2.size, s3⟩)
  case rest =>
    obtain ⟨B, hB, ow, ox, s3⟩ := hcut
    clear H16 H8 HS1
    obtain ⟨a1, c1', rfl, hw1, -⟩ := ow.row
    obtain ⟨a2, c2', rfl, hx1, -⟩ := ox.row
    have hzl := hw.1
    have hyl := hx.1
    rw [hzl] at hw1
    rw [hyl] at hx1
    have hc1 := hw1.2.1
    have hc2 := hx1.2.1
    have hm1 := hw1.2.2.1
    have hm2 := hx1.2.2.1
    unfold maxLen at hm1 hm2
    rw [hzl, hyl]
    clear ow ox hB
    obtain ⟨E, hE⟩ : ∃ E, rfE n m wd dp = E := ⟨_, rfl⟩
    have HR : Hid (∀ w, _) := fun w => rref_any n m wd dp w (by omega) E hE
    obtain ⟨c1, f1, z1, -⟩ := s3.rules
    by_cases h0 : E = 0
    · subst h0
      obtain rfl := rfE_len hE
      obtain ⟨F, hF⟩ : ∃ F, dtR wd dp bi (pz zs ys) = F := ⟨_, rfl⟩
      have HD := ldot_ok wa xa n cw cx wd dp bi zs ys wc (by omega) (hw.below s3.below) (hx.below s3.below) hE hbi F hF
      have HV : Hid (∀ w', Below wc.heap.size wc w' → _) := fun w' hb => rdot_ok n a1 a2 c1' c2' zs ys wd dp bi w' (by omega) (hw1.below hb) (hx1.below hb) (fun z hz => wf_i16 (hw.2.2.2.1 z hz)) (fun z hz => wf_i8 (hx.2.2.2.1 z hz)) hE hbi F hF
      obtain ⟨⟨m0, w0, t0, lo0, hi0⟩, ⟨m1, w1, t1, lo1, hi1⟩, rF⟩ := F
      simp only [trk] at HD HV
      have hrb : -2147483648 ≤ rF ∧ rF ≤ 2147483647 := by
        have := dtR_bd (n := n) (by omega) (pz zs ys) hE hbi
        rw [hF] at this
        exact this
      obtain ⟨tw, htw⟩ : ∃ tw, w0 + w1 = tw := ⟨_, rfl⟩
      rw [htw] at HD HV
      clear hE hF htw
      have HWX : Hid (IRow .i16 W wa n cw zs ∧ IRow .i8 W xa n cx ys ∧ IRow .i64 wc a1 n c1' zs ∧ IRow .i64 wc a2 n c2' ys) := ⟨hw, hx, hw1, hx1⟩
      clear hw hx hw1 hx1
      go_wp2_with fail
      refine HD.mono ?_
      rintro e w4 ⟨rfl, b4⟩
      have s4 := (s3.call b4).new (c := #[.int .i64 m0, .int .i64 t0, .int .i64 m1, .int .i64 t1, .int .i64 tw, .int .i64 lo0, .int .i64 hi0, .int .i64 lo1, .int .i64 hi1]) (t := 48)
      have B4 := bt b4 (bal w4 (.cells #[.int .i64 m0, .int .i64 t0, .int .i64 m1, .int .i64 t1, .int .i64 tw, .int .i64 lo0, .int .i64 hi0, .int .i64 lo1, .int .i64 hi1] 48))
      clear c1 f1 z1 s3 b4 HD
      obtain ⟨c1, f1, z1, c2, f2, z2, -⟩ := s4.rules
      go_wp2_with fail
      refine (HR.out _).mono ?_
      rintro e w' ⟨rfl, rfl⟩
      go_wp2_with fail
      refine (fixed_any _).mono ?_
      rintro e w5 ⟨rfl, b5⟩
      have s5 := s4.call b5
      have B5 : Hid (Below wc.heap.size wc w5) := bt B4 b5
      clear c1 f1 z1 c2 f2 z2 s4 b5 HR B4
      have HS5 : Hid (St W w5 _) := s5
      clear s5
      go_wp2_with fail
      go_loopw [60] (fun i wr => ∃ k : Nat, k ≤ n ∧ i = .int .i64 k ∧ Below wc.heap.size wc wr ∧ St W wr ([(w4.heap.size, #[.int .i64 m0, .int .i64 t0, .int .i64 m1, .int .i64 t1, .int .i64 tw, .int .i64 lo0, .int .i64 hi0, .int .i64 lo1, .int .i64 hi1], 48), (W.heap.size, #[.slice wa n cw, .slice xa n cx, .int .i64 wd, .int .i64 dp, .int .i32 bi], 42)])) (fun i _ => n - (intOf i).toNat)
      case atStart => exact ⟨0, Nat.zero_le _, rfl, B5.out, HS5.out⟩
      case round =>
        obtain ⟨k, hk, rfl, bk, sk⟩ := hrel
        obtain ⟨c1, f1, z1, c2, f2, z2, -⟩ := sk.rules
        obtain ⟨hw, hx, hw1, hx1⟩ := HWX.out
        by_cases hlt : k < n
        · obtain ⟨x, d, rfl, hc, hwf, hmem, -⟩ := (hw.below sk.below).at hlt
          obtain ⟨y, d', rfl, hc2, hwf2, hmem2, -⟩ := (hw1.below bk).at hlt
          obtain rfl : d = d' := by rw [hmem] at hmem2; exact Option.some.inj hmem2
          obtain ⟨x3, e, rfl, hc3, hwf3, hmem3, -⟩ := (hx.below sk.below).at hlt
          obtain ⟨y4, e', rfl, hc4, hwf4, hmem4, -⟩ := (hx1.below bk).at hlt
          obtain rfl : e = e' := by rw [hmem3] at hmem4; exact Option.some.inj hmem4
          have hdb := wf_i16 hwf
          have heb := wf_i8 hwf3
          have HSK : Hid (∀ j, Below wc.heap.size wc (wr.drewN j) ∧ St W (wr.drewN j) _) := fun j => ⟨bt bk (dbel wr j), sk.call (dbel wr j)⟩
          clear hw hx hw1 hx1 hwf hwf2 hwf3 hwf4 hmem hmem2 hmem3 hmem4 sk bk HV
          go_upto_region 11 with fail
          go_quiet (fail)
          go_wp2
          go_roundw
          case rel => exact ⟨k + 1, by omega, by go_num, (HSK.out _).1, (HSK.out _).2⟩
          case measure => simp [intOf]; omega
        · have HV2 := HV.out wr bk
          clear HV hw hx hw1 hx1 HWX
          have q9 := eq9 m0 t0 m1 t1 tw lo0 hi0 lo1 hi1
          go_wp2_with fail
          refine HV2.mono ?_
          rintro e w6 ⟨rfl, b6⟩
          have s6 := (sk.call b6).new (c := #[.int .i64 m0, .int .i64 t0, .int .i64 m1, .int .i64 t1, .int .i64 tw, .int .i64 lo0, .int .i64 hi0, .int .i64 lo1, .int .i64 hi1]) (t := 48)
          have HS6 : Hid (Below W.heap.size W _) := s6.below
          clear c1 f1 z1 c2 f2 z2 HV2
          obtain ⟨c1, f1, z1, c2, f2, z2, c3, f3, z3, -⟩ := s6.rules
          clear s6 sk b6 bk
          go_wp2
          go_ret
          exact ⟨rfl, HS6.out⟩
    · have HD : Hid (∀ w, _) := fun w => ldot_bad wa xa n m cw cx wd dp bi E w (by unfold maxLen; omega) (by unfold maxLen; omega) hE h0
      have q1 : (E != 0) = true := by simp [h0]
      go_wp2_with fail
      refine (HD.out _).mono ?_
      rintro e w4 ⟨rfl, b4⟩
      have s4 := (s3.call b4).new (c := #[.int .i64 0, .int .i64 0, .int .i64 0, .int .i64 0, .int .i64 0, .int .i64 0, .int .i64 0, .int .i64 0, .int .i64 0]) (t := 48)
      clear c1 f1 z1 s3 b4 hE HD
      simp only [tr0]
      obtain ⟨c1, f1, z1, c2, f2, z2, -⟩ := s4.rules
      go_wp2_with fail
      refine (HR.out _).mono ?_
      rintro e w' ⟨rfl, rfl⟩
      go_wp2_with fail
      refine (fixed_any _).mono ?_
      rintro e w5 ⟨rfl, b5⟩
      have s5 := s4.call b5
      clear c1 f1 z1 c2 f2 z2 s4 b5 HR
      obtain ⟨c1, f1, z1, c2, f2, z2, -⟩ := s5.rules
      have q9 := eq9 0 0 0 0 0 0 0 0 0
      go_wp2
      go_ret
      exact ⟨rfl, s5.below⟩
end Go.Proofs.Ytgimnoehagfhhaa
