/- The walk of LaneWhole. -/
import Derived.Test.YtgimnoehagfhhaaLanF
import Derived.Test.YtgimnoehagfhhaaLanQ
import Derived.BigQuiet
namespace Go.Proofs.Ytgimnoehagfhhaa
open Go.ChangeShapes Go.WideShapes Go.ChangeAt Go.RowKit
set_option linter.unusedVariables false
theorem rfE_len {n m : Nat} {wd dp : Int} (h : rfE n m wd dp = 0) : n = m := by
  unfold rfE at h
  split at h
  · cases h
  · omega
theorem rfE_in {n m : Nat} {wd dp : Int} (h : rfE n m wd dp = 0) : (wd = 16 ∨ wd = 32) ∧ 1 ≤ dp ∧ dp ≤ n := by
  unfold rfE at h
  split at h
  · cases h
  · split at h
    · cases h
    · split at h
      · cases h
      · omega
theorem dtR_ok {n : Nat} {wd dp bi : Int} (ps : List Int) (hb : -2147483648 ≤ bi ∧ bi ≤ 2147483647) : (dtR wd dp bi ps).1.ok ps.length ∧ (dtR wd dp bi ps).2.1.ok ps.length ∧ -2147483648 ≤ (dtR wd dp bi ps).2.2 ∧ (dtR wd dp bi ps).2.2 ≤ 2147483647 := by
  unfold dtR
  split
  · have h := gaT_ok (N := 2147483648) (by omega) ps Ty.z bi 0 Ty.ok_z (by omega)
    rw [Int.zero_add] at h
    exact ⟨Ty.ok_z.mono (by omega), h.1, by have := h.2; simp only; omega⟩
  · have h := elT_ok (d := dp.toNat) ps 0 Ty.z Ty.z bi 0 0 Ty.ok_z Ty.ok_z hb
    rw [Int.zero_add] at h
    exact h
theorem smI_at {S : Int} {ps : List Int} {k : Nat} {p T : Int} (h : smI S (ps.drop k) = T) (g : ps.drop k = p :: ps.drop (k + 1)) : smI (S + p) (ps.drop (k + 1)) = T := by rw [g] at h; exact h
set_option maxHeartbeats 4000000 in
theorem laneWhole_walk (wa : Option Addr) (n cw : Nat) (zs : List Int) (xa : Option Addr) (m cx : Nat) (ys : List Int) (wd dp bi : Int) (W : World) (hw : IRow .i16 W wa n cw zs) (hr : n * 2 ≤ 140737488351232) (hx : IRow .i8 W xa m cx ys) (_r : m * 1 ≤ 140737488351232)
    (_w2 : (Lit.int .i64 wd).wf = true) (_w3 : (Lit.int .i64 dp).wf = true) (w4 : (Lit.int .i32 bi).wf = true) :
    Calls Try.prog 7 #[.agg #[.slice wa n cw, .slice xa m cx, .int .i64 wd, .int .i64 dp, .int .i32 bi]] W fun e w' => e = .returned (.bool true) ∧ Below W.heap.size W w' := by
  have hbi := wf_i32 w4
  have hcw := hw.2.1
  have hmw := hw.2.2.1
  have hcx := hx.2.1
  have hmx := hx.2.2.1
  unfold maxLen at hmw hmx
  have s1 := (St.start W).new (c := #[.slice wa n cw, .slice xa m cx, .int .i64 wd, .int .i64 dp, .int .i32 bi]) (t := 42)
  obtain ⟨E, hE⟩ : ∃ E, rfE n m wd dp = E := ⟨_, rfl⟩
  go_enter Try.func7, Try.ntmps7
  go_wp2_with fail
  refine (fixed_any _).mono ?_
  rintro e w2 ⟨rfl, b2⟩
  have s2 := s1.call b2
  clear s1 b2
  obtain ⟨c1, f1, z1, -⟩ := s2.rules
  by_cases h0 : E = 0
  · subst h0
    obtain rfl := rfE_len hE
    obtain ⟨F, hF⟩ : ∃ F, dtR wd dp bi (pz zs ys) = F := ⟨_, rfl⟩
    have HD := ldot_ok wa xa n cw cx wd dp bi zs ys w2 (by omega) (hw.below s2.below) (hx.below s2.below) hE hbi F hF
    have hzl := hw.1
    have hyl := hx.1
    have HPL : Hid ((pz zs ys).length = n) := by unfold Hid; rw [pz_len (by omega)]; exact hzl
    have hwh := dtR_whole (pz zs ys) hE hbi
    have hok := dtR_ok (n := n) (wd := wd) (dp := dp) (pz zs ys) hbi
    rw [hF] at hwh hok
    rw [HPL.out] at hok
    obtain ⟨⟨m0, w0, t0, lo0, hi0⟩, ⟨m1, w1, t1, lo1, hi1⟩, rF⟩ := F
    simp only [trk] at HD
    obtain ⟨⟨k1, k2, k3, -⟩, ⟨k4, k5, k6, -⟩, hrF⟩ := hok
    obtain ⟨g1, g2, g3, g4, g5⟩ := hwh
    simp only at g1 g2 g3 g4 g5 hrF k1 k2 k3 k4 k5 k6
    obtain ⟨tw, htw⟩ : ∃ tw, w0 + w1 = tw := ⟨_, rfl⟩
    rw [htw] at HD g3 g4 g5
    clear hF htw k2 k5
    have hin := rfE_in hE
    clear hE
    go_wp2_with fail
    refine HD.mono ?_
    rintro e w4 ⟨rfl, b4⟩
    have s4 := (s2.call b4).new (c := #[.int .i64 m0, .int .i64 t0, .int .i64 m1, .int .i64 t1, .int .i64 tw, .int .i64 lo0, .int .i64 hi0, .int .i64 lo1, .int .i64 hi1]) (t := 48)
    clear c1 f1 z1 s2 b4 HD
    obtain ⟨c1, f1, z1, c2, f2, z2, -⟩ := s4.rules
    by_cases hbig : 100000 < n
    · have HS : Hid (Below W.heap.size W _) := s4.below
      clear s4
      go_wp2
      go_ret
      exact ⟨rfl, HS.out⟩
    · obtain ⟨T, hT⟩ : ∃ T, smI bi (pz zs ys) = T := ⟨_, rfl⟩
      rw [hT] at g1 g2 g3
      have HT : Hid (smI bi (pz zs ys) = T) := hT
      have HS4 : Hid (St W _ [(w4.heap.size, #[.int .i64 m0, .int .i64 t0, .int .i64 m1, .int .i64 t1, .int .i64 tw, .int .i64 lo0, .int .i64 hi0, .int .i64 lo1, .int .i64 hi1], 48), (W.heap.size, #[.slice wa n cw, .slice xa n cx, .int .i64 wd, .int .i64 dp, .int .i32 bi], 42)]) := s4
      have HG : Hid ((wd = 32 → (T - rF).tmod 4294967296 = 0) ∧ (wd ≠ 32 → (T - rF).tmod 65536 = 0) ∧ (tw = 0 → T = rF) ∧ 0 ≤ tw ∧ tw ≤ m0 + t0 + m1 + t1) := ⟨g1, g2, g3, g4, g5⟩
      clear hT s4 g1 g2 g3 g4 g5
      go_wp2_with fail
      go_loopw [6, 60] (fun v i wr => ∃ (k : Nat) (S : Int), k ≤ n ∧ i = .int .i64 k ∧ v = .int .i64 S ∧ (-2147483648 - 4194304 * k ≤ S ∧ S ≤ 2147483648 + 4194304 * k) ∧ St W wr ([(w4.heap.size, #[.int .i64 m0, .int .i64 t0, .int .i64 m1, .int .i64 t1, .int .i64 tw, .int .i64 lo0, .int .i64 hi0, .int .i64 lo1, .int .i64 hi1], 48), (W.heap.size, #[.slice wa n cw, .slice xa n cx, .int .i64 wd, .int .i64 dp, .int .i32 bi], 42)]) ∧ smI S ((pz zs ys).drop k) = T) (fun _ i _ => n - (intOf i).toNat)
      case atStart => exact ⟨0, bi, Nat.zero_le _, rfl, rfl, by omega, HS4.out, HT.out⟩
      case round =>
        obtain ⟨k, S, hk, rfl, rfl, hSb, sk, hs⟩ := hrel
        obtain ⟨c1, f1, z1, c2, f2, z2, -⟩ := sk.rules
        by_cases hlt : k < n
        · obtain ⟨x, d, rfl, hc, hwf, -, hdr⟩ := (hw.below sk.below).at hlt
          obtain ⟨x3, e, rfl, hc3, hwf3, -, hdr3⟩ := (hx.below sk.below).at hlt
          have hdb := wf_i16 hwf
          have heb := wf_i8 hwf3
          have HN : Hid (smI (S + d * e) ((pz zs ys).drop (k + 1)) = T) := smI_at hs (pz_at hdr hdr3)
          have hp := mul_bd (A := 32768) (B := 128) (a := d) (b := e) (by omega) (by omega)
          obtain ⟨p, hq⟩ : ∃ p, d * e = p := ⟨_, rfl⟩
          rw [hq] at hp HN
          have q1 : IntKind.i64.wrap p = p := w64i (by omega)
          have HSK : Hid (∀ j, St W (wr.drewN j) _) := fun j => sk.call (dbel wr j)
          clear hw hx hwf hwf3 hdr hdr3 hs sk HG
          go_upto_region 10 with fail
          go_quiet (fail)
          go_wp2
          go_roundw
          case rel => exact ⟨k + 1, S + p, by omega, by go_num, rfl, by omega, HSK.out _, HN.out⟩
          case measure => simp [intOf]; omega
        · have hT : (pz zs ys).drop k = [] := List.drop_of_length_le (by have := HPL.out; omega)
          rw [hT] at hs
          obtain rfl : S = T := hs
          have HS6 : Hid (Below W.heap.size W wr) := sk.below
          obtain ⟨g1, g2, g3, g4, g5⟩ := HG.out
          clear sk hT HG
          by_cases h32 : wd = 32
          · have q0 := g1 h32
            subst h32
            clear g1 g2
            by_cases ht : tw = 0
            · have q1 := g3 ht
              subst ht q1
              clear g3
              go_wp2
              go_ret
              exact ⟨rfl, HS6.out⟩
            · clear g3
              have q2 : (tw != 0) = true := by simp [ht]
              go_wp2
              go_ret
              exact ⟨rfl, HS6.out⟩
          · have q0 := g2 h32
            obtain rfl : wd = 16 := by omega
            clear g1 g2 h32
            by_cases ht : tw = 0
            · have q1 := g3 ht
              subst ht q1
              clear g3
              go_wp2
              go_ret
              exact ⟨rfl, HS6.out⟩
            · clear g3
              have q2 : (tw != 0) = true := by simp [ht]
              go_wp2
              go_ret
              exact ⟨rfl, HS6.out⟩
  · have HD : Hid (∀ w, _) := fun w => ldot_bad wa xa n m cw cx wd dp bi E w (by unfold maxLen; omega) (by unfold maxLen; omega) hE h0
    have q1 : (E != 0) = true := by simp [h0]
    go_wp2_with fail
    refine (HD.out _).mono ?_
    rintro e w4 ⟨rfl, b4⟩
    have s4 := (s2.call b4).new (c := #[.int .i64 0, .int .i64 0, .int .i64 0, .int .i64 0, .int .i64 0, .int .i64 0, .int .i64 0, .int .i64 0, .int .i64 0]) (t := 48)
    clear c1 f1 z1 s2 b4 hE HD
    simp only [tr0]
    obtain ⟨c1, f1, z1, c2, f2, z2, -⟩ := s4.rules
    have HS : Hid (Below W.heap.size W _) := s4.below
    clear s4
    go_wp2
    go_ret
    exact ⟨rfl, HS.out⟩
end Go.Proofs.Ytgimnoehagfhhaa
