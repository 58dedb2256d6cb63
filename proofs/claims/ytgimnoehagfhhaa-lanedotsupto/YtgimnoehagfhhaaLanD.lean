/- What lane's spilled, trackOf return; Dot. -/
import Derived.Test.YtgimnoehagfhhaaLanC
import Derived.Deep.RegionWith
import Derived.Deep.DeepCutAuto
namespace Go.Proofs.Ytgimnoehagfhhaa
open Go.ChangeShapes Go.WideShapes Go.ChangeAt Go.RowKit
set_option linter.unusedVariables false
/-! ### Fronts and backs of lists -/
theorem front_i16 {a : Option Addr} {len cap k : Nat} (hc : k ≤ cap) : ∀ W : World, (Instr.slice 33 (.slice a len cap) none (some (.int .i64 (k : Int))) none).run Try.prog W = .ok (.slice a k cap) W := fun W => by
  have hs : ∀ W : World, (sizeOf 22).run Try.prog W = .ok 1 W := fun _ => by kernel_rfl
  have he : Try.prog.elem 33 = 22 := by kernel_rfl
  have hu : Try.prog.underlying 33 = some (.slice (Try.prog.elem 33)) := by rw [he]; exact Try.underlying33
  rw [run_slice_h (ht := hu) (h0 := by omega) (h2 := by omega), he, hs]
  have e : a.map (fun x => x.add (0 * 1)) = a := by
    cases a with
    | none => rfl
    | some x => simp [Addr.add]
  simp only [Result.andThen, sliced, Int.toNat_natCast, Nat.sub_zero]
  rw [e]
  simp
theorem back_i16 {a : Option Addr} {len cap k : Nat} (hc : k ≤ len) (hl : len ≤ cap) : ∃ a', (∀ W : World, (Instr.slice 33 (.slice a len cap) (some (.int .i64 (k : Int))) none none).run Try.prog W = .ok (.slice a' (len - k) (cap - k)) W) ∧ (∀ x, a = some x → k < cap → a' = some (x.add k)) ∧ (a = none → a' = none) := by
  have hs : ∀ W : World, (sizeOf 22).run Try.prog W = .ok 1 W := fun _ => by kernel_rfl
  have he : Try.prog.elem 33 = 22 := by kernel_rfl
  have hu : Try.prog.underlying 33 = some (.slice (Try.prog.elem 33)) := by rw [he]; exact Try.underlying33
  refine ⟨if cap = k then a else a.map (fun x => x.add (k * 1)), fun W => ?_, fun x hx hk => ?_, fun hx => ?_⟩
  · rw [run_slice_l (ht := hu) (h0 := by omega) (h1 := by omega), he, hs]
    simp only [Result.andThen, sliced, Int.toNat_natCast]
  · rw [if_neg (by omega), hx]; simp
  · subst hx; split <;> rfl
theorem front_i8 {a : Option Addr} {len cap k : Nat} (hc : k ≤ cap) : ∀ W : World, (Instr.slice 40 (.slice a len cap) none (some (.int .i64 (k : Int))) none).run Try.prog W = .ok (.slice a k cap) W := fun W => by
  have hs : ∀ W : World, (sizeOf 46).run Try.prog W = .ok 1 W := fun _ => by kernel_rfl
  have he : Try.prog.elem 40 = 46 := by kernel_rfl
  have hu : Try.prog.underlying 40 = some (.slice (Try.prog.elem 40)) := by rw [he]; exact Try.underlying40
  rw [run_slice_h (ht := hu) (h0 := by omega) (h2 := by omega), he, hs]
  have e : a.map (fun x => x.add (0 * 1)) = a := by
    cases a with
    | none => rfl
    | some x => simp [Addr.add]
  simp only [Result.andThen, sliced, Int.toNat_natCast, Nat.sub_zero]
  rw [e]
  simp
theorem back_i8 {a : Option Addr} {len cap k : Nat} (hc : k ≤ len) (hl : len ≤ cap) : ∃ a', (∀ W : World, (Instr.slice 40 (.slice a len cap) (some (.int .i64 (k : Int))) none none).run Try.prog W = .ok (.slice a' (len - k) (cap - k)) W) ∧ (∀ x, a = some x → k < cap → a' = some (x.add k)) ∧ (a = none → a' = none) := by
  have hs : ∀ W : World, (sizeOf 46).run Try.prog W = .ok 1 W := fun _ => by kernel_rfl
  have he : Try.prog.elem 40 = 46 := by kernel_rfl
  have hu : Try.prog.underlying 40 = some (.slice (Try.prog.elem 40)) := by rw [he]; exact Try.underlying40
  refine ⟨if cap = k then a else a.map (fun x => x.add (k * 1)), fun W => ?_, fun x hx hk => ?_, fun hx => ?_⟩
  · rw [run_slice_l (ht := hu) (h0 := by omega) (h1 := by omega), he, hs]
    simp only [Result.andThen, sliced, Int.toNat_natCast]
  · rw [if_neg (by omega), hx]; simp
  · subst hx; split <;> rfl
theorem IRow.front {k : IntKind} {w : World} {a : Option Addr} {len cap n : Nat} {zs : List Int} (h : IRow k w a len cap zs) (hn : n ≤ len) : IRow k w a n cap (zs.take n) := by
  obtain ⟨h1, h2, h3, h4, h5, h6⟩ := h
  refine ⟨by rw [List.length_take]; omega, by omega, h3, fun z hz => h4 z (List.mem_of_mem_take hz), h5, fun x hx i hi => ?_⟩
  rw [h6 x hx i (by omega)]
  simp [List.getD, hi]
theorem IRow.back {k : IntKind} {w : World} {a a' : Option Addr} {len cap n : Nat} {zs : List Int} (h : IRow k w a len cap zs) (hn : n ≤ len) (ha : ∀ x, a = some x → n < cap → a' = some (x.add n)) (hb : a = none → a' = none) : IRow k w a' (len - n) (cap - n) (zs.drop n) := by
  have := h.cut (n := n) (m := len - n) (by omega) ha hb
  rw [List.take_of_length_le (by rw [List.length_drop, h.1]; omega)] at this
  exact this
theorem pz_take (zs ys : List Int) (n : Nat) : pz (zs.take n) (ys.take n) = (pz zs ys).take n := by unfold pz; rw [List.take_zipWith]
theorem pz_drop (zs ys : List Int) (n : Nat) : pz (zs.drop n) (ys.drop n) = (pz zs ys).drop n := by unfold pz; rw [List.drop_zipWith]
def lenOf : Value → Nat
  | .slice _ n _ => n
  | _ => 0
/-! ### Block by block -/
set_option maxHeartbeats 4000000 in
theorem lsp_any (d N : Nat) (s0 l0 : Ty) (r0 : Int) (wa0 xa0 : Option Addr) (cw0 cx0 : Nat) (zs0 ys0 : List Int) (W0 W : World) (B C : Nat) (l : List (Nat × Array Value × TypeId)) (hBC : B ≠ C) (s : St W0 W ((B, s0.cs, 67) :: (C, l0.cs, 67) :: l)) (hlB : ∀ x ∈ l, x.1 ≠ B) (hlC : ∀ x ∈ l, x.1 ≠ C) (hs0 : s0.ok 0) (hl0 : l0.ok 0) (hr0 : -2147483648 ≤ r0 ∧ r0 ≤ 2147483647) (hd : 1 ≤ d ∧ d ≤ N) (hN : N ≤ 140737488355328)
    (hw0 : IRow .i16 W0 wa0 N cw0 zs0) (hx0 : IRow .i8 W0 xa0 N cx0 ys0) (F : Ty × Ty × Int) (hF : elT d 0 s0 l0 r0 0 (pz zs0 ys0) = F) :
    Calls Try.prog 31 #[.pointer (some ⟨B, 0, none⟩), .pointer (some ⟨C, 0, none⟩), .int .i32 r0, .slice wa0 N cw0, .slice xa0 N cx0, .int .i64 (d : Int)] W fun e w' => e = .returned (.int .i32 F.2.2) ∧ St W0 w' ((B, F.1.cs, 67) :: (C, F.2.1.cs, 67) :: l) := by
  have hcm := hw0.2.1
  have hmm := hw0.2.2.1
  have hmx := hx0.2.2.1
  unfold maxLen at hmm hmx
  have HW : Hid (IRow .i16 W0 wa0 N cw0 zs0) := hw0
  have HX : Hid (IRow .i8 W0 xa0 N cx0 ys0) := hx0
  have HB : Hid ((∀ x ∈ ((C, l0.cs, 67) :: l), x.1 ≠ B) ∧ ∀ x ∈ l, x.1 ≠ C) := ⟨fun x hx => by rcases List.mem_cons.1 hx with rfl | hx; exact fun e => hBC e.symm; exact hlB x hx, hlC⟩
  have HS : Hid (St W0 W ((B, s0.cs, 67) :: (C, l0.cs, 67) :: l)) := s
  have HF : Hid (elT d 0 s0 l0 r0 0 (pz zs0 ys0) = F) := hF
  have H0 : Hid (s0.ok 0 ∧ l0.ok 0) := ⟨hs0, hl0⟩
  have HBl : Hid ((∀ x ∈ l, x.1 ≠ B) ∧ ∀ x ∈ l, x.1 ≠ C) := ⟨hlB, hlC⟩
  clear hw0 hx0 s hF hs0 hl0 hlB hlC
  go_enter Try.func31, Try.ntmps31
  go_wp2
  go_loopw [2, 3, 4] (fun v vw vx wr => ∃ (n cw cx : Nat) (r : Int) (wa xa : Option Addr) (zs ys : List Int) (st lt : Ty), n ≤ N ∧ v = .int .i32 r ∧ vw = .slice wa n cw ∧ vx = .slice xa n cx ∧ (-2147483648 ≤ r ∧ r ≤ 2147483647) ∧ st.ok ((N : Int) - n) ∧ lt.ok ((N : Int) - n) ∧ IRow .i16 W0 wa n cw zs ∧ IRow .i8 W0 xa n cx ys ∧ St W0 wr ((B, st.cs, 67) :: (C, lt.cs, 67) :: l) ∧ elT d 0 st lt r 0 (pz zs ys) = F) (fun _ vw _ _ => lenOf vw)
  case atStart => exact ⟨N, cw0, cx0, r0, wa0, xa0, zs0, ys0, s0, l0, Nat.le_refl _, rfl, rfl, rfl, hr0, by rw [Int.sub_self]; exact H0.out.1, by rw [Int.sub_self]; exact H0.out.2, HW.out, HX.out, HS.out, HF.out⟩
  case round =>
    obtain ⟨n, cw, cx, r, wa, xa, zs, ys, st, lt, hn, rfl, rfl, rfl, hr, hst, hlt, hw, hx, hs, hf⟩ := hrel
    by_cases h0 : n = 0
    · subst h0
      have hz : zs = [] := List.eq_nil_of_length_eq_zero hw.1
      subst hz
      have HG : Hid ((st, lt, r) = F) := hf
      clear hf
      go_wp2
      go_ret
      exact ⟨by rw [← HG.out]; rfl, by rw [← HG.out]; exact hs⟩
    · have hcap := hw.2.1
      have hcap2 := hx.2.1
      have hmw := hw.2.2.1
      have hmx2 := hx.2.2.1
      unfold maxLen at hmw hmx2
      obtain ⟨b, hb⟩ : ∃ b : Nat, b = min d n := ⟨_, rfl⟩
      have hb1 : 1 ≤ b ∧ b ≤ n ∧ b ≤ d := by omega
      have m1 := min2 (d : Int) (n : Int) (b : Int) (by unfold xmn; split <;> omega)
      have f1 := front_i16 (a := wa) (len := n) (cap := cw) (k := b) (by omega)
      have f2 := front_i8 (a := xa) (len := n) (cap := cx) (k := b) (by omega)
      obtain ⟨wa2, g1, ga1, gb1⟩ := back_i16 (a := wa) (len := n) (cap := cw) (k := b) (by omega) (by omega)
      obtain ⟨xa2, g2, ga2, gb2⟩ := back_i8 (a := xa) (len := n) (cap := cx) (k := b) (by omega) (by omega)
      have HW1 : Hid (IRow .i16 W0 wa b cw (zs.take b)) := hw.front (by omega)
      have HX1 : Hid (IRow .i8 W0 xa b cx (ys.take b)) := hx.front (by omega)
      have HW2 : Hid (IRow .i16 W0 wa2 (n - b) (cw - b) (zs.drop b)) := hw.back (by omega) ga1 gb1
      have HX2 : Hid (IRow .i8 W0 xa2 (n - b) (cx - b) (ys.drop b)) := hx.back (by omega) ga2 gb2
      have hlz := hw.1
      have hly := hx.1
      have hpl : (pz zs ys).length = n := by rw [pz_len (by omega)]; exact hlz
      have hne : pz zs ys ≠ [] := fun e => by rw [e] at hpl; simp at hpl; omega
      have htk : (pz zs ys).take d = (pz zs ys).take b := by
        rcases Nat.le_total d n with h | h
        · rw [show b = d by omega]
        · rw [List.take_of_length_le (by omega), List.take_of_length_le (by omega)]
      have hdk : (pz zs ys).drop d = (pz zs ys).drop b := by
        rcases Nat.le_total d n with h | h
        · rw [show b = d by omega]
        · rw [List.drop_of_length_le (by omega), List.drop_of_length_le (by omega)]
      rw [elT_spill (by omega) hne, htk, hdk] at hf
      obtain ⟨G, hG⟩ : ∃ G, gaT 32768 st 0 ((pz zs ys).take b) = G := ⟨_, rfl⟩
      have hGo := gaT_ok (N := 32768) (by omega) ((pz zs ys).take b) st 0 _ hst (by omega)
      rw [hG] at hf hGo
      rw [show ((((pz zs ys).take b).length : Nat) : Int) = b by rw [List.length_take, hpl]; omega] at hGo
      have HGA : Hid (∀ W', St W0 W' ((B, st.cs, 67) :: (C, lt.cs, 67) :: l) → _) := fun W' hs' => lga_i16 st 0 _ wa xa b cw cx (zs.take b) (ys.take b) W0 W' B _ hs' (fun x hx => by rcases List.mem_cons.1 hx with rfl | hx; exact fun e => hBC e.symm; exact HBl.out.1 x hx) hst (by omega) (by omega) HW1.out HX1.out G (by rw [pz_take]; exact hG)
      have HAD : Hid (∀ W', St W0 W' ((C, lt.cs, 67) :: (B, G.1.cs, 67) :: l) → _) := fun W' hs' => lad_i32 lt r G.2 W0 W' C _ hs' (fun x hx => by rcases List.mem_cons.1 hx with rfl | hx; exact hBC; exact HBl.out.2 x hx) (hlt.mono (by unfold BD; omega)) hr (by omega)
      have hG2 := hGo.2
      have HOK : Hid (G.1.ok ((N : Int) - ((n - b : Nat) : Int)) ∧ (lt.ad 2147483648 (r + G.2)).ok ((N : Int) - ((n - b : Nat) : Int))) := ⟨hGo.1.mono (by omega), (hlt.ad (by omega) _).mono (by omega)⟩
      have HE : Hid (elT d 0 G.1 (lt.ad 2147483648 (r + G.2)) (wrapN 2147483648 (r + G.2)) 0 (pz (zs.drop b) (ys.drop b)) = F) := by rw [pz_drop]; exact hf
      have HV := wrapN_bd (N := 2147483648) (by omega) (r + G.2)
      have hVV : Hid (-2147483648 ≤ wrapN 2147483648 (r + G.2) ∧ wrapN 2147483648 (r + G.2) ≤ 2147483647) := by unfold Hid; omega
      obtain ⟨G1, G2⟩ := G
      simp only at HGA HAD hG2 HOK HE hVV
      have hs' : Hid (St W0 wr ((B, st.cs, 67) :: (C, lt.cs, 67) :: l)) := hs
      have hn0 : 0 < n := by omega
      clear hw hx hf hst hlt hG hGo HV hpl hne htk hdk hlz hly ga1 gb1 ga2 gb2 hb hs h0
      go_upto_region 3 with fail
      go_cut [14] from 22 to 29 (fun v14 wx => v14 = .int .i16 G2 ∧ St W0 wx ((B, G1.cs, 67) :: (C, lt.cs, 67) :: l))
      case first =>
        go_region_with (go_at_call 40; refine (HGA.out _ (St.drew hs'.out)).mono ?_; rintro e w2 ⟨rfl, s2⟩)
        all_goals (go_wp2_with fail; go_meet; case rel => exact ⟨rfl, s2⟩)
      case rest =>
        obtain ⟨rfl, s3⟩ := hcut
        have HAD2 := HAD.out wc s3.up1
        clear s3 HAD HGA f1 f2
        go_wp2_with fail
        refine HAD2.mono ?_
        rintro e w4 ⟨rfl, s4⟩
        have HS4 : Hid (∀ k, St W0 (w4.drewN k) ((B, G1.cs, 67) :: (C, (lt.ad 2147483648 (r + G2)).cs, 67) :: l)) := fun k => s4.up1.call (dbel w4 k)
        clear HAD2 s4
        go_upto_region 5 with fail
        go_quiet (fail)
        go_wp2
        go_roundw
        case rel => exact ⟨n - b, cw - b, cx - b, _, wa2, xa2, _, _, _, _, by omega, rfl, rfl, rfl, hVV.out, HOK.out.1, HOK.out.2, HW2.out, HX2.out, HS4.out _, HE.out⟩
        case measure => simp [lenOf]; omega
end Go.Proofs.Ytgimnoehagfhhaa
