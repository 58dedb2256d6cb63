/- The document's Dot. -/
import Derived.Test.YtgimnoehagfhhaaLanH
namespace Go.Proofs.Ytgimnoehagfhhaa
open Go.ChangeShapes Go.WideShapes Go.ChangeAt Go.RowKit
set_option linter.unusedVariables false
theorem Ty.ok.mu {N n : Int} {t : Ty} (h : t.ok n) (p : Int) : (t.mu N p).ok (n + 1) := by
  obtain ⟨h1, h2, h3, h4, h5⟩ := h
  have b := bw_bd N p
  exact ⟨by simp only [Ty.mu]; omega, by simp only [Ty.mu]; omega, by simp only [Ty.mu]; omega, h4, h5⟩
theorem rtmT_16 (s l : Ty) (x y : Int) (W0 W : World) (B : Nat) (L : List (Nat × Array Value × TypeId)) (st : St W0 W ((B, trk s l, 73) :: L)) (hL : ∀ x ∈ L, x.1 ≠ B) (hs : s.ok BD) (hl : l.ok BD) (ha : -2147483648 ≤ x ∧ x ≤ 2147483647) (hb : -2147483648 ≤ y ∧ y ≤ 2147483647) :
    Calls Try.prog 34 #[.pointer (some ⟨B, 0, none⟩), .int .i64 16, .int .i64 x, .int .i64 y] W fun e w' => e = .returned (.int .i64 (wrapN 32768 (x * y))) ∧ St W0 w' ((B, trk (s.mu 32768 <| x * y) (l), 73) :: L) := by
  obtain ⟨h1, h2, -⟩ := hs
  obtain ⟨g1, g2, -⟩ := hl
  refine (rtm_16 s.m s.a l.m l.a (s.w + l.w) s.l s.h l.l l.h x y W0 W B L st hL h1 g1 (by omega) ha hb).mono ?_
  rintro e w' ⟨rfl, h⟩
  refine ⟨rfl, ?_⟩
  have e1 : s.w + l.w + bw 32768 (x * y) = s.w + bw 32768 (x * y) + l.w := by omega
  have e2 : s.w + l.w + bw 32768 (x * y) = s.w + (l.w + bw 32768 (x * y)) := by omega
  first
  | (rw [e1] at h; exact h)
  | (rw [e2] at h; exact h)
theorem rplT_16 (s l : Ty) (x y : Int) (W0 W : World) (B : Nat) (L : List (Nat × Array Value × TypeId)) (st : St W0 W ((B, trk s l, 73) :: L)) (hL : ∀ x ∈ L, x.1 ≠ B) (hs : s.ok BD) (hl : l.ok BD) (ha : -2147483648 ≤ x ∧ x ≤ 2147483647) (hb : -2147483648 ≤ y ∧ y ≤ 2147483647) :
    Calls Try.prog 33 #[.pointer (some ⟨B, 0, none⟩), .int .i64 16, .int .i64 x, .int .i64 y] W fun e w' => e = .returned (.int .i64 (wrapN 32768 (x + y))) ∧ St W0 w' ((B, trk (s.ad 32768 <| x + y) (l), 73) :: L) := by
  obtain ⟨h1, h2, h3, -⟩ := hs
  obtain ⟨g1, g2, g3, -⟩ := hl
  refine (rpl_16 s.m s.a l.m l.a (s.w + l.w) s.l s.h l.l l.h x y W0 W B L st hL h3 g3 (by omega) ha hb).mono ?_
  rintro e w' ⟨rfl, h⟩
  refine ⟨rfl, ?_⟩
  have e1 : s.w + l.w + bw 32768 (x + y) = s.w + bw 32768 (x + y) + l.w := by omega
  have e2 : s.w + l.w + bw 32768 (x + y) = s.w + (l.w + bw 32768 (x + y)) := by omega
  first
  | (rw [e1] at h; exact h)
  | (rw [e2] at h; exact h)
theorem rtmT_32 (s l : Ty) (x y : Int) (W0 W : World) (B : Nat) (L : List (Nat × Array Value × TypeId)) (st : St W0 W ((B, trk s l, 73) :: L)) (hL : ∀ x ∈ L, x.1 ≠ B) (hs : s.ok BD) (hl : l.ok BD) (ha : -2147483648 ≤ x ∧ x ≤ 2147483647) (hb : -2147483648 ≤ y ∧ y ≤ 2147483647) :
    Calls Try.prog 34 #[.pointer (some ⟨B, 0, none⟩), .int .i64 32, .int .i64 x, .int .i64 y] W fun e w' => e = .returned (.int .i64 (wrapN 2147483648 (x * y))) ∧ St W0 w' ((B, trk (s) (l.mu 2147483648 <| x * y), 73) :: L) := by
  obtain ⟨h1, h2, -⟩ := hs
  obtain ⟨g1, g2, -⟩ := hl
  refine (rtm_32 s.m s.a l.m l.a (s.w + l.w) s.l s.h l.l l.h x y W0 W B L st hL h1 g1 (by omega) ha hb).mono ?_
  rintro e w' ⟨rfl, h⟩
  refine ⟨rfl, ?_⟩
  have e1 : s.w + l.w + bw 2147483648 (x * y) = s.w + bw 2147483648 (x * y) + l.w := by omega
  have e2 : s.w + l.w + bw 2147483648 (x * y) = s.w + (l.w + bw 2147483648 (x * y)) := by omega
  first
  | (rw [e1] at h; exact h)
  | (rw [e2] at h; exact h)
theorem rplT_32 (s l : Ty) (x y : Int) (W0 W : World) (B : Nat) (L : List (Nat × Array Value × TypeId)) (st : St W0 W ((B, trk s l, 73) :: L)) (hL : ∀ x ∈ L, x.1 ≠ B) (hs : s.ok BD) (hl : l.ok BD) (ha : -2147483648 ≤ x ∧ x ≤ 2147483647) (hb : -2147483648 ≤ y ∧ y ≤ 2147483647) :
    Calls Try.prog 33 #[.pointer (some ⟨B, 0, none⟩), .int .i64 32, .int .i64 x, .int .i64 y] W fun e w' => e = .returned (.int .i64 (wrapN 2147483648 (x + y))) ∧ St W0 w' ((B, trk (s) (l.ad 2147483648 <| x + y), 73) :: L) := by
  obtain ⟨h1, h2, h3, -⟩ := hs
  obtain ⟨g1, g2, g3, -⟩ := hl
  refine (rpl_32 s.m s.a l.m l.a (s.w + l.w) s.l s.h l.l l.h x y W0 W B L st hL h3 g3 (by omega) ha hb).mono ?_
  rintro e w' ⟨rfl, h⟩
  refine ⟨rfl, ?_⟩
  have e1 : s.w + l.w + bw 2147483648 (x + y) = s.w + bw 2147483648 (x + y) + l.w := by omega
  have e2 : s.w + l.w + bw 2147483648 (x + y) = s.w + (l.w + bw 2147483648 (x + y)) := by omega
  first
  | (rw [e1] at h; exact h)
  | (rw [e2] at h; exact h)
set_option maxHeartbeats 4000000 in
theorem rdot_32 (d N : Nat) (wa xa : Option Addr) (cw cx : Nat) (zs ys : List Int) (bi : Int) (W : World) (hN : N ≤ 140737488355328) (hw : IRow .i64 W wa N cw zs) (hx : IRow .i64 W xa N cx ys)
    (hz : ∀ z ∈ zs, -32768 ≤ z ∧ z ≤ 32767) (hy : ∀ z ∈ ys, -128 ≤ z ∧ z ≤ 127) (hd : 1 ≤ d ∧ d ≤ N) (hb : -2147483648 ≤ bi ∧ bi ≤ 2147483647) (F : Ty × Int) (hF : gaT 2147483648 Ty.z bi (pz zs ys) = F) :
    Calls Try.prog 22 #[.slice wa N cw, .slice xa N cx, .int .i64 32, .int .i64 (d : Int), .int .i64 bi] W fun e w' => e = .returned (.tuple #[.int .i64 F.2, .agg (trk Ty.z F.1)]) ∧ Below W.heap.size W w' := by
  have hcw := hw.2.1
  have hmw := hw.2.2.1
  have hcx := hx.2.1
  have hmx := hx.2.2.1
  unfold maxLen at hmw hmx
  have hlz : Hid (zs.length = N) := hw.1
  have hly : Hid (ys.length = N) := hx.1
  have s0 := ((St.start W).new (c := #[.int .i64 0, .int .i64 0, .int .i64 0, .int .i64 0, .int .i64 0, .int .i64 0, .int .i64 0, .int .i64 0, .int .i64 0]) (t := 48)).new (c := trk Ty.z Ty.z) (t := 73)
  simp only [World.size_alloc] at s0
  have HS : Hid (St W _ _) := s0
  have HF : Hid (gaT 2147483648 Ty.z bi (pz zs ys) = F) := hF
  clear s0 hF
  go_enter Try.func22, Try.ntmps22
  go_wp2
  go_loopw [13, 14, 19] (fun v p i wr => ∃ (k : Nat) (r : Int) (t : Ty), k ≤ N ∧ i = .int .i64 k ∧ v = .int .i64 r ∧ p = .int .i64 0 ∧ (-2147483648 ≤ r ∧ r ≤ 2147483647) ∧ t.ok k ∧ St W wr [(W.heap.size + 1, trk Ty.z t, 73), (W.heap.size, #[.int .i64 0, .int .i64 0, .int .i64 0, .int .i64 0, .int .i64 0, .int .i64 0, .int .i64 0, .int .i64 0, .int .i64 0], 48)] ∧ gaT 2147483648 t r ((pz zs ys).drop k) = F) (fun _ _ i _ => N - (intOf i).toNat)
  case atStart => exact ⟨0, bi, Ty.z, Nat.zero_le _, rfl, rfl, rfl, hb, Ty.ok_z, HS.out, HF.out⟩
  case round =>
    obtain ⟨k, r, t, hk, rfl, rfl, rfl, hrb, htk, sk, hgk⟩ := hrel
    by_cases hlt : k < N
    · obtain ⟨x, c, rfl, hc, hwf, hmem, hdr⟩ := (hw.below sk.below).at hlt
      obtain ⟨y, c', rfl, hc2, hwf2, hmem2, hdr2⟩ := (hx.below sk.below).at hlt
      have hcb := hz c (List.mem_of_getElem? hmem)
      have hcb2 := hy c' (List.mem_of_getElem? hmem2)
      have HP : Hid ((pz zs ys).drop k = c * c' :: (pz zs ys).drop (k + 1)) := pz_at hdr hdr2
      rw [HP.out] at hgk
      have HG : Hid (gaT 2147483648 (t.ma 2147483648 r (c * c')) (wrapN 2147483648 (r + wrapN 2147483648 (c * c'))) ((pz zs ys).drop (k + 1)) = F) := hgk
      have HTM : Hid ((t.ma 2147483648 r (c * c')).ok (k + 1)) := htk.ma (by omega) _ _
      have hV := wrapN_bd (N := 2147483648) (by omega) (c * c')
      have hV2 := wrapN_bd (N := 2147483648) (by omega) (r + wrapN 2147483648 (c * c'))
      have HV : Hid (-2147483648 ≤ wrapN 2147483648 (r + wrapN 2147483648 (c * c')) ∧ wrapN 2147483648 (r + wrapN 2147483648 (c * c')) ≤ 2147483647) := by unfold Hid; omega
      have hne : ∀ x ∈ ([(W.heap.size, #[.int .i64 0, .int .i64 0, .int .i64 0, .int .i64 0, .int .i64 0, .int .i64 0, .int .i64 0, .int .i64 0, .int .i64 0], 48)] : List (Nat × Array Value × TypeId)), x.1 ≠ W.heap.size + 1 := by intro x hx; simp only [List.mem_singleton] at hx; subst hx; simp only; omega
      have HM : Hid (∀ w2, St W w2 [(W.heap.size + 1, trk Ty.z t, 73), (W.heap.size, #[.int .i64 0, .int .i64 0, .int .i64 0, .int .i64 0, .int .i64 0, .int .i64 0, .int .i64 0, .int .i64 0, .int .i64 0], 48)] → _) := fun w2 s2 => rtmT_32 Ty.z t c c' W w2 _ _ s2 hne (Ty.ok_z.mono (by unfold BD; omega)) (htk.mono (by unfold BD; omega)) (by omega) (by omega)
      have HA : Hid (∀ w2, St W w2 [(W.heap.size + 1, trk Ty.z (t.mu 2147483648 (c * c')), 73), (W.heap.size, #[.int .i64 0, .int .i64 0, .int .i64 0, .int .i64 0, .int .i64 0, .int .i64 0, .int .i64 0, .int .i64 0, .int .i64 0], 48)] → _) := fun w2 s2 => rplT_32 Ty.z (t.mu 2147483648 (c * c')) r (wrapN 2147483648 (c * c')) W w2 _ _ s2 hne (Ty.ok_z.mono (by unfold BD; omega)) ((htk.mu (c * c')).mono (by unfold BD; omega)) hrb (by omega)
      have HSK : Hid (St W wr _) := sk
      clear hV hV2 HP hwf hwf2 hdr hdr2 hgk htk hmem hmem2 hne sk
      go_upto_region 8 with fail
      go_cut [13] from 24 to 34 (fun v13 wx => v13 = .int .i64 (wrapN 2147483648 (r + wrapN 2147483648 (c * c'))) ∧ St W wx [(W.heap.size + 1, trk Ty.z (t.ma 2147483648 r (c * c')), 73), (W.heap.size, #[.int .i64 0, .int .i64 0, .int .i64 0, .int .i64 0, .int .i64 0, .int .i64 0, .int .i64 0, .int .i64 0, .int .i64 0], 48)])
      case first =>
        go_region_with (first | (go_at_call 34; refine (HM.out _ (St.drew HSK.out)).mono ?_; rintro e w2 ⟨rfl, s2⟩) | (go_at_call 33; refine (HA.out _ s2).mono ?_; rintro e w3 ⟨rfl, s3⟩))
        all_goals (go_wp2_with fail; go_meet; case rel => exact ⟨rfl, s3⟩)
      case rest =>
        obtain ⟨rfl, s3⟩ := hcut
        clear HM HA
        go_wp2
        go_roundw
        case rel => exact ⟨k + 1, _, _, by omega, by go_num, rfl, rfl, HV.out, by have := HTM.out; simpa using this, s3, HG.out⟩
        case measure => simp [intOf]; omega
    · have hT : (pz zs ys).drop k = [] := List.drop_of_length_le (by rw [pz_len (by rw [hlz.out, hly.out]), hlz.out]; omega)
      rw [hT] at hgk
      have HG : Hid ((t, r) = F) := hgk
      clear hT hgk
      have hF2 := HG.out
      obtain ⟨F1, F2⟩ := F
      cases hF2
      obtain ⟨m, wq, a, lo, hi⟩ := t
      simp only [trk, Ty.z, Int.zero_add] at sk
      obtain ⟨c1, f1, z1, c2, f2, z2, -⟩ := sk.rules
      have s4 := (sk.up1.down.set9 (.int .i64 0) (.int .i64 0) (.int .i64 m) (.int .i64 a) (.int .i64 wq) (.int .i64 0) (.int .i64 0) (.int .i64 lo) (.int .i64 hi) (fun x hx => by cases hx)).drew
      have HS6 : Hid (Below W.heap.size W _) := s4.below
      obtain ⟨c6, -⟩ := s4.rules
      have HC6 : Hid (∀ i, _) := c6
      clear s4 c6
      go_upto_region 14 with fail
      go_region
      go_wp2
      exact bodyPost_ret (v := .tuple #[.int .i64 r, .agg #[.int .i64 0, .int .i64 0, .int .i64 m, .int .i64 a, .int .i64 wq, .int .i64 0, .int .i64 0, .int .i64 lo, .int .i64 hi]]) (by have c6 := HC6.out; simp [results, Try.results22, go_sem, c6]) rfl ⟨by simp [trk, Ty.z], HS6.out⟩
end Go.Proofs.Ytgimnoehagfhhaa
