/- What lane's trackOf and Dot return. What lane's Join and the document's return. Certificates in plain numbers: their form, what their plans cost. Lists of flat structs, and of lists of them, in memory. Plain numbers of layer 21: Tracks joined, sums in registers and what their Tracks come to; what an op makes of them; the first fault. What Length, Channels and Positions of package terms return. What greatestUnder and greatest of package plain return. What greatest of package plain returns; lists that grow. What sums of package plain returns: all sums of an op that reduces. -/
import Derived.Test.YtehofmkpgopmpaaGr01
import Derived.Test.YtehofmkpgopmpaaGr08
import Derived.Test.YtehofmkpgopmpaaGr12
import Derived.Test.YtehofmkpgopmpaaGp19
import Derived.Test.YtehofmkpgopmpaaGp20
import Derived.Deep.RegionLawGrows
/- What lane's trackOf and Dot return. -/
namespace Go.Proofs.Ytehofmkpgopmpaa
open Go.ChangeShapes Go.WideShapes Go.ChangeAt Go.RowKit
set_option linter.unusedVariables false
/-- The Track of both. -/
def trk (s l : Ty) : Array Value := #[.int .i64 s.m, .int .i64 s.a, .int .i64 l.m, .int .i64 l.a, .int .i64 (s.w + l.w), .int .i64 s.l, .int .i64 s.h, .int .i64 l.l, .int .i64 l.h]
def tr0 : Array Value := #[.int .i64 0, .int .i64 0, .int .i64 0, .int .i64 0, .int .i64 0, .int .i64 0, .int .i64 0, .int .i64 0, .int .i64 0]
set_option maxHeartbeats 1000000 in
theorem ltr_any (s l : Ty) (W : World) (hs : s.ok BD) (hl : l.ok BD) :
    Calls Try.prog 69 #[.agg s.cs, .agg l.cs] W fun e w' => e = .returned (.agg (trk s l)) ∧ Below W.heap.size W w' := by
  obtain ⟨-, h1, -⟩ := hs
  obtain ⟨-, h2, -⟩ := hl
  obtain ⟨m, w, a, lo, hi⟩ := s
  obtain ⟨m2, w2, a2, lo2, hi2⟩ := l
  unfold BD at h1 h2
  simp only at h1 h2
  have s0 := ((St.start W).new (c := (⟨m, w, a, lo, hi⟩ : Ty).cs) (t := 139)).new (c := (⟨m2, w2, a2, lo2, hi2⟩ : Ty).cs) (t := 139) |>.new (c := trk ⟨m, w, a, lo, hi⟩ ⟨m2, w2, a2, lo2, hi2⟩) (t := 50)
  simp only [Ty.cs, trk] at s0 ⊢
  have HS : Hid (Below W.heap.size W _) := s0.below
  clear s0
  go_enter Try.func69, Try.ntmps69
  go_wp2
  exact bodyPost_ret (v := .agg #[.int .i64 m, .int .i64 a, .int .i64 m2, .int .i64 a2, .int .i64 (w + w2), .int .i64 lo, .int .i64 hi, .int .i64 lo2, .int .i64 hi2]) (by simp [results, Try.results69, go_sem]) rfl ⟨rfl, HS.out⟩
/-- Nine cells that are written. -/
theorem St.set9 {w0 w : World} {B : Nat} {t : TypeId} {l : List (Nat × Array Value × TypeId)} {a0 a1 a2 a3 a4 a5 a6 a7 a8 : Value} (v0 v1 v2 v3 v4 v5 v6 v7 v8 : Value) (h : St w0 w ((B, #[a0, a1, a2, a3, a4, a5, a6, a7, a8], t) :: l)) (hl : ∀ x ∈ l, x.1 ≠ B) :
    St w0 (((((((((w.setCell ⟨B, 0, none⟩ v0).setCell ⟨B, 1, none⟩ v1).setCell ⟨B, 2, none⟩ v2).setCell ⟨B, 3, none⟩ v3).setCell ⟨B, 4, none⟩ v4).setCell ⟨B, 5, none⟩ v5).setCell ⟨B, 6, none⟩ v6).setCell ⟨B, 7, none⟩ v7).setCell ⟨B, 8, none⟩ v8) ((B, #[v0, v1, v2, v3, v4, v5, v6, v7, v8], t) :: l) := by
  have h0 := h.set hl (i := 0) (v := v0)
  simp only [List.setIfInBounds_toArray, List.set_cons_zero] at h0
  have h1 := h0.set hl (i := 1) (v := v1)
  simp only [List.setIfInBounds_toArray, List.set_cons_zero, List.set_cons_succ] at h1
  have h2 := h1.set hl (i := 2) (v := v2)
  simp only [List.setIfInBounds_toArray, List.set_cons_zero, List.set_cons_succ] at h2
  have h3 := h2.set hl (i := 3) (v := v3)
  simp only [List.setIfInBounds_toArray, List.set_cons_zero, List.set_cons_succ] at h3
  have h4 := h3.set hl (i := 4) (v := v4)
  simp only [List.setIfInBounds_toArray, List.set_cons_zero, List.set_cons_succ] at h4
  have h5 := h4.set hl (i := 5) (v := v5)
  simp only [List.setIfInBounds_toArray, List.set_cons_zero, List.set_cons_succ] at h5
  have h6 := h5.set hl (i := 6) (v := v6)
  simp only [List.setIfInBounds_toArray, List.set_cons_zero, List.set_cons_succ] at h6
  have h7 := h6.set hl (i := 7) (v := v7)
  simp only [List.setIfInBounds_toArray, List.set_cons_zero, List.set_cons_succ] at h7
  have h8 := h7.set hl (i := 8) (v := v8)
  simp only [List.setIfInBounds_toArray, List.set_cons_zero, List.set_cons_succ] at h8
  exact h8
theorem St.down {w0 w : World} {x : Nat × Array Value × TypeId} {l : List (Nat × Array Value × TypeId)} (h : St w0 w (x :: l)) : St w0 w [x] := h.sub fun z hz => by simp only [List.mem_singleton] at hz; rw [hz]; exact List.mem_cons_self
/-- What Dot comes to. -/
def dtR (wd dp b : Int) (ps : List Int) : Ty × Ty × Int := if wd = 32 then (Ty.z, gaT 2147483648 Ty.z b ps) else elT dp.toNat 0 Ty.z Ty.z b 0 ps
set_option maxHeartbeats 2000000 in
theorem ldot_ok (wa xa : Option Addr) (n cw cx : Nat) (wd dp bi : Int) (zs ys : List Int) (W : World) (hN : n ≤ 140737488355328) (hw : IRow .i16 W wa n cw zs) (hx : IRow .i8 W xa n cx ys) (hE : rfE n n wd dp = 0) (hb : -2147483648 ≤ bi ∧ bi ≤ 2147483647) (F : Ty × Ty × Int) (hF : dtR wd dp bi (pz zs ys) = F) :
    Calls Try.prog 48 #[.slice wa n cw, .slice xa n cx, .int .i64 wd, .int .i64 dp, .int .i32 bi] W fun e w' => e = .returned (.tuple #[.int .i32 F.2.2, .agg (trk F.1 F.2.1), .int .i64 0]) ∧ Below W.heap.size W w' := by
  have hc1 := hw.2.1
  have hc2 := hx.2.1
  have hm1 := hw.2.2.1
  have hm2 := hx.2.2.1
  unfold maxLen at hm1 hm2
  have HR : Hid (∀ w, _) := fun w => lref_any n n wd dp w (by omega) 0 hE
  have hpl : (pz zs ys).length = n := by rw [pz_len (by rw [hw.1, hx.1])]; exact hw.1
  have s0 := (((St.start W).new (c := #[.int .i64 0, .int .i64 0, .int .i64 0, .int .i64 0, .int .i64 0, .int .i64 0, .int .i64 0, .int .i64 0, .int .i64 0]) (t := 50)).new (c := Ty.z.cs) (t := 139)).new (c := Ty.z.cs) (t := 139)
  simp only [World.size_alloc] at s0
  simp only [Ty.z, Ty.cs] at s0
  have HS : Hid (St W _ _) := s0
  have HT : Hid (F.1.ok BD ∧ F.2.1.ok BD) := by
    unfold Hid BD
    unfold dtR at hF
    by_cases h32 : wd = 32
    · rw [if_pos h32] at hF
      have := gaT_ok (N := 2147483648) (by omega) (pz zs ys) Ty.z bi 0 Ty.ok_z (by omega)
      rw [← hF]
      exact ⟨Ty.ok_z.mono (by omega), this.1.mono (by rw [hpl]; omega)⟩
    · rw [if_neg h32] at hF
      have := elT_ok (d := dp.toNat) (pz zs ys) 0 Ty.z Ty.z bi 0 0 Ty.ok_z Ty.ok_z (by omega)
      rw [← hF]
      exact ⟨this.1.mono (by rw [hpl]; omega), this.2.1.mono (by rw [hpl]; omega)⟩
  clear s0
  have hE2 : (wd = 16 ∨ wd = 32) ∧ 1 ≤ dp ∧ dp ≤ n := by
    unfold rfE at hE
    split at hE
    · cases hE
    · split at hE
      · cases hE
      · split at hE
        · cases hE
        · omega
  by_cases h32 : wd = 32
  · unfold dtR at hF
    rw [if_pos h32] at hF
    subst h32
    have HG : Hid (∀ W' B l, St W W' ((B, Ty.z.cs, 139) :: l) → (∀ x ∈ l, x.1 ≠ B) → _) := fun W' B l hs hl => lga_i32 Ty.z bi 0 wa xa n cw cx zs ys W W' B l hs hl Ty.ok_z (by omega) (by omega) hw hx _ rfl
    obtain ⟨F0, F1, F2⟩ := F
    simp only [Prod.mk.injEq] at hF
    obtain ⟨hF0, hF1⟩ := hF
    rw [hF1] at HG
    simp only at HG HT ⊢
    have HL : Hid (∀ w, _) := fun w => ltr_any F0 F1 w HT.out.1 HT.out.2
    subst hF0
    clear hF1 hE hE2 hpl hw hx
    go_enter Try.func48, Try.ntmps48
    go_wp2_with fail
    refine (HR.out _).mono ?_
    rintro e w' ⟨rfl, rfl⟩
    go_wp2_with fail
    refine (HG.out _ _ _ HS.out (by intro x hx; simp only [List.mem_cons, List.not_mem_nil, or_false] at hx; rcases hx with rfl | rfl <;> simp only <;> omega)).mono ?_
    rintro e w4 ⟨rfl, s4⟩
    clear HG HS HR HT
    obtain ⟨m, w, a, lo, hi⟩ := F1
    simp only [Ty.cs, Ty.z, trk] at s4 HL ⊢
    obtain ⟨c1, f1, z1, c2, f2, z2, c3, f3, z3, -⟩ := s4.rules
    have HS4 : Hid (St W w4 _) := s4
    clear s4
    go_wp2_with fail
    refine (HL.out _).mono ?_
    rintro e w5 ⟨rfl, hb5⟩
    have s5 := (HS4.out.call hb5).up2
    clear c1 f1 z1 c2 f2 z2 c3 f3 z3 hb5
    obtain ⟨c1, f1, z1, -⟩ := s5.rules
    have s6 := s5.down.set9 (.int .i64 0) (.int .i64 0) (.int .i64 m) (.int .i64 a) (.int .i64 w) (.int .i64 0) (.int .i64 0) (.int .i64 lo) (.int .i64 hi) (fun x hx => by cases hx)
    obtain ⟨c6, -⟩ := s6.rules
    have HS6 : Hid (Below W.heap.size W _) := s6.below
    have HC6 : Hid (∀ i, _) := c6
    clear s5 s6 c6
    go_wp2
    exact bodyPost_ret (v := .tuple #[.int .i32 F2, .agg #[.int .i64 0, .int .i64 0, .int .i64 m, .int .i64 a, .int .i64 w, .int .i64 0, .int .i64 0, .int .i64 lo, .int .i64 hi], .int .i64 0]) (by have c6 := HC6.out; simp [results, Try.results48, go_sem, c6]) rfl ⟨by simp [trk, Ty.z], HS6.out⟩
  · unfold dtR at hF
    rw [if_neg h32] at hF
    obtain rfl : wd = 16 := by omega
    obtain ⟨d, rfl⟩ : ∃ d : Nat, dp = (d : Int) := ⟨dp.toNat, by omega⟩
    rw [Int.toNat_natCast] at hF
    have HG : Hid (∀ W' B C l, B ≠ C → St W W' ((B, Ty.z.cs, 139) :: (C, Ty.z.cs, 139) :: l) → (∀ x ∈ l, x.1 ≠ B) → (∀ x ∈ l, x.1 ≠ C) → _) := fun W' B C l hbc hs hl hl2 => lsp_any d n Ty.z Ty.z bi wa xa cw cx zs ys W W' B C l hbc hs hl hl2 Ty.ok_z Ty.ok_z (by omega) (by omega) hN hw hx F hF
    obtain ⟨F0, F1, F2⟩ := F
    simp only at HG HT ⊢
    have HL : Hid (∀ w, _) := fun w => ltr_any F0 F1 w HT.out.1 HT.out.2
    have hw2 : -1000000000000000000 ≤ F0.w + F1.w ∧ F0.w + F1.w ≤ 1000000000000000000 := by
      have := HT.out
      obtain ⟨⟨-, g1, -⟩, ⟨-, g2, -⟩⟩ := this
      unfold BD at g1 g2
      omega
    clear hF hE hE2 hpl hw hx h32
    go_enter Try.func48, Try.ntmps48
    go_wp2_with fail
    refine (HR.out _).mono ?_
    rintro e w' ⟨rfl, rfl⟩
    go_wp2_with fail
    refine (HG.out _ _ _ _ (by omega) HS.out.up1 (by intro x hx; simp only [List.mem_cons, List.not_mem_nil, or_false] at hx; rcases hx with rfl; simp only; omega) (by intro x hx; simp only [List.mem_cons, List.not_mem_nil, or_false] at hx; rcases hx with rfl; simp only; omega)).mono ?_
    rintro e w4 ⟨rfl, s4⟩
    clear HG HS HR HT
    obtain ⟨m, w, a, lo, hi⟩ := F1
    obtain ⟨m0, w0, a0, lo0, hi0⟩ := F0
    simp only [Ty.cs, trk] at s4 HL hw2 ⊢
    obtain ⟨c1, f1, z1, c2, f2, z2, c3, f3, z3, -⟩ := s4.rules
    have HS4 : Hid (St W w4 _) := s4
    clear s4
    go_wp2_with fail
    refine (HL.out _).mono ?_
    rintro e w5 ⟨rfl, hb5⟩
    have s5 := (HS4.out.call hb5).up2
    clear c1 f1 z1 c2 f2 z2 c3 f3 z3 hb5
    obtain ⟨c1, f1, z1, -⟩ := s5.rules
    have s6 := s5.down.set9 (.int .i64 m0) (.int .i64 a0) (.int .i64 m) (.int .i64 a) (.int .i64 (w0 + w)) (.int .i64 lo0) (.int .i64 hi0) (.int .i64 lo) (.int .i64 hi) (fun x hx => by cases hx)
    obtain ⟨c6, -⟩ := s6.rules
    have HS6 : Hid (Below W.heap.size W _) := s6.below
    have HC6 : Hid (∀ i, _) := c6
    clear s5 s6 c6
    go_wp2
    exact bodyPost_ret (v := .tuple #[.int .i32 F2, .agg #[.int .i64 m0, .int .i64 a0, .int .i64 m, .int .i64 a, .int .i64 (w0 + w), .int .i64 lo0, .int .i64 hi0, .int .i64 lo, .int .i64 hi], .int .i64 0]) (by have c6 := HC6.out; simp [results, Try.results48, go_sem, c6]) rfl ⟨by simp [trk], HS6.out⟩
end Go.Proofs.Ytehofmkpgopmpaa

/- What lane's Join and the document's return. -/
namespace Go.Proofs.Ytehofmkpgopmpaa
open Go.ChangeShapes Go.WideShapes Go.ChangeAt Go.RowKit
set_option linter.unusedVariables false
def I6 (x : Int) : Prop := -9223372036854775808 ≤ x ∧ x ≤ 9223372036854775807
theorem jn_sum {a b : Int × Int × Int} (h : I6 a.1) (g : I6 b.1) : (jn a b).1 = wrap64 (a.1 + b.1) := by
  unfold I6 at h g
  unfold jn
  by_cases ha : a.1 = 0
  · rw [if_pos ha]
    by_cases hb : b.1 = 0
    · rw [if_pos hb, ha, hb]; unfold wrap64; simp
    · rw [if_neg hb, ha]; unfold wrap64; omega
  · rw [if_neg ha]
    by_cases hb : b.1 = 0
    · rw [if_pos hb, hb]; unfold wrap64; omega
    · rw [if_neg hb]
def loE (m a n b : Int) : Int := if m = 0 then (if n = 0 then 0 else b) else if n = 0 then a else xmn a b
def hiE (m a n b : Int) : Int := if m = 0 then (if n = 0 then 0 else b) else if n = 0 then a else xmx a b
theorem jn_lo (m a c n b d : Int) : (jn (m, a, c) (n, b, d)).2.1 = loE m a n b := by unfold jn loE; repeat' split
                                                                                     all_goals rfl
theorem jn_hi (m a c n b d : Int) : (jn (m, a, c) (n, b, d)).2.2 = hiE m c n d := by unfold jn hiE; repeat' split
                                                                                     all_goals rfl
set_option maxHeartbeats 2000000 in
theorem ljoin_any (a1 a2 a3 a4 a5 a6 a7 a8 a9 b1 b2 b3 b4 b5 b6 b7 b8 b9 j1 j2 j3 j4 j5 j6 j7 j8 j9 : Int) (W : World)
    (h1 : wrap64 (a1 + b1) = j1) (h3 : wrap64 (a3 + b3) = j3) (h5 : wrap64 (a5 + b5) = j5) (h2 : jn (a2, a6, a7) (b2, b6, b7) = (j2, j6, j7)) (h4 : jn (a4, a8, a9) (b4, b8, b9) = (j4, j8, j9)) :
    Calls Try.prog 49 #[.agg #[.int .i64 a1, .int .i64 a2, .int .i64 a3, .int .i64 a4, .int .i64 a5, .int .i64 a6, .int .i64 a7, .int .i64 a8, .int .i64 a9], .agg #[.int .i64 b1, .int .i64 b2, .int .i64 b3, .int .i64 b4, .int .i64 b5, .int .i64 b6, .int .i64 b7, .int .i64 b8, .int .i64 b9]] W fun e w' => e = .returned (.agg #[.int .i64 j1, .int .i64 j2, .int .i64 j3, .int .i64 j4, .int .i64 j5, .int .i64 j6, .int .i64 j7, .int .i64 j8, .int .i64 j9]) ∧ Below W.heap.size W w' := by
  have H2 : Hid (∀ w, _) := fun w => joined_any a2 a6 a7 b2 b6 b7 j2 j6 j7 w h2
  have H4 : Hid (∀ w, _) := fun w => joined_any a4 a8 a9 b4 b8 b9 j4 j8 j9 w h4
  clear h2 h4
  have s0 := (((St.start W).new (c := #[.int .i64 a1, .int .i64 a2, .int .i64 a3, .int .i64 a4, .int .i64 a5, .int .i64 a6, .int .i64 a7, .int .i64 a8, .int .i64 a9]) (t := 50)).new (c := #[.int .i64 b1, .int .i64 b2, .int .i64 b3, .int .i64 b4, .int .i64 b5, .int .i64 b6, .int .i64 b7, .int .i64 b8, .int .i64 b9]) (t := 50)).new (c := #[.int .i64 0, .int .i64 0, .int .i64 0, .int .i64 0, .int .i64 0, .int .i64 0, .int .i64 0, .int .i64 0, .int .i64 0]) (t := 50)
  simp only [World.size_alloc] at s0
  obtain ⟨c1, f1, z1, c2, f2, z2, c3, f3, z3, -⟩ := s0.rules
  go_enter Try.func49, Try.ntmps49
  go_wp2_with fail
  refine (H2.out _).mono ?_
  rintro e w1 ⟨rfl, hb⟩
  have s1 := (s0.call hb).new (c := #[.int .i64 j2, .int .i64 j6, .int .i64 j7]) (t := 137)
  clear hb s0 H2 c1 f1 z1 c2 f2 z2 c3 f3 z3
  obtain ⟨c1, f1, z1, c2, f2, z2, c3, f3, z3, c4, f4, z4, -⟩ := s1.rules
  go_wp2_with fail
  refine (H4.out _).mono ?_
  rintro e w2 ⟨rfl, hb⟩
  have s2 := (s1.call hb).new (c := #[.int .i64 j4, .int .i64 j8, .int .i64 j9]) (t := 137)
  clear hb s1 H4 c1 f1 z1 c2 f2 z2 c3 f3 z3 c4 f4 z4
  obtain ⟨c1, f1, z1, c2, f2, z2, c3, f3, z3, c4, f4, z4, c5, f5, z5, -⟩ := s2.rules
  have s3 := (s2.sub (l' := [(W.heap.size + 1 + 1, #[.int .i64 0, .int .i64 0, .int .i64 0, .int .i64 0, .int .i64 0, .int .i64 0, .int .i64 0, .int .i64 0, .int .i64 0], 50)]) (fun x hx => by simp only [List.mem_singleton] at hx; subst hx; simp)).set9 (.int .i64 j1) (.int .i64 j2) (.int .i64 j3) (.int .i64 j4) (.int .i64 j5) (.int .i64 j6) (.int .i64 j7) (.int .i64 j8) (.int .i64 j9) (fun x hx => by cases hx)
  have HS : Hid (Below W.heap.size W _) := s3.below
  obtain ⟨c6, -⟩ := s3.rules
  have HC : Hid (∀ i, _) := c6
  clear s2 s3 c6
  subst h1 h3 h5
  go_wp2
  exact bodyPost_ret (v := .agg #[.int .i64 (wrap64 (a1 + b1)), .int .i64 j2, .int .i64 (wrap64 (a3 + b3)), .int .i64 j4, .int .i64 (wrap64 (a5 + b5)), .int .i64 j6, .int .i64 j7, .int .i64 j8, .int .i64 j9]) (by have c6 := HC.out; simp [results, Try.results49, go_sem, c6]) rfl ⟨rfl, HS.out⟩
end Go.Proofs.Ytehofmkpgopmpaa

/- Certificates in plain numbers: their form, what their plans cost. -/
namespace Go.Proofs.Ytehofmkpgopmpaa
open Go.ChangeShapes Go.WideShapes Go.ChangeAt Go.RowKit
set_option linter.unusedVariables false
/-- A channel's plan: width, depth, the ends of its Part, of its Total. -/
abbrev Pl := Int × Int × Int × Int × Int × Int
def cvB (s : Int × Int) : Bool := decide (-128 ≤ s.1 ∧ s.1 ≤ s.2 ∧ s.2 ≤ 127)
def pvB (p : Pl) : Bool := decide (p.2.2.1 ≤ p.2.2.2.1 ∧ p.2.2.2.2.1 ≤ p.2.2.2.2.2)
/-- The fault of the spans from number i on. -/
def raE : List (Int × Int) → Nat → Int × Int × Int
  | [], _ => (0, 0, 0)
  | s :: r, i => if cvB s = true then raE r (i + 1) else (30, (i : Int), 0)
/-- .. of an op's plans, from number k on. -/
def plE (op : Int) : List Pl → Nat → Int × Int × Int
  | [], _ => (0, 0, 0)
  | p :: r, k => if pvB p = true then plE op r (k + 1) else (30, op, (k : Int) + 1)
def liE (n op : Int) (l : List Pl) : Int × Int × Int := if (l.length : Int) = n then plE op l 0 else (70, op, 0)
def psE (N : Nat → Int) : List (List Pl) → Nat → Int × Int × Int
  | [], _ => (0, 0, 0)
  | l :: r, i => if (liE (N i) ((i : Int) + 1) l).1 = 0 then psE N r (i + 1) else liE (N i) ((i : Int) + 1) l
/-- Form's fault. -/
def foE (e t : Int) (on : Nat) (N : Nat → Int) (R : List (Int × Int)) (P : List (List Pl)) : Int × Int × Int :=
  if e ≠ 0 then (e, t, 0) else if ¬ (R.length = on + 1 ∧ P.length = on) then (70, 0, 0) else if (raE R 0).1 ≠ 0 then raE R 0 else psE N P 0
/-! ### What plans cost -/
abbrev T4 := Int × Int × Int × Int
def bkV (n d : Int) : Int := 1 + (n - 1) / d
def deE (p : Pl) (n : Int) : Int := if p.1 = 16 then (if 1 ≤ p.2.1 ∧ p.2.1 ≤ n then 0 else 151) else if p.1 = 32 then (if p.2.1 = n then 0 else 151) else 150
def coS (p : Pl) (n : Int) : T4 := if p.1 = 16 then (n, n, 0, bkV n p.2.1) else (0, 0, n, n)
def adT (t s : T4) (q : Int) : T4 := (t.1 + s.1 * q, t.2.1 + s.2.1 * q, t.2.2.1 + s.2.2.1 * q, t.2.2.2 + s.2.2.2 * q)
def coL (op n q : Int) : List Pl → Nat → T4 → T4 × Int × Int × Int
  | [], _, t => (t, 0, 0, 0)
  | p :: r, k, t => if deE p n = 0 then coL op n q r (k + 1) (adT t (coS p n) q) else ((0, 0, 0, 0), deE p n, op, (k : Int) + 1)
def coP (N Q : Nat → Int) : List (List Pl) → Nat → T4 → T4 × Int × Int × Int
  | [], _, t => (t, 0, 0, 0)
  | l :: r, i, t => if (coL ((i : Int) + 1) (N i) (Q i) l 0 t).2.1 = 0 then coP N Q r (i + 1) (coL ((i : Int) + 1) (N i) (Q i) l 0 t).1 else coL ((i : Int) + 1) (N i) (Q i) l 0 t
/-- Cost's answer, of a certificate whose form's fault is f. -/
def csE (f : Int × Int × Int) (N Q : Nat → Int) (P : List (List Pl)) : T4 × Int × Int × Int := if f.1 ≠ 0 then ((0, 0, 0, 0), f) else coP N Q P 0 (0, 0, 0, 0)
/-! ### Bounds -/
/-- Each count lies between 0 and a bound. -/
def Tb (t : T4) (b : Int) : Prop := (0 ≤ t.1 ∧ t.1 ≤ b) ∧ (0 ≤ t.2.1 ∧ t.2.1 ≤ b) ∧ (0 ≤ t.2.2.1 ∧ t.2.2.1 ≤ b) ∧ (0 ≤ t.2.2.2 ∧ t.2.2.2 ≤ b)
end Go.Proofs.Ytehofmkpgopmpaa

/- Lists of flat structs, and of lists of them, in memory. -/
namespace Go.Proofs.Ytehofmkpgopmpaa
open Go.ChangeShapes Go.WideShapes Go.ChangeAt Go.RowKit
set_option linter.unusedVariables false
/-! ### Lists in memory -/
def scs (s : Int × Int) : List Value := [.int .i64 s.1, .int .i64 s.2]
def pcs (p : Pl) : List Value := [.int .i64 p.1, .int .i64 p.2.1, .int .i64 p.2.2.1, .int .i64 p.2.2.2.1, .int .i64 p.2.2.2.2.1, .int .i64 p.2.2.2.2.2]
/-- A slice of flat structs of nc cells. -/
def ERow {α : Type} (nc : Nat) (E : α → List Value) (w : World) (a : Option Addr) (len cap : Nat) (xs : List α) : Prop :=
  xs.length = len ∧ len ≤ cap ∧ cap ≤ maxLen ∧ (a = none → cap = 0) ∧ ∀ x, a = some x → ∀ i p, xs[i]? = some p → ∀ j v, (E p)[j]? = some v → w.cell? ((x.add (i * nc)).add j) = some v
theorem ERow.below {α : Type} {nc : Nat} {E : α → List Value} {w w' : World} {a : Option Addr} {len cap : Nat} {xs : List α} (h : ERow nc E w a len cap xs) (g : Below w.heap.size w w') : ERow nc E w' a len cap xs :=
  ⟨h.1, h.2.1, h.2.2.1, h.2.2.2.1, fun x hx i p hp j v hv => (g.cell (World.block_lt_of_cell? w _ (h.2.2.2.2 x hx i p hp j v hv))).trans (h.2.2.2.2 x hx i p hp j v hv)⟩
theorem ERow.at {α : Type} {nc : Nat} {E : α → List Value} {w : World} {a : Option Addr} {len cap : Nat} {xs : List α} (h : ERow nc E w a len cap xs) {i : Nat} (hi : i < len) :
    ∃ x p, a = some x ∧ xs[i]? = some p ∧ xs.drop i = p :: xs.drop (i + 1) ∧ ∀ j v, (E p)[j]? = some v → w.cell? ((x.add (i * nc)).add j) = some v := by
  obtain ⟨h1, h2, h3, h4, h5⟩ := h
  have hi' : i < xs.length := by omega
  cases a with
  | none => have := h4 rfl; omega
  | some x => exact ⟨x, xs[i], rfl, List.getElem?_eq_getElem hi', List.drop_eq_getElem_cons hi', h5 x rfl i _ (List.getElem?_eq_getElem hi')⟩
theorem erow_nil {α : Type} (nc : Nat) (E : α → List Value) (w : World) : ERow nc E w none 0 0 ([] : List α) := ⟨rfl, Nat.le_refl _, by unfold maxLen; omega, fun _ => rfl, fun x h => by cases h⟩
/-- A certificate's plans. -/
def QRow (w : World) (a : Option Addr) (len cap : Nat) (P : List (List Pl)) : Prop :=
  P.length = len ∧ len ≤ cap ∧ cap ≤ maxLen ∧ (a = none → cap = 0) ∧ ∀ x, a = some x → ∀ i l, P[i]? = some l → ∃ ca cc, w.cell? (x.add i) = some (.slice ca l.length cc) ∧ ERow 6 pcs w ca l.length cc l ∧ l.length * 48 ≤ 140737488351232
theorem QRow.at {w : World} {a : Option Addr} {len cap : Nat} {P : List (List Pl)} (h : QRow w a len cap P) {i : Nat} (hi : i < len) :
    ∃ x l ca cc, a = some x ∧ P[i]? = some l ∧ P.drop i = l :: P.drop (i + 1) ∧ w.cell? (x.add i) = some (.slice ca l.length cc) ∧ ERow 6 pcs w ca l.length cc l ∧ l.length * 48 ≤ 140737488351232 := by
  obtain ⟨h1, h2, h3, h4, h5⟩ := h
  have hi' : i < P.length := by omega
  cases a with
  | none => have := h4 rfl; omega
  | some x =>
    obtain ⟨ca, cc, g⟩ := h5 x rfl i _ (List.getElem?_eq_getElem hi')
    exact ⟨x, P[i], ca, cc, rfl, List.getElem?_eq_getElem hi', List.drop_eq_getElem_cons hi', g⟩
end Go.Proofs.Ytehofmkpgopmpaa

/- Plain numbers of layer 21: Tracks joined, sums in registers and what their Tracks come to; what an op makes of them; the first fault. -/
namespace Go.Proofs.Ytehofmkpgopmpaa.Kr
open Go.ChangeShapes Go.WideShapes Go.ChangeAt Go.RowKit
set_option linter.unusedVariables false
/-! ### Tracks -/
structure Tr where
  m : Int
  a : Int
  m2 : Int
  a2 : Int
  w : Int
  l : Int
  h : Int
  l2 : Int
  h2 : Int
def Tr.cs (t : Tr) : Array Value := #[.int .i64 t.m, .int .i64 t.a, .int .i64 t.m2, .int .i64 t.a2, .int .i64 t.w, .int .i64 t.l, .int .i64 t.h, .int .i64 t.l2, .int .i64 t.h2]
def Tr.z : Tr := ⟨0, 0, 0, 0, 0, 0, 0, 0, 0⟩
def Tr.of (s l : Ty) : Tr := ⟨s.m, s.a, l.m, l.a, s.w + l.w, s.l, s.h, l.l, l.h⟩
def Tr.jn (s t : Tr) : Tr := ⟨s.m + t.m, s.a + t.a, s.m2 + t.m2, s.a2 + t.a2, s.w + t.w, loE s.a s.l t.a t.l, hiE s.a s.h t.a t.h, loE s.a2 s.l2 t.a2 t.l2, hiE s.a2 s.h2 t.a2 t.h2⟩
/-- Counts are small. -/
def Tr.ok (n : Int) (t : Tr) : Prop := (0 ≤ t.m ∧ t.m ≤ n) ∧ (0 ≤ t.a ∧ t.a ≤ n) ∧ (0 ≤ t.m2 ∧ t.m2 ≤ n) ∧ (0 ≤ t.a2 ∧ t.a2 ≤ n) ∧ (0 ≤ t.w ∧ t.w ≤ 4 * n)
theorem Tr.ok_z : Tr.z.ok 0 := by unfold Tr.ok Tr.z; simp only; omega
theorem Tr.ok.jn {n k : Int} {s t : Tr} (h : s.ok n) (g : t.ok k) : (s.jn t).ok (n + k) := by
  unfold Tr.ok at h g ⊢
  unfold Tr.jn
  simp only
  omega
theorem Tr.ok.mono {n k : Int} {t : Tr} (h : t.ok n) (g : n ≤ k) : t.ok k := by unfold Tr.ok at h ⊢; omega
theorem Tr.ok_of {n : Int} {s l : Ty} (h : s.ok n) (g : l.ok n) : (Tr.of s l).ok n := by
  unfold Ty.ok at h g
  unfold Tr.ok Tr.of
  simp only
  omega
theorem w64_in {x : Int} (h : -9223372036854775808 ≤ x ∧ x ≤ 9223372036854775807) : wrap64 x = x := by unfold wrap64; omega
def TB : Int := 1000000000000
theorem jn3 {a l h b l' h' : Int} (ha : 0 ≤ a ∧ a ≤ TB) (hb : 0 ≤ b ∧ b ≤ TB) : jn (a, l, h) (b, l', h') = (a + b, loE a l b l', hiE a h b h') := by
  unfold TB at ha hb
  have h1 := jn_sum (a := (a, l, h)) (b := (b, l', h')) (by unfold I6; simp only; omega) (by unfold I6; simp only; omega)
  simp only at h1
  rw [w64_in (by omega)] at h1
  exact Prod.ext h1 (Prod.ext (jn_lo _ _ _ _ _ _) (jn_hi _ _ _ _ _ _))
theorem ljoin_tr (s t : Tr) (W : World) (hs : s.ok TB) (ht : t.ok TB) :
    Calls Try.prog 49 #[.agg s.cs, .agg t.cs] W fun e w' => e = .returned (.agg (s.jn t).cs) ∧ Below W.heap.size W w' := by
  obtain ⟨a1, a2, a3, a4, a5⟩ := hs
  obtain ⟨b1, b2, b3, b4, b5⟩ := ht
  have h2 := jn3 (l := s.l) (h := s.h) (l' := t.l) (h' := t.h) a2 b2
  have h4 := jn3 (l := s.l2) (h := s.h2) (l' := t.l2) (h' := t.h2) a4 b4
  unfold TB at *
  exact ljoin_any s.m s.a s.m2 s.a2 s.w s.l s.h s.l2 s.h2 t.m t.a t.m2 t.a2 t.w t.l t.h t.l2 t.h2 _ _ _ _ _ _ _ _ _ W (w64_in (by omega)) (w64_in (by omega)) (w64_in (by omega)) h2 h4
/-! ### Sums in registers -/
def nmT (p : Int) (x : List Int) (t : Int × Int) : Int := if t.2 < 0 then p else x.getD t.2.toNat 0
theorem pz_sm (p : Int) (x : List Int) : ∀ l : List (Int × Int), pz (l.map Prod.fst) (l.map (nmT p x)) = l.map (smT p x)
  | [] => rfl
  | t :: l => by
    have := pz_sm p x l
    unfold pz at this ⊢
    simp only [List.map_cons, List.zipWith_cons_cons, this]
    rfl
theorem nmT_i8 {p : Int} {x : List Int} (hp : I8 p) (hx : ∀ v ∈ x, I8 v) (t : Int × Int) : I8 (nmT p x t) := by
  unfold nmT
  split
  · exact hp
  · exact getD_i8 hx _
/-- A channel's plan. -/
def pcA (P : List Pl) (ch : Int) : Pl := P.getD (ch - 1).toNat (0, 0, 0, 0, 0, 0)
/-- What the registers come to at a channel and a position. -/
def dsF (k kh kw sh sw tp lf bt rt h w c C p : Int) (zs bs x : List Int) (P : List Pl) (ch at' : Int) : Ty × Ty × Int := dtR (pcA P ch).1 (pcA P ch).2.1 (biA k ch bs) ((siL k kh kw sh sw tp lf bt rt h w c ch at' zs).map (smT p x))
def dsL (k kh kw sh sw tp lf bt rt h w c C p : Int) (zs bs x : List Int) (P : List Pl) (n : Nat) : List Int := (List.range n).map fun (j : Nat) => (dsF k kh kw sh sw tp lf bt rt h w c C p zs bs x P ((j : Int) % C + 1) ((j : Int) / C)).2.2
def dsT (k kh kw sh sw tp lf bt rt h w c C p : Int) (zs bs x : List Int) (P : List Pl) : Nat → Tr
  | 0 => Tr.z
  | n + 1 => (dsT k kh kw sh sw tp lf bt rt h w c C p zs bs x P n).jn (Tr.of (dsF k kh kw sh sw tp lf bt rt h w c C p zs bs x P ((n : Int) % C + 1) ((n : Int) / C)).1 (dsF k kh kw sh sw tp lf bt rt h w c C p zs bs x P ((n : Int) % C + 1) ((n : Int) / C)).2.1)
theorem dsL_len (k kh kw sh sw tp lf bt rt h w c C p : Int) (zs bs x : List Int) (P : List Pl) (n : Nat) : (dsL k kh kw sh sw tp lf bt rt h w c C p zs bs x P n).length = n := by simp [dsL]
theorem dsL_succ (k kh kw sh sw tp lf bt rt h w c C p : Int) (zs bs x : List Int) (P : List Pl) (n : Nat) : dsL k kh kw sh sw tp lf bt rt h w c C p zs bs x P (n + 1) = dsL k kh kw sh sw tp lf bt rt h w c C p zs bs x P n ++ [(dsF k kh kw sh sw tp lf bt rt h w c C p zs bs x P ((n : Int) % C + 1) ((n : Int) / C)).2.2] := by simp [dsL, List.range_succ]
theorem dsT_succ (k kh kw sh sw tp lf bt rt h w c C p : Int) (zs bs x : List Int) (P : List Pl) (n : Nat) : dsT k kh kw sh sw tp lf bt rt h w c C p zs bs x P (n + 1) = (dsT k kh kw sh sw tp lf bt rt h w c C p zs bs x P n).jn (Tr.of (dsF k kh kw sh sw tp lf bt rt h w c C p zs bs x P ((n : Int) % C + 1) ((n : Int) / C)).1 (dsF k kh kw sh sw tp lf bt rt h w c C p zs bs x P ((n : Int) % C + 1) ((n : Int) / C)).2.1) := rfl
/-- The plans that Op takes, of C channels with sums of N terms. -/
def Pok (N C : Int) (P : List Pl) : Prop := (P.length : Int) = C ∧ ∀ i : Nat, i < P.length → deE (P.getD i (0, 0, 0, 0, 0, 0)) N = 0
theorem rfE_of {p : Pl} {N : Nat} (hN : 1 ≤ N) (h : deE p N = 0) : rfE N N p.1 p.2.1 = 0 := by
  unfold deE at h
  unfold rfE
  rw [if_neg (by omega)]
  split at h
  · rename_i q
    rw [if_neg (by omega)]
    split at h
    · rw [if_neg (by omega)]
    · cases h
  · split at h
    · rename_i q
      rw [if_neg (by omega)]
      split at h
      · rw [if_neg (by omega)]
      · cases h
    · cases h
theorem dtR_ok {n : Nat} {wd dp bi : Int} (ps : List Int) (hb : -2147483648 ≤ bi ∧ bi ≤ 2147483647) : ((dtR wd dp bi ps).1.ok ps.length ∧ (dtR wd dp bi ps).2.1.ok ps.length) ∧ (-2147483648 ≤ (dtR wd dp bi ps).2.2 ∧ (dtR wd dp bi ps).2.2 ≤ 2147483647) := by
  unfold dtR
  split
  · have h1 := gaT_ok (N := 2147483648) (by omega) ps Ty.z bi 0 Ty.ok_z (by omega)
    simp only
    exact ⟨⟨Ty.ok_z.mono (by omega), h1.1.mono (by omega)⟩, by omega⟩
  · have := elT_ok (d := dp.toNat) ps 0 Ty.z Ty.z bi 0 0 Ty.ok_z Ty.ok_z hb
    exact ⟨⟨this.1.mono (by omega), this.2.1.mono (by omega)⟩, this.2.2⟩
theorem dsF_ok {k kh kw sh sw tp lf bt rt h w c H V C p : Int} {lw lb : Nat} (s : Sit k kh kw sh sw tp lf bt rt h w c H V C lw lb) {zs bs x : List Int} {P : List Pl} (hz : ∀ v ∈ zs, (Lit.int .i16 v).wf = true) (hb : ∀ v ∈ bs, (Lit.int .i32 v).wf = true) {ch : Int} (hch : 1 ≤ ch ∧ ch ≤ C) (at' : Int) :
    ((dsF k kh kw sh sw tp lf bt rt h w c C p zs bs x P ch at').1.ok 512 ∧ (dsF k kh kw sh sw tp lf bt rt h w c C p zs bs x P ch at').2.1.ok 512) ∧ (-2147483648 ≤ (dsF k kh kw sh sw tp lf bt rt h w c C p zs bs x P ch at').2.2 ∧ (dsF k kh kw sh sw tp lf bt rt h w c C p zs bs x P ch at').2.2 ≤ 2147483647) := by
  obtain ⟨h1, -⟩ := siL_facts s hz hch at'
  have h2 := dtR_ok (n := 0) (wd := (pcA P ch).1) (dp := (pcA P ch).2.1) (bi := biA k ch bs) ((siL k kh kw sh sw tp lf bt rt h w c ch at' zs).map (smT p x)) (biA_bd hb)
  rw [List.length_map] at h2
  exact ⟨⟨h2.1.1.mono (by omega), h2.1.2.mono (by omega)⟩, h2.2⟩
theorem dsT_ok {k kh kw sh sw tp lf bt rt h w c H V C p : Int} {lw lb : Nat} (s : Sit k kh kw sh sw tp lf bt rt h w c H V C lw lb) {zs bs x : List Int} {P : List Pl} (hz : ∀ v ∈ zs, (Lit.int .i16 v).wf = true) (hb : ∀ v ∈ bs, (Lit.int .i32 v).wf = true) :
    ∀ n : Nat, (dsT k kh kw sh sw tp lf bt rt h w c C p zs bs x P n).ok (512 * n)
  | 0 => Tr.ok_z.mono (by omega)
  | n + 1 => by
    have hC := (vS_yes s.2.2.1).2.2.1
    have e1 := Int.emod_nonneg (n : Int) (show C ≠ 0 by omega)
    have e2 := Int.emod_lt_of_pos (n : Int) (show 0 < C by omega)
    have h1 := dsF_ok (p := p) (x := x) (P := P) s hz hb (ch := (n : Int) % C + 1) ⟨by omega, by omega⟩ ((n : Int) / C)
    exact ((dsT_ok s hz hb n).jn (Tr.ok_of h1.1.1 h1.1.2)).mono (by omega)
theorem dsL_bd {k kh kw sh sw tp lf bt rt h w c H V C p : Int} {lw lb : Nat} (s : Sit k kh kw sh sw tp lf bt rt h w c H V C lw lb) {zs bs x : List Int} {P : List Pl} (hz : ∀ v ∈ zs, (Lit.int .i16 v).wf = true) (hb : ∀ v ∈ bs, (Lit.int .i32 v).wf = true) (n : Nat) :
    ∀ v ∈ dsL k kh kw sh sw tp lf bt rt h w c C p zs bs x P n, -2147483648 ≤ v ∧ v ≤ 2147483647 := fun v hv => by
  have hC := (vS_yes s.2.2.1).2.2.1
  obtain ⟨j, -, rfl⟩ := List.mem_map.1 hv
  have e1 := Int.emod_nonneg (j : Int) (show C ≠ 0 by omega)
  have e2 := Int.emod_lt_of_pos (j : Int) (show 0 < C by omega)
  exact (dsF_ok s hz hb ⟨by omega, by omega⟩ _).2
/-! ### What an op makes of sums -/
def vaK (k kh kw sh sw sm ss um us w c V C len : Int) (n : Nat) (SS x y : List Int) : List Int :=
  if k ≤ 3 then apL SS sm ss
  else if k = 4 then meL SS len
  else if k = 5 then grL kh kw sh sw w c V C x n
  else if k = 6 then adL (apL x sm ss) (apL y um us)
  else if k = 7 then apL x sm ss
  else x
/-! ### The first fault of the plans -/
def pfE (op n : Int) : List Pl → Nat → Int × Int × Int
  | [], _ => (0, 0, 0)
  | p :: l, i => if deE p n ≠ 0 then (deE p n, op, (i : Int) + 1) else pfE op n l (i + 1)
theorem pfE_0 {op n : Int} : ∀ (l : List Pl) (i : Nat), (pfE op n l i).1 = 0 → pfE op n l i = (0, 0, 0) ∧ ∀ j, j < l.length → deE (l.getD j (0, 0, 0, 0, 0, 0)) n = 0
  | [], _, _ => ⟨rfl, fun j hj => by simp at hj⟩
  | p :: l, i, h => by
    unfold pfE at h ⊢
    by_cases q : deE p n ≠ 0
    · rw [if_pos q] at h; exact absurd h q
    · rw [if_neg q] at h ⊢
      obtain ⟨g1, g2⟩ := pfE_0 l (i + 1) h
      refine ⟨g1, fun j hj => ?_⟩
      cases j with
      | zero => exact Decidable.not_not.1 q
      | succ j => simpa [List.getD] using g2 j (by simpa using hj)
/-- The lists' lengths, then the plans. -/
def lnE (k h w c C len op : Int) (n pl nb : Nat) (PS : List Pl) : Int × Int × Int :=
  if (n : Int) ≠ h * w * c ∨ (pl : Int) ≠ (if k ≤ 4 then C else 0) ∨ (k = 6 ∧ (nb : Int) ≠ h * w * c) then (70, op, 0) else pfE op len PS 0
end Go.Proofs.Ytehofmkpgopmpaa.Kr

/- What Length, Channels and Positions of package terms return. -/
namespace Go.Proofs.Ytehofmkpgopmpaa
open Go.ChangeShapes Go.WideShapes Go.ChangeAt Go.RowKit
set_option linter.unusedVariables false
set_option maxRecDepth 100000 in
set_option maxHeartbeats 2000000 in
theorem lenT_ok (h w c lo hi ot : Int) (oa : Option Addr) (on oc : Nat) (O : Nat → Nat → Int) (Z B : Nat → List Int) (W : World) (hL : LRow W oa on oc O Z B) (RL : List (Int × Int × Int)) (Rw : Int) (hR : gtR O h w c lo hi ot on = (0, 0, RL, Rw)) (i : Nat) (x : Addr) (wa : Option Addr) (lw cw : Nat) (ba : Option Addr) (lb cb : Nat) (x0 y0 z0 H V C : Int) (hF : Fnd W oa on O Z B RL i x wa lw cw ba lb cb x0 y0 z0 H V C) :
    Calls Try.prog 25 #[.agg #[.int .i64 h, .int .i64 w, .int .i64 c, .int .i64 lo, .int .i64 hi, .slice oa on oc, .int .i64 ot], .int .i64 ((i : Int) + 1)] W fun e w' => e = .returned (.tuple #[.int .i64 (stR (O i 0) (O i 4) (O i 5) x0 y0 z0), .int .i64 0]) ∧ Below W.heap.size W w' := by
  have s0 := (St.start W).new (c := #[.int .i64 h, .int .i64 w, .int .i64 c, .int .i64 lo, .int .i64 hi, .slice oa on oc, .int .i64 ot]) (t := 26)
  have hSit : Hid (Sit (O i 0) (O i 4) (O i 5) (O i 6) (O i 7) (O i 8) (O i 9) (O i 10) (O i 11) x0 y0 z0 H V C lw lb) := hF.2.2.2.2.2.2.2.2.2.1
  have hK : Hid (∀ W', Below W.heap.size W W' → _) := fun W' hb => find_ok h w c lo hi ot oa on oc O Z B W' (hL.below hb) RL Rw hR i x wa lw cw ba lb cb x0 y0 z0 H V C (hF.below hb)
  clear hF hR hL
  go_enter Try.func25, Try.ntmps25
  go_wp2_with fail
  refine (hK.out _ s0.below).mono ?_
  rintro e w1 ⟨rfl, hb⟩
  have s1 := (s0.call hb).new (c := #[.int .i64 (O i 0), .int .i64 (O i 1), .int .i64 (O i 2), .int .i64 (O i 3), .int .i64 (O i 4), .int .i64 (O i 5), .int .i64 (O i 6), .int .i64 (O i 7), .int .i64 (O i 8), .int .i64 (O i 9), .int .i64 (O i 10), .int .i64 (O i 11), .slice wa lw cw, .slice ba lb cb, .int .i64 (O i 14), .int .i64 (O i 15), .int .i64 (O i 16), .int .i64 (O i 17), .int .i64 (O i 18), .int .i64 (O i 19), .int .i64 (O i 20), .int .i64 (O i 21), .int .i64 x0, .int .i64 y0, .int .i64 z0, .int .i64 H, .int .i64 V, .int .i64 C]) (t := 106)
  clear hb
  go_wp2_with (refine wpList_st_new rfl 106 (.tmp 6) (.tmp 12) rfl w1 _ #[.int .i64 (O i 0), .int .i64 (O i 1), .int .i64 (O i 2), .int .i64 (O i 3), .int .i64 (O i 4), .int .i64 (O i 5), .int .i64 (O i 6), .int .i64 (O i 7), .int .i64 (O i 8), .int .i64 (O i 9), .int .i64 (O i 10), .int .i64 (O i 11), .slice wa lw cw, .slice ba lb cb, .int .i64 (O i 14), .int .i64 (O i 15), .int .i64 (O i 16), .int .i64 (O i 17), .int .i64 (O i 18), .int .i64 (O i 19), .int .i64 (O i 20), .int .i64 (O i 21), .int .i64 x0, .int .i64 y0, .int .i64 z0, .int .i64 H, .int .i64 V, .int .i64 C] rfl rfl (by kernel_rfl) rfl (by simp [Value.oneCell']) ?_)
  refine (tlen_any (O i 0) (O i 1) (O i 2) (O i 3) (O i 4) (O i 5) (O i 6) (O i 7) (O i 8) (O i 9) (O i 10) (O i 11) wa lw cw ba lb cb (O i 14) (O i 15) (O i 16) (O i 17) (O i 18) (O i 19) (O i 20) (O i 21) x0 y0 z0 H V C _ _ (heap_alloc_new w1 _) hSit.out).mono ?_
  rintro e w2 ⟨rfl, hw2⟩
  have hb2 : Hid (Below W.heap.size W w2) := by first | (obtain ⟨n, rfl⟩ := hw2; exact bt s1.below (dbel _ n)) | (subst hw2; exact s1.below)
  clear hw2
  go_wp2
  go_ret2
  exact ⟨rfl, hb2.out⟩
end Go.Proofs.Ytehofmkpgopmpaa

/- What greatestUnder and greatest of package plain return. -/
namespace Go.Proofs.Ytehofmkpgopmpaa
open Go.ChangeShapes Go.WideShapes Go.ChangeAt Go.RowKit
set_option linter.unusedVariables false
theorem grA_at {w c kw : Int} {xs : List Int} {t u d : Int} {i j : Nat} (hj : (j : Int) < kw) {q N : Nat} (hq : (q : Int) = i * kw + j) (hN : ((t + i) * w + (u + j)) * c + d = (N : Int)) : grA w c kw xs t u d q = xs.getD N 0 := by
  unfold grA
  obtain ⟨e1, e2⟩ := divmod_at (q := i) hj
  rw [hq, e1, e2, hN, Int.toNat_natCast]
theorem w64 {x : Int} (h : -9223372036854775808 ≤ x ∧ x ≤ 9223372036854775807) : IntKind.i64.wrap x = x := by rw [IntKind.wrap_i64]; omega
set_option maxHeartbeats 4000000 in
theorem gunder_any (k a b m kh kw sh sw tp lf bt rt : Int) (wa : Option Addr) (lw wc : Nat) (ba : Option Addr) (lb bc : Nat) (sm ss um us z p lo hi h w c H V C : Int) (r : Nat) (W : World) (hr : W.heap[r]? = some (.cells #[.int .i64 k, .int .i64 a, .int .i64 b, .int .i64 m, .int .i64 kh, .int .i64 kw, .int .i64 sh, .int .i64 sw, .int .i64 tp, .int .i64 lf, .int .i64 bt, .int .i64 rt, .slice wa lw wc, .slice ba lb bc, .int .i64 sm, .int .i64 ss, .int .i64 um, .int .i64 us, .int .i64 z, .int .i64 p, .int .i64 lo, .int .i64 hi, .int .i64 h, .int .i64 w, .int .i64 c, .int .i64 H, .int .i64 V, .int .i64 C] 73 (0, 0))) (ad : Option Addr) (n cap : Nat) (xs : List Int) (hX : IRow .i8 W ad n cap xs) (hn : (n : Int) = h * w * c) (hA : vS h w c = true) (hkh : 1 ≤ kh ∧ kh ≤ 32) (hkw : 1 ≤ kw ∧ kw ≤ 32) (t u d : Int) (ht : 0 ≤ t ∧ t + kh ≤ h) (hu : 0 ≤ u ∧ u + kw ≤ w) (hd : 0 ≤ d ∧ d < c) :
    Calls Try.prog 61 #[.pointer (some ⟨r, 0, none⟩), .slice ad n cap, .int .i64 t, .int .i64 u, .int .i64 d] W fun e w' => e = .returned (.int .i64 (grM w c kw xs t u d (kh * kw).toNat)) ∧ ∃ q, w' = W.drewN q := by
  obtain ⟨c1, f1, z1⟩ := cells_at hr
  obtain ⟨hh, hw, hc, -⟩ := vS_yes hA
  have p3 := vS_bd hA
  obtain ⟨KH, rfl⟩ : ∃ KH : Nat, kh = (KH : Int) := ⟨kh.toNat, by omega⟩
  obtain ⟨KW, rfl⟩ : ∃ KW : Nat, kw = (KW : Int) := ⟨kw.toNat, by omega⟩
  have HX : Hid (IRow .i8 W ad n cap xs) := hX
  have HK : Hid (((KH : Int) * (KW : Int)).toNat = KH * KW) := by unfold Hid; rw [← Int.natCast_mul, Int.toNat_natCast]
  have HN : Hid ((n : Int) = h * w * c) := hn
  have hcap := hX.2.1
  have hcm := hX.2.2.1
  unfold maxLen at hcm
  clear hr hA hX hn
  go_enter Try.func61, Try.ntmps61
  go_wp2
  go_loopw [11, 12] (fun g y wr => ∃ i q : Nat, i ≤ KH ∧ y = .int .i64 (t + i) ∧ g = .int .i64 (grM w c KW xs t u d (i * KW)) ∧ wr = W.drewN q) (fun _ y _ => (t + KH - intOf y).toNat)
  case atStart => exact ⟨0, 0, Nat.zero_le _, by simp, by simp [grM], rfl⟩
  case round =>
    obtain ⟨i, q, hi, rfl, rfl, rfl⟩ := hrel
    by_cases hlt : i < KH
    · obtain ⟨Y, hY⟩ : ∃ Y, t + (i : Int) = Y := ⟨_, rfl⟩
      rw [hY]
      have hY1 : 0 ≤ Y ∧ Y < h ∧ Y < t + KH := by omega
      have HY : Hid (t + (i : Int) = Y) := hY
      clear hY
      go_wp2
      go_loopw [11, 13] (fun g x wr => ∃ j q : Nat, j ≤ KW ∧ x = .int .i64 (u + j) ∧ g = .int .i64 (grM w c KW xs t u d (i * KW + j)) ∧ wr = W.drewN q) (fun _ x _ => (u + KW - intOf x).toNat)
      case atStart => exact ⟨0, q, Nat.zero_le _, by simp, rfl, rfl⟩
      case round =>
        obtain ⟨j, q', hj, rfl, rfl, rfl⟩ := hrel
        by_cases hlt2 : j < KW
        · obtain ⟨X, hX⟩ : ∃ X, u + (j : Int) = X := ⟨_, rfl⟩
          have hX1 : 0 ≤ X ∧ X < w ∧ X < u + KW := by omega
          obtain ⟨r1, r2⟩ := rowbd hY1.2.1 hY1.1 hX1.1 hX1.2.1
          obtain ⟨P1, hP1⟩ : ∃ P1, Y * w = P1 := ⟨_, rfl⟩
          rw [hP1] at r1 r2
          obtain ⟨r3, r4⟩ := rowbd (w := c) r2 (by omega) hd.1 hd.2
          obtain ⟨P2, hP2⟩ : ∃ P2, (P1 + X) * c = P2 := ⟨_, rfl⟩
          rw [hP2] at r3 r4
          obtain ⟨N, hN⟩ : ∃ N : Nat, P2 + d = (N : Int) := ⟨(P2 + d).toNat, by omega⟩
          have hNn : N < n := by have := HN.out; omega
          obtain ⟨x, v, rfl, hv, hw8, hz, -⟩ := HX.out.at hNn
          obtain ⟨v1, v2⟩ := wf_i8 hw8
          have hE : grA w c KW xs t u d (i * KW + j) = v := by
            rw [grA_at (i := i) (j := j) (by omega) (by rw [Int.natCast_add, Int.natCast_mul]) (by rw [HY.out, hX, hP1, hP2, hN]), List.getD_eq_getElem?_getD, hz]; rfl
          have HS : Hid (grM w c KW xs t u d (i * KW + (j + 1)) = mxI (grM w c KW xs t u d (i * KW + j)) v) := by
            unfold Hid
            rw [← Nat.add_assoc, grM, hE]
          have hG := grM_i8 (w := w) (c := c) (kw := KW) HX.out.i8 t u d (i * KW + j)
          obtain ⟨G, hGe⟩ : ∃ G, grM w c KW xs t u d (i * KW + j) = G := ⟨_, rfl⟩
          rw [hGe] at HS hG ⊢
          obtain ⟨g1, g2⟩ := hG
          rw [hX]
          have HXx : Hid (u + (j : Int) = X) := hX
          have hcc : ∀ i, (W.drewN q').cell? ⟨r, i, none⟩ = _ := c1
          have hP1' : P1 ≤ 1048576 := by omega
          have hw1 : IntKind.i64.wrap P1 = P1 := w64 (by omega)
          have hw2 : IntKind.i64.wrap (P1 + X) = P1 + X := w64 (by omega)
          have hw3 : IntKind.i64.wrap P2 = P2 := w64 (by omega)
          have hw4 : IntKind.i64.wrap (N : Int) = N := w64 (by omega)
          clear hE hGe hX hz hw8
          by_cases hlg : G < v
          · have HM : Hid (mxI G v = v) := if_pos hlg
            have hng : ¬ v < G := by omega
            go_wp2
            go_quiet (fail)
            go_wp2
            go_roundw
            case rel => exact ⟨j + 1, _, by omega, by rw [← HXx.out]; go_num, by rw [HS.out, HM.out], rfl⟩
            case measure => simp [intOf]; omega
          · have HM : Hid (mxI G v = G) := if_neg hlg
            go_wp2
            go_quiet (fail)
            go_wp2
            go_roundw
            case rel => exact ⟨j + 1, _, by omega, by rw [← HXx.out]; go_num, by rw [HS.out, HM.out], rfl⟩
            case measure => simp [intOf]; omega
        · obtain rfl : j = KW := by omega
          have hcc : ∀ i, (W.drewN q').cell? ⟨r, i, none⟩ = _ := c1
          go_wp2
          go_roundw
          case rel => exact ⟨i + 1, q', by omega, by rw [← HY.out]; go_num, by rw [Nat.add_mul, Nat.one_mul], rfl⟩
          case measure => simp [intOf]; omega
    · obtain rfl : i = KH := by omega
      have hcc : ∀ i, (W.drewN q).cell? ⟨r, i, none⟩ = _ := c1
      have HE : Hid (grM w c KW xs t u d (i * KW) = grM w c KW xs t u d ((i : Int) * (KW : Int)).toNat) := by unfold Hid; rw [HK.out]
      go_wp2
      go_ret
      exact ⟨ret1 HE.out, q, rfl⟩
end Go.Proofs.Ytehofmkpgopmpaa

/- What greatest of package plain returns; lists that grow. -/
namespace Go.Proofs.Ytehofmkpgopmpaa
open Go.ChangeShapes Go.WideShapes Go.ChangeAt Go.RowKit
set_option linter.unusedVariables false
/-! ### Lists that grow -/
/-- 'make' of none, with room. -/
theorem wpList_mk0 {k : IntKind} {T S : TypeId} {by8 : Nat} (kt : KT k T S by8) {w : World} {ops : Array Oper} {rest : List Oper} {o : Oper} {a : Act} {Q : Exit → Act → World → Prop} (hg : o.guard = none) (l c : Operand) (hop : o.op = Op.makeSlice S l c)
    (m : Nat) (M : Int) (hl : a.eval l = .int .i64 0) (hc : a.eval c = .int .i64 M) (hM : M = (m : Int)) (hm : m ≤ 10000000) (base : Nat) (hb : base ≤ w.heap.size)
    (hK : ∀ v w', Own k T w' base v [] → Below w.heap.size w w' → wpList Try.prog ops Q rest (a.put o.dst v) w') : wpList Try.prog ops Q (o :: rest) a w := by
  obtain ⟨hu, hin, b1, b8⟩ := kt
  obtain ⟨i0, hi, hz0, hz1, hz2⟩ := info_parts hin
  subst hM
  have hby : by8 * m ≤ 8 * m := Nat.mul_le_mul_right _ b8
  have hby' : (by8 : Int) * (m : Int) ≤ 281474976710656 := by
    have : ((by8 * m : Nat) : Int) ≤ 281474976710656 := by omega
    rwa [Int.natCast_mul] at this
  refine wpList_plain hg fun K hK' => ?_
  have hr := run_make (P := Try.prog) w S T i0 (.int k 0) hu hi hz0 .i64 .i64 ((0 : Nat) : Int) m (by omega) (by omega) (by rw [hz2]; exact hby') (by omega)
  simp only [Int.toNat_natCast, hz1] at hr
  unfold Oper.wp
  simp only [execOp, hop, hl, hc]
  simp [Result.andThen]
  have hr' := hr
  simp only [Int.natCast_zero] at hr'
  rw [hr']
  refine hK' _ _ (hK _ _ ⟨⟨by simp, .inr ⟨w.heap.size, m, _, rfl, hb, heap_alloc_new w _, Nat.zero_le _, by unfold maxLen; omega, by rw [size_madeCells], by simp⟩⟩, Wf.nil k⟩ (bal _ _))
/-- 'append' of numbers, in a region that draws its order. -/
theorem step_ap {k : IntKind} {T S : TypeId} {by8 : Nat} (kt : KT k T S by8) {w : World} {ops : Array Oper} {o : Oper} {a : Act} {K : Act → World → Prop} {Q : Exit → Act → World → Prop} {E : Prop} (hgd : o.guard = none) (s x : Operand)
    (ho : o.op = .call { callee := .builtin .append, args := #[s, x], argTypes := #[S, S] })
    (base : Nat) (v : Value) (xs ys : List Int) (hs : a.eval s = v) (hown : Own k T w base v xs) (ad : Addr) (m c : Nat) (hx : a.eval x = .slice (some ad) m c) (hy : IRow k w (some ad) m c ys)
    (hlen : xs.length + ys.length ≤ 10000000) (hbase : base ≤ w.heap.size)
    (hK : ∀ v' w', Own k T w' base v' (xs ++ ys) → w.grownBy w' v.ownBlock → K (a.put o.dst v') w') : if Region.wanted o (yielded ops a.tmps) = true then Oper.wp Try.prog o a w K Q else E := by
  have hw : Region.wanted o (yielded ops a.tmps) = true := by simp [Region.wanted, hgd]
  rw [if_pos hw]
  obtain ⟨hu, hin, b1, b8⟩ := kt
  obtain ⟨i0, hi, hz0, hz1, hz2⟩ := info_parts hin
  obtain ⟨hl, hc, hm, hb, hn, hcell⟩ := hy
  have hby : by8 * (xs.length + ys.length) ≤ 8 * (xs.length + ys.length) := Nat.mul_le_mul_right _ b8
  have hby' : (xs.length + m) * by8 ≤ 140737488355328 := by rw [hl] at hby hlen; rw [Nat.mul_comm]; omega
  have hcs : ∀ j u, (ys.map (Value.int k))[j]? = some u → w.cell? (ad.add j) = some u := by
    intro j u hj
    have hj' : j < m := by
      have := (List.getElem?_eq_some_iff.1 hj).1
      simpa [hl] using this
    rw [hcell ad rfl j hj']
    simp [List.getD, show j < ys.length by omega] at hj ⊢
    exact hj
  obtain ⟨v', w', hrun, r1, r2, r3⟩ := run_append_own (P := Try.prog) w base S o.type T i0 (.int k 0) 1 by8 hu hi hz0 hz1 hz2 rfl (by omega) v xs.length _ hown.1 ad m c (ys.map (Value.int k)) (by simp [hl]) hcs (ints_oneCell _ _) (by unfold maxLen; omega) hby' hbase
  unfold Oper.wp
  simp [execOp, ho, resolve, invoke, builtin, hs, hx, hrun, Result.andThen]
  refine hK v' w' ⟨?_, hown.2.app hb⟩ r2
  rw [List.length_append, hl, List.map_append]
  exact r1
theorem gr_idx {VN CN i j d : Nat} (hj : j < VN) (hd : d < CN) : ((((i * VN + j) * CN + d : Nat) : Int) / (CN : Int) / (VN : Int) = i ∧ (((i * VN + j) * CN + d : Nat) : Int) / (CN : Int) % (VN : Int) = j) ∧ (((i * VN + j) * CN + d : Nat) : Int) % (CN : Int) = d := by
  obtain ⟨e1, e2⟩ := divmod_at (C := (CN : Int)) (q := i * VN + j) (d := d) (by omega)
  obtain ⟨e3, e4⟩ := divmod_at (C := (VN : Int)) (q := i) (d := j) (by omega)
  rw [Int.natCast_add, Int.natCast_mul, e1, e2, Int.natCast_add, Int.natCast_mul, e3, e4]
  exact ⟨⟨rfl, rfl⟩, rfl⟩
theorem step_in {i H sh kh h : Int} (hi : 0 ≤ i ∧ i < H) (hs : 1 ≤ sh) (hf : (H - 1) * sh + kh ≤ h) : 0 ≤ i * sh ∧ i * sh + kh ≤ h := by
  have a := Int.mul_le_mul_of_nonneg_right (show i ≤ H - 1 by omega) (show 0 ≤ sh by omega)
  have b := Int.mul_nonneg hi.1 (show 0 ≤ sh by omega)
  omega
set_option maxRecDepth 100000 in
set_option maxHeartbeats 8000000 in
theorem greatest_any (k a b m kh kw sh sw tp lf bt rt : Int) (wa : Option Addr) (lw wc : Nat) (ba : Option Addr) (lb bc : Nat) (sm ss um us z p lo hi h w c H V C : Int) (r : Nat) (W : World) (hr : W.heap[r]? = some (.cells #[.int .i64 k, .int .i64 a, .int .i64 b, .int .i64 m, .int .i64 kh, .int .i64 kw, .int .i64 sh, .int .i64 sw, .int .i64 tp, .int .i64 lf, .int .i64 bt, .int .i64 rt, .slice wa lw wc, .slice ba lb bc, .int .i64 sm, .int .i64 ss, .int .i64 um, .int .i64 us, .int .i64 z, .int .i64 p, .int .i64 lo, .int .i64 hi, .int .i64 h, .int .i64 w, .int .i64 c, .int .i64 H, .int .i64 V, .int .i64 C] 73 (0, 0))) (ad : Option Addr) (n cap : Nat) (xs : List Int) (hX : IRow .i8 W ad n cap xs) (hn : (n : Int) = h * w * c) (hA : vS h w c = true) (hB : vS H V C = true) (hkh : 1 ≤ kh ∧ kh ≤ 32) (hkw : 1 ≤ kw ∧ kw ≤ 32) (hsh : 1 ≤ sh ∧ sh ≤ 32) (hsw : 1 ≤ sw ∧ sw ≤ 32) (hf1 : (H - 1) * sh + kh ≤ h) (hf2 : (V - 1) * sw + kw ≤ w) (hCc : C = c) :
    Calls Try.prog 39 #[.pointer (some ⟨r, 0, none⟩), .slice ad n cap] W fun e w' => (∃ v, e = .returned v ∧ Own .i64 2 w' W.heap.size v (grL kh kw sh sw w c V C xs (H * V * C).toNat)) ∧ Below W.heap.size W w' := by
  have hrz := lt_of_heap hr
  have HR : Hid (W.heap[r]? = some (.cells #[.int .i64 k, .int .i64 a, .int .i64 b, .int .i64 m, .int .i64 kh, .int .i64 kw, .int .i64 sh, .int .i64 sw, .int .i64 tp, .int .i64 lf, .int .i64 bt, .int .i64 rt, .slice wa lw wc, .slice ba lb bc, .int .i64 sm, .int .i64 ss, .int .i64 um, .int .i64 us, .int .i64 z, .int .i64 p, .int .i64 lo, .int .i64 hi, .int .i64 h, .int .i64 w, .int .i64 c, .int .i64 H, .int .i64 V, .int .i64 C] 73 (0, 0))) := hr
  have HX : Hid (IRow .i8 W ad n cap xs) := hX
  have HU : Hid (∀ (w' : World), Below W.heap.size W w' → ∀ t u d : Int, (0 ≤ t ∧ t + kh ≤ h) → (0 ≤ u ∧ u + kw ≤ w) → (0 ≤ d ∧ d < c) → Calls Try.prog 61 #[.pointer (some ⟨r, 0, none⟩), .slice ad n cap, .int .i64 t, .int .i64 u, .int .i64 d] w' fun e w'' => e = .returned (.int .i64 (grM w c kw xs t u d (kh * kw).toNat)) ∧ ∃ q, w'' = w'.drewN q) :=
    fun w' hb t u d ht hu hd => gunder_any k a b m kh kw sh sw tp lf bt rt wa lw wc ba lb bc sm ss um us z p lo hi h w c H V C r w' ((hb.block r hrz).trans hr) ad n cap xs (hX.below hb) hn hA hkh hkw t u d ht hu hd
  have HP : Hid (∀ W, Calls Try.prog 21 #[.agg #[.int .i64 H, .int .i64 V, .int .i64 C]] W fun e w' => e = .returned (.int .i64 (H * V * C)) ∧ Below W.heap.size W w') := fun W => places_plain H V C W hB
  obtain ⟨hh, hw, hc, -⟩ := vS_yes hA
  obtain ⟨hH, hV, hC, -⟩ := vS_yes hB
  subst hCc
  have p3 := (vS_bd hB).2
  obtain ⟨HN, rfl⟩ : ∃ HN : Nat, H = (HN : Int) := ⟨H.toNat, by omega⟩
  obtain ⟨VN, rfl⟩ : ∃ VN : Nat, V = (VN : Int) := ⟨V.toNat, by omega⟩
  obtain ⟨CN, rfl⟩ : ∃ CN : Nat, C = (CN : Int) := ⟨C.toNat, by omega⟩
  obtain ⟨N, hN⟩ : ∃ N : Nat, (HN : Int) * (VN : Int) * (CN : Int) = (N : Int) := ⟨HN * VN * CN, by rw [Int.natCast_mul, Int.natCast_mul]⟩
  have HNN : Hid (HN * VN * CN = N) := by
    have : ((HN * VN * CN : Nat) : Int) = (N : Int) := by rw [Int.natCast_mul, Int.natCast_mul]; exact hN
    unfold Hid; omega
  rw [hN] at HP p3 ⊢
  rw [Int.toNat_natCast]
  obtain ⟨c1, f1, z1⟩ := cells_at hr
  have HG : Hid (∀ q, Wf .i64 (grL kh kw sh sw w CN VN CN xs q)) := fun q v hv => mk_i64 (by have := grL_i8 hX.i8 q v hv; unfold I8 at this; omega)
  clear hr hX hn hA hB hN
  go_enter Try.func39, Try.ntmps39
  go_wp2_with fail
  refine (HP.out _).mono ?_
  rintro e w1 ⟨rfl, hb1⟩
  have Hb1 : Hid (Below W.heap.size W w1) := hb1
  clear hb1 c1 f1
  have hr1 := (Hb1.out.block r hrz).trans HR.out
  obtain ⟨c1, f1, z2⟩ := cells_at hr1
  clear hr1
  go_wp2_with (at_make; (refine wpList_mk0 kt_i64 rfl _ _ rfl N _ rfl rfl rfl (by omega) W.heap.size Hb1.out.size ?_; intro v0 w2 own0 hb2; have Hb2 : Hid (Below W.heap.size W w2) := btr Hb1.out hb2; have Ho0 : Hid (Own .i64 2 w2 W.heap.size v0 []) := own0; have hr2 := (Hb2.out.block r hrz).trans HR.out; clear c1 f1 own0 hb2; obtain ⟨c1, f1, z3⟩ := cells_at hr2; clear hr2))
  go_loopw [5, 20] (fun v i wr => ∃ y : Nat, y ≤ HN ∧ i = .int .i64 y ∧ Own .i64 2 wr W.heap.size v (grL kh kw sh sw w CN VN CN xs (y * VN * CN)) ∧ Below W.heap.size W wr) (fun _ i _ => HN - (intOf i).toNat)
  case atStart => exact ⟨0, Nat.zero_le _, rfl, by simpa [grL] using Ho0.out, Hb2.out⟩
  case round =>
    obtain ⟨y, hy, rfl, hO, hb⟩ := hrel
    clear c1 f1
    obtain ⟨c1, f1, z4⟩ := cells_at ((hb.block r hrz).trans HR.out)
    have HO : Hid (Own .i64 2 wr W.heap.size u5 (grL kh kw sh sw w CN VN CN xs (y * VN * CN))) := hO
    have HBw : Hid (Below W.heap.size W wr) := hb
    clear hO hb Ho0
    by_cases hlt : y < HN
    · go_wp2
      go_loopw [5, 28] (fun v i wr => ∃ (x : Nat) (v0 : Value), v0 = v ∧ x ≤ VN ∧ i = .int .i64 x ∧ Own .i64 2 wr W.heap.size v (grL kh kw sh sw w CN VN CN xs ((y * VN + x) * CN)) ∧ Below W.heap.size W wr) (fun _ i _ => VN - (intOf i).toNat)
      case atStart => exact ⟨0, _, rfl, Nat.zero_le _, rfl, HO.out, HBw.out⟩
      case round =>
        obtain ⟨x, v0, rfl, hx, rfl, hO, hb⟩ := hrel
        clear c1 f1 HO HBw
        obtain ⟨c1, f1, z5⟩ := cells_at ((hb.block r hrz).trans HR.out)
        have HO : Hid (Own .i64 2 wr W.heap.size v0 (grL kh kw sh sw w CN VN CN xs ((y * VN + x) * CN))) := hO
        have HBw : Hid (Below W.heap.size W wr) := hb
        clear hO hb
        by_cases hltx : x < VN
        · go_wp2
          go_loopw [5, 36] (fun v i wr => ∃ (d : Nat) (v1 : Value), v1 = v ∧ d ≤ CN ∧ i = .int .i64 d ∧ Own .i64 2 wr W.heap.size v (grL kh kw sh sw w CN VN CN xs ((y * VN + x) * CN + d)) ∧ Below W.heap.size W wr) (fun _ i _ => CN - (intOf i).toNat)
          case atStart => exact ⟨0, _, rfl, Nat.zero_le _, rfl, HO.out, HBw.out⟩
          case round =>
            obtain ⟨d, v1, rfl, hd, rfl, hO, hb⟩ := hrel
            clear c1 f1 HO HBw
            by_cases hltd : d < CN
            · obtain ⟨t1, t2⟩ := step_in (i := (y : Int)) ⟨by omega, by omega⟩ hsh.1 hf1
              obtain ⟨t3, t4⟩ := step_in (i := (x : Int)) ⟨by omega, by omega⟩ hsw.1 hf2
              have HS := grL_succ kh kw sh sw w (CN : Int) (VN : Int) (CN : Int) xs ((y * VN + x) * CN + d)
              obtain ⟨⟨e1, e2⟩, e3⟩ := gr_idx (i := y) hltx hltd
              rw [e1, e2, e3] at HS
              obtain ⟨T, hT⟩ : ∃ T, (y : Int) * sh = T := ⟨_, rfl⟩
              obtain ⟨U, hU⟩ : ∃ U, (x : Int) * sw = U := ⟨_, rfl⟩
              rw [hT] at t1 t2 HS
              rw [hU] at t3 t4 HS
              have hwT : IntKind.i64.wrap T = T := w64 (by omega)
              have hwU : IntKind.i64.wrap U = U := w64 (by omega)
              have HC : Hid (∀ (w' : World), Below W.heap.size W w' → Calls Try.prog 61 #[.pointer (some ⟨r, 0, none⟩), .slice ad n cap, .int .i64 T, .int .i64 U, .int .i64 (d : Int)] w' fun e w'' => e = .returned (.int .i64 (grM w CN kw xs T U d (kh * kw).toNat)) ∧ ∃ q, w'' = w'.drewN q) := fun w' hb => HU.out w' hb T U d ⟨t1, t2⟩ ⟨t3, t4⟩ ⟨by omega, by omega⟩
              have hg8 := grM_i8 (w := w) (c := (CN : Int)) (kw := kw) HX.out.i8 T U d (kh * kw).toNat
              obtain ⟨G, hG⟩ : ∃ G, grM w (CN : Int) kw xs T U d (kh * kw).toNat = G := ⟨_, rfl⟩
              rw [hG] at HC HS hg8
              have HG8 : Hid (I8 G) := hg8
              have HSS : Hid (grL kh kw sh sw w CN VN CN xs ((y * VN + x) * CN + d + 1) = grL kh kw sh sw w CN VN CN xs ((y * VN + x) * CN + d) ++ [G]) := HS
              have HLn : Hid ((y * VN + x) * CN + d ≤ 16384) := by
                unfold Hid
                have q1 : (y * VN + x + 1) * CN ≤ HN * VN * CN := Nat.mul_le_mul_right _ (by
                  have : (y + 1) * VN ≤ HN * VN := Nat.mul_le_mul_right _ hlt
                  rw [Nat.add_mul] at this; omega)
                rw [HNN.out, Nat.add_mul] at q1
                omega
              have HOd : Hid (Own .i64 2 wr.drew W.heap.size v1 (grL kh kw sh sw w CN VN CN xs ((y * VN + x) * CN + d))) := hO.below (Below.refl _ _).drew
              have HBd : Hid (Below W.heap.size W wr.drew) := btr hb (Below.refl _ _).drew
              obtain ⟨c1, f1, z6⟩ := cells_at ((hb.block r hrz).trans HR.out)
              clear HS hg8 hG hO hb e1 e2 e3 HU
              go_wp2
              go_region_law (first
                | (go_simp; go_at_call 61; refine (HC.out _ HBd.out).mono ?_; rintro e w3 ⟨rfl, q3, hw3⟩; have Hb3 : Hid (Below W.heap.size W w3) := (by rw [hw3]; exact btr HBd.out (dbel _ q3)); have Ho3 : Hid (Own .i64 2 w3 W.heap.size v1 (grL kh kw sh sw w CN VN CN xs ((y * VN + x) * CN + d))) := (by rw [hw3]; exact HOd.out.below (dbel _ q3)); clear hw3)
                | (refine step_ap kt_i64 rfl (.tmp 39) (.tmp 60) rfl W.heap.size v1 (grL kh kw sh sw w CN VN CN xs ((y * VN + x) * CN + d)) [G] rfl (Ho3.out.alloc _) ⟨w3.heap.size, 0, none⟩ 1 1 rfl (row_one .i64 2 w3 G (mk_i64 (by have := HG8.out; unfold I8 at this; omega))) (by rw [grL_len]; have := HLn.out; simp; omega) (by have := Hb3.out.size; simp; omega) ?_; intro v4 w4 own4 gr4; have Hb4 : Hid (Below W.heap.size W w4) := (Ho3.out.alloc (.cells #[.int .i64 G] 2)).bel (btr Hb3.out (bal w3 _)) gr4 (Nat.le_refl _) (by have := Hb3.out.size; simp; omega); have Ho4 : Hid (Own .i64 2 w4 W.heap.size v4 (grL kh kw sh sw w CN VN CN xs ((y * VN + x) * CN + d + 1))) := (by rw [HSS.out]; exact own4); clear own4 gr4))
              all_goals
                clear HSS HC HOd HBd Ho3 Hb3
                go_wp2
                go_roundw
                case rel => exact ⟨d + 1, _, rfl, by omega, by go_num, Ho4.out, Hb4.out⟩
                case measure => simp [intOf]; omega
            · obtain rfl : d = CN := by omega
              have Ho2 : Hid (Own .i64 2 wr W.heap.size v1 (grL kh kw sh sw w d VN d xs ((y * VN + (x + 1)) * d))) := by
                have e : (y * VN + (x + 1)) * d = (y * VN + x) * d + d := by rw [← Nat.add_assoc, Nat.add_mul _ 1, Nat.one_mul]
                unfold Hid
                rw [e]; exact hO
              have Hb2 : Hid (Below W.heap.size W wr) := hb
              clear hO hb
              go_wp2
              go_roundw
              case rel => exact ⟨x + 1, _, rfl, by omega, by go_num, Ho2.out, Hb2.out⟩
              case measure => simp [intOf]; omega
        · obtain rfl : x = VN := by omega
          have Ho2 : Hid (Own .i64 2 wr W.heap.size v0 (grL kh kw sh sw w CN x CN xs ((y + 1) * x * CN))) := by
            have e : (y + 1) * x = y * x + x := by rw [Nat.add_mul, Nat.one_mul]
            unfold Hid
            rw [e]; exact HO.out
          clear HO
          go_wp2
          go_roundw
          case rel => exact ⟨y + 1, by omega, by go_num, Ho2.out, HBw.out⟩
          case measure => simp [intOf]; omega
    · obtain rfl : y = HN := by omega
      have HO2 : Hid (Own .i64 2 wr W.heap.size u5 (grL kh kw sh sw w CN VN CN xs N)) := by rw [← HNN.out]; exact HO.out
      go_wp2
      go_ret
      exact ⟨⟨_, rfl, HO2.out⟩, HBw.out⟩
end Go.Proofs.Ytehofmkpgopmpaa

/- What sums of package plain returns: all sums of an op that reduces. -/
namespace Go.Proofs.Ytehofmkpgopmpaa
open Go.ChangeShapes Go.WideShapes Go.ChangeAt Go.RowKit
set_option linter.unusedVariables false
theorem St.ad {w0 w : World} {B : Nat} {c : Array Value} {t : TypeId} {l : List (Nat × Array Value × TypeId)} (h : St w0 w l) (hb : w.heap[B]? = some (.cells c t (0, 0))) (hB : w0.heap.size ≤ B) : St w0 w ((B, c, t) :: l) :=
  ⟨h.1, fun x hx => by
    rcases List.mem_cons.1 hx with rfl | hx
    · exact ⟨hb, hB⟩
    · exact h.2 x hx⟩
/-- An append to a list of another type leaves the listed blocks. -/
theorem St.grow {w0 w w' : World} {k : IntKind} {T : TypeId} {base : Nat} {v : Value} {zs : List Int} {l : List (Nat × Array Value × TypeId)} (h : St w0 w l) (o : Own k T w base v zs) (g : w.grownBy w' v.ownBlock) (hB : w0.heap.size ≤ base) (hT : ∀ x ∈ l, x.2.2 ≠ T) : St w0 w' l :=
  ⟨o.bel h.1 g hB h.1.size, fun x hx => by
    have hx' := h.2 x hx
    refine ⟨?_, hx'.2⟩
    rw [g.block x.1 (lt_of_heap hx'.1) (own_ne o.1 hx'.1 (hT x hx))]
    exact hx'.1⟩
theorem of_alone (k a b m kh kw sh sw tp lf bt rt : Int) (wa : Option Addr) (lw wc : Nat) (ba : Option Addr) (lb bc : Nat) (sm ss um us z p lo hi h w c H V C : Int) (s : Opd k b m kh kw sh sw tp lf bt rt lw lb sm ss um us z p lo hi h w c H V C) (hk : k ≤ 4) (zs bs : List Int) (W : World) (hZ : IRow .i16 W wa lw wc zs) (hB : IRow .i32 W ba lb bc bs) (hlw : lw * 2 ≤ 140737488351232) (hlb : lb * 4 ≤ 140737488351232) (g : Nat) (hg : W.heap[g]? = some (.cells #[.int .i64 k, .int .i64 0, .int .i64 b, .int .i64 m, .int .i64 kh, .int .i64 kw, .int .i64 sh, .int .i64 sw, .int .i64 tp, .int .i64 lf, .int .i64 bt, .int .i64 rt, .slice wa lw wc, .slice ba lb bc, .int .i64 sm, .int .i64 ss, .int .i64 um, .int .i64 us, .int .i64 z, .int .i64 p, .int .i64 lo, .int .i64 hi] 48 (0, 0))) (ch at' : Int) (hch : 1 ≤ ch ∧ ch ≤ C) (hat : 0 ≤ at' ∧ at' < H * V) :
    Calls Try.prog 46 #[.agg #[.int .i64 h, .int .i64 w, .int .i64 c, .int .i64 0, .int .i64 0, .slice (some ⟨g, 0, none⟩) 1 1, .int .i64 0], .int .i64 1, .int .i64 ch, .int .i64 at'] W fun e w' => (∃ v, e = .returned (.tuple #[v, .int .i64 (biA k ch bs), .int .i64 0]) ∧ OTm w' W.heap.size v (siL k kh kw sh sw tp lf bt rt h w c ch at' zs)) ∧ Below W.heap.size W w' := by
  obtain ⟨Rw, hR⟩ := alone_g (a := 0) s hk
  have hcell : ∀ q v, [.int .i64 k, .int .i64 0, .int .i64 b, .int .i64 m, .int .i64 kh, .int .i64 kw, .int .i64 sh, .int .i64 sw, .int .i64 tp, .int .i64 lf, .int .i64 bt, .int .i64 rt, .slice wa lw wc, .slice ba lb bc, .int .i64 sm, .int .i64 ss, .int .i64 um, .int .i64 us, .int .i64 z, .int .i64 p, .int .i64 lo, .int .i64 hi][q]? = some v → W.cell? ((⟨g, 0, none⟩ : Addr).add q) = some v := lcells hg (fget [.int .i64 k, .int .i64 0, .int .i64 b, .int .i64 m, .int .i64 kh, .int .i64 kw, .int .i64 sh, .int .i64 sw, .int .i64 tp, .int .i64 lf, .int .i64 bt, .int .i64 rt, .slice wa lw wc, .slice ba lb bc, .int .i64 sm, .int .i64 ss, .int .i64 um, .int .i64 us, .int .i64 z, .int .i64 p, .int .i64 lo, .int .i64 hi] [])
  have e0 : ((⟨g, 0, none⟩ : Addr).add (0 * 22)) = ⟨g, 0, none⟩ := by rw [Addr.add_lit]
  have hL : LRow W (some ⟨g, 0, none⟩) 1 1 (fun _ => oL k 0 b m kh kw sh sw tp lf bt rt (lw : Int) (lb : Int) sm ss um us z p lo hi) (fun _ => zs) (fun _ => bs) := by
    refine ⟨Nat.le_refl _, by unfold maxLen; omega, (fun h => by cases h), fun x hx i hi => ?_⟩
    cases hx
    obtain rfl : i = 0 := by omega
    rw [e0]
    exact ⟨wa, lw, wc, ba, lb, bc, rfl, rfl, hcell, hZ, hB, hlw, hlb⟩
  have hF : Fnd W (some ⟨g, 0, none⟩) 1 (fun _ => oL k 0 b m kh kw sh sw tp lf bt rt (lw : Int) (lb : Int) sm ss um us z p lo hi) (fun _ => zs) (fun _ => bs) [(h, w, c), (H, V, C)] 0 ⟨g, 0, none⟩ wa lw wc ba lb bc h w c H V C :=
    ⟨by omega, rfl, rfl, rfl, fun q v hq => by rw [e0]; exact hcell q v hq, hZ, hB, rfl, rfl, s.si hk, ⟨Int.le_refl _, Int.le_refl _⟩, decide_eq_true (show 1 ≤ k ∧ k ≤ 4 by have := s.hk; omega)⟩
  exact of_ok h w c 0 0 0 (some ⟨g, 0, none⟩) 1 1 (fun _ => oL k 0 b m kh kw sh sw tp lf bt rt (lw : Int) (lb : Int) sm ss um us z p lo hi) (fun _ => zs) (fun _ => bs) W hL ch at' [(h, w, c), (H, V, C)] Rw hR 0 ⟨g, 0, none⟩ wa lw wc ba lb bc h w c H V C hF hch hat
set_option maxRecDepth 100000 in
set_option maxHeartbeats 8000000 in
theorem sums_any (k a b m kh kw sh sw tp lf bt rt : Int) (wa : Option Addr) (lw wc : Nat) (ba : Option Addr) (lb bc : Nat) (sm ss um us z p lo hi h w c H V C : Int) (r : Nat) (W : World) (hr : W.heap[r]? = some (.cells #[.int .i64 k, .int .i64 a, .int .i64 b, .int .i64 m, .int .i64 kh, .int .i64 kw, .int .i64 sh, .int .i64 sw, .int .i64 tp, .int .i64 lf, .int .i64 bt, .int .i64 rt, .slice wa lw wc, .slice ba lb bc, .int .i64 sm, .int .i64 ss, .int .i64 um, .int .i64 us, .int .i64 z, .int .i64 p, .int .i64 lo, .int .i64 hi, .int .i64 h, .int .i64 w, .int .i64 c, .int .i64 H, .int .i64 V, .int .i64 C] 73 (0, 0))) (s : Opd k b m kh kw sh sw tp lf bt rt lw lb sm ss um us z p lo hi h w c H V C) (hk : k ≤ 4) (zs bs : List Int) (hZ : IRow .i16 W wa lw wc zs) (hB : IRow .i32 W ba lb bc bs) (hlw : lw * 2 ≤ 140737488351232) (hlb : lb * 4 ≤ 140737488351232) (ad : Option Addr) (n cap : Nat) (xs : List Int) (hX : IRow .i8 W ad n cap xs) (hn : (n : Int) = h * w * c) :
    Calls Try.prog 37 #[.pointer (some ⟨r, 0, none⟩), .slice ad n cap] W fun e w' => (∃ v, e = .returned v ∧ Own .i64 2 w' W.heap.size v (suL k kh kw sh sw tp lf bt rt h w c C p zs bs xs (H * V * C).toNat)) ∧ Below W.heap.size W w' := by
  have hrz := lt_of_heap hr
  have hp8 : I8 p := by have := s.rz; unfold rzB vlB at this; simp at this; exact ⟨this.2.1, this.2.2⟩
  have HR : Hid (W.heap[r]? = some (.cells #[.int .i64 k, .int .i64 a, .int .i64 b, .int .i64 m, .int .i64 kh, .int .i64 kw, .int .i64 sh, .int .i64 sw, .int .i64 tp, .int .i64 lf, .int .i64 bt, .int .i64 rt, .slice wa lw wc, .slice ba lb bc, .int .i64 sm, .int .i64 ss, .int .i64 um, .int .i64 us, .int .i64 z, .int .i64 p, .int .i64 lo, .int .i64 hi, .int .i64 h, .int .i64 w, .int .i64 c, .int .i64 H, .int .i64 V, .int .i64 C] 73 (0, 0))) := hr
  have HAl : Hid (Calls Try.prog 59 #[.pointer (some ⟨r, 0, none⟩)] W _) := alone_any k a b m kh kw sh sw tp lf bt rt wa lw wc ba lb bc sm ss um us z p lo hi h w c H V C r W hr
  have HP : Hid (∀ W, Calls Try.prog 21 #[.agg #[.int .i64 H, .int .i64 V, .int .i64 C]] W fun e w' => e = .returned (.int .i64 (H * V * C)) ∧ Below W.heap.size W w') := fun W => places_plain H V C W s.hB
  have HOf : Hid (∀ (w' : World) (g : Nat), Below W.heap.size W w' → w'.heap[g]? = some (.cells #[.int .i64 k, .int .i64 0, .int .i64 b, .int .i64 m, .int .i64 kh, .int .i64 kw, .int .i64 sh, .int .i64 sw, .int .i64 tp, .int .i64 lf, .int .i64 bt, .int .i64 rt, .slice wa lw wc, .slice ba lb bc, .int .i64 sm, .int .i64 ss, .int .i64 um, .int .i64 us, .int .i64 z, .int .i64 p, .int .i64 lo, .int .i64 hi] 48 (0, 0)) → ∀ ch at' : Int, (1 ≤ ch ∧ ch ≤ C) → (0 ≤ at' ∧ at' < H * V) → Calls Try.prog 46 #[.agg #[.int .i64 h, .int .i64 w, .int .i64 c, .int .i64 0, .int .i64 0, .slice (some ⟨g, 0, none⟩) 1 1, .int .i64 0], .int .i64 1, .int .i64 ch, .int .i64 at'] w' fun e w'' => (∃ v, e = .returned (.tuple #[v, .int .i64 (biA k ch bs), .int .i64 0]) ∧ OTm w'' w'.heap.size v (siL k kh kw sh sw tp lf bt rt h w c ch at' zs)) ∧ Below w'.heap.size w' w'') :=
    fun w' g hb hg ch at' hch hat => of_alone k a b m kh kw sh sw tp lf bt rt wa lw wc ba lb bc sm ss um us z p lo hi h w c H V C s hk zs bs w' (hZ.below hb) (hB.below hb) hlw hlb g hg ch at' hch hat
  have HSm : Hid (∀ (w' : World), Below W.heap.size W w' → ∀ (v : Value) (ch at' : Int), (1 ≤ ch ∧ ch ≤ C) → TV w' v (siL k kh kw sh sw tp lf bt rt h w c ch at' zs) → Calls Try.prog 60 #[.pointer (some ⟨r, 0, none⟩), v, .slice ad n cap] w' fun e w'' => e = .returned (.int .i64 (smV p xs (siL k kh kw sh sw tp lf bt rt h w c ch at' zs))) ∧ Below w'.heap.size w' w'') :=
    fun w' hb v ch at' hch hT => by
      obtain ⟨f1, f2⟩ := siL_facts (s.si hk) hZ.2.2.2.1 hch at'
      rw [← hn] at f2
      exact sum_any k a b m kh kw sh sw tp lf bt rt wa lw wc ba lb bc sm ss um us z p lo hi h w c H V C r w' ((hb.block r hrz).trans hr) v _ hT ad n cap xs (hX.below hb) hp8 f1 f2
  have HSb : Hid (∀ ch at' : Int, (1 ≤ ch ∧ ch ≤ C) → (-4294967296 ≤ suA k kh kw sh sw tp lf bt rt h w c p zs bs xs ch at' ∧ suA k kh kw sh sw tp lf bt rt h w c p zs bs xs ch at' ≤ 4294967296) ∧ suA k kh kw sh sw tp lf bt rt h w c p zs bs xs ch at' = biA k ch bs + smV p xs (siL k kh kw sh sw tp lf bt rt h w c ch at' zs)) := fun ch at' hch => ⟨suA_bd (s.si hk) hZ.2.2.2.1 hB.2.2.2.1 hp8 hX.i8 hch at', rfl⟩
  obtain ⟨hH, hV, hC, -⟩ := vS_yes s.hB
  have p3 := vS_bd s.hB
  clear hr hZ hB hX hn s hlw hlb hp8
  obtain ⟨CN, rfl⟩ : ∃ CN : Nat, C = (CN : Int) := ⟨C.toNat, by omega⟩
  obtain ⟨P, hP⟩ : ∃ P : Nat, H * V = (P : Int) := ⟨(H * V).toNat, by omega⟩
  rw [hP] at HP HOf p3 ⊢
  obtain ⟨N, hN⟩ : ∃ N : Nat, (P : Int) * (CN : Int) = (N : Int) := ⟨P * CN, by rw [Int.natCast_mul]⟩
  have HNN : Hid (P * CN = N) := by
    have : ((P * CN : Nat) : Int) = (N : Int) := by rw [Int.natCast_mul]; exact hN
    unfold Hid; omega
  rw [hN] at HP p3 ⊢
  rw [Int.toNat_natCast]
  clear hN
  obtain ⟨c1, f1, z1⟩ := cells_at HR.out
  go_enter Try.func37, Try.ntmps37
  go_wp2_with fail
  refine HAl.out.mono ?_
  rintro e w1 ⟨g, rfl, hgc, hgb, hb1⟩
  obtain ⟨mb, hmb⟩ : ∃ mb, w1.heap.size = mb := ⟨_, rfl⟩
  have s1 := (((St.start W).call hb1).ad hgc hgb).new (c := #[.int .i64 h, .int .i64 w, .int .i64 c, .int .i64 0, .int .i64 0, .slice (some ⟨g, 0, none⟩) 1 1, .int .i64 0]) (t := 26)
  clear hb1 hgc c1 f1 HAl
  obtain ⟨c2, f2, z2⟩ := cells_at ((s1.below.block r hrz).trans HR.out)
  go_wp2_with fail
  rw [hmb] at s1
  clear hmb
  refine (HP.out _).mono ?_
  rintro e w2 ⟨rfl, hb2⟩
  have S2 : Hid (St W w2 [(mb, #[.int .i64 h, .int .i64 w, .int .i64 c, .int .i64 0, .int .i64 0, .slice (some ⟨g, 0, none⟩) 1 1, .int .i64 0], 26), (g, #[.int .i64 k, .int .i64 0, .int .i64 b, .int .i64 m, .int .i64 kh, .int .i64 kw, .int .i64 sh, .int .i64 sw, .int .i64 tp, .int .i64 lf, .int .i64 bt, .int .i64 rt, .slice wa lw wc, .slice ba lb bc, .int .i64 sm, .int .i64 ss, .int .i64 um, .int .i64 us, .int .i64 z, .int .i64 p, .int .i64 lo, .int .i64 hi], 48)]) := s1.call hb2
  clear s1 hb2 c2 f2 z2 HP
  go_wp2_with (at_make; refine wpList_mk0 kt_i64 rfl _ _ rfl N _ rfl rfl rfl (by omega) W.heap.size S2.out.size ?_; intro v0 w3 own0 hb3; have S3 : Hid (St W w3 [(mb, #[.int .i64 h, .int .i64 w, .int .i64 c, .int .i64 0, .int .i64 0, .slice (some ⟨g, 0, none⟩) 1 1, .int .i64 0], 26), (g, #[.int .i64 k, .int .i64 0, .int .i64 b, .int .i64 m, .int .i64 kh, .int .i64 kw, .int .i64 sh, .int .i64 sw, .int .i64 tp, .int .i64 lf, .int .i64 bt, .int .i64 rt, .slice wa lw wc, .slice ba lb bc, .int .i64 sm, .int .i64 ss, .int .i64 um, .int .i64 us, .int .i64 z, .int .i64 p, .int .i64 lo, .int .i64 hi], 48)]) := S2.out.call hb3; have Ho0 : Hid (Own .i64 2 w3 W.heap.size v0 []) := own0; clear own0 hb3 S2; obtain ⟨c1, f1, z1'⟩ := cells_at ((S3.out.below.block r hrz).trans HR.out))
  go_quiet (fail)
  have S4 : Hid (St W (w3.drewN nq) [(mb, #[.int .i64 h, .int .i64 w, .int .i64 c, .int .i64 0, .int .i64 0, .slice (some ⟨g, 0, none⟩) 1 1, .int .i64 0], 26), (g, #[.int .i64 k, .int .i64 0, .int .i64 b, .int .i64 m, .int .i64 kh, .int .i64 kw, .int .i64 sh, .int .i64 sw, .int .i64 tp, .int .i64 lf, .int .i64 bt, .int .i64 rt, .slice wa lw wc, .slice ba lb bc, .int .i64 sm, .int .i64 ss, .int .i64 um, .int .i64 us, .int .i64 z, .int .i64 p, .int .i64 lo, .int .i64 hi], 48)]) := S3.out.call (dbel _ _)
  have Ho4 : Hid (Own .i64 2 (w3.drewN nq) W.heap.size v0 []) := Ho0.out.below (dbel _ _)
  obtain ⟨w4, hw4⟩ : ∃ w4, w3.drewN nq = w4 := ⟨_, rfl⟩
  rw [hw4] at S4 Ho4 ⊢
  clear hw4 S3 Ho0 c1 f1
  go_wp2
  go_loopw [6, 31] (fun v i wr => ∃ (y : Nat) (v1 : Value), v1 = v ∧ y ≤ P ∧ i = .int .i64 y ∧ Own .i64 2 wr W.heap.size v (suL k kh kw sh sw tp lf bt rt h w c CN p zs bs xs (y * CN)) ∧ St W wr [(mb, #[.int .i64 h, .int .i64 w, .int .i64 c, .int .i64 0, .int .i64 0, .slice (some ⟨g, 0, none⟩) 1 1, .int .i64 0], 26), (g, #[.int .i64 k, .int .i64 0, .int .i64 b, .int .i64 m, .int .i64 kh, .int .i64 kw, .int .i64 sh, .int .i64 sw, .int .i64 tp, .int .i64 lf, .int .i64 bt, .int .i64 rt, .slice wa lw wc, .slice ba lb bc, .int .i64 sm, .int .i64 ss, .int .i64 um, .int .i64 us, .int .i64 z, .int .i64 p, .int .i64 lo, .int .i64 hi], 48)]) (fun _ i _ => P - (intOf i).toNat)
  case atStart => exact ⟨0, _, rfl, Nat.zero_le _, rfl, by simpa [suL] using Ho4.out, S4.out⟩
  case round =>
    obtain ⟨y, v1, rfl, hy, rfl, hO, sr⟩ := hrel
    clear S4 Ho4
    obtain ⟨c1, f1, z4⟩ := cells_at ((sr.below.block r hrz).trans HR.out)
    have HO : Hid (Own .i64 2 wr W.heap.size v1 (suL k kh kw sh sw tp lf bt rt h w c CN p zs bs xs (y * CN))) := hO
    have SR : Hid (St W wr [(mb, #[.int .i64 h, .int .i64 w, .int .i64 c, .int .i64 0, .int .i64 0, .slice (some ⟨g, 0, none⟩) 1 1, .int .i64 0], 26), (g, #[.int .i64 k, .int .i64 0, .int .i64 b, .int .i64 m, .int .i64 kh, .int .i64 kw, .int .i64 sh, .int .i64 sw, .int .i64 tp, .int .i64 lf, .int .i64 bt, .int .i64 rt, .slice wa lw wc, .slice ba lb bc, .int .i64 sm, .int .i64 ss, .int .i64 um, .int .i64 us, .int .i64 z, .int .i64 p, .int .i64 lo, .int .i64 hi], 48)]) := sr
    clear hO sr
    by_cases hlt : y < P
    · go_wp2
      go_loopw [6, 8] (fun v i wr => ∃ (d : Nat) (v2 : Value), v2 = v ∧ d ≤ CN ∧ i = .int .i64 ((d : Int) + 1) ∧ Own .i64 2 wr W.heap.size v (suL k kh kw sh sw tp lf bt rt h w c CN p zs bs xs (y * CN + d)) ∧ St W wr [(mb, #[.int .i64 h, .int .i64 w, .int .i64 c, .int .i64 0, .int .i64 0, .slice (some ⟨g, 0, none⟩) 1 1, .int .i64 0], 26), (g, #[.int .i64 k, .int .i64 0, .int .i64 b, .int .i64 m, .int .i64 kh, .int .i64 kw, .int .i64 sh, .int .i64 sw, .int .i64 tp, .int .i64 lf, .int .i64 bt, .int .i64 rt, .slice wa lw wc, .slice ba lb bc, .int .i64 sm, .int .i64 ss, .int .i64 um, .int .i64 us, .int .i64 z, .int .i64 p, .int .i64 lo, .int .i64 hi], 48)]) (fun _ i _ => CN + 1 - (intOf i).toNat)
      case atStart => exact ⟨0, _, rfl, Nat.zero_le _, rfl, HO.out, SR.out⟩
      case round =>
        obtain ⟨d, v2, rfl, hd, rfl, hO, sr⟩ := hrel
        clear c1 f1 HO SR
        obtain ⟨c1, f1, z5⟩ := cells_at ((sr.below.block r hrz).trans HR.out)
        have HO : Hid (Own .i64 2 wr W.heap.size v2 (suL k kh kw sh sw tp lf bt rt h w c CN p zs bs xs (y * CN + d))) := hO
        have SR : Hid (St W wr [(mb, #[.int .i64 h, .int .i64 w, .int .i64 c, .int .i64 0, .int .i64 0, .slice (some ⟨g, 0, none⟩) 1 1, .int .i64 0], 26), (g, #[.int .i64 k, .int .i64 0, .int .i64 b, .int .i64 m, .int .i64 kh, .int .i64 kw, .int .i64 sh, .int .i64 sw, .int .i64 tp, .int .i64 lf, .int .i64 bt, .int .i64 rt, .slice wa lw wc, .slice ba lb bc, .int .i64 sm, .int .i64 ss, .int .i64 um, .int .i64 us, .int .i64 z, .int .i64 p, .int .i64 lo, .int .i64 hi], 48)]) := sr
        obtain ⟨c2, f2, z6, -⟩ := sr.rules
        clear hO sr
        by_cases hltd : d < CN
        · have hch : 1 ≤ (d : Int) + 1 ∧ (d : Int) + 1 ≤ (CN : Int) := by omega
          have HS := suL_succ k kh kw sh sw tp lf bt rt h w c (CN : Int) p zs bs xs (y * CN + d)
          obtain ⟨e1, e2⟩ := divmod_at (C := (CN : Int)) (q := y) (d := d) (by omega)
          rw [Int.natCast_add, Int.natCast_mul, e1, e2] at HS
          obtain ⟨⟨b1, b2⟩, hsu⟩ := HSb.out ((d : Int) + 1) (y : Int) hch
          have HC1 : Hid (∀ (w' : World), Below W.heap.size W w' → w'.heap[g]? = some (.cells #[.int .i64 k, .int .i64 0, .int .i64 b, .int .i64 m, .int .i64 kh, .int .i64 kw, .int .i64 sh, .int .i64 sw, .int .i64 tp, .int .i64 lf, .int .i64 bt, .int .i64 rt, .slice wa lw wc, .slice ba lb bc, .int .i64 sm, .int .i64 ss, .int .i64 um, .int .i64 us, .int .i64 z, .int .i64 p, .int .i64 lo, .int .i64 hi] 48 (0, 0)) → _) := fun w' hb hg => HOf.out w' g hb hg ((d : Int) + 1) y hch ⟨by omega, by omega⟩
          have HC2 : Hid (∀ (w' : World), Below W.heap.size W w' → ∀ v, TV w' v _ → _) := fun w' hb v hT => HSm.out w' hb v ((d : Int) + 1) y hch hT
          obtain ⟨TL, hTL⟩ : ∃ TL, siL k kh kw sh sw tp lf bt rt h w c ((d : Int) + 1) (y : Int) zs = TL := ⟨_, rfl⟩
          obtain ⟨bi, hbi⟩ : ∃ bi, biA k ((d : Int) + 1) bs = bi := ⟨_, rfl⟩
          obtain ⟨sv, hsv⟩ : ∃ sv, smV p xs TL = sv := ⟨_, rfl⟩
          rw [hTL] at HC1 HC2 hsu
          rw [hsv] at HC2 hsu
          rw [hbi] at HC1 hsu
          rw [hsu] at b1 b2 HS
          have HSS : Hid (suL k kh kw sh sw tp lf bt rt h w c CN p zs bs xs (y * CN + d + 1) = suL k kh kw sh sw tp lf bt rt h w c CN p zs bs xs (y * CN + d) ++ [bi + sv]) := HS
          have HLn : Hid (y * CN + d ≤ 16384) := by
            unfold Hid
            have q1 : (y + 1) * CN ≤ P * CN := Nat.mul_le_mul_right _ hlt
            rw [HNN.out, Nat.add_mul] at q1
            omega
          clear HS e1 e2 hsu hTL hbi hsv
          obtain ⟨D, hD⟩ : ∃ D : Int, (d : Int) + 1 = D := ⟨_, rfl⟩
          rw [hD] at HC1 hch ⊢
          have HD : Hid ((d : Int) + 1 = D) := hD
          clear hD
          go_wp2_with fail
          refine (HC1.out _ SR.out.below SR.out.h2).mono ?_
          rintro e w5 ⟨⟨v, rfl, hOT⟩, hb5⟩
          obtain ⟨va, vc, rfl⟩ := hOT.slice
          have HT5 : Hid (TV w5 (.slice va TL.length vc) TL) := hOT.tv
          have S5 : Hid (St W w5 [(mb, #[.int .i64 h, .int .i64 w, .int .i64 c, .int .i64 0, .int .i64 0, .slice (some ⟨g, 0, none⟩) 1 1, .int .i64 0], 26), (g, #[.int .i64 k, .int .i64 0, .int .i64 b, .int .i64 m, .int .i64 kh, .int .i64 kw, .int .i64 sh, .int .i64 sw, .int .i64 tp, .int .i64 lf, .int .i64 bt, .int .i64 rt, .slice wa lw wc, .slice ba lb bc, .int .i64 sm, .int .i64 ss, .int .i64 um, .int .i64 us, .int .i64 z, .int .i64 p, .int .i64 lo, .int .i64 hi], 48)]) := SR.out.call hb5
          have O5 : Hid (Own .i64 2 w5 W.heap.size v2 (suL k kh kw sh sw tp lf bt rt h w c CN p zs bs xs (y * CN + d))) := HO.out.below hb5
          obtain ⟨tl, htl⟩ : ∃ tl, TL.length = tl := ⟨_, rfl⟩
          rw [htl] at HT5 ⊢
          clear hOT hb5 HO SR htl c1 f1 c2 f2
          go_wp2_with fail
          refine (HC2.out _ S5.out.below _ HT5.out).mono ?_
          rintro e w6 ⟨rfl, hb6⟩
          have S6 : Hid (St W w6 [(mb, #[.int .i64 h, .int .i64 w, .int .i64 c, .int .i64 0, .int .i64 0, .slice (some ⟨g, 0, none⟩) 1 1, .int .i64 0], 26), (g, #[.int .i64 k, .int .i64 0, .int .i64 b, .int .i64 m, .int .i64 kh, .int .i64 kw, .int .i64 sh, .int .i64 sw, .int .i64 tp, .int .i64 lf, .int .i64 bt, .int .i64 rt, .slice wa lw wc, .slice ba lb bc, .int .i64 sm, .int .i64 ss, .int .i64 um, .int .i64 us, .int .i64 z, .int .i64 p, .int .i64 lo, .int .i64 hi], 48)]) := S5.out.call hb6
          have O6 : Hid (Own .i64 2 w6 W.heap.size v2 (suL k kh kw sh sw tp lf bt rt h w c CN p zs bs xs (y * CN + d))) := O5.out.below hb6
          clear hb6 S5 O5 HC1 HC2
          go_wp2_with (at_builtin; refine wpList_app kt_i64 rfl (.tmp 51) (.tmp 58) rfl W.heap.size v2 (suL k kh kw sh sw tp lf bt rt h w c CN p zs bs xs (y * CN + d)) [bi + sv] rfl (O6.out.alloc _) _ _ _ rfl (row_one .i64 2 w6 (bi + sv) (mk_i64 (by omega))) (by rw [suL_len]; have := HLn.out; simp; omega) (by have := S6.out.size; simp; omega) ?_; intro v7 w7 own7 gr7 nn7; have S7 : Hid (St W w7 [(mb, #[.int .i64 h, .int .i64 w, .int .i64 c, .int .i64 0, .int .i64 0, .slice (some ⟨g, 0, none⟩) 1 1, .int .i64 0], 26), (g, #[.int .i64 k, .int .i64 0, .int .i64 b, .int .i64 m, .int .i64 kh, .int .i64 kw, .int .i64 sh, .int .i64 sw, .int .i64 tp, .int .i64 lf, .int .i64 bt, .int .i64 rt, .slice wa lw wc, .slice ba lb bc, .int .i64 sm, .int .i64 ss, .int .i64 um, .int .i64 us, .int .i64 z, .int .i64 p, .int .i64 lo, .int .i64 hi], 48)]) := (S6.out.skip (.cells #[.int .i64 (bi + sv)] 2)).grow (O6.out.alloc _) gr7 (Nat.le_refl _) (by simp); have O7 : Hid (Own .i64 2 w7 W.heap.size v7 (suL k kh kw sh sw tp lf bt rt h w c CN p zs bs xs (y * CN + d + 1))) := (by rw [HSS.out]; exact own7); clear own7 gr7 nn7 S6 O6)
          go_roundw
          case rel => exact ⟨d + 1, _, rfl, by omega, by rw [← HD.out]; go_num, O7.out, S7.out⟩
          case measure => have := HD.out; simp [intOf]; omega
        · obtain rfl : d = CN := by omega
          have Ho2 : Hid (Own .i64 2 wr W.heap.size v2 (suL k kh kw sh sw tp lf bt rt h w c d p zs bs xs ((y + 1) * d))) := by
            have e : (y + 1) * d = y * d + d := by rw [Nat.add_mul, Nat.one_mul]
            unfold Hid
            rw [e]; exact HO.out
          clear HO
          go_wp2
          go_roundw
          case rel => exact ⟨y + 1, _, rfl, by omega, by go_num, Ho2.out, SR.out⟩
          case measure => simp [intOf]; omega
    · obtain rfl : y = P := by omega
      have HO2 : Hid (Own .i64 2 wr W.heap.size v1 (suL k kh kw sh sw tp lf bt rt h w c CN p zs bs xs N)) := by rw [← HNN.out]; exact HO.out
      go_wp2
      go_ret
      exact ⟨⟨_, rfl, HO2.out⟩, SR.out.below⟩
end Go.Proofs.Ytehofmkpgopmpaa
