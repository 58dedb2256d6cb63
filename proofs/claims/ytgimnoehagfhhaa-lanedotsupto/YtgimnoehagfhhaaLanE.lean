/- What lane's trackOf and Dot return. -/
import Derived.Test.YtgimnoehagfhhaaLanD
namespace Go.Proofs.Ytgimnoehagfhhaa
open Go.ChangeShapes Go.WideShapes Go.ChangeAt Go.RowKit
set_option linter.unusedVariables false
/-- The Track of both. -/
def trk (s l : Ty) : Array Value := #[.int .i64 s.m, .int .i64 s.a, .int .i64 l.m, .int .i64 l.a, .int .i64 (s.w + l.w), .int .i64 s.l, .int .i64 s.h, .int .i64 l.l, .int .i64 l.h]
def tr0 : Array Value := #[.int .i64 0, .int .i64 0, .int .i64 0, .int .i64 0, .int .i64 0, .int .i64 0, .int .i64 0, .int .i64 0, .int .i64 0]
set_option maxHeartbeats 1000000 in
theorem ltr_any (s l : Ty) (W : World) (hs : s.ok BD) (hl : l.ok BD) :
    Calls Try.prog 32 #[.agg s.cs, .agg l.cs] W fun e w' => e = .returned (.agg (trk s l)) ∧ Below W.heap.size W w' := by
  obtain ⟨-, h1, -⟩ := hs
  obtain ⟨-, h2, -⟩ := hl
  obtain ⟨m, w, a, lo, hi⟩ := s
  obtain ⟨m2, w2, a2, lo2, hi2⟩ := l
  unfold BD at h1 h2
  simp only at h1 h2
  have s0 := ((St.start W).new (c := (⟨m, w, a, lo, hi⟩ : Ty).cs) (t := 67)).new (c := (⟨m2, w2, a2, lo2, hi2⟩ : Ty).cs) (t := 67) |>.new (c := trk ⟨m, w, a, lo, hi⟩ ⟨m2, w2, a2, lo2, hi2⟩) (t := 48)
  simp only [Ty.cs, trk] at s0 ⊢
  have HS : Hid (Below W.heap.size W _) := s0.below
  clear s0
  go_enter Try.func32, Try.ntmps32
  go_wp2
  exact bodyPost_ret (v := .agg #[.int .i64 m, .int .i64 a, .int .i64 m2, .int .i64 a2, .int .i64 (w + w2), .int .i64 lo, .int .i64 hi, .int .i64 lo2, .int .i64 hi2]) (by simp [results, Try.results32, go_sem]) rfl ⟨rfl, HS.out⟩
/-- Nine cells that are written. -/
theorem St.set9 {w0 w : World} {B : Nat} {t : TypeId} {l : List (Nat × Array Value × TypeId)} {a0 a1 a2 a3 a4 a5 a6 a7 a8 : Value} (v0 v1 v2 v3 v4 v5 v6 v7 v8 : Value) (h : St w0 w ((B, #[a0, a1, a2, a3, a4, a5, a6, a7, a8], t) :: l)) (hl : ∀ x ∈ l, x.1 ≠ B) :
    St w0 (((((((((w.setCell ⟨B, 0, none⟩ v0).setCell ⟨B, 1, none⟩ v1).setCell ⟨B, 2, none⟩ v2).setCell ⟨B, 3, none⟩ v3).setCell ⟨B, 4, none⟩ v4).setCell ⟨B, 5, none⟩ v5).setCell ⟨B, 6, none⟩ v6).setCell ⟨B, 7, none⟩ v7).setCell ⟨B, 8, none⟩ v8) ((B, #[v0, v1, v2, v3, v4, v5, v6, v7, v8], t) :: l) := by
  have h0 := h.set hl (i := 0) (v := v0)
  simp only [List.setIfInBounds_toArray, List.set_cons_zero] at h0
  have h1 := h0.set hl (i := 1) (v := v1)
  simp only [List.setIfInBounds_toArray, List.set_cons_zero, List.set_cons_succ] at h1
  have h2 := h1.set hl (i := 2) (v := v2)
  simp only [List.setIfInBounds_toArray, List.set_cons_zero, List.set_cons_succ] at h2
  have h3 := h2.set hl (i := 3) (v := v3)
  simp only [List.setIfInBounds_toArray, List.set_cons_zero, List.set_cons_succ] at h3
  have h4 := h3.set hl (i := 4) (v := v4)
  simp only [List.setIfInBounds_toArray, List.set_cons_zero, List.set_cons_succ] at h4
  have h5 := h4.set hl (i := 5) (v := v5)
  simp only [List.setIfInBounds_toArray, List.set_cons_zero, List.set_cons_succ] at h5
  have h6 := h5.set hl (i := 6) (v := v6)
  simp only [List.setIfInBounds_toArray, List.set_cons_zero, List.set_cons_succ] at h6
  have h7 := h6.set hl (i := 7) (v := v7)
  simp only [List.setIfInBounds_toArray, List.set_cons_zero, List.set_cons_succ] at h7
  have h8 := h7.set hl (i := 8) (v := v8)
  simp only [List.setIfInBounds_toArray, List.set_cons_zero, List.set_cons_succ] at h8
  exact h8
theorem St.down {w0 w : World} {x : Nat × Array Value × TypeId} {l : List (Nat × Array Value × TypeId)} (h : St w0 w (x :: l)) : St w0 w [x] := h.sub fun z hz => by simp only [List.mem_singleton] at hz; rw [hz]; exact List.mem_cons_self
/-- What Dot comes to. -/
def dtR (wd dp b : Int) (ps : List Int) : Ty × Ty × Int := if wd = 32 then (Ty.z, gaT 2147483648 Ty.z b ps) else elT dp.toNat 0 Ty.z Ty.z b 0 ps
set_option maxHeartbeats 1000000 in
theorem ldot_bad (wa xa : Option Addr) (n m cw cx : Nat) (wd dp bi E : Int) (W : World) (hn : n ≤ cw ∧ cw ≤ maxLen) (hm : m ≤ cx ∧ cx ≤ maxLen) (hE : rfE n m wd dp = E) (h0 : E ≠ 0) :
    Calls Try.prog 20 #[.slice wa n cw, .slice xa m cx, .int .i64 wd, .int .i64 dp, .int .i32 bi] W fun e w' => e = .returned (.tuple #[.int .i32 0, .agg tr0, .int .i64 E]) ∧ Below W.heap.size W w' := by
  have HR : Hid (∀ w, _) := fun w => lref_any n m wd dp w (by omega) E hE
  have s0 := (St.start W).new (c := #[.int .i64 0, .int .i64 0, .int .i64 0, .int .i64 0, .int .i64 0, .int .i64 0, .int .i64 0, .int .i64 0, .int .i64 0]) (t := 48)
  have HS : Hid (Below W.heap.size W _) := s0.below
  unfold maxLen at hn hm
  have h1 : (E != 0) = true := by simp [h0]
  clear s0 hE
  go_enter Try.func20, Try.ntmps20
  go_wp2_with fail
  refine (HR.out _).mono ?_
  rintro e w' ⟨rfl, rfl⟩
  go_wp2
  exact bodyPost_ret (v := .tuple #[.int .i32 0, .agg #[.int .i64 0, .int .i64 0, .int .i64 0, .int .i64 0, .int .i64 0, .int .i64 0, .int .i64 0, .int .i64 0, .int .i64 0], .int .i64 E]) (by simp [results, Try.results20, go_sem]) rfl ⟨rfl, HS.out⟩
set_option maxHeartbeats 2000000 in
theorem ldot_ok (wa xa : Option Addr) (n cw cx : Nat) (wd dp bi : Int) (zs ys : List Int) (W : World) (hN : n ≤ 140737488355328) (hw : IRow .i16 W wa n cw zs) (hx : IRow .i8 W xa n cx ys) (hE : rfE n n wd dp = 0) (hb : -2147483648 ≤ bi ∧ bi ≤ 2147483647) (F : Ty × Ty × Int) (hF : dtR wd dp bi (pz zs ys) = F) :
    Calls Try.prog 20 #[.slice wa n cw, .slice xa n cx, .int .i64 wd, .int .i64 dp, .int .i32 bi] W fun e w' => e = .returned (.tuple #[.int .i32 F.2.2, .agg (trk F.1 F.2.1), .int .i64 0]) ∧ Below W.heap.size W w' := by
  have hc1 := hw.2.1
  have hc2 := hx.2.1
  have hm1 := hw.2.2.1
  have hm2 := hx.2.2.1
  unfold maxLen at hm1 hm2
  have HR : Hid (∀ w, _) := fun w => lref_any n n wd dp w (by omega) 0 hE
  have hpl : (pz zs ys).length = n := by rw [pz_len (by rw [hw.1, hx.1])]; exact hw.1
  have s0 := (((St.start W).new (c := #[.int .i64 0, .int .i64 0, .int .i64 0, .int .i64 0, .int .i64 0, .int .i64 0, .int .i64 0, .int .i64 0, .int .i64 0]) (t := 48)).new (c := Ty.z.cs) (t := 67)).new (c := Ty.z.cs) (t := 67)
  simp only [World.size_alloc] at s0
  simp only [Ty.z, Ty.cs] at s0
  have HS : Hid (St W _ _) := s0
  have HT : Hid (F.1.ok BD ∧ F.2.1.ok BD) := by
    unfold Hid BD
    unfold dtR at hF
    by_cases h32 : wd = 32
    · rw [if_pos h32] at hF
      have := gaT_ok (N := 2147483648) (by omega) (pz zs ys) Ty.z bi 0 Ty.ok_z (by omega)
      rw [← hF]
      exact ⟨Ty.ok_z.mono (by omega), this.1.mono (by rw [hpl]; omega)⟩
    · rw [if_neg h32] at hF
      have := elT_ok (d := dp.toNat) (pz zs ys) 0 Ty.z Ty.z bi 0 0 Ty.ok_z Ty.ok_z (by omega)
      rw [← hF]
      exact ⟨this.1.mono (by rw [hpl]; omega), this.2.1.mono (by rw [hpl]; omega)⟩
  clear s0
  have hE2 : (wd = 16 ∨ wd = 32) ∧ 1 ≤ dp ∧ dp ≤ n := by
    unfold rfE at hE
    split at hE
    · cases hE
    · split at hE
      · cases hE
      · split at hE
        · cases hE
        · omega
  by_cases h32 : wd = 32
  · unfold dtR at hF
    rw [if_pos h32] at hF
    subst h32
    have HG : Hid (∀ W' B l, St W W' ((B, Ty.z.cs, 67) :: l) → (∀ x ∈ l, x.1 ≠ B) → _) := fun W' B l hs hl => lga_i32 Ty.z bi 0 wa xa n cw cx zs ys W W' B l hs hl Ty.ok_z (by omega) (by omega) hw hx _ rfl
    obtain ⟨F0, F1, F2⟩ := F
    simp only [Prod.mk.injEq] at hF
    obtain ⟨hF0, hF1⟩ := hF
    rw [hF1] at HG
    simp only at HG HT ⊢
    have HL : Hid (∀ w, _) := fun w => ltr_any F0 F1 w HT.out.1 HT.out.2
    subst hF0
    clear hF1 hE hE2 hpl hw hx
    go_enter Try.func20, Try.ntmps20
    go_wp2_with fail
    refine (HR.out _).mono ?_
    rintro e w' ⟨rfl, rfl⟩
    go_wp2_with fail
    refine (HG.out _ _ _ HS.out (by intro x hx; simp only [List.mem_cons, List.not_mem_nil, or_false] at hx; rcases hx with rfl | rfl <;> simp only <;> omega)).mono ?_
    rintro e w4 ⟨rfl, s4⟩
    clear HG HS HR HT
    obtain ⟨m, w, a, lo, hi⟩ := F1
    simp only [Ty.cs, Ty.z, trk] at s4 HL ⊢
    obtain ⟨c1, f1, z1, c2, f2, z2, c3, f3, z3, -⟩ := s4.rules
    have HS4 : Hid (St W w4 _) := s4
    clear s4
    go_wp2_with fail
    refine (HL.out _).mono ?_
    rintro e w5 ⟨rfl, hb5⟩
    have s5 := (HS4.out.call hb5).up2
    clear c1 f1 z1 c2 f2 z2 c3 f3 z3 hb5
    obtain ⟨c1, f1, z1, -⟩ := s5.rules
    have s6 := s5.down.set9 (.int .i64 0) (.int .i64 0) (.int .i64 m) (.int .i64 a) (.int .i64 w) (.int .i64 0) (.int .i64 0) (.int .i64 lo) (.int .i64 hi) (fun x hx => by cases hx)
    obtain ⟨c6, -⟩ := s6.rules
    have HS6 : Hid (Below W.heap.size W _) := s6.below
    have HC6 : Hid (∀ i, _) := c6
    clear s5 s6 c6
    go_wp2
    exact bodyPost_ret (v := .tuple #[.int .i32 F2, .agg #[.int .i64 0, .int .i64 0, .int .i64 m, .int .i64 a, .int .i64 w, .int .i64 0, .int .i64 0, .int .i64 lo, .int .i64 hi], .int .i64 0]) (by have c6 := HC6.out; simp [results, Try.results20, go_sem, c6]) rfl ⟨by simp [trk, Ty.z], HS6.out⟩
  · unfold dtR at hF
    rw [if_neg h32] at hF
    obtain rfl : wd = 16 := by omega
    obtain ⟨d, rfl⟩ : ∃ d : Nat, dp = (d : Int) := ⟨dp.toNat, by omega⟩
    rw [Int.toNat_natCast] at hF
    have HG : Hid (∀ W' B C l, B ≠ C → St W W' ((B, Ty.z.cs, 67) :: (C, Ty.z.cs, 67) :: l) → (∀ x ∈ l, x.1 ≠ B) → (∀ x ∈ l, x.1 ≠ C) → _) := fun W' B C l hbc hs hl hl2 => lsp_any d n Ty.z Ty.z bi wa xa cw cx zs ys W W' B C l hbc hs hl hl2 Ty.ok_z Ty.ok_z (by omega) (by omega) hN hw hx F hF
    obtain ⟨F0, F1, F2⟩ := F
    simp only at HG HT ⊢
    have HL : Hid (∀ w, _) := fun w => ltr_any F0 F1 w HT.out.1 HT.out.2
    have hw2 : -1000000000000000000 ≤ F0.w + F1.w ∧ F0.w + F1.w ≤ 1000000000000000000 := by
      have := HT.out
      obtain ⟨⟨-, g1, -⟩, ⟨-, g2, -⟩⟩ := this
      unfold BD at g1 g2
      omega
    clear hF hE hE2 hpl hw hx h32
    go_enter Try.func20, Try.ntmps20
    go_wp2_with fail
    refine (HR.out _).mono ?_
    rintro e w' ⟨rfl, rfl⟩
    go_wp2_with fail
    refine (HG.out _ _ _ _ (by omega) HS.out.up1 (by intro x hx; simp only [List.mem_cons, List.not_mem_nil, or_false] at hx; rcases hx with rfl; simp only; omega) (by intro x hx; simp only [List.mem_cons, List.not_mem_nil, or_false] at hx; rcases hx with rfl; simp only; omega)).mono ?_
    rintro e w4 ⟨rfl, s4⟩
    clear HG HS HR HT
    obtain ⟨m, w, a, lo, hi⟩ := F1
    obtain ⟨m0, w0, a0, lo0, hi0⟩ := F0
    simp only [Ty.cs, trk] at s4 HL hw2 ⊢
    obtain ⟨c1, f1, z1, c2, f2, z2, c3, f3, z3, -⟩ := s4.rules
    have HS4 : Hid (St W w4 _) := s4
    clear s4
    go_wp2_with fail
    refine (HL.out _).mono ?_
    rintro e w5 ⟨rfl, hb5⟩
    have s5 := (HS4.out.call hb5).up2
    clear c1 f1 z1 c2 f2 z2 c3 f3 z3 hb5
    obtain ⟨c1, f1, z1, -⟩ := s5.rules
    have s6 := s5.down.set9 (.int .i64 m0) (.int .i64 a0) (.int .i64 m) (.int .i64 a) (.int .i64 (w0 + w)) (.int .i64 lo0) (.int .i64 hi0) (.int .i64 lo) (.int .i64 hi) (fun x hx => by cases hx)
    obtain ⟨c6, -⟩ := s6.rules
    have HS6 : Hid (Below W.heap.size W _) := s6.below
    have HC6 : Hid (∀ i, _) := c6
    clear s5 s6 c6
    go_wp2
    exact bodyPost_ret (v := .tuple #[.int .i32 F2, .agg #[.int .i64 m0, .int .i64 a0, .int .i64 m, .int .i64 a, .int .i64 (w0 + w), .int .i64 lo0, .int .i64 hi0, .int .i64 lo, .int .i64 hi], .int .i64 0]) (by have c6 := HC6.out; simp [results, Try.results20, go_sem, c6]) rfl ⟨by simp [trk], HS6.out⟩
end Go.Proofs.Ytgimnoehagfhhaa
