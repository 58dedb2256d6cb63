/- Plain numbers of LaneSafe: whole sums beside registers, as long as all fit. -/
import Derived.Test.YtgimnoehagfhhaaLanQ
namespace Go.Proofs.Ytgimnoehagfhhaa
open Go.ChangeShapes Go.WideShapes Go.ChangeAt Go.RowKit
set_option linter.unusedVariables false
def lo2 (f : Bool) (e V : Int) : Int := xmn (if f = true then V else e) V
def hi2 (f : Bool) (e V : Int) : Int := xmx (if f = true then V else e) V
/-- What the law's whole sums (S, the part q, do all fit: b, the ends) have to do with the registers. -/
def Rl (b : Bool) (S q : Int) (s l : Ty) (r q' e0 e1 e2 e3 : Int) (f1 f2 : Bool) : Prop :=
  (b = true → s.w = 0 ∧ l.w = 0 ∧ r = S ∧ q' = q ∧ e0 = s.l ∧ e1 = s.h ∧ e2 = l.l ∧ e3 = l.h) ∧ (b = false → 1 ≤ s.w + l.w) ∧ (f1 = true ↔ s.a = 0) ∧ (f2 = true ↔ l.a = 0) ∧ 0 ≤ s.w ∧ 0 ≤ l.w ∧ 0 ≤ s.a ∧ 0 ≤ l.a
theorem Rl.start (b : Int) : Rl true b 0 Ty.z Ty.z b 0 0 0 0 0 true true :=
  ⟨fun _ => ⟨rfl, rfl, rfl, rfl, rfl, rfl, rfl, rfl⟩, (fun h => by cases h), ⟨fun _ => rfl, fun _ => rfl⟩, ⟨fun _ => rfl, fun _ => rfl⟩, Int.le_refl _, Int.le_refl _, Int.le_refl _, Int.le_refl _⟩
theorem bw_1 {N x : Int} (h : fitsN N x = false) : bw N x = 1 := by unfold bw bb; rw [h]; rfl
theorem bw_00 {N x : Int} (h : fitsN N x = true) : bw N x = 0 := by unfold bw bb; rw [h]; rfl
theorem fit_wrap {N x : Int} (h : fitsN N x = true) : wrapN N x = x := bw_wrap (bw_00 h)
theorem ad_lo {N x e : Int} {t : Ty} {f : Bool} (hf : f = true ↔ t.a = 0) (he : e = t.l) (hx : wrapN N x = x) : lo2 f e x = (t.ad N x).l := by
  unfold lo2 Ty.ad
  simp only [hx]
  by_cases h : t.a = 0
  · rw [if_pos h, if_pos (hf.2 h)]; unfold xmn; split <;> rfl
  · rw [if_neg h, if_neg (fun g => h (hf.1 g)), he]
theorem ad_hi {N x e : Int} {t : Ty} {f : Bool} (hf : f = true ↔ t.a = 0) (he : e = t.h) (hx : wrapN N x = x) : hi2 f e x = (t.ad N x).h := by
  unfold hi2 Ty.ad
  simp only [hx]
  by_cases h : t.a = 0
  · rw [if_pos h, if_pos (hf.2 h)]; unfold xmx; split <;> rfl
  · rw [if_neg h, if_neg (fun g => h (hf.1 g)), he]
/-- A product of 16 bits that is added. -/
theorem Rl.take {b : Bool} {S q : Int} {s l : Ty} {r q' e0 e1 e2 e3 : Int} {f1 f2 : Bool} (h : Rl b S q s l r q' e0 e1 e2 e3 f1 f2) (p : Int) :
    Rl (b && fitsN 32768 p && fitsN 32768 (q + p)) S (q + p) (s.ma 32768 q' p) l r (wrapN 32768 (q' + wrapN 32768 p)) (lo2 f1 e0 (q + p)) (hi2 f1 e1 (q + p)) e2 e3 false f2 := by
  obtain ⟨h1, h2, h3, h4, h5, h6, h7, h8⟩ := h
  have k1 := bw_bd 32768 p
  have k2 := bw_bd 32768 (q' + wrapN 32768 p)
  have k3 := ma_w 32768 q' p s
  have k4 : (s.ma 32768 q' p).a = s.a + 1 := rfl
  refine ⟨fun hb => ?_, fun hb => ?_, ⟨(fun g => by cases g), fun g => by omega⟩, h4, by omega, h6, by omega, h8⟩
  · simp only [Bool.and_eq_true] at hb
    obtain ⟨⟨rfl, hp⟩, hq⟩ := hb
    obtain ⟨g1, g2, rfl, rfl, g5, g6, g7, g8⟩ := h1 rfl
    have e1 := fit_wrap hp
    have e2 := fit_wrap hq
    have e3 := bw_00 hp
    have e4 := bw_00 hq
    rw [e1] at k2 k3 ⊢
    refine ⟨by omega, g2, rfl, e2, ?_, ?_, g7, g8⟩
    · have := ad_lo (N := 32768) (x := q' + p) (t := s.mu 32768 p) h3 g5 e2
      unfold Ty.ma; rw [e1]; exact this
    · have := ad_hi (N := 32768) (x := q' + p) (t := s.mu 32768 p) h3 g6 e2
      unfold Ty.ma; rw [e1]; exact this
  · cases b with
    | false => have := h2 rfl; omega
    | true =>
      obtain ⟨g1, g2, rfl, rfl, -⟩ := h1 rfl
      cases hp : fitsN 32768 p with
      | false => have := bw_1 hp; omega
      | true =>
        rw [fit_wrap hp] at k2 k3
        rw [hp] at hb
        have := bw_1 (N := 32768) (x := q' + p) (by simpa using hb)
        omega
/-- What is added to the register of 32 bits. -/
theorem Rl.spill {b : Bool} {S q : Int} {s l : Ty} {r q' e0 e1 e2 e3 : Int} {f1 f2 : Bool} (h : Rl b S q s l r q' e0 e1 e2 e3 f1 f2) :
    Rl (b && fitsN 2147483648 (S + q)) (S + q) 0 s (l.ad 2147483648 (r + q')) (wrapN 2147483648 (r + q')) 0 e0 e1 (lo2 f2 e2 (S + q)) (hi2 f2 e3 (S + q)) f1 false := by
  obtain ⟨h1, h2, h3, h4, h5, h6, h7, h8⟩ := h
  have k2 := bw_bd 2147483648 (r + q')
  have k3 := ad_w 2147483648 (r + q') l
  have k4 : (l.ad 2147483648 (r + q')).a = l.a + 1 := rfl
  refine ⟨fun hb => ?_, fun hb => ?_, h3, ⟨(fun g => by cases g), fun g => by omega⟩, h5, by omega, h7, by omega⟩
  · simp only [Bool.and_eq_true] at hb
    obtain ⟨rfl, hq⟩ := hb
    obtain ⟨g1, g2, rfl, rfl, g5, g6, g7, g8⟩ := h1 rfl
    have e2 := fit_wrap hq
    have e4 := bw_00 hq
    exact ⟨g1, by omega, e2, rfl, g5, g6, ad_lo h4 g7 e2, ad_hi h4 g8 e2⟩
  · cases b with
    | false => have := h2 rfl; omega
    | true =>
      obtain ⟨g1, g2, rfl, rfl, -⟩ := h1 rfl
      have := bw_1 (N := 2147483648) (x := r + q') (by simpa using hb)
      omega
/-- A product of 32 bits that is added: it always fits. -/
theorem Rl.take32 {b : Bool} {S : Int} {s l : Ty} {r e0 e1 e2 e3 : Int} {f1 f2 : Bool} (h : Rl b S 0 s l r 0 e0 e1 e2 e3 f1 f2) {p : Int} (hp : -4194304 ≤ p ∧ p ≤ 4194304) :
    Rl (b && fitsN 2147483648 (S + p)) (S + p) 0 s (l.ma 2147483648 r p) (wrapN 2147483648 (r + wrapN 2147483648 p)) 0 e0 e1 (lo2 f2 e2 (S + p)) (hi2 f2 e3 (S + p)) f1 false := by
  have u1 : wrapN 2147483648 p = p := wrapN_in (by omega)
  have u2 : bw 2147483648 p = 0 := bw_0.2 (by omega)
  have h' : Rl b S p s l r p e0 e1 e2 e3 f1 f2 := by
    obtain ⟨h1, h2⟩ := h
    exact ⟨fun g => by obtain ⟨g1, g2, g3, -, g4⟩ := h1 g; exact ⟨g1, g2, g3, rfl, g4⟩, h2⟩
  have := h'.spill
  unfold Ty.ma
  rw [u1]
  have u3 : l.mu 2147483648 p = ⟨l.m + 1, l.w, l.a, l.l, l.h⟩ := by unfold Ty.mu; rw [u2, Int.add_zero]
  rw [u3]
  exact this
/-- At the end. -/
theorem Rl.fin {b : Bool} {S q : Int} {s l : Ty} {r q' e0 e1 e2 e3 : Int} {f1 f2 : Bool} (h : Rl b S q s l r q' e0 e1 e2 e3 f1 f2) : decide (s.w + l.w = 0) = b ∧ (b = true → s.l = e0 ∧ s.h = e1 ∧ l.l = e2 ∧ l.h = e3) := by
  obtain ⟨h1, h2, -⟩ := h
  cases b with
  | true => obtain ⟨g1, g2, -, -, g5, g6, g7, g8⟩ := h1 rfl; exact ⟨decide_eq_true (by omega), fun _ => ⟨g5.symm, g6.symm, g7.symm, g8.symm⟩⟩
  | false => have := h2 rfl; exact ⟨decide_eq_false (by omega), fun g => by cases g⟩
end Go.Proofs.Ytgimnoehagfhhaa
