/- Plain numbers of LaneWhole: what registers come to, up to a multiple; where nothing wraps. -/
import Derived.Test.YtgimnoehagfhhaaLanE
namespace Go.Proofs.Ytgimnoehagfhhaa
open Go.ChangeShapes Go.WideShapes Go.ChangeAt Go.RowKit
set_option linter.unusedVariables false
/-- A whole sum. -/
def smI : Int → List Int → Int
  | s, [] => s
  | s, p :: ps => smI (s + p) ps
theorem wrapN_dvd (N x : Int) : (2 * N) ∣ x - wrapN N x := by
  unfold wrapN
  have h := Int.emod_add_mul_ediv (x + N) (2 * N)
  exact ⟨(x + N) / (2 * N), by omega⟩
theorem dvd_3 {m a b c : Int} (h1 : m ∣ a) (h2 : m ∣ b) (h3 : m ∣ c) : m ∣ a + b + c := Int.dvd_add (Int.dvd_add h1 h2) h3
theorem gaT_dvd {N : Int} : ∀ (ps : List Int) (t : Ty) (r S : Int), (2 * N) ∣ S - r → (2 * N) ∣ smI S ps - (gaT N t r ps).2
  | [], _, _, _, h => h
  | p :: ps, t, r, S, h => by
    refine gaT_dvd ps _ _ (S + p) ?_
    have := dvd_3 h (wrapN_dvd N p) (wrapN_dvd N (r + wrapN N p))
    rw [show S + p - wrapN N (r + wrapN N p) = S - r + (p - wrapN N p) + (r + wrapN N p - wrapN N (r + wrapN N p)) by omega]
    exact this
theorem elT_dvd {d : Nat} : ∀ (ps : List Int) (j : Nat) (s l : Ty) (r q S : Int), (65536 : Int) ∣ S - (r + q) → (ps ≠ [] ∨ q = 0) → (65536 : Int) ∣ smI S ps - (elT d j s l r q ps).2.2
  | [], j, s, l, r, q, S, h, g => by
    have hq : q = 0 := g.elim (fun e => absurd rfl e) id
    rw [hq, Int.add_zero] at h
    exact h
  | p :: ps, j, s, l, r, q, S, h, _ => by
    have h1 := wrapN_dvd 32768 p
    have h2 := wrapN_dvd 32768 (q + wrapN 32768 p)
    have h3 := wrapN_dvd 2147483648 (r + wrapN 32768 (q + wrapN 32768 p))
    have h4 : (65536 : Int) ∣ r + wrapN 32768 (q + wrapN 32768 p) - wrapN 2147483648 (r + wrapN 32768 (q + wrapN 32768 p)) := Int.dvd_trans ⟨65536, by omega⟩ h3
    rw [elT]
    split
    · refine elT_dvd ps 0 _ _ _ 0 (S + p) ?_ (.inr rfl)
      have := Int.dvd_add (dvd_3 h h1 h2) h4
      rw [show S + p - (wrapN 2147483648 (r + wrapN 32768 (q + wrapN 32768 p)) + 0) = S - (r + q) + (p - wrapN 32768 p) + (q + wrapN 32768 p - wrapN 32768 (q + wrapN 32768 p)) + (r + wrapN 32768 (q + wrapN 32768 p) - wrapN 2147483648 (r + wrapN 32768 (q + wrapN 32768 p))) by omega]
      exact this
    · rename_i hn
      refine elT_dvd ps (j + 1) _ _ r _ (S + p) ?_ (.inl fun e => hn (.inr e))
      have := dvd_3 h h1 h2
      rw [show S + p - (r + wrapN 32768 (q + wrapN 32768 p)) = S - (r + q) + (p - wrapN 32768 p) + (q + wrapN 32768 p - wrapN 32768 (q + wrapN 32768 p)) by omega]
      exact this
/-! ### Wraps are counted -/
theorem ma_w (N r p : Int) (t : Ty) : (t.ma N r p).w = t.w + bw N p + bw N (r + wrapN N p) := rfl
theorem ad_w (N x : Int) (t : Ty) : (t.ad N x).w = t.w + bw N x := rfl
theorem bw_wrap {N x : Int} (h : bw N x = 0) : wrapN N x = x := wrapN_in (bw_0.1 h)
theorem gaT_w {N : Int} : ∀ (ps : List Int) (t : Ty) (r : Int), t.w ≤ (gaT N t r ps).1.w ∧ ((gaT N t r ps).1.w = t.w → (gaT N t r ps).2 = smI r ps)
  | [], _, _ => ⟨Int.le_refl _, fun _ => rfl⟩
  | p :: ps, t, r => by
    have h := gaT_w (N := N) ps (t.ma N r p) (wrapN N (r + wrapN N p))
    have h1 := bw_bd N p
    have h2 := bw_bd N (r + wrapN N p)
    have h3 := ma_w N r p t
    simp only [gaT]
    refine ⟨by omega, fun e => ?_⟩
    have e1 := bw_wrap (show bw N p = 0 by omega)
    have e2 := bw_wrap (show bw N (r + wrapN N p) = 0 by omega)
    rw [h.2 (by omega), e2, e1]
    rfl
theorem elT_w {d : Nat} : ∀ (ps : List Int) (j : Nat) (s l : Ty) (r q : Int), s.w ≤ (elT d j s l r q ps).1.w ∧ l.w ≤ (elT d j s l r q ps).2.1.w ∧ ((ps ≠ [] ∨ q = 0) → (elT d j s l r q ps).1.w = s.w → (elT d j s l r q ps).2.1.w = l.w → (elT d j s l r q ps).2.2 = smI (r + q) ps)
  | [], j, s, l, r, q => ⟨Int.le_refl _, Int.le_refl _, fun h _ _ => by
      have hq : q = 0 := h.elim (fun e => absurd rfl e) id
      rw [hq, Int.add_zero]; rfl⟩
  | p :: ps, j, s, l, r, q => by
    have h1 := bw_bd 32768 p
    have h2 := bw_bd 32768 (q + wrapN 32768 p)
    have h3 := ma_w 32768 q p s
    have h4 := bw_bd 2147483648 (r + wrapN 32768 (q + wrapN 32768 p))
    have h5 := ad_w 2147483648 (r + wrapN 32768 (q + wrapN 32768 p)) l
    rw [elT]
    split
    · have h := elT_w (d := d) ps 0 (s.ma 32768 q p) (l.ad 2147483648 (r + wrapN 32768 (q + wrapN 32768 p))) (wrapN 2147483648 (r + wrapN 32768 (q + wrapN 32768 p))) 0
      refine ⟨by omega, by omega, fun _ e g => ?_⟩
      have e1 := bw_wrap (show bw 32768 p = 0 by omega)
      have e2 := bw_wrap (show bw 32768 (q + wrapN 32768 p) = 0 by omega)
      have e3 := bw_wrap (show bw 2147483648 (r + wrapN 32768 (q + wrapN 32768 p)) = 0 by omega)
      rw [h.2.2 (.inr rfl) (by omega) (by omega), e3, e2, e1]
      show smI (r + (q + p) + 0) ps = smI (r + q + p) ps
      rw [Int.add_zero, Int.add_assoc]
    · rename_i hn
      have h := elT_w (d := d) ps (j + 1) (s.ma 32768 q p) l r (wrapN 32768 (q + wrapN 32768 p))
      refine ⟨by omega, h.2.1, fun _ e g => ?_⟩
      have e1 := bw_wrap (show bw 32768 p = 0 by omega)
      have e2 := bw_wrap (show bw 32768 (q + wrapN 32768 p) = 0 by omega)
      rw [h.2.2 (.inl fun e => hn (.inr e)) (by omega) (by omega), e2, e1]
      show smI (r + (q + p)) ps = smI (r + q + p) ps
      rw [Int.add_assoc]
/-- No more wraps than sums and products. -/
def Ty.few (t : Ty) : Prop := t.w ≤ t.m + t.a
theorem Ty.few.ma {N : Int} {t : Ty} (h : t.few) (r p : Int) : (t.ma N r p).few := by
  have h1 := bw_bd N p
  have h2 := bw_bd N (r + wrapN N p)
  unfold Ty.few at *
  show t.w + bw N p + bw N (r + wrapN N p) ≤ t.m + 1 + (t.a + 1)
  omega
theorem Ty.few.ad {N : Int} {t : Ty} (h : t.few) (x : Int) : (t.ad N x).few := by
  have h1 := bw_bd N x
  unfold Ty.few at *
  show t.w + bw N x ≤ t.m + (t.a + 1)
  omega
theorem Ty.few_z : Ty.z.few := by unfold Ty.few Ty.z; simp
theorem gaT_few {N : Int} : ∀ (ps : List Int) (t : Ty) (r : Int), t.few → (gaT N t r ps).1.few
  | [], _, _, h => h
  | p :: ps, t, r, h => gaT_few ps _ _ (h.ma r p)
theorem elT_few {d : Nat} : ∀ (ps : List Int) (j : Nat) (s l : Ty) (r q : Int), s.few → l.few → (elT d j s l r q ps).1.few ∧ (elT d j s l r q ps).2.1.few
  | [], _, _, _, _, _, h, g => ⟨h, g⟩
  | p :: ps, j, s, l, r, q, h, g => by
    rw [elT]
    split
    · exact elT_few ps 0 _ _ _ _ (h.ma q p) (g.ad _)
    · exact elT_few ps _ _ _ _ _ (h.ma q p) g
/-- What LaneWhole asks. -/
theorem dtR_whole {n : Nat} {wd dp bi : Int} (ps : List Int) (hE : rfE n n wd dp = 0) (hb : -2147483648 ≤ bi ∧ bi ≤ 2147483647) :
    (wd = 32 → (smI bi ps - (dtR wd dp bi ps).2.2).tmod 4294967296 = 0) ∧ (wd ≠ 32 → (smI bi ps - (dtR wd dp bi ps).2.2).tmod 65536 = 0) ∧
    ((dtR wd dp bi ps).1.w + (dtR wd dp bi ps).2.1.w = 0 → smI bi ps = (dtR wd dp bi ps).2.2) ∧ 0 ≤ (dtR wd dp bi ps).1.w + (dtR wd dp bi ps).2.1.w ∧
    (dtR wd dp bi ps).1.w + (dtR wd dp bi ps).2.1.w ≤ (dtR wd dp bi ps).1.m + (dtR wd dp bi ps).1.a + (dtR wd dp bi ps).2.1.m + (dtR wd dp bi ps).2.1.a := by
  unfold dtR
  by_cases h : wd = 32
  · rw [if_pos h]
    have h1 := gaT_dvd (N := 2147483648) ps Ty.z bi bi ⟨0, by omega⟩
    have h2 := gaT_w (N := 2147483648) ps Ty.z bi
    have h3 := gaT_few (N := 2147483648) ps Ty.z bi Ty.few_z
    unfold Ty.few at h3
    have hz : Ty.z.w = 0 ∧ Ty.z.m = 0 ∧ Ty.z.a = 0 := ⟨rfl, rfl, rfl⟩
    simp only
    refine ⟨fun _ => Int.tmod_eq_zero_of_dvd h1, fun g => absurd h g, fun e => ?_, by omega, by omega⟩
    rw [h2.2 (by omega)]
  · rw [if_neg h]
    have h1 := elT_dvd (d := dp.toNat) ps 0 Ty.z Ty.z bi 0 bi ⟨0, by omega⟩ (.inr rfl)
    have h2 := elT_w (d := dp.toNat) ps 0 Ty.z Ty.z bi 0
    have h3 := elT_few (d := dp.toNat) ps 0 Ty.z Ty.z bi 0 Ty.few_z Ty.few_z
    unfold Ty.few at h3
    have hz : Ty.z.w = 0 ∧ Ty.z.m = 0 ∧ Ty.z.a = 0 := ⟨rfl, rfl, rfl⟩
    refine ⟨fun g => absurd g h, fun _ => Int.tmod_eq_zero_of_dvd h1, fun e => ?_, by omega, by omega⟩
    rw [h2.2.2 (.inr rfl) (by omega) (by omega), Int.add_zero]
end Go.Proofs.Ytgimnoehagfhhaa
