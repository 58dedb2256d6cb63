/- Plain numbers of layer 20: registers, what they did, sums taken one by one and block by block. -/
import Derived.Test.YtgimnoehagfhhaaNum
namespace Go.Proofs.Ytgimnoehagfhhaa
open Go.ChangeShapes Go.WideShapes Go.ChangeAt Go.RowKit
def xmn (a b : Int) : Int := if b < a then b else a
def xmx (a b : Int) : Int := if a < b then b else a
theorem mul_bd {a b A B : Int} (ha : -A ≤ a ∧ a ≤ A) (hb : -B ≤ b ∧ b ≤ B) : -(A * B) ≤ a * b ∧ a * b ≤ A * B := by
  have hA : 0 ≤ A := by omega
  have hB : 0 ≤ B := by omega
  rcases Int.le_total 0 b with h | h
  · have h1 := Int.mul_le_mul_of_nonneg_right ha.2 h
    have h2 := Int.mul_le_mul_of_nonneg_left hb.2 hA
    have h3 := Int.mul_le_mul_of_nonneg_right ha.1 h
    rw [Int.neg_mul] at h3
    omega
  · have h1 := Int.mul_le_mul_of_nonpos_right ha.1 h
    have h2 := Int.mul_le_mul_of_nonneg_left hb.1 hA
    have h3 := Int.mul_le_mul_of_nonpos_right ha.2 h
    rw [Int.neg_mul] at h1
    rw [Int.mul_neg] at h2
    omega
/-- What wrapped: 0 or 1. -/
def bb (b : Bool) : Int := if b = true then 0 else 1
def bw (N x : Int) : Int := bb (fitsN N x)
theorem bw_bd (N x : Int) : 0 ≤ bw N x ∧ bw N x ≤ 1 := by unfold bw bb; split <;> omega
theorem bw_0 {N x : Int} : bw N x = 0 ↔ -N ≤ x ∧ x ≤ N - 1 := by unfold bw bb fitsN; simp
theorem wrapN_bd {N : Int} (h : 0 < N) (x : Int) : -N ≤ wrapN N x ∧ wrapN N x ≤ N - 1 := by
  unfold wrapN
  have h1 := Int.emod_nonneg (x + N) (show 2 * N ≠ 0 by omega)
  have h2 := Int.emod_lt_of_pos (x + N) (show 0 < 2 * N by omega)
  omega
theorem wrapN_in {N x : Int} (h : -N ≤ x ∧ x ≤ N - 1) : wrapN N x = x := by
  unfold wrapN
  rw [Int.emod_eq_of_lt (by omega) (by omega)]; omega
/-- A sum one by one. -/
def suL (N : Int) : Int → Int → List Int → Int × Int
  | r, n, [] => (r, n)
  | r, n, z :: zs => suL N (wrapN N (r + z)) (n + bw N (r + z)) zs
/-- What registers of one width did. -/
structure Ty where
  m : Int
  w : Int
  a : Int
  l : Int
  h : Int
def Ty.z : Ty := ⟨0, 0, 0, 0, 0⟩
/-- A product, a sum. -/
def Ty.mu (N : Int) (t : Ty) (p : Int) : Ty := ⟨t.m + 1, t.w + bw N p, t.a, t.l, t.h⟩
def Ty.ad (N : Int) (t : Ty) (x : Int) : Ty := ⟨t.m, t.w + bw N x, t.a + 1, if t.a = 0 then wrapN N x else xmn t.l (wrapN N x), if t.a = 0 then wrapN N x else xmx t.h (wrapN N x)⟩
/-- Counts are small. -/
def Ty.ok (n : Int) (t : Ty) : Prop := (0 ≤ t.m ∧ t.m ≤ n) ∧ (0 ≤ t.w ∧ t.w ≤ 2 * n) ∧ (0 ≤ t.a ∧ t.a ≤ n) ∧ (-2147483648 ≤ t.l ∧ t.l ≤ 2147483647) ∧ (-2147483648 ≤ t.h ∧ t.h ≤ 2147483647)
theorem xmn_bd {A B a b : Int} (h : A ≤ a ∧ a ≤ B) (g : A ≤ b ∧ b ≤ B) : A ≤ xmn a b ∧ xmn a b ≤ B := by unfold xmn; split <;> omega
theorem xmx_bd {A B a b : Int} (h : A ≤ a ∧ a ≤ B) (g : A ≤ b ∧ b ≤ B) : A ≤ xmx a b ∧ xmx a b ≤ B := by unfold xmx; split <;> omega
theorem Ty.ad_sum {N : Int} (hN : 0 < N ∧ N ≤ 2147483648) {t : Ty} {x : Int} (h1 : -2147483648 ≤ t.l ∧ t.l ≤ 2147483647) (h2 : -2147483648 ≤ t.h ∧ t.h ≤ 2147483647) : (-2147483648 ≤ (t.ad N x).l ∧ (t.ad N x).l ≤ 2147483647) ∧ (-2147483648 ≤ (t.ad N x).h ∧ (t.ad N x).h ≤ 2147483647) := by
  have h3 := wrapN_bd hN.1 x
  have h4 := xmn_bd h1 (b := wrapN N x) (by omega)
  have h5 := xmx_bd h2 (b := wrapN N x) (by omega)
  unfold Ty.ad
  simp only
  constructor
  · split <;> omega
  · split <;> omega
/-- A product that is added. -/
def Ty.ma (N : Int) (t : Ty) (r p : Int) : Ty := (t.mu N p).ad N (r + wrapN N p)
theorem Ty.ok.ma {N n : Int} {t : Ty} (h : t.ok n) (hN : 0 < N ∧ N ≤ 2147483648) (r p : Int) : (t.ma N r p).ok (n + 1) := by
  obtain ⟨h1, h2, h3, h4, h5⟩ := h
  obtain ⟨g1, g2⟩ := Ty.ad_sum hN (t := t.mu N p) (x := r + wrapN N p) h4 h5
  have b1 := bw_bd N p
  have b2 := bw_bd N (r + wrapN N p)
  refine ⟨?_, ?_, ?_, g1, g2⟩
  · show 0 ≤ t.m + 1 ∧ t.m + 1 ≤ n + 1
    omega
  · show 0 ≤ t.w + bw N p + bw N (r + wrapN N p) ∧ _ ≤ _
    simp only [Ty.ma, Ty.mu, Ty.ad]
    omega
  · show 0 ≤ t.a + 1 ∧ t.a + 1 ≤ n + 1
    omega
theorem Ty.ok.ad {N n : Int} {t : Ty} (h : t.ok n) (hN : 0 < N ∧ N ≤ 2147483648) (x : Int) : (t.ad N x).ok (n + 1) := by
  obtain ⟨h1, h2, h3, h4, h5⟩ := h
  obtain ⟨g1, g2⟩ := Ty.ad_sum hN (t := t) (x := x) h4 h5
  have b2 := bw_bd N x
  refine ⟨?_, ?_, ?_, g1, g2⟩
  · show 0 ≤ t.m ∧ t.m ≤ n + 1
    omega
  · show 0 ≤ t.w + bw N x ∧ t.w + bw N x ≤ 2 * (n + 1)
    omega
  · show 0 ≤ t.a + 1 ∧ t.a + 1 ≤ n + 1
    omega
theorem Ty.ok.mono {n k : Int} {t : Ty} (h : t.ok n) (g : n ≤ k) : t.ok k := by
  obtain ⟨h1, h2, h3, h4, h5⟩ := h
  exact ⟨by omega, by omega, by omega, h4, h5⟩
theorem Ty.ok_z : Ty.z.ok 0 := by unfold Ty.ok Ty.z; simp only; omega
/-- A register that products are added to one by one. -/
def gaT (N : Int) : Ty → Int → List Int → Ty × Int
  | t, r, [] => (t, r)
  | t, r, p :: ps => gaT N (t.ma N r p) (wrapN N (r + wrapN N p)) ps
theorem gaT_ok {N : Int} (hN : 0 < N ∧ N ≤ 2147483648) : ∀ (ps : List Int) (t : Ty) (r n : Int), t.ok n → (-N ≤ r ∧ r ≤ N - 1) → (gaT N t r ps).1.ok (n + ps.length) ∧ (-N ≤ (gaT N t r ps).2 ∧ (gaT N t r ps).2 ≤ N - 1)
  | [], t, r, n, h, hr => ⟨by simpa [gaT] using h, hr⟩
  | p :: ps, t, r, n, h, hr => by
    have := gaT_ok hN ps (t.ma N r p) (wrapN N (r + wrapN N p)) (n + 1) (h.ma hN r p) (wrapN_bd hN.1 _)
    refine ⟨?_, this.2⟩
    have h1 := this.1
    rw [show n + 1 + (ps.length : Int) = n + ((p :: ps).length : Int) by simp only [List.length_cons]; omega] at h1
    exact h1
/-- Both registers, term by term; j terms of the block are done. -/
def elT (d : Nat) : Nat → Ty → Ty → Int → Int → List Int → Ty × Ty × Int
  | _, s, l, r, _, [] => (s, l, r)
  | j, s, l, r, q, p :: ps =>
    if j + 1 = d ∨ ps = [] then elT d 0 (s.ma 32768 q p) (l.ad 2147483648 (r + wrapN 32768 (q + wrapN 32768 p))) (wrapN 2147483648 (r + wrapN 32768 (q + wrapN 32768 p))) 0 ps
    else elT d (j + 1) (s.ma 32768 q p) l r (wrapN 32768 (q + wrapN 32768 p)) ps
theorem elT_block (d : Nat) : ∀ (ps : List Int) (j : Nat) (s l : Ty) (r q : Int), j < d → ps ≠ [] →
    elT d j s l r q ps = elT d 0 (gaT 32768 s q (ps.take (d - j))).1 (l.ad 2147483648 (r + (gaT 32768 s q (ps.take (d - j))).2)) (wrapN 2147483648 (r + (gaT 32768 s q (ps.take (d - j))).2)) 0 (ps.drop (d - j))
  | [], _, _, _, _, _, _, h => absurd rfl h
  | p :: ps, j, s, l, r, q, hj, _ => by
    by_cases h : j + 1 = d ∨ ps = []
    · have e : (p :: ps).take (d - j) = [p] ∧ (p :: ps).drop (d - j) = ps := by
        rcases h with h | h
        · rw [show d - j = 1 by omega]; exact ⟨rfl, rfl⟩
        · subst h
          obtain ⟨k, hk⟩ : ∃ k, d - j = k + 1 := ⟨d - j - 1, by omega⟩
          rw [hk]; simp
      rw [elT, if_pos h, e.1, e.2]
      rfl
    · have h' : ¬ j + 1 = d := fun e => h (.inl e)
      have h2 : ps ≠ [] := fun e => h (.inr e)
      rw [elT, if_neg h, elT_block d ps (j + 1) _ _ _ _ (by omega) h2]
      obtain ⟨k, hk⟩ : ∃ k, d - j = k + 1 := ⟨d - j - 1, by omega⟩
      rw [hk, show d - (j + 1) = k by omega, List.take_succ_cons, List.drop_succ_cons]
      rfl
theorem elT_spill {d : Nat} (hd : 0 < d) {ps : List Int} (h : ps ≠ []) (s l : Ty) (r : Int) :
    elT d 0 s l r 0 ps = elT d 0 (gaT 32768 s 0 (ps.take d)).1 (l.ad 2147483648 (r + (gaT 32768 s 0 (ps.take d)).2)) (wrapN 2147483648 (r + (gaT 32768 s 0 (ps.take d)).2)) 0 (ps.drop d) :=
  elT_block d ps 0 s l r 0 hd h
theorem elT_ok {d : Nat} : ∀ (ps : List Int) (j : Nat) (s l : Ty) (r q n : Int), s.ok n → l.ok n → (-2147483648 ≤ r ∧ r ≤ 2147483647) → (elT d j s l r q ps).1.ok (n + ps.length) ∧ (elT d j s l r q ps).2.1.ok (n + ps.length) ∧ (-2147483648 ≤ (elT d j s l r q ps).2.2 ∧ (elT d j s l r q ps).2.2 ≤ 2147483647)
  | [], j, s, l, r, q, n, hs, hl, hr => ⟨by simpa [elT] using hs, by simpa [elT] using hl, hr⟩
  | p :: ps, j, s, l, r, q, n, hs, hl, hr => by
    rw [show n + ((p :: ps).length : Int) = n + 1 + (ps.length : Int) by simp only [List.length_cons]; omega]
    rw [elT]
    split
    · exact elT_ok ps 0 _ _ _ _ (n + 1) (hs.ma (by omega) _ _) (hl.ad (by omega) _) (by have := wrapN_bd (N := 2147483648) (by omega) (r + wrapN 32768 (q + wrapN 32768 p)); omega)
    · exact elT_ok ps (j + 1) _ _ _ _ (n + 1) (hs.ma (by omega) _ _) (hl.mono (by omega)) hr
end Go.Proofs.Ytgimnoehagfhhaa
