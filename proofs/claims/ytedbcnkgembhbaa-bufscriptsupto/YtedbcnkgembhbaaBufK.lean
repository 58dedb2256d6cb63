/- From of both, in one; the walk of BufConverts. -/
import Derived.Test.YtedbcnkgembhbaaBufJ
import Derived.Deep.DeepCutAuto
namespace Go.Proofs.Ytedbcnkgembhbaa
open Go.ChangeShapes Go.WideShapes Go.ChangeAt Go.RowKit
/-- The error of From. -/
def frE (h u c : Int) (len : Nat) : Int := if vS h u c = true then (if len = (h * u * c).toNat then 0 else 70) else 50
theorem frE_no {h u c : Int} {len : Nat} (g : vS h u c = false) : frE h u c len = 50 := if_neg (by rw [g]; exact Bool.false_ne_true)
theorem frE_len {h u c : Int} {len : Nat} (g : vS h u c = true) (hl : len ≠ (h * u * c).toNat) : frE h u c len = 70 := by unfold frE; rw [if_pos g, if_neg hl]
theorem frE_ok {h u c : Int} {len : Nat} (g : vS h u c = true) (hl : len = (h * u * c).toNat) : frE h u c len = 0 := by unfold frE; rw [if_pos g, if_pos hl]
/-- What the document's From answers. -/
def DocF (w : World) (base : Nat) (h u c : Int) (len : Nat) (zs : List Int) (H U C : Int) (a : Option Addr) (n cap : Nat) : Prop :=
  frE h u c len = 0 → H = h ∧ U = u ∧ C = c ∧ n = len ∧ ∃ x, a = some ⟨x, 0, none⟩ ∧ Own .i64 2 w base (.slice a n cap) zs
theorem DocF.below {w w' : World} {base : Nat} {h u c : Int} {len : Nat} {zs : List Int} {H U C : Int} {a : Option Addr} {n cap : Nat} (d : DocF w base h u c len zs H U C a n cap) (q : Below w.heap.size w w') : DocF w' base h u c len zs H U C a n cap := fun e => by
  obtain ⟨h1, h2, h3, h4, x, h5, h6⟩ := d e
  exact ⟨h1, h2, h3, h4, x, h5, h6.below q⟩
theorem DocF.base {w : World} {b b' : Nat} {h u c : Int} {len : Nat} {zs : List Int} {H U C : Int} {a : Option Addr} {n cap : Nat} (d : DocF w b h u c len zs H U C a n cap) (q : b' ≤ b) : DocF w b' h u c len zs H U C a n cap := fun e => by
  obtain ⟨h1, h2, h3, h4, x, h5, h6⟩ := d e
  exact ⟨h1, h2, h3, h4, x, h5, h6.base q⟩
theorem DocF.set4 {w : World} {base M : Nat} {h u c : Int} {len : Nat} {zs : List Int} {H U C : Int} {a : Option Addr} {n cap : Nat} {i j k l : Nat} {p q r s : Value} (d : DocF w base h u c len zs H U C a n cap) (hM : M < base) :
    DocF ((((w.setCell ⟨M, i, none⟩ p).setCell ⟨M, j, none⟩ q).setCell ⟨M, k, none⟩ r).setCell ⟨M, l, none⟩ s) base h u c len zs H U C a n cap := fun e => by
  obtain ⟨h1, h2, h3, h4, x, rfl, h6⟩ := d e
  exact ⟨h1, h2, h3, h4, x, rfl, h6.keep (L := [M]) (((Kept.set.trans Kept.set).trans Kept.set).trans Kept.set) (by have := h6.facts.2.1; simp; omega)⟩
theorem rfrom_any (h u c : Int) (a : Option Addr) (len cap : Nat) (zs : List Int) (w : World) (hr : IRow .i64 w a len cap zs) :
    Calls Try.prog 11 #[.agg #[.int .i64 h, .int .i64 u, .int .i64 c], .slice a len cap] w fun e w' => ∃ H U C va vn vc, e = .returned (.tuple #[.agg #[.int .i64 H, .int .i64 U, .int .i64 C, .slice va vn vc], .int .i64 (frE h u c len)]) ∧ DocF w' w.heap.size h u c len zs H U C va vn vc ∧ Below w.heap.size w w' := by
  cases g : vS h u c with
  | false =>
    refine (rfrom_no h u c a len cap w g).mono ?_
    rintro e w1 ⟨rfl, b1⟩
    exact ⟨0, 0, 0, none, 0, 0, by rw [frE_no g], (fun e => by rw [frE_no g] at e; cases e), b1⟩
  | true =>
    by_cases hl : len = (h * u * c).toNat
    · refine (rfrom_ok h u c a len cap zs w g hl hr).mono ?_
      rintro e w1 ⟨x, c', rfl, own, b1⟩
      exact ⟨h, u, c, _, len, c', by rw [frE_ok g hl], fun _ => ⟨rfl, rfl, rfl, rfl, x, rfl, own⟩, b1⟩
    · refine (rfrom_len h u c a len cap w g hl).mono ?_
      rintro e w1 ⟨rfl, b1⟩
      exact ⟨0, 0, 0, none, 0, 0, by rw [frE_len g hl], (fun e => by rw [frE_len g hl] at e; cases e), b1⟩
/-- What From answers. -/
def PrgF_i8 (w : World) (base : Nat) (h u c : Int) (len : Nat) (zs : List Int) (p : Option Addr) : Prop :=
  (frE h u c len ≠ 0 ∧ p = none) ∨ (frE h u c len = 0 ∧ ∃ B b, p = some ⟨B, 0, none⟩ ∧ base ≤ B ∧ base ≤ b ∧ Bf .i8 31 81 w B b h u c zs)
theorem PrgF_i8.below {w w' : World} {base : Nat} {h u c : Int} {len : Nat} {zs : List Int} {p : Option Addr} (d : PrgF_i8 w base h u c len zs p) (q : Below w.heap.size w w') : PrgF_i8 w' base h u c len zs p := by
  rcases d with d | ⟨e, B, b, h1, h2, h3, h4⟩
  · exact .inl d
  · exact .inr ⟨e, B, b, h1, h2, h3, h4.below q⟩
theorem from_any_i8 (h u c : Int) (a : Option Addr) (len cap : Nat) (zs : List Int) (w : World) (hr : IRow .i8 w a len cap zs) :
    Calls Try.prog 10 #[.agg #[.int .i64 h, .int .i64 u, .int .i64 c], .slice a len cap] w fun e w' => ∃ p, e = .returned (.tuple #[.pointer p, .int .i64 (frE h u c len)]) ∧ PrgF_i8 w' w.heap.size h u c len zs p ∧ Below w.heap.size w w' := by
  cases g : vS h u c with
  | false =>
    refine (from_no_i8 h u c a len cap w g).mono ?_
    rintro e w1 ⟨rfl, b1⟩
    exact ⟨none, by rw [frE_no g], .inl ⟨by rw [frE_no g]; decide, rfl⟩, b1⟩
  | true =>
    by_cases hl : len = (h * u * c).toNat
    · refine (from_ok_i8 h u c a len cap zs w g hl hr).mono ?_
      rintro e w1 ⟨B, b, rfl, hB, hb, f, b1⟩
      exact ⟨_, by rw [frE_ok g hl], .inr ⟨frE_ok g hl, B, b, rfl, hB, hb, f⟩, b1⟩
    · refine (from_len_i8 h u c a len cap w g hl).mono ?_
      rintro e w1 ⟨rfl, b1⟩
      exact ⟨none, by rw [frE_len g hl], .inl ⟨by rw [frE_len g hl]; decide, rfl⟩, b1⟩
/-- What From answers. -/
def PrgF_i16 (w : World) (base : Nat) (h u c : Int) (len : Nat) (zs : List Int) (p : Option Addr) : Prop :=
  (frE h u c len ≠ 0 ∧ p = none) ∨ (frE h u c len = 0 ∧ ∃ B b, p = some ⟨B, 0, none⟩ ∧ base ≤ B ∧ base ≤ b ∧ Bf .i16 51 95 w B b h u c zs)
theorem PrgF_i16.below {w w' : World} {base : Nat} {h u c : Int} {len : Nat} {zs : List Int} {p : Option Addr} (d : PrgF_i16 w base h u c len zs p) (q : Below w.heap.size w w') : PrgF_i16 w' base h u c len zs p := by
  rcases d with d | ⟨e, B, b, h1, h2, h3, h4⟩
  · exact .inl d
  · exact .inr ⟨e, B, b, h1, h2, h3, h4.below q⟩
theorem from_any_i16 (h u c : Int) (a : Option Addr) (len cap : Nat) (zs : List Int) (w : World) (hr : IRow .i16 w a len cap zs) :
    Calls Try.prog 16 #[.agg #[.int .i64 h, .int .i64 u, .int .i64 c], .slice a len cap] w fun e w' => ∃ p, e = .returned (.tuple #[.pointer p, .int .i64 (frE h u c len)]) ∧ PrgF_i16 w' w.heap.size h u c len zs p ∧ Below w.heap.size w w' := by
  cases g : vS h u c with
  | false =>
    refine (from_no_i16 h u c a len cap w g).mono ?_
    rintro e w1 ⟨rfl, b1⟩
    exact ⟨none, by rw [frE_no g], .inl ⟨by rw [frE_no g]; decide, rfl⟩, b1⟩
  | true =>
    by_cases hl : len = (h * u * c).toNat
    · refine (from_ok_i16 h u c a len cap zs w g hl hr).mono ?_
      rintro e w1 ⟨B, b, rfl, hB, hb, f, b1⟩
      exact ⟨_, by rw [frE_ok g hl], .inr ⟨frE_ok g hl, B, b, rfl, hB, hb, f⟩, b1⟩
    · refine (from_len_i16 h u c a len cap w g hl).mono ?_
      rintro e w1 ⟨rfl, b1⟩
      exact ⟨none, by rw [frE_len g hl], .inl ⟨by rw [frE_len g hl]; decide, rfl⟩, b1⟩
theorem St.cell1 {w0 w : World} {B : Nat} {c : Array Value} {t : TypeId} {l : List (Nat × Array Value × TypeId)} (h : St w0 w ((B, c, t) :: l)) : ∀ i, w.cell? ⟨B, i, none⟩ = c[i]? := h.rules.1
theorem St.cell2 {w0 w : World} {x : Nat × Array Value × TypeId} {B : Nat} {c : Array Value} {t : TypeId} {l : List (Nat × Array Value × TypeId)} (h : St w0 w (x :: (B, c, t) :: l)) : ∀ i, w.cell? ⟨B, i, none⟩ = c[i]? := h.tail.rules.1
theorem St.two {w0 w : World} {A B : Nat} {c d : Array Value} {t u : TypeId} (_h : St w0 w [(A, c, t), (B, d, u)]) (hAB : B < A) : ∀ x ∈ [(B, d, u)], x.1 ≠ A := by
  intro x hx
  simp at hx
  subst hx
  exact Nat.ne_of_lt hAB
theorem St.set4 {w0 w : World} {B : Nat} {a b c d x y z v : Value} {t : TypeId} {l : List (Nat × Array Value × TypeId)} (h : St w0 w ((B, #[a, b, c, d], t) :: l)) (hl : ∀ x ∈ l, x.1 ≠ B) :
    St w0 ((((w.setCell ⟨B, 0, none⟩ x).setCell ⟨B, 1, none⟩ y).setCell ⟨B, 2, none⟩ z).setCell ⟨B, 3, none⟩ v) ((B, #[x, y, z, v], t) :: l) :=
  (((h.set hl (i := 0) (v := x)).set hl (i := 1) (v := y)).set hl (i := 2) (v := z)).set hl (i := 3) (v := v)
set_option maxHeartbeats 4000000 in
theorem bufConverts_walk (h u c : Int) (a1 : Option Addr) (len1 cap1 : Nat) (z1 : List Int) (w : World) (_w0_0 : (Lit.int .i64 h).wf = true) (_w0_1 : (Lit.int .i64 u).wf = true) (_w0_2 : (Lit.int .i64 c).wf = true) (w1 : IRow .i16 w a1 len1 cap1 z1) (hu : len1 ≤ 1048576) :
    Calls Try.prog 4 #[.agg #[.int .i64 h, .int .i64 u, .int .i64 c], .slice a1 len1 cap1] w fun e w' => e = .returned (.bool true) ∧ Below w.heap.size w w' := by
  clear _w0_0 _w0_1 _w0_2
  have hl : Hid (z1.length = len1) := w1.1
  have hrow : Hid (∀ w', Below w.heap.size w w' → IRow .i16 w' a1 len1 cap1 z1) := fun w' q => w1.below q
  clear w1
  go_enter Try.func4, Try.ntmps4
  go_wp2_with fail
  refine (from_any_i16 h u c a1 len1 cap1 z1 _ (hrow.out _ (bal _ _))).mono ?_
  rintro e w1 ⟨p, rfl, P1, b1⟩
  have s1 := (St.start w).new.call b1
  obtain ⟨c1, f1, z1', -⟩ := s1.rules
  have hD := s1.drew
  have P1' : Hid (PrgF_i16 w1 w.heap.size h u c len1 z1 p) := by
    rcases P1 with d | ⟨e, B, b, h1, h2, h3, h4⟩
    · exact .inl d
    · exact .inr ⟨e, B, b, h1, by simp at h2; omega, by simp at h3; omega, h4⟩
  have s1' : Hid (St w w1 [(w.heap.size, #[Value.int .i64 h, .int .i64 u, .int .i64 c], 23)]) := s1
  clear b1 s1 P1
  obtain ⟨E, hE⟩ : ∃ E, frE h u c len1 = E := ⟨_, rfl⟩
  have hE' : Hid (frE h u c len1 = E) := hE
  have hf : ∀ a cap W, IRow .i64 W a z1.length cap z1 → Hid (Calls Try.prog 11 #[.agg #[.int .i64 h, .int .i64 u, .int .i64 c], .slice a z1.length cap] W fun e w' => ∃ H U C va vn vc, e = .returned (.tuple #[.agg #[.int .i64 H, .int .i64 U, .int .i64 C, .slice va vn vc], .int .i64 E]) ∧ DocF w' W.heap.size h u c len1 z1 H U C va vn vc ∧ Below W.heap.size W w') := by
    intro a cap W r
    have := rfrom_any h u c a z1.length cap z1 W r
    rw [hl.out, hE] at this
    unfold Hid
    rw [hl.out]
    exact this
  rw [hE]
  clear hE
  go_upto_region 2 with fail
  go_cut [7, 8] from 15 to 21 (fun x7 x8 wx => ∃ (X : Nat) (H U C : Int) (va : Option Addr) (vn vc : Nat), x7 = .pointer (some ⟨X, 0, none⟩) ∧ x8 = .int .i64 E ∧ St w wx [(X, #[.int .i64 H, .int .i64 U, .int .i64 C, .slice va vn vc], 36)] ∧ DocF wx w.heap.size h u c len1 z1 H U C va vn vc ∧ Below w1.heap.size w1 wx)
  case first =>
    have hB : Below w1.heap.size w1 w1.drew := (Below.refl _ _).drew
    have hDa : St w (w1.alloc (.cells #[.int .i64 0, .int .i64 0, .int .i64 0, .slice none 0 0] 36)).drew [(w1.heap.size, #[.int .i64 0, .int .i64 0, .int .i64 0, .slice none 0 0], 36), (w.heap.size, #[Value.int .i64 h, .int .i64 u, .int .i64 c], 23)] := s1'.out.new.drew
    have hBa : Below w1.heap.size w1 (w1.alloc (.cells #[.int .i64 0, .int .i64 0, .int .i64 0, .slice none 0 0] 36)).drew := (bal _ _).drew
    go_region_held3 (fun w' => (∀ i, w'.cell? ⟨w.heap.size, i, none⟩ = #[Value.int .i64 h, .int .i64 u, .int .i64 c][i]?))
      (first | with_reducible exact hD.cell1 | with_reducible exact hDa.cell2 | with_reducible exact (hD.skip _).cell1 | with_reducible exact (hDa.set4 hM).cell2)
      (first
        | (go_at_call 17; refine (wide_i16 _ _ _ z1 _ ?_ hu).mono ?_; (first | with_reducible exact hrow.out _ hD.below | with_reducible exact hrow.out _ hDa.below); rintro e w2 ⟨v2, rfl, own2, b2⟩; (first | (replace hD := hD.call (w1 := w2) (by with_reducible exact b2); replace hB := bt (c := w2) hB (by with_reducible exact b2); clear hDa hBa) | (replace hDa := hDa.call (w1 := w2) (by with_reducible exact b2); replace hBa := bt (c := w2) hBa (by with_reducible exact b2); clear hD hB; have hzM := hDa.rules.2.2.1)); have hz2 : w1.heap.size ≤ w2.heap.size := (by first | exact hB.size | exact hBa.size); clear b2; obtain ⟨a2, cap2, rfl, row2, -⟩ := own2.row; clear own2)
        | (go_at_call 11; refine (hf _ _ _ ?_).out.mono ?_; (first | with_reducible exact row2 | with_reducible exact row2.below (bal _ _)); rintro e w3 ⟨H, U, C, va, vn, vc, rfl, D3, b3⟩; (first | (replace hD := hD.call (w1 := w3) (by with_reducible exact b3); replace hB := bt (c := w3) hB (by with_reducible exact b3)) | (replace hDa := hDa.call (w1 := w3) (by with_reducible exact b3); replace hBa := bt (c := w3) hBa (by with_reducible exact b3); obtain ⟨cM, fM, zM, -⟩ := hDa.rules; have hM := hDa.two (by omega)) | (have hDa := (hD.new (c := #[.int .i64 0, .int .i64 0, .int .i64 0, .slice none 0 0]) (t := 36)).call (w1 := w3) (by with_reducible exact b3); have hBa := bt (c := w3) (bt hB (bal _ _)) (by with_reducible exact b3); clear hD hB; obtain ⟨cM, fM, zM, -⟩ := hDa.rules; have hM := hDa.two (by omega))); clear b3))
    all_goals
      refine (show ∀ a' w', Met _ a' w' → _ from by assumption) _ _ ?_
      go_meet
      first
        | exact ⟨_, H, U, C, va, vn, vc, rfl, rfl, hD.new.sub (by simp), (D3.base (by omega)).below (bal _ _), hB.alloc hB.size _⟩
        | exact ⟨_, H, U, C, va, vn, vc, rfl, rfl, (hDa.set4 hM).sub (by simp), (D3.set4 (by first | omega | (simp; done))).base (by first | omega | (simp; omega)), set4 hBa (by omega)⟩
  case rest =>
  obtain ⟨X, H, U, C, va, vn, vc, rfl, rfl, s2, D2, b2⟩ := hcut
  have P2 := P1'.out.below b2
  obtain ⟨c2, f2, z2, -⟩ := s2.rules
  clear P1' s1' c1 f1 z1' hD hf b2
  go_wp2_with fail
  refine (fixed_is _).mono ?_
  rintro e w3 ⟨rfl, b3⟩
  have s3 := s2.call b3
  have D3 := D2.below b3
  have P3 := P2.below b3
  clear b3 s2 D2 P2 c2 f2 z2
  obtain ⟨c2, f2, z2, -⟩ := s3.rules
  rcases P3 with ⟨hne, rfl⟩ | ⟨e0, B, b, rfl, hB, hb, f3⟩
  · rw [hE'.out] at hne
    have s3' : Hid (Below w.heap.size w w3) := s3.below
    clear s3 D3 hE'
    go_wp2
    go_ret
    exact ⟨rfl, s3'.out⟩
  · obtain ⟨rfl, rfl, rfl, rfl, x, rfl, own3⟩ := D3 e0
    obtain rfl : E = 0 := by rw [← hE'.out, e0]
    clear hE' e0 D3
    have r3 := own3.facts.2.2.2.2.2.1
    clear own3
    go_wp2_with fail
    refine (is_i16 B b _ _ _ z1 _ _ _ w3 f3 r3 hu).mono ?_
    rintro e w4 ⟨rfl, b4⟩
    have s4 := s3.call b4
    have f4 := f3.below b4
    have r4 := r3.below b4
    clear b4 s3 f3 r3 c2 f2 z2
    obtain ⟨c2, f2, z2, -⟩ := s4.rules
    go_wp2_with fail
    refine (converts_is B b _ _ _ z1 _ _ _ w4 f4 r4 hu).mono ?_
    rintro e w5 ⟨rfl, b5⟩
    have s5 : Hid (Below w.heap.size w w5) := (s4.call b5).below
    clear b5 s4 f4 r4 c2 f2 z2
    go_wp2
    go_ret
    exact ⟨rfl, s5.out⟩
end Go.Proofs.Ytedbcnkgembhbaa
