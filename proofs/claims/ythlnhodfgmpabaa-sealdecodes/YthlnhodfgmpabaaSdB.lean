/- The document's in of layer 16: note, numbers, counts, spans, plans. Written by tools/gen/SdB.py. -/
import Derived.Test.YthlnhodfgmpabaaSdA
import Derived.Test.YthlnhodfgmpabaaSelR
namespace Go.Proofs.Ythlnhodfgmpabaa.Sl
open Wr
open Go.ChangeShapes Go.WideShapes Go.ChangeAt Go.RowKit
set_option linter.unusedVariables false
/-- One step of a reader that keeps its first fault: where it stood, what it gave, where it stands. -/
inductive Stp {α : Type} (p : List Int → Sum (Int × Int) (α × List Int)) : Sum (Int × Int) (List Int) → α → Sum (Int × Int) (List Int) → Prop
  | stay (e : Int × Int) (v : α) : Stp p (.inl e) v (.inl e)
  | bad (r : List Int) (e : Int × Int) (v : α) : p r = .inl e → Stp p (.inr r) v (.inl e)
  | ok (r : List Int) (v : α) (rs : List Int) : p r = .inr (v, rs) → Stp p (.inr r) v (.inr rs)
theorem Stp.bind {α β : Type} {p : List Int → Sum (Int × Int) (α × List Int)} {q : α → List Int → Sum (Int × Int) (β × List Int)} {s s1 s2 : Sum (Int × Int) (List Int)} {a : α} {b : β} (h : Stp p s a s1) (k : Stp (q a) s1 b s2) : Stp (fun zs => pbind (p zs) q) s b s2 := by
  cases h with
  | stay e => cases k; exact .stay _ _
  | bad r e _ h => cases k; exact .bad _ _ _ (by simp only [pbind, h])
  | ok r _ rs h => cases k with
    | bad _ e _ k => exact .bad _ _ _ (by simp only [pbind, h, k])
    | ok _ _ rs' k => exact .ok _ _ _ (by simp only [pbind, h, k])
theorem Stp.last {α β : Type} {p : List Int → Sum (Int × Int) (α × List Int)} {s s1 : Sum (Int × Int) (List Int)} {a : α} (g : α → β) (h : Stp p s a s1) : Stp (fun zs => pbind (p zs) fun a r => .inr (g a, r)) s (g a) s1 := by
  cases h with
  | stay e => exact .stay _ _
  | bad r e _ h => exact .bad _ _ _ (by simp only [pbind, h])
  | ok r _ rs h => exact .ok _ _ _ (by simp only [pbind, h])
theorem Stp.nilI {α : Type} {p : Nat → List Int → Sum (Int × Int) (α × List Int)} (s : Sum (Int × Int) (List Int)) : Stp (pI p 0 0) s [] s := by
  match s with
  | .inl e => exact .stay _ _
  | .inr r => exact .ok _ _ _ rfl
theorem Stp.snocI {α : Type} {p : Nat → List Int → Sum (Int × Int) (α × List Int)} {n : Nat} {s s1 s2 : Sum (Int × Int) (List Int)} {a : α} {l : List α} (h : Stp (pI p n 0) s l s1) (k : Stp (p n) s1 a s2) : Stp (pI p (n + 1) 0) s (l ++ [a]) s2 := by
  rw [show pI p (n + 1) 0 = fun zs => pbind (pI p n 0 zs) fun l r => pbind (p n r) fun a r' => .inr (l ++ [a], r') from funext fun zs => by rw [pI_snoc p n 0 zs, Nat.zero_add]]
  exact h.bind (q := fun l r => pbind (p n r) fun a r' => .inr (l ++ [a], r')) (k.last (l ++ [·]))
theorem pI_more {α : Type} {p : Nat → List Int → Sum (Int × Int) (α × List Int)} {zs : List Int} {e : Int × Int} {n : Nat} (h : pI p n 0 zs = .inl e) : ∀ d, pI p (n + d) 0 zs = .inl e
  | 0 => h
  | d + 1 => by rw [← Nat.add_assoc, pI_snoc, pI_more h d]; rfl
theorem Stp.moreI {α : Type} {p : Nat → List Int → Sum (Int × Int) (α × List Int)} {n k : Nat} {s : Sum (Int × Int) (List Int)} {e : Int × Int} {l : List α} (h : Stp (pI p k 0) s l (.inl e)) (hk : k ≤ n) : Stp (pI p n 0) s l (.inl e) := by
  cases h with
  | stay e => exact .stay _ _
  | bad r e _ h =>
    obtain ⟨d, rfl⟩ := Nat.exists_eq_add_of_le hk
    exact .bad _ _ _ (pI_more h d)
/-- The document's in: a fault, or what is left. -/
def InQ (w : World) (P : Nat) (o : Int) : Sum (Int × Int) (List Int) → Prop
  | .inl x => x.1 ≠ 0 ∧ ∃ zs f, InR w P zs f o x.1 x.2
  | .inr zs => InR w P zs 0 o 0 0
theorem InQ.lt {w : World} {P : Nat} {o : Int} {s : Sum (Int × Int) (List Int)} (h : InQ w P o s) : P < w.heap.size := by
  match s, h with
  | .inl x, ⟨_, _, _, h⟩ => exact h.lt
  | .inr zs, h => exact InR.lt h
theorem InR.keep {w w' : World} {P : Nat} {zs : List Int} {f qo qe qt : Int} (h : InR w P zs f qo qe qt) (k : Below (P + 1) w w') : InR w' P zs f qo qe qt := by
  obtain ⟨a, len, cap, h2, h3, h4⟩ := h
  refine ⟨a, len, cap, (k.block _ (by omega)).trans h2, ⟨h3.1, h3.2.1, h3.2.2.1, h3.2.2.2.1, h3.2.2.2.2.1, fun x hx i hi => ?_⟩, h4⟩
  have hc := h3.2.2.2.2.2 x hx i hi
  have hb : (x.add i).block = x.block := by unfold Addr.add; split <;> rfl
  have := h4 x hx
  exact (k.cell (p := x.add i) (by omega)).trans hc
theorem InQ.keep {w w' : World} {P : Nat} {o : Int} {s : Sum (Int × Int) (List Int)} (h : InQ w P o s) (k : Below (P + 1) w w') : InQ w' P o s := by
  match s, h with
  | .inl x, ⟨hx, zs, f, h⟩ => exact ⟨hx, zs, f, InR.keep h k⟩
  | .inr zs, h => exact InR.keep h k
theorem InQ.below {w w' : World} {P : Nat} {o : Int} {s : Sum (Int × Int) (List Int)} (h : InQ w P o s) (k : Below w.heap.size w w') : InQ w' P o s := h.keep (k.mono h.lt)
theorem InQ.al {w : World} {P : Nat} {o : Int} {s : Sum (Int × Int) (List Int)} (h : InQ w P o s) (ob : Obj) : InQ (w.alloc ob) P o s := h.below (bal _ _)
set_option maxHeartbeats 4000000 in
set_option maxRecDepth 100000 in
theorem note_any (P : Nat) (zs : List Int) (f o qe qt e : Int) (w : World) (h : InR w P zs f o qe qt) :
    Calls Try.prog 30 #[(.pointer (some ⟨P, 0, none⟩)), .int .i64 e] w fun r w' => r = .returned (.tuple #[]) ∧ InR w' P zs f o (if e ≠ 0 ∧ qe = 0 then e else qe) (if e ≠ 0 ∧ qe = 0 then o else qt) ∧ Kept [P] w w' := by
  have hnb := h.noB
  have h' : Hid (InR w P zs f o qe qt) := h
  obtain ⟨a, len, cap, hB, hr, hw⟩ := h
  have hw' : Hid (∀ x, a = some x → x.block < P) := hw
  have hr' : Hid (Row w a len cap zs) := hr
  obtain ⟨cB, fB, zB⟩ := cells_at hB
  have hB' : Hid (w.heap[P]? = some (.cells #[.slice a len cap, .int .i64 f, .int .i64 (o / 4096), .int .i64 (o % 4096), .int .i64 qe, .int .i64 (qt / 4096), .int .i64 (qt % 4096)] 64 (0, 0))) := hB
  clear hB hr hw
  by_cases he : e = 0
  · subst he
    go_enter Try.func30, Try.ntmps30
    go_wp2
    go_end0
    exact ⟨rfl, by simpa using h'.out, Kept.of (Below.refl _ _)⟩
  · by_cases hq : qe = 0
    · subst hq
      rw [if_pos ⟨he, rfl⟩, if_pos ⟨he, rfl⟩]
      go_enter Try.func30, Try.ntmps30
      go_wp2
      go_region_law (fail)
      all_goals
        go_wp2
        go_end0
        exact ⟨rfl, ⟨_, _, _, set_at (set_at (set_at hB'.out)), (hr'.out.kept ((Kept.set.trans Kept.set).trans Kept.set) (by simpa using hnb)).below (Below.refl _ _).drew, hw'.out⟩, ((Kept.set.trans Kept.set).trans Kept.set).trans (Kept.of (Below.refl _ _).drew)⟩
    · rw [if_neg (fun h => hq h.2), if_neg (fun h => hq h.2)]
      go_enter Try.func30, Try.ntmps30
      go_wp2
      · rename_i hh; exact absurd (by simpa using hh.2) hq
      · go_end0
        exact ⟨rfl, h'.out, Kept.of (Below.refl _ _)⟩
/-- The first fault stays. -/
def ntE (e qe : Int) : Int := if e ≠ 0 ∧ qe = 0 then e else qe
def ntT (e qe o qt : Int) : Int := if e ≠ 0 ∧ qe = 0 then o else qt
theorem nt_0 (qe o qt : Int) : ntE 0 qe = qe ∧ ntT 0 qe o qt = qt := ⟨if_neg fun h => h.1 rfl, if_neg fun h => h.1 rfl⟩
theorem nt_q {e qe o qt : Int} (h : qe ≠ 0) : ntE e qe = qe ∧ ntT e qe o qt = qt := ⟨if_neg fun g => h g.2, if_neg fun g => h g.2⟩
theorem nt_n {e o qt : Int} (h : e ≠ 0) : ntE e 0 = e ∧ ntT e 0 o qt = o := ⟨if_pos ⟨h, rfl⟩, if_pos ⟨h, rfl⟩⟩
theorem InQ.split {w : World} {P : Nat} {o : Int} {s : Sum (Int × Int) (List Int)} (h : InQ w P o s) : ∃ zs f qe qt, InR w P zs f o qe qt ∧ ((s = .inl (qe, qt) ∧ qe ≠ 0) ∨ (s = .inr zs ∧ qe = 0 ∧ qt = 0 ∧ f = 0)) := by
  match s, h with
  | .inl x, ⟨hx, zs, f, h⟩ => exact ⟨zs, f, x.1, x.2, h, .inl ⟨rfl, hx⟩⟩
  | .inr zs, h => exact ⟨zs, 0, 0, 0, h, .inr ⟨rfl, rfl, rfl, rfl⟩⟩
theorem stp_fin {p : List Int → Sum (Int × Int) (Int × List Int)} {w' : World} {P : Nat} {zs zs' : List Int} {f o qe qt e1 e2 v : Int} {s : Sum (Int × Int) (List Int)} (hs : (s = .inl (qe, qt) ∧ qe ≠ 0) ∨ (s = .inr zs ∧ qe = 0 ∧ qt = 0 ∧ f = 0)) (hi : InR w' P zs' e1 o (ntE e2 (ntE e1 qe)) (ntT e2 (ntE e1 qe) o (ntT e1 qe o qt)))
    (h1 : f = 0 → e1 ≠ 0 → p zs = .inl (e1, o)) (h2 : f = 0 → e1 = 0 → e2 ≠ 0 → p zs = .inl (e2, o)) (h3 : f = 0 → e1 = 0 → e2 = 0 → p zs = .inr (v, zs')) : ∃ s', Stp p s v s' ∧ InQ w' P o s' := by
  rcases hs with ⟨rfl, hq⟩ | ⟨rfl, rfl, rfl, rfl⟩
  · rw [(nt_q (o := o) (qt := qt) hq).1, (nt_q (o := o) (qt := qt) hq).2, (nt_q (o := o) (qt := qt) hq).1, (nt_q (o := o) (qt := qt) hq).2] at hi
    exact ⟨_, .stay _ _, hq, _, _, hi⟩
  · by_cases c1 : e1 = 0
    · subst c1
      rw [(nt_0 0 o 0).1, (nt_0 0 o 0).2] at hi
      by_cases c2 : e2 = 0
      · subst c2
        rw [(nt_0 0 o 0).1, (nt_0 0 o 0).2] at hi
        exact ⟨_, .ok _ _ _ (h3 rfl rfl rfl), hi⟩
      · rw [(nt_n (o := o) (qt := 0) c2).1, (nt_n (o := o) (qt := 0) c2).2] at hi
        exact ⟨_, .bad _ _ _ (h2 rfl rfl c2), c2, _, _, hi⟩
    · rw [(nt_n (o := o) (qt := 0) c1).1, (nt_n (o := o) (qt := 0) c1).2, (nt_q (o := o) (qt := o) c1).1, (nt_q (o := o) (qt := o) c1).2] at hi
      exact ⟨_, .bad _ _ _ (h1 rfl c1), c1, _, _, hi⟩
set_option maxHeartbeats 1000000 in
theorem in_u (P : Nat) (zs zs' : List Int) (f o qe qt x e1 e2 v : Int) (w : World) (h : InR w P zs f o qe qt) (hx : aX (frR zs f) = x) (he : (frR zs f).2.2 = e1) (hz : aZ (frR zs f) zs = zs') (hx0 : 0 ≤ x) (hx1 : x < 18446744073709551616) (hc : (2147483647 < x ∧ e2 = 41 ∧ v = 0) ∨ (x ≤ 2147483647 ∧ e2 = 0 ∧ v = x)) :
    Calls Try.prog 66 #[(.pointer (some ⟨P, 0, none⟩))] w fun r w' => r = .returned (.int .i64 v) ∧ InR w' P zs' e1 o (ntE e2 (ntE e1 qe)) (ntT e2 (ntE e1 qe) o (ntT e1 qe o qt)) ∧ Kept [P] w w' := by
  have hu := dU_is P zs f o qe qt w h
  rw [hx, he, hz] at hu
  have Hu : Hid _ := hu
  have hl := h.lt
  clear hu h hx he hz
  go_enter Try.func66, Try.ntmps66
  go_wp2_with fail
  refine Calls.mono Hu.out ?_
  rintro r w1 ⟨rfl, i1, k1⟩
  have I1 : Hid _ := i1
  obtain ⟨a, len, cap, hB, -, -⟩ := i1
  obtain ⟨cB, fB, zB⟩ := cells_at hB
  clear hB Hu
  go_wp2_with fail
  refine (note_any P zs' e1 o qe qt e1 w1 I1.out).mono ?_
  rintro r w2 ⟨rfl, i2, k2⟩
  have I2 : Hid (InR w2 P zs' e1 o (ntE e1 qe) (ntT e1 qe o qt)) := i2
  clear i2 cB fB zB
  rcases hc with ⟨hb, rfl, rfl⟩ | ⟨hb, rfl, rfl⟩
  · go_wp2_with fail
    refine (note_any P zs' e1 o (ntE e1 qe) (ntT e1 qe o qt) 41 w2 I2.out).mono ?_
    rintro r w3 ⟨rfl, i3, k3⟩
    go_wp2
    go_ret
    exact ⟨rfl, i3, (k1.trans k2).trans k3⟩
  · have I3 : Hid (InR w2 P zs' e1 o (ntE 0 (ntE e1 qe)) (ntT 0 (ntE e1 qe) o (ntT e1 qe o qt))) := by
      unfold Hid; rw [(nt_0 (ntE e1 qe) o (ntT e1 qe o qt)).1, (nt_0 (ntE e1 qe) o (ntT e1 qe o qt)).2]; exact I2.out
    go_wp2
    go_ret
    exact ⟨rfl, I3.out, k1.trans k2⟩
theorem getR_ok {zs : List Int} (hb : Byt zs) : ((getR zs).2.2 = 0 ∧ 0 ≤ (getR zs).1 ∧ (getR zs).1 < 18446744073709551616) ∨ ((getR zs).2.2 ≠ 0 ∧ (getR zs).1 = 0) := by
  have h := frR_out hb 0
  rw [frR_0] at h
  rcases h with ⟨a, -, b, c, -⟩ | ⟨a, b, -⟩
  · exact .inl ⟨a, b, c⟩
  · exact .inr ⟨a, b⟩
theorem inU_any (P : Nat) (o : Int) (s : Sum (Int × Int) (List Int)) (w : World) (h : InQ w P o s) :
    Calls Try.prog 66 #[(.pointer (some ⟨P, 0, none⟩))] w fun r w' => ∃ v s', r = .returned (.int .i64 v) ∧ Stp (pU o) s v s' ∧ InQ w' P o s' ∧ Kept [P] w w' := by
  obtain ⟨zs, f, qe, qt, hi, hs⟩ := h.split
  have hb := hi.byt
  obtain ⟨hx0, hx1⟩ := aX_in hb f
  obtain ⟨e2, v, hc⟩ : ∃ e2 v : Int, (2147483647 < aX (frR zs f) ∧ e2 = 41 ∧ v = 0) ∨ (aX (frR zs f) ≤ 2147483647 ∧ e2 = 0 ∧ v = aX (frR zs f)) := by
    by_cases c : 2147483647 < aX (frR zs f)
    · exact ⟨_, _, .inl ⟨c, rfl, rfl⟩⟩
    · exact ⟨_, _, .inr ⟨by omega, rfl, rfl⟩⟩
  refine (in_u P zs _ f o qe qt _ _ e2 v w hi rfl rfl rfl hx0 hx1 hc).mono ?_
  rintro r w' ⟨rfl, i, k⟩
  refine Exists.elim (stp_fin (p := pU o) (v := v) hs i (fun hf he => ?_) (fun hf he h2 => ?_) (fun hf he h2 => ?_)) fun s' hh => ⟨v, s', rfl, hh.1, hh.2, k⟩
  all_goals (subst hf; rw [frR_0] at *; unfold pU)
  · rw [if_pos he]
  · rw [if_neg (by simpa using he)]
    rcases hc with ⟨c, rfl, rfl⟩ | ⟨c, rfl, rfl⟩
    · rw [show aX (getR zs) = (getR zs).1 from if_pos he] at c
      rw [if_pos c]
    · exact absurd rfl h2
  · rw [if_neg (by simpa using he)]
    rcases hc with ⟨c, rfl, rfl⟩ | ⟨c, rfl, rfl⟩
    · cases h2
    · rw [show aX (getR zs) = (getR zs).1 from if_pos he] at *
      rw [if_neg (by omega), show aZ (getR zs) zs = zs.drop (getR zs).2.1 from if_pos he]
set_option maxHeartbeats 1000000 in
theorem in_n (P : Nat) (zs zs' : List Int) (f o qe qt most e1 v : Int) (w : World) (h : InR w P zs f o qe qt) (hm0 : 0 ≤ most) (hm1 : most ≤ 1000000) (hx : aX (cut most (frR zs f)) = v) (he : (cut most (frR zs f)).2.2 = e1) (hz : aZ (cut most (frR zs f)) zs = zs') :
    Calls Try.prog 27 #[(.pointer (some ⟨P, 0, none⟩)), .int .i64 most] w fun r w' => r = .returned (.int .i64 v) ∧ InR w' P zs' e1 o (ntE e1 qe) (ntT e1 qe o qt) ∧ Kept [P] w w' := by
  have hu := dN_is P zs f o qe qt most w h (by omega) (by omega)
  rw [hx, he, hz] at hu
  have Hu : Hid _ := hu
  have hl := h.lt
  clear hu h hx he hz
  go_enter Try.func27, Try.ntmps27
  go_wp2_with fail
  refine Calls.mono Hu.out ?_
  rintro r w1 ⟨rfl, i1, k1⟩
  have I1 : Hid _ := i1
  obtain ⟨a, len, cap, hB, -, -⟩ := i1
  obtain ⟨cB, fB, zB⟩ := cells_at hB
  clear hB Hu
  go_wp2_with fail
  refine (note_any P zs' e1 o qe qt e1 w1 I1.out).mono ?_
  rintro r w2 ⟨rfl, i2, k2⟩
  have I2 : Hid (InR w2 P zs' e1 o (ntE e1 qe) (ntT e1 qe o qt)) := i2
  clear i2 cB fB zB
  go_wp2
  go_ret
  exact ⟨rfl, I2.out, k1.trans k2⟩
theorem inN_any (P : Nat) (o most : Int) (s : Sum (Int × Int) (List Int)) (w : World) (h : InQ w P o s) (hm0 : 0 ≤ most) (hm1 : most ≤ 1000000) :
    Calls Try.prog 27 #[(.pointer (some ⟨P, 0, none⟩)), .int .i64 most] w fun r w' => ∃ (v : Nat) (s' : Sum (Int × Int) (List Int)), r = .returned (.int .i64 (v : Int)) ∧ (v : Int) ≤ most ∧ Stp (pN o most) s (v : Int) s' ∧ InQ w' P o s' ∧ Kept [P] w w' := by
  obtain ⟨zs, f, qe, qt, hi, hs⟩ := h.split
  have hb := hi.byt
  have hv : 0 ≤ aX (cut most (frR zs f)) ∧ aX (cut most (frR zs f)) ≤ most := by
    have hx := aX_in hb f
    unfold cut
    split
    · exact ⟨Int.le_refl 0, hm0⟩
    · rename_i c
      refine ⟨hx.1, ?_⟩
      by_cases h0 : (frR zs f).2.2 = 0
      · have : ¬ (most < 0 ∨ most < (frR zs f).1) := fun g => c ⟨h0, g⟩
        rw [show aX (frR zs f) = (frR zs f).1 from if_pos h0]; omega
      · rw [show aX (frR zs f) = 0 from if_neg h0]; exact hm0
  obtain ⟨v, hv'⟩ : ∃ v : Nat, aX (cut most (frR zs f)) = (v : Int) := ⟨_, (Int.toNat_of_nonneg hv.1).symm⟩
  rw [hv'] at hv
  refine (in_n P zs _ f o qe qt most _ _ w hi hm0 hm1 hv' rfl rfl).mono ?_
  rintro r w' ⟨rfl, i, k⟩
  have i' := i
  rw [← (nt_0 (ntE (cut most (frR zs f)).2.2 qe) o (ntT (cut most (frR zs f)).2.2 qe o qt)).1, ← (nt_0 (ntE (cut most (frR zs f)).2.2 qe) o (ntT (cut most (frR zs f)).2.2 qe o qt)).2] at i'
  refine Exists.elim (stp_fin (p := pN o most) (v := (v : Int)) hs i' (fun hf he => ?_) (fun hf he h2 => absurd rfl h2) (fun hf he h2 => ?_)) fun s' hh => ⟨v, s', rfl, hv.2, hh.1, hh.2, k⟩
  all_goals (subst hf; rw [frR_0] at *; unfold pN)
  · rw [if_pos he]
  · rw [if_neg (by simpa using he), show aZ (cut most (getR zs)) zs = zs.drop (cut most (getR zs)).2.1 from if_pos he, ← hv', show aX (cut most (getR zs)) = (cut most (getR zs)).1 from if_pos he]
theorem s64_fin {w' : World} {P : Nat} {zs : List Int} {f o qe qt : Int} {s : Sum (Int × Int) (List Int)} (hb : Byt zs) (hs : (s = .inl (qe, qt) ∧ qe ≠ 0) ∨ (s = .inr zs ∧ qe = 0 ∧ qt = 0 ∧ f = 0)) (hi : InR w' P (aZ (frR zs f) zs) (frR zs f).2.2 o (ntE (frR zs f).2.2 qe) (ntT (frR zs f).2.2 qe o qt)) :
    ∃ s', Stp (p64 o) s (unfR (aX (frR zs f))) s' ∧ InQ w' P o s' := by
  have hi' := hi
  rw [← (nt_0 (ntE (frR zs f).2.2 qe) o (ntT (frR zs f).2.2 qe o qt)).1, ← (nt_0 (ntE (frR zs f).2.2 qe) o (ntT (frR zs f).2.2 qe o qt)).2] at hi'
  have hx := aX_in hb f
  have hy : -9223372036854775808 ≤ unfR (aX (frR zs f)) ∧ unfR (aX (frR zs f)) ≤ 9223372036854775807 := by unfold unfR; split <;> omega
  refine stp_fin (p := p64 o) (v := unfR (aX (frR zs f))) hs hi' (fun hf he => ?_) (fun hf he h2 => absurd rfl h2) (fun hf he h2 => ?_)
  all_goals (subst hf; rw [frR_0] at *; unfold p64 pS)
  · rw [if_pos he]
  · rw [if_neg (by simpa using he)]
    rw [show aX (getR zs) = (getR zs).1 from if_pos he] at *
    rw [if_neg (by omega), show aZ (getR zs) zs = zs.drop (getR zs).2.1 from if_pos he]
set_option maxHeartbeats 4000000 in
set_option maxRecDepth 100000 in
theorem inspan_any (P : Nat) (o : Int) (s0 : Sum (Int × Int) (List Int)) (w : World) (h : InQ w P o s0) :
    Calls Try.prog 28 #[(.pointer (some ⟨P, 0, none⟩))] w fun r w' => ∃ v1 v2 s', r = .returned (.agg #[.int .i64 v1, .int .i64 v2]) ∧ Stp (pSp o) s0 (v1, v2) s' ∧ InQ w' P o s' ∧ Wr.Kept [P] w w' := by
  have hlt := h.lt
  have p0 : Hid (InQ (w.alloc (.cells #[.int .i64 0, .int .i64 0] 44)) P o s0) := h.al _
  have k0 : Hid (Wr.Kept [P] w (w.alloc (.cells #[.int .i64 0, .int .i64 0] 44))) := Kept.of (bal _ _)
  have b0 : Hid ((w.alloc (.cells #[.int .i64 0, .int .i64 0] 44)).heap[w.heap.size]? = some (.cells #[.int .i64 0, .int .i64 0] 44 (0, 0))) := heap_alloc_new w _
  clear h
  obtain ⟨zs, f, qe, qt, hi, hs⟩ := p0.out.split
  have hbz : Hid (Byt zs) := hi.byt
  obtain ⟨x1, hx1⟩ : ∃ x1, unfR (aX (frR zs f)) = x1 := ⟨_, rfl⟩
  obtain ⟨e1, he1⟩ : ∃ e1, (frR zs f).2.2 = e1 := ⟨_, rfl⟩
  have hu := dS_is P zs f o qe qt _ hi
  have HS : Hid ((s0 = .inl (qe, qt) ∧ qe ≠ 0) ∨ (s0 = .inr zs ∧ qe = 0 ∧ qt = 0 ∧ f = 0)) := hs
  have HX1 : Hid (unfR (aX (frR zs f)) = x1) := hx1
  have HE1 : Hid ((frR zs f).2.2 = e1) := he1
  rw [hx1, he1] at hu
  have Hu : Hid _ := hu
  clear hu hx1 he1 hs hi p0
  go_enter Try.func28, Try.ntmps28
  go_wp2_with fail
  refine Calls.mono Hu.out ?_
  rintro r w1 ⟨rfl, i1, k1⟩
  have I1 : Hid _ := i1
  obtain ⟨a, len, cap, hB, -, -⟩ := i1
  obtain ⟨cB, fB, zB⟩ := cells_at hB
  clear hB Hu
  go_wp2_with fail
  refine (note_any P _ e1 o qe qt e1 w1 I1.out).mono ?_
  rintro r w2 ⟨rfl, i2, k2⟩
  have K2 : Hid (Wr.Kept [P] w w2) := (k0.out.trans k1).trans k2
  have b2 : Hid (w2.heap[w.heap.size]? = some (.cells #[.int .i64 0, .int .i64 0] 44 (0, 0))) := (k2.2.2.2.2 _ (by have := k1.2.2.2.1; have := lt_of_heap b0.out; omega) (by simp; omega)).trans ((k1.2.2.2.2 _ (lt_of_heap b0.out) (by simp; omega)).trans b0.out)
  refine Exists.elim (s64_fin (w' := w2) (P := P) (o := o) hbz.out HS.out (by rw [HE1.out]; exact i2)) fun s1 hh => ?_
  obtain ⟨st1, q1⟩ := hh
  rw [HX1.out] at st1
  have ST1 : Hid (Stp (p64 o) s0 x1 s1) := st1
  clear st1 i2 cB fB zB k1 k2 I1 b0 k0 HS HX1 HE1 hbz
  obtain ⟨zs2, f2, qe2, qt2, hi, hs⟩ := q1.split
  have hbz : Hid (Byt zs2) := hi.byt
  obtain ⟨x2, hx2⟩ : ∃ x2, unfR (aX (frR zs2 f2)) = x2 := ⟨_, rfl⟩
  obtain ⟨e2, he2⟩ : ∃ e2, (frR zs2 f2).2.2 = e2 := ⟨_, rfl⟩
  have hu := dS_is P zs2 f2 o qe2 qt2 _ hi
  have HS : Hid ((s1 = .inl (qe2, qt2) ∧ qe2 ≠ 0) ∨ (s1 = .inr zs2 ∧ qe2 = 0 ∧ qt2 = 0 ∧ f2 = 0)) := hs
  have HX2 : Hid (unfR (aX (frR zs2 f2)) = x2) := hx2
  have HE2 : Hid ((frR zs2 f2).2.2 = e2) := he2
  rw [hx2, he2] at hu
  have Hu : Hid _ := hu
  clear hu hx2 he2 hs hi q1
  go_wp2_with fail
  refine Calls.mono Hu.out ?_
  rintro r w3 ⟨rfl, i3, k3⟩
  have I3 : Hid _ := i3
  obtain ⟨a3, len3, cap3, hB, -, -⟩ := i3
  obtain ⟨cB, fB, zB⟩ := cells_at hB
  clear hB Hu
  go_wp2_with fail
  refine (note_any P _ e2 o qe2 qt2 e2 w3 I3.out).mono ?_
  rintro r w4 ⟨rfl, i4, k4⟩
  have K4 : Hid (Wr.Kept [P] w w4) := (K2.out.trans k3).trans k4
  have b4 : Hid (w4.heap[w.heap.size]? = some (.cells #[.int .i64 0, .int .i64 0] 44 (0, 0))) := (k4.2.2.2.2 _ (by have := k3.2.2.2.1; have := lt_of_heap b2.out; omega) (by simp; omega)).trans ((k3.2.2.2.2 _ (lt_of_heap b2.out) (by simp; omega)).trans b2.out)
  refine Exists.elim (s64_fin (w' := w4) (P := P) (o := o) hbz.out HS.out (by rw [HE2.out]; exact i4)) fun s2 hh => ?_
  obtain ⟨st2, q2⟩ := hh
  rw [HX2.out] at st2
  have hP : Hid (Stp (pSp o) s0 (x1, x2) s2) := ST1.out.bind (q := fun a r => pbind (p64 o r) fun b r' => .inr ((a, b), r')) (st2.last fun b => (x1, b))
  have q : Hid (InQ (w4.setRow w.heap.size #[.int .i64 x1, .int .i64 x2]) P o s2 ∧ Wr.Kept [P] w (w4.setRow w.heap.size #[.int .i64 x1, .int .i64 x2]) ∧ (w4.setRow w.heap.size #[.int .i64 x1, .int .i64 x2]).heap[w.heap.size]? = some (.cells #[.int .i64 x1, .int .i64 x2] 44 (0, 0))) := ⟨q2.keep (below_row hlt), kept_row K4.out (Nat.le_refl _), setRow_heap _ _ _ _ _ _ b4.out⟩
  have bn := b4.out
  clear q2 K4 b4 ST1 st2 i4 k3 k4 I3 cB fB zB HS HX2 HE2 hbz
  go_wp2_with (refine wpList_store_row rfl 44 (.tmp 2) (.tmp 29) rfl w.heap.size #[.int .i64 x1, .int .i64 x2] rfl rfl 44 _ bn (by kernel_rfl) rfl (by simp [Value.oneCell']) ?_)
  exact bodyPost_ret (results_cell_row Try.results28 _ _ w.heap.size 44 _ (0, 0) _ rfl q.out.2.2 Try.underlying44 rfl (by kernel_rfl)) rfl ⟨_, _, _, rfl, hP.out, q.out.1, q.out.2.1⟩
end Go.Proofs.Ythlnhodfgmpabaa.Sl
