/- The document's In: note, and the numbers up to 2^31 - 1, counts, numbers with a sign. The document's In: scales and windows. Written by tools/gen/PdC.py. The writer of package pack: numbers put behind its bytes. The writer of package pack: windows, lists, ops. The writer of package pack: an op. -/
import Derived.Test.YthagdpiocmcbmaaGreatGr02
import Derived.Laws.Tables
import Derived.Deep.RegionHeld3
import Derived.Deep.RegionLawGrows
/- The document's In: note, and the numbers up to 2^31 - 1, counts, numbers with a sign. -/
namespace Go.Proofs.YthagdpiocmcbmaaGreat
open Wr
open Go.ChangeShapes Go.WideShapes Go.ChangeAt Go.RowKit
set_option linter.unusedVariables false
/-- One step of a reader that keeps its first fault: where it stood, what it gave, where it stands. -/
inductive Stp {α : Type} (p : List Int → Sum (Int × Int) (α × List Int)) : Sum (Int × Int) (List Int) → α → Sum (Int × Int) (List Int) → Prop
  | stay (e : Int × Int) (v : α) : Stp p (.inl e) v (.inl e)
  | bad (r : List Int) (e : Int × Int) (v : α) : p r = .inl e → Stp p (.inr r) v (.inl e)
  | ok (r : List Int) (v : α) (rs : List Int) : p r = .inr (v, rs) → Stp p (.inr r) v (.inr rs)
theorem Stp.bind {α β : Type} {p : List Int → Sum (Int × Int) (α × List Int)} {q : α → List Int → Sum (Int × Int) (β × List Int)} {s s1 s2 : Sum (Int × Int) (List Int)} {a : α} {b : β} (h : Stp p s a s1) (k : Stp (q a) s1 b s2) : Stp (fun zs => pbind (p zs) q) s b s2 := by
  cases h with
  | stay e => cases k; exact .stay _ _
  | bad r e _ h => cases k; exact .bad _ _ _ (by simp only [pbind, h])
  | ok r _ rs h => cases k with
    | bad _ e _ k => exact .bad _ _ _ (by simp only [pbind, h, k])
    | ok _ _ rs' k => exact .ok _ _ _ (by simp only [pbind, h, k])
theorem Stp.last {α β : Type} {p : List Int → Sum (Int × Int) (α × List Int)} {s s1 : Sum (Int × Int) (List Int)} {a : α} (g : α → β) (h : Stp p s a s1) : Stp (fun zs => pbind (p zs) fun a r => .inr (g a, r)) s (g a) s1 := by
  cases h with
  | stay e => exact .stay _ _
  | bad r e _ h => exact .bad _ _ _ (by simp only [pbind, h])
  | ok r _ rs h => exact .ok _ _ _ (by simp only [pbind, h])
theorem Stp.nil {p : List Int → Sum (Int × Int) (Int × List Int)} (s : Sum (Int × Int) (List Int)) : Stp (pL p 0) s [] s := by
  match s with
  | .inl e => exact .stay _ _
  | .inr r => exact .ok _ _ _ rfl
theorem Stp.cons {p : List Int → Sum (Int × Int) (Int × List Int)} {n : Nat} {s s1 s2 : Sum (Int × Int) (List Int)} {a : Int} {l : List Int} (h : Stp p s a s1) (k : Stp (pL p n) s1 l s2) : Stp (pL p (n + 1)) s (a :: l) s2 := h.bind (q := fun a r => pbind (pL p n r) fun l r' => .inr (a :: l, r')) (k.last (a :: ·))
theorem pL_snoc (p : List Int → Sum (Int × Int) (Int × List Int)) : ∀ (n : Nat) (zs : List Int), pL p (n + 1) zs = pbind (pL p n zs) fun l r => pbind (p r) fun a r' => .inr (l ++ [a], r')
  | 0, zs => by
    simp only [pL, pbind]
    match p zs with
    | .inl e => rfl
    | .inr (a, r) => rfl
  | n + 1, zs => by
    rw [pL, show pL p (n + 1) zs = pbind (p zs) fun a r => pbind (pL p n r) fun l r' => .inr (a :: l, r') from rfl]
    match p zs with
    | .inl e => rfl
    | .inr (a, r) =>
      simp only [pbind_r]
      rw [pL_snoc p n r]
      match pL p n r with
      | .inl e => rfl
      | .inr (l, r') =>
        simp only [pbind_r]
        match p r' with
        | .inl e => rfl
        | .inr (c, r'') => rfl
theorem Stp.snoc {p : List Int → Sum (Int × Int) (Int × List Int)} {n : Nat} {s s1 s2 : Sum (Int × Int) (List Int)} {a : Int} {l : List Int} (h : Stp (pL p n) s l s1) (k : Stp p s1 a s2) : Stp (pL p (n + 1)) s (l ++ [a]) s2 := by
  rw [show pL p (n + 1) = fun zs => pbind (pL p n zs) fun l r => pbind (p r) fun a r' => .inr (l ++ [a], r') from funext (pL_snoc p n)]
  exact h.bind (q := fun l r => pbind (p r) fun a r' => .inr (l ++ [a], r')) (k.last (l ++ [·]))
theorem pL_more {p : List Int → Sum (Int × Int) (Int × List Int)} {zs : List Int} {e : Int × Int} {n : Nat} (h : pL p n zs = .inl e) : ∀ d, pL p (n + d) zs = .inl e
  | 0 => h
  | d + 1 => by rw [← Nat.add_assoc, pL_snoc, pL_more h d]; rfl
/-- A fault within a list is the longer list's. -/
theorem Stp.more {p : List Int → Sum (Int × Int) (Int × List Int)} {n k : Nat} {s : Sum (Int × Int) (List Int)} {e : Int × Int} {l : List Int} (h : Stp (pL p k) s l (.inl e)) (hk : k ≤ n) : Stp (pL p n) s l (.inl e) := by
  cases h with
  | stay e => exact .stay _ _
  | bad r e _ h =>
    obtain ⟨d, rfl⟩ := Nat.exists_eq_add_of_le hk
    exact .bad _ _ _ (pL_more h d)
/-- The document's In: a fault, or what is left. -/
def InQ (w : World) (P : Nat) (o : Int) : Sum (Int × Int) (List Int) → Prop
  | .inl x => x.1 ≠ 0 ∧ ∃ zs f, InR w P zs f o x.1 x.2
  | .inr zs => InR w P zs 0 o 0 0
theorem InQ.lt {w : World} {P : Nat} {o : Int} {s : Sum (Int × Int) (List Int)} (h : InQ w P o s) : P < w.heap.size := by
  match s, h with
  | .inl x, ⟨_, _, _, h⟩ => exact h.lt
  | .inr zs, h => exact InR.lt h
theorem InR.keep {w w' : World} {P : Nat} {zs : List Int} {f qo qe qt : Int} (h : InR w P zs f qo qe qt) (k : Below (P + 1) w w') : InR w' P zs f qo qe qt := by
  obtain ⟨a, len, cap, h2, h3, h4⟩ := h
  refine ⟨a, len, cap, (k.block _ (by omega)).trans h2, ⟨h3.1, h3.2.1, h3.2.2.1, h3.2.2.2.1, h3.2.2.2.2.1, fun x hx i hi => ?_⟩, h4⟩
  have hc := h3.2.2.2.2.2 x hx i hi
  have hb : (x.add i).block = x.block := by unfold Addr.add; split <;> rfl
  have := h4 x hx
  exact (k.cell (p := x.add i) (by omega)).trans hc
theorem InQ.keep {w w' : World} {P : Nat} {o : Int} {s : Sum (Int × Int) (List Int)} (h : InQ w P o s) (k : Below (P + 1) w w') : InQ w' P o s := by
  match s, h with
  | .inl x, ⟨hx, zs, f, h⟩ => exact ⟨hx, zs, f, InR.keep h k⟩
  | .inr zs, h => exact InR.keep h k
theorem InQ.below {w w' : World} {P : Nat} {o : Int} {s : Sum (Int × Int) (List Int)} (h : InQ w P o s) (k : Below w.heap.size w w') : InQ w' P o s := h.keep (k.mono h.lt)
theorem InQ.al {w : World} {P : Nat} {o : Int} {s : Sum (Int × Int) (List Int)} (h : InQ w P o s) (ob : Obj) : InQ (w.alloc ob) P o s := h.below (bal _ _)
set_option maxHeartbeats 1000000 in
theorem note_any (P : Nat) (zs : List Int) (f o qe qt e : Int) (w : World) (h : InR w P zs f o qe qt) :
    Calls Tryz.prog 17 #[(.pointer (some ⟨P, 0, none⟩)), .int .i64 e] w fun r w' => r = .returned (.tuple #[]) ∧ InR w' P zs f o (if e ≠ 0 ∧ qe = 0 then e else qe) (if e ≠ 0 ∧ qe = 0 then o else qt) ∧ Kept [P] w w' := by
  have hnb := h.noB
  have h' : Hid (InR w P zs f o qe qt) := h
  obtain ⟨a, len, cap, hB, hr, hw⟩ := h
  have hw' : Hid (∀ x, a = some x → x.block < P) := hw
  have hr' : Hid (Row w a len cap zs) := hr
  obtain ⟨cB, fB, zB⟩ := cells_at hB
  have hB' : Hid (w.heap[P]? = some (.cells #[.slice a len cap, .int .i64 f, .int .i64 o, .int .i64 qe, .int .i64 qt, .int .i64 0] 45 (0, 0))) := hB
  clear hB hr hw
  by_cases he : e = 0
  · subst he
    go_enter Tryz.func17, Tryz.ntmps17
    go_wp2
    go_end0
    exact ⟨rfl, by simpa using h'.out, Kept.of (Below.refl _ _)⟩
  · by_cases hq : qe = 0
    · subst hq
      rw [if_pos ⟨he, rfl⟩, if_pos ⟨he, rfl⟩]
      go_enter Tryz.func17, Tryz.ntmps17
      go_wp2
      go_end0
      exact ⟨rfl, ⟨_, _, _, set_at (set_at (set_at hB'.out)), hr'.out.kept ((Kept.set.trans Kept.set).trans Kept.set) (by simpa using hnb), hw'.out⟩, (Kept.set.trans Kept.set).trans Kept.set⟩
    · rw [if_neg (fun h => hq h.2), if_neg (fun h => hq h.2)]
      go_enter Tryz.func17, Tryz.ntmps17
      go_wp2
      · rename_i hh; exact absurd (by simpa using hh.2) hq
      · go_end0
        exact ⟨rfl, h'.out, Kept.of (Below.refl _ _)⟩
theorem fits_16 (z : Int) (b : Bool) (hb : b = true ↔ (-32768) ≤ z ∧ z ≤ 32767) (w : World) : Calls Tryz.prog 32 #[.int .i64 16, .int .i64 z] w fun e w' => e = .returned (.bool b) ∧ w' = w := by
  by_cases h1 : (-32768) ≤ z
  · have E : Hid (decide (z < 32767 + 1) = b) := by
      unfold Hid; rw [Bool.eq_iff_iff, hb, decide_eq_true_eq]; omega
    simp only [Int.reduceAdd] at E
    clear hb
    go_enter Tryz.func32, Tryz.ntmps32
    go_wp2
    go_ret
    exact ⟨congrArg (fun c => Ending.returned (.bool c)) E.out, rfl⟩
  · have E : Hid (false = b) := by
      unfold Hid; rw [eq_comm, Bool.eq_false_iff, ne_eq, hb]; omega
    clear hb
    go_enter Tryz.func32, Tryz.ntmps32
    go_wp2
    go_ret
    exact ⟨congrArg (fun c => Ending.returned (.bool c)) E.out, rfl⟩
theorem fits_32 (z : Int) (b : Bool) (hb : b = true ↔ (-2147483648) ≤ z ∧ z ≤ 2147483647) (w : World) : Calls Tryz.prog 32 #[.int .i64 32, .int .i64 z] w fun e w' => e = .returned (.bool b) ∧ w' = w := by
  by_cases h1 : (-2147483648) ≤ z
  · have E : Hid (decide (z < 2147483647 + 1) = b) := by
      unfold Hid; rw [Bool.eq_iff_iff, hb, decide_eq_true_eq]; omega
    simp only [Int.reduceAdd] at E
    clear hb
    go_enter Tryz.func32, Tryz.ntmps32
    go_wp2
    go_ret
    exact ⟨congrArg (fun c => Ending.returned (.bool c)) E.out, rfl⟩
  · have E : Hid (false = b) := by
      unfold Hid; rw [eq_comm, Bool.eq_false_iff, ne_eq, hb]; omega
    clear hb
    go_enter Tryz.func32, Tryz.ntmps32
    go_wp2
    go_ret
    exact ⟨congrArg (fun c => Ending.returned (.bool c)) E.out, rfl⟩
/-- The first fault stays. -/
def ntE (e qe : Int) : Int := if e ≠ 0 ∧ qe = 0 then e else qe
def ntT (e qe o qt : Int) : Int := if e ≠ 0 ∧ qe = 0 then o else qt
theorem nt_0 (qe o qt : Int) : ntE 0 qe = qe ∧ ntT 0 qe o qt = qt := ⟨if_neg fun h => h.1 rfl, if_neg fun h => h.1 rfl⟩
theorem nt_q {e qe o qt : Int} (h : qe ≠ 0) : ntE e qe = qe ∧ ntT e qe o qt = qt := ⟨if_neg fun g => h g.2, if_neg fun g => h g.2⟩
theorem nt_n {e o qt : Int} (h : e ≠ 0) : ntE e 0 = e ∧ ntT e 0 o qt = o := ⟨if_pos ⟨h, rfl⟩, if_pos ⟨h, rfl⟩⟩
theorem InQ.split {w : World} {P : Nat} {o : Int} {s : Sum (Int × Int) (List Int)} (h : InQ w P o s) : ∃ zs f qe qt, InR w P zs f o qe qt ∧ ((s = .inl (qe, qt) ∧ qe ≠ 0) ∨ (s = .inr zs ∧ qe = 0 ∧ qt = 0 ∧ f = 0)) := by
  match s, h with
  | .inl x, ⟨hx, zs, f, h⟩ => exact ⟨zs, f, x.1, x.2, h, .inl ⟨rfl, hx⟩⟩
  | .inr zs, h => exact ⟨zs, 0, 0, 0, h, .inr ⟨rfl, rfl, rfl, rfl⟩⟩
theorem stp_fin {p : List Int → Sum (Int × Int) (Int × List Int)} {w' : World} {P : Nat} {zs zs' : List Int} {f o qe qt e1 e2 v : Int} {s : Sum (Int × Int) (List Int)} (hs : (s = .inl (qe, qt) ∧ qe ≠ 0) ∨ (s = .inr zs ∧ qe = 0 ∧ qt = 0 ∧ f = 0)) (hi : InR w' P zs' e1 o (ntE e2 (ntE e1 qe)) (ntT e2 (ntE e1 qe) o (ntT e1 qe o qt)))
    (h1 : f = 0 → e1 ≠ 0 → p zs = .inl (e1, o)) (h2 : f = 0 → e1 = 0 → e2 ≠ 0 → p zs = .inl (e2, o)) (h3 : f = 0 → e1 = 0 → e2 = 0 → p zs = .inr (v, zs')) : ∃ s', Stp p s v s' ∧ InQ w' P o s' := by
  rcases hs with ⟨rfl, hq⟩ | ⟨rfl, rfl, rfl, rfl⟩
  · rw [(nt_q (o := o) (qt := qt) hq).1, (nt_q (o := o) (qt := qt) hq).2, (nt_q (o := o) (qt := qt) hq).1, (nt_q (o := o) (qt := qt) hq).2] at hi
    exact ⟨_, .stay _ _, hq, _, _, hi⟩
  · by_cases c1 : e1 = 0
    · subst c1
      rw [(nt_0 0 o 0).1, (nt_0 0 o 0).2] at hi
      by_cases c2 : e2 = 0
      · subst c2
        rw [(nt_0 0 o 0).1, (nt_0 0 o 0).2] at hi
        exact ⟨_, .ok _ _ _ (h3 rfl rfl rfl), hi⟩
      · rw [(nt_n (o := o) (qt := 0) c2).1, (nt_n (o := o) (qt := 0) c2).2] at hi
        exact ⟨_, .bad _ _ _ (h2 rfl rfl c2), c2, _, _, hi⟩
    · rw [(nt_n (o := o) (qt := 0) c1).1, (nt_n (o := o) (qt := 0) c1).2, (nt_q (o := o) (qt := o) c1).1, (nt_q (o := o) (qt := o) c1).2] at hi
      exact ⟨_, .bad _ _ _ (h1 rfl c1), c1, _, _, hi⟩
set_option maxHeartbeats 1000000 in
theorem in_u (P : Nat) (zs zs' : List Int) (f o qe qt x e1 e2 v : Int) (w : World) (h : InR w P zs f o qe qt) (hx : aX (frR zs f) = x) (he : (frR zs f).2.2 = e1) (hz : aZ (frR zs f) zs = zs') (hx0 : 0 ≤ x) (hx1 : x < 18446744073709551616) (hc : (2147483647 < x ∧ e2 = 41 ∧ v = 0) ∨ (x ≤ 2147483647 ∧ e2 = 0 ∧ v = x)) :
    Calls Tryz.prog 13 #[(.pointer (some ⟨P, 0, none⟩))] w fun r w' => r = .returned (.int .i64 v) ∧ InR w' P zs' e1 o (ntE e2 (ntE e1 qe)) (ntT e2 (ntE e1 qe) o (ntT e1 qe o qt)) ∧ Kept [P] w w' := by
  have hu := dU_is P zs f o qe qt w h
  rw [hx, he, hz] at hu
  have Hu : Hid _ := hu
  have hl := h.lt
  clear hu h hx he hz
  go_enter Tryz.func13, Tryz.ntmps13
  go_wp2_with fail
  refine Calls.mono Hu.out ?_
  rintro r w1 ⟨rfl, i1, k1⟩
  have I1 : Hid _ := i1
  obtain ⟨a, len, cap, hB, -, -⟩ := i1
  obtain ⟨cB, fB, zB⟩ := cells_at hB
  clear hB Hu
  go_wp2_with fail
  refine (note_any P zs' e1 o qe qt e1 w1 I1.out).mono ?_
  rintro r w2 ⟨rfl, i2, k2⟩
  have I2 : Hid (InR w2 P zs' e1 o (ntE e1 qe) (ntT e1 qe o qt)) := i2
  clear i2 cB fB zB
  rcases hc with ⟨hb, rfl, rfl⟩ | ⟨hb, rfl, rfl⟩
  · go_wp2_with fail
    refine (note_any P zs' e1 o (ntE e1 qe) (ntT e1 qe o qt) 41 w2 I2.out).mono ?_
    rintro r w3 ⟨rfl, i3, k3⟩
    go_wp2
    go_ret
    exact ⟨rfl, i3, (k1.trans k2).trans k3⟩
  · have I3 : Hid (InR w2 P zs' e1 o (ntE 0 (ntE e1 qe)) (ntT 0 (ntE e1 qe) o (ntT e1 qe o qt))) := by
      unfold Hid; rw [(nt_0 (ntE e1 qe) o (ntT e1 qe o qt)).1, (nt_0 (ntE e1 qe) o (ntT e1 qe o qt)).2]; exact I2.out
    go_wp2
    go_ret
    exact ⟨rfl, I3.out, k1.trans k2⟩
theorem getR_ok {zs : List Int} (hb : Byt zs) : ((getR zs).2.2 = 0 ∧ 0 ≤ (getR zs).1 ∧ (getR zs).1 < 18446744073709551616) ∨ ((getR zs).2.2 ≠ 0 ∧ (getR zs).1 = 0) := by
  have h := frR_out hb 0
  rw [frR_0] at h
  rcases h with ⟨a, -, b, c, -⟩ | ⟨a, b, -⟩
  · exact .inl ⟨a, b, c⟩
  · exact .inr ⟨a, b⟩
theorem inU_any (P : Nat) (o : Int) (s : Sum (Int × Int) (List Int)) (w : World) (h : InQ w P o s) :
    Calls Tryz.prog 13 #[(.pointer (some ⟨P, 0, none⟩))] w fun r w' => ∃ v s', r = .returned (.int .i64 v) ∧ Stp (pU o) s v s' ∧ InQ w' P o s' ∧ Kept [P] w w' := by
  obtain ⟨zs, f, qe, qt, hi, hs⟩ := h.split
  have hb := hi.byt
  obtain ⟨hx0, hx1⟩ := aX_in hb f
  obtain ⟨e2, v, hc⟩ : ∃ e2 v : Int, (2147483647 < aX (frR zs f) ∧ e2 = 41 ∧ v = 0) ∨ (aX (frR zs f) ≤ 2147483647 ∧ e2 = 0 ∧ v = aX (frR zs f)) := by
    by_cases c : 2147483647 < aX (frR zs f)
    · exact ⟨_, _, .inl ⟨c, rfl, rfl⟩⟩
    · exact ⟨_, _, .inr ⟨by omega, rfl, rfl⟩⟩
  refine (in_u P zs _ f o qe qt _ _ e2 v w hi rfl rfl rfl hx0 hx1 hc).mono ?_
  rintro r w' ⟨rfl, i, k⟩
  refine Exists.elim (stp_fin (p := pU o) (v := v) hs i (fun hf he => ?_) (fun hf he h2 => ?_) (fun hf he h2 => ?_)) fun s' hh => ⟨v, s', rfl, hh.1, hh.2, k⟩
  all_goals (subst hf; rw [frR_0] at *; unfold pU)
  · rw [if_pos he]
  · rw [if_neg (by simpa using he)]
    rcases hc with ⟨c, rfl, rfl⟩ | ⟨c, rfl, rfl⟩
    · rw [show aX (getR zs) = (getR zs).1 from if_pos he] at c
      rw [if_pos c]
    · exact absurd rfl h2
  · rw [if_neg (by simpa using he)]
    rcases hc with ⟨c, rfl, rfl⟩ | ⟨c, rfl, rfl⟩
    · cases h2
    · rw [show aX (getR zs) = (getR zs).1 from if_pos he] at *
      rw [if_neg (by omega), show aZ (getR zs) zs = zs.drop (getR zs).2.1 from if_pos he]
set_option maxHeartbeats 1000000 in
theorem in_s16 (P : Nat) (zs zs' : List Int) (f o qe qt x e1 e2 v : Int) (w : World) (h : InR w P zs f o qe qt) (hx : unfR (aX (frR zs f)) = x) (he : (frR zs f).2.2 = e1) (hz : aZ (frR zs f) zs = zs') (hc : (¬ ((-32768) ≤ x ∧ x ≤ 32767) ∧ e2 = 41 ∧ v = 0) ∨ (((-32768) ≤ x ∧ x ≤ 32767) ∧ e2 = 0 ∧ v = x)) :
    Calls Tryz.prog 14 #[(.pointer (some ⟨P, 0, none⟩)), .int .i64 16] w fun r w' => r = .returned (.int .i64 v) ∧ InR w' P zs' e1 o (ntE e2 (ntE e1 qe)) (ntT e2 (ntE e1 qe) o (ntT e1 qe o qt)) ∧ Kept [P] w w' := by
  have hu := dS_is P zs f o qe qt w h
  rw [hx, he, hz] at hu
  have Hu : Hid _ := hu
  have hl := h.lt
  clear hu h hx he hz
  go_enter Tryz.func14, Tryz.ntmps14
  go_wp2_with fail
  refine Calls.mono Hu.out ?_
  rintro r w1 ⟨rfl, i1, k1⟩
  have I1 : Hid _ := i1
  obtain ⟨a, len, cap, hB, -, -⟩ := i1
  obtain ⟨cB, fB, zB⟩ := cells_at hB
  clear hB Hu
  go_wp2_with fail
  refine (note_any P zs' e1 o qe qt e1 w1 I1.out).mono ?_
  rintro r w2 ⟨rfl, i2, k2⟩
  have I2 : Hid (InR w2 P zs' e1 o (ntE e1 qe) (ntT e1 qe o qt)) := i2
  clear i2 cB fB zB
  rcases hc with ⟨hb, rfl, rfl⟩ | ⟨hb, rfl, rfl⟩
  · go_wp2_with fail
    refine (fits_16 x false (by simpa using hb) w2).mono ?_
    rintro r w3 ⟨rfl, rfl⟩
    go_wp2_with fail
    refine (note_any P zs' e1 o (ntE e1 qe) (ntT e1 qe o qt) 41 w3 I2.out).mono ?_
    rintro r w4 ⟨rfl, i3, k3⟩
    go_wp2
    go_ret
    exact ⟨rfl, i3, (k1.trans k2).trans k3⟩
  · have I3 : Hid (InR w2 P zs' e1 o (ntE 0 (ntE e1 qe)) (ntT 0 (ntE e1 qe) o (ntT e1 qe o qt))) := by
      unfold Hid; rw [(nt_0 (ntE e1 qe) o (ntT e1 qe o qt)).1, (nt_0 (ntE e1 qe) o (ntT e1 qe o qt)).2]; exact I2.out
    go_wp2_with fail
    refine (fits_16 v true (by simpa using hb) w2).mono ?_
    rintro r w3 ⟨rfl, rfl⟩
    go_wp2
    go_ret
    exact ⟨rfl, I3.out, k1.trans k2⟩
theorem inS16_any (P : Nat) (o : Int) (s : Sum (Int × Int) (List Int)) (w : World) (h : InQ w P o s) :
    Calls Tryz.prog 14 #[(.pointer (some ⟨P, 0, none⟩)), .int .i64 16] w fun r w' => ∃ v s', r = .returned (.int .i64 v) ∧ ((-32768) ≤ v ∧ v ≤ 32767) ∧ Stp (p16 o) s v s' ∧ InQ w' P o s' ∧ Kept [P] w w' := by
  obtain ⟨zs, f, qe, qt, hi, hs⟩ := h.split
  have hb := hi.byt
  obtain ⟨e2, v, hc⟩ : ∃ e2 v : Int, (¬ ((-32768) ≤ unfR (aX (frR zs f)) ∧ unfR (aX (frR zs f)) ≤ 32767) ∧ e2 = 41 ∧ v = 0) ∨ (((-32768) ≤ unfR (aX (frR zs f)) ∧ unfR (aX (frR zs f)) ≤ 32767) ∧ e2 = 0 ∧ v = unfR (aX (frR zs f))) := by
    by_cases c : (-32768) ≤ unfR (aX (frR zs f)) ∧ unfR (aX (frR zs f)) ≤ 32767
    · exact ⟨_, _, .inr ⟨c, rfl, rfl⟩⟩
    · exact ⟨_, _, .inl ⟨c, rfl, rfl⟩⟩
  have hv : (-32768) ≤ v ∧ v ≤ 32767 := by rcases hc with ⟨_, _, rfl⟩ | ⟨h, _, rfl⟩; omega; exact h
  refine (in_s16 P zs _ f o qe qt _ _ e2 v w hi rfl rfl rfl hc).mono ?_
  rintro r w' ⟨rfl, i, k⟩
  refine Exists.elim (stp_fin (p := p16 o) (v := v) hs i (fun hf he => ?_) (fun hf he h2 => ?_) (fun hf he h2 => ?_)) fun s' hh => ⟨v, s', rfl, hv, hh.1, hh.2, k⟩
  all_goals (subst hf; rw [frR_0] at *; unfold p16 pS)
  · rw [if_pos he]
  · rw [if_neg (by simpa using he)]
    rcases hc with ⟨c, rfl, rfl⟩ | ⟨c, rfl, rfl⟩
    · rw [show aX (getR zs) = (getR zs).1 from if_pos he] at c
      rw [if_pos (by omega)]
    · exact absurd rfl h2
  · rw [if_neg (by simpa using he)]
    rcases hc with ⟨c, rfl, rfl⟩ | ⟨c, rfl, rfl⟩
    · cases h2
    · rw [show aX (getR zs) = (getR zs).1 from if_pos he] at *
      rw [if_neg (by omega), show aZ (getR zs) zs = zs.drop (getR zs).2.1 from if_pos he]
set_option maxHeartbeats 1000000 in
theorem in_s32 (P : Nat) (zs zs' : List Int) (f o qe qt x e1 e2 v : Int) (w : World) (h : InR w P zs f o qe qt) (hx : unfR (aX (frR zs f)) = x) (he : (frR zs f).2.2 = e1) (hz : aZ (frR zs f) zs = zs') (hc : (¬ ((-2147483648) ≤ x ∧ x ≤ 2147483647) ∧ e2 = 41 ∧ v = 0) ∨ (((-2147483648) ≤ x ∧ x ≤ 2147483647) ∧ e2 = 0 ∧ v = x)) :
    Calls Tryz.prog 14 #[(.pointer (some ⟨P, 0, none⟩)), .int .i64 32] w fun r w' => r = .returned (.int .i64 v) ∧ InR w' P zs' e1 o (ntE e2 (ntE e1 qe)) (ntT e2 (ntE e1 qe) o (ntT e1 qe o qt)) ∧ Kept [P] w w' := by
  have hu := dS_is P zs f o qe qt w h
  rw [hx, he, hz] at hu
  have Hu : Hid _ := hu
  have hl := h.lt
  clear hu h hx he hz
  go_enter Tryz.func14, Tryz.ntmps14
  go_wp2_with fail
  refine Calls.mono Hu.out ?_
  rintro r w1 ⟨rfl, i1, k1⟩
  have I1 : Hid _ := i1
  obtain ⟨a, len, cap, hB, -, -⟩ := i1
  obtain ⟨cB, fB, zB⟩ := cells_at hB
  clear hB Hu
  go_wp2_with fail
  refine (note_any P zs' e1 o qe qt e1 w1 I1.out).mono ?_
  rintro r w2 ⟨rfl, i2, k2⟩
  have I2 : Hid (InR w2 P zs' e1 o (ntE e1 qe) (ntT e1 qe o qt)) := i2
  clear i2 cB fB zB
  rcases hc with ⟨hb, rfl, rfl⟩ | ⟨hb, rfl, rfl⟩
  · go_wp2_with fail
    refine (fits_32 x false (by simpa using hb) w2).mono ?_
    rintro r w3 ⟨rfl, rfl⟩
    go_wp2_with fail
    refine (note_any P zs' e1 o (ntE e1 qe) (ntT e1 qe o qt) 41 w3 I2.out).mono ?_
    rintro r w4 ⟨rfl, i3, k3⟩
    go_wp2
    go_ret
    exact ⟨rfl, i3, (k1.trans k2).trans k3⟩
  · have I3 : Hid (InR w2 P zs' e1 o (ntE 0 (ntE e1 qe)) (ntT 0 (ntE e1 qe) o (ntT e1 qe o qt))) := by
      unfold Hid; rw [(nt_0 (ntE e1 qe) o (ntT e1 qe o qt)).1, (nt_0 (ntE e1 qe) o (ntT e1 qe o qt)).2]; exact I2.out
    go_wp2_with fail
    refine (fits_32 v true (by simpa using hb) w2).mono ?_
    rintro r w3 ⟨rfl, rfl⟩
    go_wp2
    go_ret
    exact ⟨rfl, I3.out, k1.trans k2⟩
theorem inS32_any (P : Nat) (o : Int) (s : Sum (Int × Int) (List Int)) (w : World) (h : InQ w P o s) :
    Calls Tryz.prog 14 #[(.pointer (some ⟨P, 0, none⟩)), .int .i64 32] w fun r w' => ∃ v s', r = .returned (.int .i64 v) ∧ ((-2147483648) ≤ v ∧ v ≤ 2147483647) ∧ Stp (p32 o) s v s' ∧ InQ w' P o s' ∧ Kept [P] w w' := by
  obtain ⟨zs, f, qe, qt, hi, hs⟩ := h.split
  have hb := hi.byt
  obtain ⟨e2, v, hc⟩ : ∃ e2 v : Int, (¬ ((-2147483648) ≤ unfR (aX (frR zs f)) ∧ unfR (aX (frR zs f)) ≤ 2147483647) ∧ e2 = 41 ∧ v = 0) ∨ (((-2147483648) ≤ unfR (aX (frR zs f)) ∧ unfR (aX (frR zs f)) ≤ 2147483647) ∧ e2 = 0 ∧ v = unfR (aX (frR zs f))) := by
    by_cases c : (-2147483648) ≤ unfR (aX (frR zs f)) ∧ unfR (aX (frR zs f)) ≤ 2147483647
    · exact ⟨_, _, .inr ⟨c, rfl, rfl⟩⟩
    · exact ⟨_, _, .inl ⟨c, rfl, rfl⟩⟩
  have hv : (-2147483648) ≤ v ∧ v ≤ 2147483647 := by rcases hc with ⟨_, _, rfl⟩ | ⟨h, _, rfl⟩; omega; exact h
  refine (in_s32 P zs _ f o qe qt _ _ e2 v w hi rfl rfl rfl hc).mono ?_
  rintro r w' ⟨rfl, i, k⟩
  refine Exists.elim (stp_fin (p := p32 o) (v := v) hs i (fun hf he => ?_) (fun hf he h2 => ?_) (fun hf he h2 => ?_)) fun s' hh => ⟨v, s', rfl, hv, hh.1, hh.2, k⟩
  all_goals (subst hf; rw [frR_0] at *; unfold p32 pS)
  · rw [if_pos he]
  · rw [if_neg (by simpa using he)]
    rcases hc with ⟨c, rfl, rfl⟩ | ⟨c, rfl, rfl⟩
    · rw [show aX (getR zs) = (getR zs).1 from if_pos he] at c
      rw [if_pos (by omega)]
    · exact absurd rfl h2
  · rw [if_neg (by simpa using he)]
    rcases hc with ⟨c, rfl, rfl⟩ | ⟨c, rfl, rfl⟩
    · cases h2
    · rw [show aX (getR zs) = (getR zs).1 from if_pos he] at *
      rw [if_neg (by omega), show aZ (getR zs) zs = zs.drop (getR zs).2.1 from if_pos he]
set_option maxHeartbeats 1000000 in
theorem in_n (P : Nat) (zs zs' : List Int) (f o qe qt most e1 v : Int) (w : World) (h : InR w P zs f o qe qt) (hm0 : 0 ≤ most) (hm1 : most ≤ 1000000) (hx : aX (cut most (frR zs f)) = v) (he : (cut most (frR zs f)).2.2 = e1) (hz : aZ (cut most (frR zs f)) zs = zs') :
    Calls Tryz.prog 15 #[(.pointer (some ⟨P, 0, none⟩)), .int .i64 most] w fun r w' => r = .returned (.int .i64 v) ∧ InR w' P zs' e1 o (ntE e1 qe) (ntT e1 qe o qt) ∧ Kept [P] w w' := by
  have hu := dN_is P zs f o qe qt most w h (by omega) (by omega)
  rw [hx, he, hz] at hu
  have Hu : Hid _ := hu
  have hl := h.lt
  clear hu h hx he hz
  go_enter Tryz.func15, Tryz.ntmps15
  go_wp2_with fail
  refine Calls.mono Hu.out ?_
  rintro r w1 ⟨rfl, i1, k1⟩
  have I1 : Hid _ := i1
  obtain ⟨a, len, cap, hB, -, -⟩ := i1
  obtain ⟨cB, fB, zB⟩ := cells_at hB
  clear hB Hu
  go_wp2_with fail
  refine (note_any P zs' e1 o qe qt e1 w1 I1.out).mono ?_
  rintro r w2 ⟨rfl, i2, k2⟩
  have I2 : Hid (InR w2 P zs' e1 o (ntE e1 qe) (ntT e1 qe o qt)) := i2
  clear i2 cB fB zB
  go_wp2
  go_ret
  exact ⟨rfl, I2.out, k1.trans k2⟩
theorem inN_any (P : Nat) (o most : Int) (s : Sum (Int × Int) (List Int)) (w : World) (h : InQ w P o s) (hm0 : 0 ≤ most) (hm1 : most ≤ 1000000) :
    Calls Tryz.prog 15 #[(.pointer (some ⟨P, 0, none⟩)), .int .i64 most] w fun r w' => ∃ (v : Nat) (s' : Sum (Int × Int) (List Int)), r = .returned (.int .i64 (v : Int)) ∧ (v : Int) ≤ most ∧ Stp (pN o most) s (v : Int) s' ∧ InQ w' P o s' ∧ Kept [P] w w' := by
  obtain ⟨zs, f, qe, qt, hi, hs⟩ := h.split
  have hb := hi.byt
  have hv : 0 ≤ aX (cut most (frR zs f)) ∧ aX (cut most (frR zs f)) ≤ most := by
    have hx := aX_in hb f
    unfold cut
    split
    · exact ⟨Int.le_refl 0, hm0⟩
    · rename_i c
      refine ⟨hx.1, ?_⟩
      by_cases h0 : (frR zs f).2.2 = 0
      · have : ¬ (most < 0 ∨ most < (frR zs f).1) := fun g => c ⟨h0, g⟩
        rw [show aX (frR zs f) = (frR zs f).1 from if_pos h0]; omega
      · rw [show aX (frR zs f) = 0 from if_neg h0]; exact hm0
  obtain ⟨v, hv'⟩ : ∃ v : Nat, aX (cut most (frR zs f)) = (v : Int) := ⟨_, (Int.toNat_of_nonneg hv.1).symm⟩
  rw [hv'] at hv
  refine (in_n P zs _ f o qe qt most _ _ w hi hm0 hm1 hv' rfl rfl).mono ?_
  rintro r w' ⟨rfl, i, k⟩
  have i' := i
  rw [← (nt_0 (ntE (cut most (frR zs f)).2.2 qe) o (ntT (cut most (frR zs f)).2.2 qe o qt)).1, ← (nt_0 (ntE (cut most (frR zs f)).2.2 qe) o (ntT (cut most (frR zs f)).2.2 qe o qt)).2] at i'
  refine Exists.elim (stp_fin (p := pN o most) (v := (v : Int)) hs i' (fun hf he => ?_) (fun hf he h2 => absurd rfl h2) (fun hf he h2 => ?_)) fun s' hh => ⟨v, s', rfl, hv.2, hh.1, hh.2, k⟩
  all_goals (subst hf; rw [frR_0] at *; unfold pN)
  · rw [if_pos he]
  · rw [if_neg (by simpa using he), show aZ (cut most (getR zs)) zs = zs.drop (cut most (getR zs)).2.1 from if_pos he, ← hv', show aX (cut most (getR zs)) = (cut most (getR zs)).1 from if_pos he]
end Go.Proofs.YthagdpiocmcbmaaGreat

/- The document's In: scales and windows. Written by tools/gen/PdC.py. -/
namespace Go.Proofs.YthagdpiocmcbmaaGreat
open Wr
open Go.ChangeShapes Go.WideShapes Go.ChangeAt Go.RowKit
set_option linter.unusedVariables false
theorem below_set {w : World} {b N i : Nat} {v : Value} (hb : b < N) : Below (b + 1) w (w.setCell ⟨N, i, none⟩ v) :=
  ⟨rfl, rfl, rfl, by simp, fun k hk => Below.heap_setCell _ _ _ _ (fun e => by simp at e; omega)⟩
theorem kept_set {w wn : World} {L : List Nat} {N i : Nat} {v : Value} (k : Wr.Kept L w wn) (hN : w.heap.size ≤ N) : Wr.Kept L w (wn.setCell ⟨N, i, none⟩ v) :=
  ⟨k.1, k.2.1, k.2.2.1, by simpa using k.2.2.2.1, fun j hj hB => (Below.heap_setCell _ _ _ _ (fun e => by simp at e; omega)).trans (k.2.2.2.2 j hj hB)⟩
set_option maxHeartbeats 2000000 in
set_option maxRecDepth 100000 in
theorem inscale_any (P : Nat) (o : Int) (s0 : Sum (Int × Int) (List Int)) (w : World) (h : InQ w P o s0) :
    Calls Tryz.prog 35 #[(.pointer (some ⟨P, 0, none⟩))] w fun r w' => ∃ v1 v2 s', r = .returned (.agg #[.int .i64 v1, .int .i64 v2]) ∧ Stp (pL (pU o) 2) s0 [v1, v2] s' ∧ InQ w' P o s' ∧ Wr.Kept [P] w w' := by
  have hlt := h.lt
  have p0 : Hid (InQ (w.alloc (.cells #[.int .i64 0, .int .i64 0] 53)) P o s0) := h.al _
  have k0 : Hid (Wr.Kept [P] w (w.alloc (.cells #[.int .i64 0, .int .i64 0] 53))) := Kept.of (bal _ _)
  have b0 : Hid ((w.alloc (.cells #[.int .i64 0, .int .i64 0] 53)).heap[w.heap.size]? = some (.cells #[.int .i64 0, .int .i64 0] 53 (0, 0))) := heap_alloc_new w _
  clear h
  go_enter Tryz.func35, Tryz.ntmps35
  go_wp2_with fail
  refine Calls.mono (inU_any P o _ _ p0.out) ?_
  rintro r w1 ⟨v1, s1, rfl, st, p, k⟩
  have h1 : Hid (Stp (pU o) s0 v1 s1) := st
  have p1 : Hid (InQ w1 P o s1) := p
  have k1 : Hid (Wr.Kept [P] w w1) := k0.out.trans k
  have b1 : Hid (w1.heap[w.heap.size]? = some (.cells #[.int .i64 0, .int .i64 0] 53 (0, 0))) := (k.2.2.2.2 _ (lt_of_heap b0.out) (by simp; omega)).trans b0.out
  clear st p k p0 k0 b0
  go_wp2_with fail
  refine Calls.mono (inU_any P o _ _ p1.out) ?_
  rintro r w2 ⟨v2, s2, rfl, st, p, k⟩
  have h2 : Hid (Stp (pU o) s1 v2 s2) := st
  have p2 : Hid (InQ w2 P o s2) := p
  have k2 : Hid (Wr.Kept [P] w w2) := k1.out.trans k
  have b2 : Hid (w2.heap[w.heap.size]? = some (.cells #[.int .i64 0, .int .i64 0] 53 (0, 0))) := (k.2.2.2.2 _ (lt_of_heap b1.out) (by simp; omega)).trans b1.out
  clear st p k p1 k1 b1
  have hP : Hid (Stp (pL (pU o) 2) s0 [v1, v2] s2) := h1.out.cons (h2.out.cons (.nil _))
  have q : Hid (InQ (w2.setRow w.heap.size #[.int .i64 v1, .int .i64 v2]) P o s2 ∧ Wr.Kept [P] w (w2.setRow w.heap.size #[.int .i64 v1, .int .i64 v2]) ∧ (w2.setRow w.heap.size #[.int .i64 v1, .int .i64 v2]).heap[w.heap.size]? = some (.cells #[.int .i64 v1, .int .i64 v2] 53 (0, 0))) := ⟨p2.out.keep (below_row hlt), kept_row k2.out (Nat.le_refl _), setRow_heap _ _ _ _ _ _ b2.out⟩
  have bn := b2.out
  clear p2 k2 b2 h1 h2
  go_wp2_with (refine wpList_store_row rfl 53 (.tmp 2) (.tmp 11) rfl w.heap.size #[.int .i64 v1, .int .i64 v2] rfl rfl 53 _ bn (by kernel_rfl) rfl (by simp [Value.oneCell']) ?_)
  exact bodyPost_ret (results_cell_row Tryz.results35 _ _ w.heap.size 53 _ (0, 0) _ rfl q.out.2.2 Tryz.underlying53 rfl (by kernel_rfl)) rfl ⟨_, _, _, rfl, hP.out, q.out.1, q.out.2.1⟩
set_option maxHeartbeats 4000000 in
set_option maxRecDepth 100000 in
theorem inwindow_any (P : Nat) (o : Int) (s0 : Sum (Int × Int) (List Int)) (w : World) (h : InQ w P o s0) :
    Calls Tryz.prog 34 #[(.pointer (some ⟨P, 0, none⟩))] w fun r w' => ∃ v1 v2 v3 v4 v5 v6 v7 v8 s', r = .returned (.agg #[.int .i64 v1, .int .i64 v2, .int .i64 v3, .int .i64 v4, .int .i64 v5, .int .i64 v6, .int .i64 v7, .int .i64 v8]) ∧ Stp (pL (pU o) 8) s0 [v1, v2, v3, v4, v5, v6, v7, v8] s' ∧ InQ w' P o s' ∧ Wr.Kept [P] w w' := by
  have hlt := h.lt
  have p0 : Hid (InQ ((w.alloc (.cells #[.int .i64 0, .int .i64 0, .int .i64 0, .int .i64 0, .int .i64 0, .int .i64 0, .int .i64 0, .int .i64 0] 49)).alloc (.cells #[.int .i64 0, .int .i64 0, .int .i64 0, .int .i64 0, .int .i64 0, .int .i64 0, .int .i64 0, .int .i64 0] 49)) P o s0) := (h.al _).al _
  have k0 : Hid (Wr.Kept [P] w ((w.alloc (.cells #[.int .i64 0, .int .i64 0, .int .i64 0, .int .i64 0, .int .i64 0, .int .i64 0, .int .i64 0, .int .i64 0] 49)).alloc (.cells #[.int .i64 0, .int .i64 0, .int .i64 0, .int .i64 0, .int .i64 0, .int .i64 0, .int .i64 0, .int .i64 0] 49))) := (Kept.of (bal _ _)).trans (Kept.of (bal _ _))
  have b0 : Hid (((w.alloc (.cells #[.int .i64 0, .int .i64 0, .int .i64 0, .int .i64 0, .int .i64 0, .int .i64 0, .int .i64 0, .int .i64 0] 49)).alloc (.cells #[.int .i64 0, .int .i64 0, .int .i64 0, .int .i64 0, .int .i64 0, .int .i64 0, .int .i64 0, .int .i64 0] 49)).heap[w.heap.size]? = some (.cells #[.int .i64 0, .int .i64 0, .int .i64 0, .int .i64 0, .int .i64 0, .int .i64 0, .int .i64 0, .int .i64 0] 49 (0, 0))) := ((bal (w.alloc (.cells #[.int .i64 0, .int .i64 0, .int .i64 0, .int .i64 0, .int .i64 0, .int .i64 0, .int .i64 0, .int .i64 0] 49)) _).block _ (by simp)).trans (heap_alloc_new w _)
  have d0 : Hid (((w.alloc (.cells #[.int .i64 0, .int .i64 0, .int .i64 0, .int .i64 0, .int .i64 0, .int .i64 0, .int .i64 0, .int .i64 0] 49)).alloc (.cells #[.int .i64 0, .int .i64 0, .int .i64 0, .int .i64 0, .int .i64 0, .int .i64 0, .int .i64 0, .int .i64 0] 49)).heap[w.heap.size + 1]? = some (.cells #[.int .i64 0, .int .i64 0, .int .i64 0, .int .i64 0, .int .i64 0, .int .i64 0, .int .i64 0, .int .i64 0] 49 (0, 0))) := by
    have := heap_alloc_new (w.alloc (.cells #[.int .i64 0, .int .i64 0, .int .i64 0, .int .i64 0, .int .i64 0, .int .i64 0, .int .i64 0, .int .i64 0] 49)) (.cells #[.int .i64 0, .int .i64 0, .int .i64 0, .int .i64 0, .int .i64 0, .int .i64 0, .int .i64 0, .int .i64 0] 49)
    rw [show (w.alloc (.cells #[.int .i64 0, .int .i64 0, .int .i64 0, .int .i64 0, .int .i64 0, .int .i64 0, .int .i64 0, .int .i64 0] 49)).heap.size = w.heap.size + 1 by simp] at this
    exact this
  clear h
  go_enter Tryz.func34, Tryz.ntmps34
  go_wp2_with fail
  refine Calls.mono (inU_any P o _ _ p0.out) ?_
  rintro r w1 ⟨v1, s1, rfl, st, p, k⟩
  have h1 : Hid (Stp (pU o) s0 v1 s1) := st
  have d1' := (k.2.2.2.2 _ (lt_of_heap d0.out) (by simp; omega)).trans d0.out
  have p1 : Hid (InQ (w1.setCell ⟨w.heap.size + 1, 0, none⟩ (.int .i64 v1)) P o s1) := p.keep (below_set (by omega))
  have k1 : Hid (Wr.Kept [P] w (w1.setCell ⟨w.heap.size + 1, 0, none⟩ (.int .i64 v1))) := kept_set (k0.out.trans k) (by omega)
  have b1 : Hid ((w1.setCell ⟨w.heap.size + 1, 0, none⟩ (.int .i64 v1)).heap[w.heap.size]? = some (.cells #[.int .i64 0, .int .i64 0, .int .i64 0, .int .i64 0, .int .i64 0, .int .i64 0, .int .i64 0, .int .i64 0] 49 (0, 0))) := (Below.heap_setCell _ _ _ _ (by simp)).trans ((k.2.2.2.2 _ (lt_of_heap b0.out) (by simp; omega)).trans b0.out)
  have d1 : Hid ((w1.setCell ⟨w.heap.size + 1, 0, none⟩ (.int .i64 v1)).heap[w.heap.size + 1]? = some (.cells #[.int .i64 v1, .int .i64 0, .int .i64 0, .int .i64 0, .int .i64 0, .int .i64 0, .int .i64 0, .int .i64 0] 49 (0, 0))) := set_at d1'
  obtain ⟨cB1, fB1, zB1⟩ := cells_at d1'
  clear st p k p0 k0 b0 d0 d1'
  go_wp2_with fail
  refine Calls.mono (inU_any P o _ _ p1.out) ?_
  rintro r w2 ⟨v2, s2, rfl, st, p, k⟩
  have h2 : Hid (Stp (pU o) s1 v2 s2) := st
  have d2' := (k.2.2.2.2 _ (lt_of_heap d1.out) (by simp; omega)).trans d1.out
  have p2 : Hid (InQ (w2.setCell ⟨w.heap.size + 1, 1, none⟩ (.int .i64 v2)) P o s2) := p.keep (below_set (by omega))
  have k2 : Hid (Wr.Kept [P] w (w2.setCell ⟨w.heap.size + 1, 1, none⟩ (.int .i64 v2))) := kept_set (k1.out.trans k) (by omega)
  have b2 : Hid ((w2.setCell ⟨w.heap.size + 1, 1, none⟩ (.int .i64 v2)).heap[w.heap.size]? = some (.cells #[.int .i64 0, .int .i64 0, .int .i64 0, .int .i64 0, .int .i64 0, .int .i64 0, .int .i64 0, .int .i64 0] 49 (0, 0))) := (Below.heap_setCell _ _ _ _ (by simp)).trans ((k.2.2.2.2 _ (lt_of_heap b1.out) (by simp; omega)).trans b1.out)
  have d2 : Hid ((w2.setCell ⟨w.heap.size + 1, 1, none⟩ (.int .i64 v2)).heap[w.heap.size + 1]? = some (.cells #[.int .i64 v1, .int .i64 v2, .int .i64 0, .int .i64 0, .int .i64 0, .int .i64 0, .int .i64 0, .int .i64 0] 49 (0, 0))) := set_at d2'
  obtain ⟨cB2, fB2, zB2⟩ := cells_at d2'
  clear st p k p1 k1 b1 d1 d2' cB1 fB1 zB1
  go_wp2_with fail
  refine Calls.mono (inU_any P o _ _ p2.out) ?_
  rintro r w3 ⟨v3, s3, rfl, st, p, k⟩
  have h3 : Hid (Stp (pU o) s2 v3 s3) := st
  have d3' := (k.2.2.2.2 _ (lt_of_heap d2.out) (by simp; omega)).trans d2.out
  have p3 : Hid (InQ (w3.setCell ⟨w.heap.size + 1, 2, none⟩ (.int .i64 v3)) P o s3) := p.keep (below_set (by omega))
  have k3 : Hid (Wr.Kept [P] w (w3.setCell ⟨w.heap.size + 1, 2, none⟩ (.int .i64 v3))) := kept_set (k2.out.trans k) (by omega)
  have b3 : Hid ((w3.setCell ⟨w.heap.size + 1, 2, none⟩ (.int .i64 v3)).heap[w.heap.size]? = some (.cells #[.int .i64 0, .int .i64 0, .int .i64 0, .int .i64 0, .int .i64 0, .int .i64 0, .int .i64 0, .int .i64 0] 49 (0, 0))) := (Below.heap_setCell _ _ _ _ (by simp)).trans ((k.2.2.2.2 _ (lt_of_heap b2.out) (by simp; omega)).trans b2.out)
  have d3 : Hid ((w3.setCell ⟨w.heap.size + 1, 2, none⟩ (.int .i64 v3)).heap[w.heap.size + 1]? = some (.cells #[.int .i64 v1, .int .i64 v2, .int .i64 v3, .int .i64 0, .int .i64 0, .int .i64 0, .int .i64 0, .int .i64 0] 49 (0, 0))) := set_at d3'
  obtain ⟨cB3, fB3, zB3⟩ := cells_at d3'
  clear st p k p2 k2 b2 d2 d3' cB2 fB2 zB2
  go_wp2_with fail
  refine Calls.mono (inU_any P o _ _ p3.out) ?_
  rintro r w4 ⟨v4, s4, rfl, st, p, k⟩
  have h4 : Hid (Stp (pU o) s3 v4 s4) := st
  have d4' := (k.2.2.2.2 _ (lt_of_heap d3.out) (by simp; omega)).trans d3.out
  have p4 : Hid (InQ (w4.setCell ⟨w.heap.size + 1, 3, none⟩ (.int .i64 v4)) P o s4) := p.keep (below_set (by omega))
  have k4 : Hid (Wr.Kept [P] w (w4.setCell ⟨w.heap.size + 1, 3, none⟩ (.int .i64 v4))) := kept_set (k3.out.trans k) (by omega)
  have b4 : Hid ((w4.setCell ⟨w.heap.size + 1, 3, none⟩ (.int .i64 v4)).heap[w.heap.size]? = some (.cells #[.int .i64 0, .int .i64 0, .int .i64 0, .int .i64 0, .int .i64 0, .int .i64 0, .int .i64 0, .int .i64 0] 49 (0, 0))) := (Below.heap_setCell _ _ _ _ (by simp)).trans ((k.2.2.2.2 _ (lt_of_heap b3.out) (by simp; omega)).trans b3.out)
  have d4 : Hid ((w4.setCell ⟨w.heap.size + 1, 3, none⟩ (.int .i64 v4)).heap[w.heap.size + 1]? = some (.cells #[.int .i64 v1, .int .i64 v2, .int .i64 v3, .int .i64 v4, .int .i64 0, .int .i64 0, .int .i64 0, .int .i64 0] 49 (0, 0))) := set_at d4'
  obtain ⟨cB4, fB4, zB4⟩ := cells_at d4'
  clear st p k p3 k3 b3 d3 d4' cB3 fB3 zB3
  go_wp2_with fail
  refine Calls.mono (inU_any P o _ _ p4.out) ?_
  rintro r w5 ⟨v5, s5, rfl, st, p, k⟩
  have h5 : Hid (Stp (pU o) s4 v5 s5) := st
  have d5' := (k.2.2.2.2 _ (lt_of_heap d4.out) (by simp; omega)).trans d4.out
  have p5 : Hid (InQ (w5.setCell ⟨w.heap.size + 1, 4, none⟩ (.int .i64 v5)) P o s5) := p.keep (below_set (by omega))
  have k5 : Hid (Wr.Kept [P] w (w5.setCell ⟨w.heap.size + 1, 4, none⟩ (.int .i64 v5))) := kept_set (k4.out.trans k) (by omega)
  have b5 : Hid ((w5.setCell ⟨w.heap.size + 1, 4, none⟩ (.int .i64 v5)).heap[w.heap.size]? = some (.cells #[.int .i64 0, .int .i64 0, .int .i64 0, .int .i64 0, .int .i64 0, .int .i64 0, .int .i64 0, .int .i64 0] 49 (0, 0))) := (Below.heap_setCell _ _ _ _ (by simp)).trans ((k.2.2.2.2 _ (lt_of_heap b4.out) (by simp; omega)).trans b4.out)
  have d5 : Hid ((w5.setCell ⟨w.heap.size + 1, 4, none⟩ (.int .i64 v5)).heap[w.heap.size + 1]? = some (.cells #[.int .i64 v1, .int .i64 v2, .int .i64 v3, .int .i64 v4, .int .i64 v5, .int .i64 0, .int .i64 0, .int .i64 0] 49 (0, 0))) := set_at d5'
  obtain ⟨cB5, fB5, zB5⟩ := cells_at d5'
  clear st p k p4 k4 b4 d4 d5' cB4 fB4 zB4
  go_wp2_with fail
  refine Calls.mono (inU_any P o _ _ p5.out) ?_
  rintro r w6 ⟨v6, s6, rfl, st, p, k⟩
  have h6 : Hid (Stp (pU o) s5 v6 s6) := st
  have d6' := (k.2.2.2.2 _ (lt_of_heap d5.out) (by simp; omega)).trans d5.out
  have p6 : Hid (InQ (w6.setCell ⟨w.heap.size + 1, 5, none⟩ (.int .i64 v6)) P o s6) := p.keep (below_set (by omega))
  have k6 : Hid (Wr.Kept [P] w (w6.setCell ⟨w.heap.size + 1, 5, none⟩ (.int .i64 v6))) := kept_set (k5.out.trans k) (by omega)
  have b6 : Hid ((w6.setCell ⟨w.heap.size + 1, 5, none⟩ (.int .i64 v6)).heap[w.heap.size]? = some (.cells #[.int .i64 0, .int .i64 0, .int .i64 0, .int .i64 0, .int .i64 0, .int .i64 0, .int .i64 0, .int .i64 0] 49 (0, 0))) := (Below.heap_setCell _ _ _ _ (by simp)).trans ((k.2.2.2.2 _ (lt_of_heap b5.out) (by simp; omega)).trans b5.out)
  have d6 : Hid ((w6.setCell ⟨w.heap.size + 1, 5, none⟩ (.int .i64 v6)).heap[w.heap.size + 1]? = some (.cells #[.int .i64 v1, .int .i64 v2, .int .i64 v3, .int .i64 v4, .int .i64 v5, .int .i64 v6, .int .i64 0, .int .i64 0] 49 (0, 0))) := set_at d6'
  obtain ⟨cB6, fB6, zB6⟩ := cells_at d6'
  clear st p k p5 k5 b5 d5 d6' cB5 fB5 zB5
  go_wp2_with fail
  refine Calls.mono (inU_any P o _ _ p6.out) ?_
  rintro r w7 ⟨v7, s7, rfl, st, p, k⟩
  have h7 : Hid (Stp (pU o) s6 v7 s7) := st
  have d7' := (k.2.2.2.2 _ (lt_of_heap d6.out) (by simp; omega)).trans d6.out
  have p7 : Hid (InQ (w7.setCell ⟨w.heap.size + 1, 6, none⟩ (.int .i64 v7)) P o s7) := p.keep (below_set (by omega))
  have k7 : Hid (Wr.Kept [P] w (w7.setCell ⟨w.heap.size + 1, 6, none⟩ (.int .i64 v7))) := kept_set (k6.out.trans k) (by omega)
  have b7 : Hid ((w7.setCell ⟨w.heap.size + 1, 6, none⟩ (.int .i64 v7)).heap[w.heap.size]? = some (.cells #[.int .i64 0, .int .i64 0, .int .i64 0, .int .i64 0, .int .i64 0, .int .i64 0, .int .i64 0, .int .i64 0] 49 (0, 0))) := (Below.heap_setCell _ _ _ _ (by simp)).trans ((k.2.2.2.2 _ (lt_of_heap b6.out) (by simp; omega)).trans b6.out)
  have d7 : Hid ((w7.setCell ⟨w.heap.size + 1, 6, none⟩ (.int .i64 v7)).heap[w.heap.size + 1]? = some (.cells #[.int .i64 v1, .int .i64 v2, .int .i64 v3, .int .i64 v4, .int .i64 v5, .int .i64 v6, .int .i64 v7, .int .i64 0] 49 (0, 0))) := set_at d7'
  obtain ⟨cB7, fB7, zB7⟩ := cells_at d7'
  clear st p k p6 k6 b6 d6 d7' cB6 fB6 zB6
  go_wp2_with fail
  refine Calls.mono (inU_any P o _ _ p7.out) ?_
  rintro r w8 ⟨v8, s8, rfl, st, p, k⟩
  have h8 : Hid (Stp (pU o) s7 v8 s8) := st
  have d8' := (k.2.2.2.2 _ (lt_of_heap d7.out) (by simp; omega)).trans d7.out
  have p8 : Hid (InQ (w8.setCell ⟨w.heap.size + 1, 7, none⟩ (.int .i64 v8)) P o s8) := p.keep (below_set (by omega))
  have k8 : Hid (Wr.Kept [P] w (w8.setCell ⟨w.heap.size + 1, 7, none⟩ (.int .i64 v8))) := kept_set (k7.out.trans k) (by omega)
  have b8 : Hid ((w8.setCell ⟨w.heap.size + 1, 7, none⟩ (.int .i64 v8)).heap[w.heap.size]? = some (.cells #[.int .i64 0, .int .i64 0, .int .i64 0, .int .i64 0, .int .i64 0, .int .i64 0, .int .i64 0, .int .i64 0] 49 (0, 0))) := (Below.heap_setCell _ _ _ _ (by simp)).trans ((k.2.2.2.2 _ (lt_of_heap b7.out) (by simp; omega)).trans b7.out)
  have d8 : Hid ((w8.setCell ⟨w.heap.size + 1, 7, none⟩ (.int .i64 v8)).heap[w.heap.size + 1]? = some (.cells #[.int .i64 v1, .int .i64 v2, .int .i64 v3, .int .i64 v4, .int .i64 v5, .int .i64 v6, .int .i64 v7, .int .i64 v8] 49 (0, 0))) := set_at d8'
  obtain ⟨cB8, fB8, zB8⟩ := cells_at d8'
  clear st p k p7 k7 b7 d7 d8' cB7 fB7 zB7
  have hP : Hid (Stp (pL (pU o) 8) s0 [v1, v2, v3, v4, v5, v6, v7, v8] s8) := h1.out.cons (h2.out.cons (h3.out.cons (h4.out.cons (h5.out.cons (h6.out.cons (h7.out.cons (h8.out.cons (.nil _))))))))
  have q : Hid (InQ ((w8.setCell ⟨w.heap.size + 1, 7, none⟩ (.int .i64 v8)).setRow w.heap.size #[.int .i64 v1, .int .i64 v2, .int .i64 v3, .int .i64 v4, .int .i64 v5, .int .i64 v6, .int .i64 v7, .int .i64 v8]) P o s8 ∧ Wr.Kept [P] w ((w8.setCell ⟨w.heap.size + 1, 7, none⟩ (.int .i64 v8)).setRow w.heap.size #[.int .i64 v1, .int .i64 v2, .int .i64 v3, .int .i64 v4, .int .i64 v5, .int .i64 v6, .int .i64 v7, .int .i64 v8]) ∧ ((w8.setCell ⟨w.heap.size + 1, 7, none⟩ (.int .i64 v8)).setRow w.heap.size #[.int .i64 v1, .int .i64 v2, .int .i64 v3, .int .i64 v4, .int .i64 v5, .int .i64 v6, .int .i64 v7, .int .i64 v8]).heap[w.heap.size]? = some (.cells #[.int .i64 v1, .int .i64 v2, .int .i64 v3, .int .i64 v4, .int .i64 v5, .int .i64 v6, .int .i64 v7, .int .i64 v8] 49 (0, 0))) := ⟨p8.out.keep (below_row hlt), kept_row k8.out (Nat.le_refl _), setRow_heap _ _ _ _ _ _ b8.out⟩
  have bn := b8.out
  clear p8 k8 b8 h1 h2 h3 h4 h5 h6 h7 h8
  go_wp2_with (refine wpList_store_row rfl 49 (.tmp 2) (.tmp 28) rfl w.heap.size #[.int .i64 v1, .int .i64 v2, .int .i64 v3, .int .i64 v4, .int .i64 v5, .int .i64 v6, .int .i64 v7, .int .i64 v8] rfl rfl 49 _ bn (by kernel_rfl) rfl (by simp [Value.oneCell']) ?_)
  exact bodyPost_ret (results_cell_row Tryz.results34 _ _ w.heap.size 49 _ (0, 0) _ rfl q.out.2.2 Tryz.underlying49 rfl (by kernel_rfl)) rfl ⟨_, _, _, _, _, _, _, _, _, rfl, hP.out, q.out.1, q.out.2.1⟩
end Go.Proofs.YthagdpiocmcbmaaGreat

/- The writer of package pack: numbers put behind its bytes. -/
namespace Go.Proofs.YthagdpiocmcbmaaGreat
open Wr
open Go.ChangeShapes Go.WideShapes Go.ChangeAt Go.RowKit
set_option linter.unusedVariables false
/-- What a writer's calls leave alone: all below 'base', and all blocks of no bytes but the writer's own. -/
def Wk (base Wb : Nat) (w w' : World) : Prop := Below base w w' ∧ ∀ (k : Nat) (c : Array Value) (T : TypeId), k ≠ Wb → T ≠ 5 → w.heap[k]? = some (.cells c T (0, 0)) → w'.heap[k]? = some (.cells c T (0, 0))
theorem Wk.refl (base Wb : Nat) (w : World) : Wk base Wb w w := ⟨Below.refl _ _, fun _ _ _ _ _ h => h⟩
theorem Wk.trans {base Wb : Nat} {a b c : World} (h : Wk base Wb a b) (k : Wk base Wb b c) : Wk base Wb a c := ⟨h.1.trans k.1, fun i cs T h1 h2 h3 => k.2 i cs T h1 h2 (h.2 i cs T h1 h2 h3)⟩
theorem Wk.of {base Wb : Nat} {w w' : World} (h : Below w.heap.size w w') (hb : base ≤ w.heap.size) : Wk base Wb w w' := ⟨h.mono hb, fun k c T _ _ hk => (h.block k (lt_of_heap hk)).trans hk⟩
theorem Wk.size {base Wb : Nat} {w w' : World} (h : Wk base Wb w w') : w.heap.size ≤ w'.heap.size := h.1.size
/-- The bytes of a writer: its own, or a row that is full. -/
def Wo (w : World) (base : Nat) (v : Value) (xs : List Int) : Prop := (Wr.Own w base v xs ∧ v ≠ .slice none 0 0) ∨ ∃ d, v = .slice (some d) xs.length xs.length ∧ Wr.Row w (some d) xs.length xs.length xs
theorem Wo.below {w w' : World} {base : Nat} {v : Value} {xs : List Int} (h : Wo w base v xs) (k : Below w.heap.size w w') : Wo w' base v xs := by
  rcases h with ⟨h1, h2⟩ | ⟨d, h1, h2⟩
  · exact .inl ⟨h1.below k, h2⟩
  · exact .inr ⟨d, h1, h2.below k⟩
/-- A writer, and its bytes; with bytes of its own. -/
def Wt (w : World) (Wb base : Nat) (xs : List Int) : Prop := ∃ v, w.heap[Wb]? = some (.cells #[v] 88 (0, 0)) ∧ Wo w base v xs
def WtO (w : World) (Wb base : Nat) (xs : List Int) : Prop := ∃ v, w.heap[Wb]? = some (.cells #[v] 88 (0, 0)) ∧ Wr.Own w base v xs ∧ v ≠ .slice none 0 0
theorem WtO.wt {w : World} {Wb base : Nat} {xs : List Int} (h : WtO w Wb base xs) : Wt w Wb base xs := by
  obtain ⟨v, h1, h2⟩ := h
  exact ⟨v, h1, .inl h2⟩
theorem Wt.below {w w' : World} {Wb base : Nat} {xs : List Int} (h : Wt w Wb base xs) (k : Below w.heap.size w w') : Wt w' Wb base xs := by
  obtain ⟨v, h1, h2⟩ := h
  exact ⟨v, (k.block _ (lt_of_heap h1)).trans h1, h2.below k⟩
theorem own_blk {w : World} {base b : Nat} {v : Value} {xs : List Int} (h : Wr.Own w base v xs) (hb : v.ownBlock = some b) : base ≤ b ∧ ∃ c, w.heap[b]? = some (.cells c 5 (0, 0)) := by
  rcases h.shape with ⟨rfl, -⟩ | ⟨g, cap, rfl, h1, -, -, -, ⟨cur, h2, -⟩, -⟩
  · simp [Value.ownBlock] at hb
  · obtain rfl : g = b := by simpa [Value.ownBlock] using hb
    exact ⟨h1, cur, h2⟩
theorem ne_ty {w : World} {b k : Nat} {c d : Array Value} {S T : TypeId} (h : w.heap[b]? = some (.cells c S (0, 0))) (g : w.heap[k]? = some (.cells d T (0, 0))) (hn : T ≠ S) : k ≠ b := by
  rintro rfl
  rw [h] at g
  simp only [Option.some.injEq, Obj.cells.injEq] at g
  exact hn g.2.1.symm
/-- Nothing below 'base', no block of no bytes has turned. -/
def Wk0 (base : Nat) (w w' : World) : Prop := Below base w w' ∧ ∀ (k : Nat) (c : Array Value) (T : TypeId), T ≠ 5 → w.heap[k]? = some (.cells c T (0, 0)) → w'.heap[k]? = some (.cells c T (0, 0))
theorem Wk0.wk {base Wb : Nat} {w w' : World} (h : Wk0 base w w') : Wk base Wb w w' := ⟨h.1, fun k c T _ hT hk => h.2 k c T hT hk⟩
theorem wk_set {w : World} {base Wb i : Nat} {v : Value} (hb : base ≤ Wb) : Wk base Wb w (w.setCell ⟨Wb, i, none⟩ v) :=
  ⟨(Below.refl _ _).setCell (p := ⟨Wb, i, none⟩) hb v, fun k c T hk _ h => by rw [Below.heap_setCell _ _ _ _ hk]; exact h⟩
theorem wk0_grown {w w' : World} {base : Nat} {v : Value} {xs : List Int} (h : Wr.Own w base v xs) (g : w.grownBy w' v.ownBlock) (hb : base ≤ w.heap.size) : Wk0 base w w' := by
  refine ⟨(Below.refl _ _).grown g hb fun b e => (own_blk h e).1, fun k c T hT hk => ?_⟩
  rw [g.block k (lt_of_heap hk) (fun e => ?_)]
  · exact hk
  · obtain ⟨d, hd⟩ := (own_blk h e.symm).2
    exact ne_ty hd hk hT rfl
theorem row_cells {w : World} {ad : Addr} {m c : Nat} {ys : List Int} (hy : Wr.Row w (some ad) m c ys) : ∀ j u, (ys.map (Value.int .u8))[j]? = some u → w.cell? (ad.add j) = some u := fun j u hj => by
  obtain ⟨hl, hc, hm, hb, hn, hcell⟩ := hy
  have hj' : j < m := by
    have := (List.getElem?_eq_some_iff.1 hj).1
    simpa [hl] using this
  rw [hcell ad rfl j hj']
  simp [List.getD, show j < ys.length by omega] at hj ⊢
  exact hj
/-- 'append' of bytes, in a region that draws its order. -/
theorem step_appW {w : World} {ops : Array Oper} {o : Oper} {a : Act} {K : Act → World → Prop} {Q : Exit → Act → World → Prop} {E : Prop} (hgd : o.guard = none) (s x : Operand)
    (ho : o.op = .call { callee := .builtin .append, args := #[s, x], argTypes := #[22, 22] })
    (base : Nat) (v : Value) (xs ys : List Int) (hs : a.eval s = v) (hown : Wo w base v xs) (ad : Addr) (m c : Nat) (hx : a.eval x = .slice (some ad) m c) (hy : Wr.Row w (some ad) m c ys) (hm0 : 0 < ys.length)
    (hlen : xs.length + ys.length ≤ 140737488355328) (hbase : base ≤ w.heap.size)
    (hK : ∀ v' w', Wr.Own w' base v' (xs ++ ys) → v' ≠ .slice none 0 0 → Wk0 base w w' → K (a.put o.dst v') w') : if Region.wanted o (yielded ops a.tmps) = true then Oper.wp Tryz.prog o a w K Q else E := by
  obtain ⟨i0, hi, hz0, hz1, hz2⟩ := info_parts Wr.Tryz.infoB
  have hcs := row_cells hy
  obtain ⟨hl, hc, hm, hb, hn, hcell⟩ := hy
  rcases hown with ⟨hown, hv⟩ | ⟨d, rfl, hr⟩
  · have hw : Region.wanted o (yielded ops a.tmps) = true := by simp [Region.wanted, hgd]
    rw [if_pos hw]
    obtain ⟨v', w', hrun, r1, r2, r3⟩ := run_append_own (P := Tryz.prog) w base 22 o.type 5 i0 (.int .u8 0) 1 1 Tryz.underlying22 hi hz0 hz1 hz2 rfl (by decide) v xs.length _ hown.1 ad m c (ys.map (Value.int .u8)) (by simp [hl]) hcs (ints_oneCell _ _) (by unfold maxLen; omega) (by omega) hbase
    unfold Oper.wp
    simp [execOp, ho, resolve, invoke, builtin, hs, hx, hrun, Result.andThen]
    refine hK v' w' ⟨?_, hown.2.app hb⟩ (fun e => hv (r3.1 e).1) (wk0_grown hown r2 hbase)
    rw [List.length_append, hl, List.map_append]
    exact r1
  · refine step_append_grows hgd s x 22 ho 5 i0 (.int .u8 0) 1 1 Tryz.underlying22 hi hz0 hz1 hz2 rfl (by omega) (some d) xs.length xs.length (xs.map (Value.int .u8)) hs (fun h => by cases h) (by simp) (fun b hb' => by cases hb'; exact row_cells hr) ad m c (ys.map (Value.int .u8)) hx (by simp [hl]) hcs (ints_oneCell _ _) (by omega) (by unfold maxLen; omega) (by omega) ?_
    intro v' w' h1 h2
    have hO : Wr.Own w' base v' (xs ++ ys) := by
      refine ⟨⟨by simp, ?_⟩, hr.2.2.2.1.app hb⟩
      rcases h1.2 with ⟨q1, q2⟩ | ⟨g, cap, cur, q1, q2, q3, q4, q5, q6, q7⟩
      · omega
      · refine .inr ⟨g, cap, cur, ?_, by omega, q3, ?_, q5, q6, ?_⟩
        · rw [q1, List.length_append, hl]
        · rw [List.length_append, hl]; exact q4
        · rw [List.length_append, hl, q7, List.map_append]
    refine hK v' w' hO (fun e => ?_) ⟨(Below.refl _ _).grown h2 hbase (fun b e => by cases e), fun k c T _ hk => (h2.block k (lt_of_heap hk) (by simp)).trans hk⟩
    rw [e] at hO
    rcases hO.shape with ⟨-, h0⟩ | ⟨g, cap, h0, -⟩
    · have : (xs ++ ys).length = 0 := by rw [h0]; rfl
      rw [List.length_append] at this; omega
    · cases h0
theorem u64_wrap (y : Int) : IntKind.u64.wrap y = ((u64 y : Nat) : Int) := by
  unfold u64; rw [IntKind.wrap_u64]; omega
theorem eU_le (l : List Int) : (eU l).length ≤ 10 * l.length := by
  induction l with
  | nil => simp [eU]
  | cons x l ih => have := putR_ten (u64_lt x); rw [eU_cons, List.length_append, List.length_cons]; omega
theorem eS_le (l : List Int) (h : ∀ x ∈ l, -9223372036854775808 ≤ x ∧ x ≤ 9223372036854775807) : (eS l).length ≤ 10 * l.length := by
  induction l with
  | nil => simp [eS]
  | cons x l ih =>
    have hx := h x List.mem_cons_self
    have := putR_ten (foldR_lt hx.1 hx.2)
    have := ih fun y hy => h y (List.mem_cons_of_mem _ hy)
    rw [eS_cons, List.length_append, List.length_cons]; omega
theorem take_more {ys : List Int} {k : Nat} {y : Int} (h : ys[k]? = some y) : ys.take (k + 1) = ys.take k ++ [y] := by
  rw [List.take_add_one, h]; rfl
theorem own_get {w : World} {base : Nat} {v : Value} {xs : List Int} (h : Wr.Own w base v xs) (hv : v ≠ .slice none 0 0) : ∃ d cap, v = .slice (some d) xs.length cap ∧ Wr.Row w (some d) xs.length cap xs := by
  obtain ⟨a, cap, rfl, r, -⟩ := h.row
  cases a with
  | none =>
    obtain rfl : cap = 0 := r.2.2.2.2.1 rfl
    exact absurd (by rw [Nat.le_zero.1 r.2.1]) hv
  | some d => exact ⟨d, cap, rfl, r⟩
theorem own_ltr {w : World} {base : Nat} {v : Value} {xs : List Int} (h : Wr.Own w base v xs) (hv : v ≠ .slice none 0 0) : ∃ d n cap, v = .slice (some d) n cap := by
  obtain ⟨d, cap, e, -⟩ := own_get h hv
  exact ⟨d, _, cap, e⟩
theorem Wo.ltr {w : World} {base : Nat} {v : Value} {xs : List Int} (h : Wo w base v xs) : ∃ d n cap, v = .slice (some d) n cap := by
  rcases h with ⟨h1, h2⟩ | ⟨d, h1, -⟩
  · exact own_ltr h1 h2
  · exact ⟨d, _, _, h1⟩
/-- Numbers in a block of their own. -/
def Nums (w : World) (g : Nat) (ys : List Int) : Prop := w.heap[g]? = some (.cells (ys.map (Value.int .i64)).toArray 3 (0, 0))
theorem Nums.at {w : World} {g k : Nat} {ys : List Int} {y : Int} (h : Nums w g ys) (hk : ys[k]? = some y) : w.cell? ⟨g, k, none⟩ = some (.int .i64 y) := by
  rw [(cells_at h).1]; simp [hk]
theorem row_e (w : World) : Wr.Row w none 0 0 [] := ⟨rfl, Nat.le_refl _, by unfold maxLen; omega, Byt.nil, fun _ => rfl, fun x h => by cases h⟩
theorem own_oth {w w' : World} {base : Nat} {v : Value} {zs : List Int} (h : Wr.Own w base v zs) (q : ∀ (g : Nat) (c : Array Value), w.heap[g]? = some (.cells c 5 (0, 0)) → w'.heap[g]? = some (.cells c 5 (0, 0))) : Wr.Own w' base v zs := by
  refine ⟨⟨h.1.1, ?_⟩, h.2⟩
  rcases h.1.2 with h0 | ⟨g, cap, cur, h1, h2, h3, h4⟩
  · exact .inl h0
  · exact .inr ⟨g, cap, cur, h1, h2, q g cur h3, h4⟩
theorem wt_set {w : World} {Wb base : Nat} {v v2 : Value} {zs : List Int} (h : w.heap[Wb]? = some (.cells #[v] 88 (0, 0))) (own : Wr.Own w base v2 zs) (nn : v2 ≠ .slice none 0 0) : WtO (w.setCell ⟨Wb, 0, none⟩ v2) Wb base zs :=
  ⟨v2, heap_setCell_at h, own_oth own fun g c hg => by rw [Below.heap_setCell _ _ _ _ (ne_ty h hg (by decide))]; exact hg, nn⟩
def In64 (l : List Int) : Prop := ∀ x ∈ l, -9223372036854775808 ≤ x ∧ x ≤ 9223372036854775807
set_option maxHeartbeats 2000000 in
set_option maxRecDepth 100000 in
theorem unsigned_any (Wb base g n : Nat) (xs ys : List Int) (w : World) (h : Wt w Wb base xs) (hn : Nums w g ys) (hl : ys.length = n) (hg : g ≠ Wb) (hb : base ≤ Wb) (hs : xs.length + 10 * n ≤ 140737488355328) (hn2 : n ≤ 1000) (hy : True) :
    Calls Tryz.prog 53 #[(.pointer (some ⟨Wb, 0, none⟩)), .slice (some ⟨g, 0, none⟩) n n] w fun e w' => e = .returned (.tuple #[]) ∧ Wt w' Wb base (xs ++ eU ys) ∧ Wk base Wb w w' ∧ (0 < n → WtO w' Wb base (xs ++ eU ys)) := by
  have hl' : Hid (ys.length = n) := hl
  have hn' : Hid (Nums w g ys) := hn
  have h0 : Hid (Wt w Wb base (xs ++ eU (ys.take 0))) := by unfold Hid; simpa [eU] using h
  have hWb : Wb < w.heap.size := by obtain ⟨v, h1, -⟩ := h; exact lt_of_heap h1
  clear hl hn h
  go_enter Tryz.func53, Tryz.ntmps53
  go_wp2
  go_loopw [8] (fun i wr => ∃ k : Nat, k ≤ n ∧ i = .int .i64 k ∧ Wt wr Wb base (xs ++ eU (ys.take k)) ∧ Wk base Wb w wr ∧ (0 < k → WtO wr Wb base (xs ++ eU (ys.take k)))) (fun i _ => n - (intOf i).toNat)
  case atStart => exact ⟨0, Nat.zero_le _, rfl, h0.out, Wk.refl _ _ _, fun h => by omega⟩
  case round =>
    obtain ⟨k, hk, rfl, hT, hK, hO⟩ := hrel
    clear h0
    have hK' : Hid (Wk base Wb w wr) := hK
    by_cases hlt : k < n
    · obtain ⟨y, hky⟩ : ∃ y, ys[k]? = some y := ⟨_, List.getElem?_eq_getElem (by rw [hl'.out]; exact hlt)⟩
      have hcy := (show Nums wr g ys from hK.2 g _ _ hg (by decide) hn'.out).at hky
      have hlen : Hid ((xs ++ eU (ys.take k)).length ≤ xs.length + 10 * k) := by
        have := eU_le (ys.take k); simp only [Hid, List.length_append, List.length_take] at *; omega
      have hnext : Hid (xs ++ eU (ys.take k) ++ (putR (u64 y)) = xs ++ eU (ys.take (k + 1))) := by
        unfold Hid; rw [take_more hky, eU_app, List.append_assoc]; simp [eU]
      obtain ⟨v, h1, h2⟩ := hT
      obtain ⟨c1, f1, z1⟩ := cells_at h1
      have hu := u64_lt y
      have hw := u64_wrap y
      have hpos : Hid (0 < (putR (u64 y)).length) := putR_pos _
      have hput : Hid (((putR (u64 y))).length ≤ 10) := putR_ten (u64_lt y)
      have hS : Hid (∀ w', Below wr.heap.size wr w' → ∀ i, w'.cell? ⟨Wb, i, none⟩ = #[v][i]?) := fun w' hb' => (cells_at ((hb'.block _ (lt_of_heap h1)).trans h1)).1
      have H1 : Hid (wr.heap[Wb]? = some (.cells #[v] 88 (0, 0))) := h1
      have H2 : Hid (Wo wr base v (xs ++ eU (ys.take k))) := h2
      have hbase : Hid (base ≤ wr.heap.size) := by unfold Hid; omega
      have hD : Below wr.heap.size wr wr.drew := (Below.refl _ _).drew
      clear hK h1 h2 hky hO
      go_wp2
      go_region_law (first
        | (go_simp; go_at_call 76; refine (putU_is none 0 0 [] (u64 y) _ (row_e _) hu (by omega)).mono ?_; rintro e w1 ⟨v1, rfl, own1, nn1, b1⟩; replace hD := bt hD b1; have cq := hS.out _ hD; obtain ⟨d1, p1, rfl, r1⟩ := own_get own1 nn1)
        | (refine step_appW rfl (.tmp 16) (.tmp 19) rfl base v (xs ++ eU (ys.take k)) ([] ++ (putR (u64 y))) rfl (H2.out.below hD) d1 _ _ rfl r1 (by have := hpos.out; simpa using this) (by have := hlen.out; have := hput.out; simp only [List.nil_append]; omega) (Nat.le_trans hbase.out hD.size) ?_; intro v2 w2 own2 nn2 kw; have hW2 := kw.2 _ _ _ (by decide) ((hD.block _ z1).trans H1.out); obtain ⟨cS, f2, z2⟩ := cells_at hW2; obtain ⟨d2, n2, p2, rfl⟩ := own_ltr own2 nn2))
      all_goals
        have hE : Hid (WtO (w2.setCell ⟨Wb, 0, none⟩ (.slice (some d2) n2 p2)) Wb base (xs ++ eU (ys.take (k + 1))) ∧ Wk base Wb w (w2.setCell ⟨Wb, 0, none⟩ (.slice (some d2) n2 p2))) := ⟨wt_set hW2 (by rw [List.nil_append, hnext.out] at own2; exact own2) nn2, (hK'.out.trans (Wk.of hD hbase.out)).trans (kw.wk.trans (wk_set hb))⟩
        clear hW2 own2 kw cS r1 own1 cq c1
        go_wp2
        go_roundw
        case rel => exact ⟨k + 1, by omega, by go_num, hE.out.1.wt, hE.out.2, fun _ => hE.out.1⟩
        case measure => simp [intOf]; omega
    · have hE : Hid (Wt wr Wb base (xs ++ eU ys) ∧ (0 < n → WtO wr Wb base (xs ++ eU ys))) := by
        unfold Hid; rw [List.take_of_length_le (by rw [hl'.out]; omega)] at hT hO; exact ⟨hT, fun h => hO (by omega)⟩
      clear hT hK hO
      go_wp2
      go_end0
      exact ⟨rfl, hE.out.1, hK'.out, hE.out.2⟩
set_option maxHeartbeats 2000000 in
set_option maxRecDepth 100000 in
theorem signed_any (Wb base g n : Nat) (xs ys : List Int) (w : World) (h : Wt w Wb base xs) (hn : Nums w g ys) (hl : ys.length = n) (hg : g ≠ Wb) (hb : base ≤ Wb) (hs : xs.length + 10 * n ≤ 140737488355328) (hn2 : n ≤ 1000) (hy : In64 ys) :
    Calls Tryz.prog 54 #[(.pointer (some ⟨Wb, 0, none⟩)), .slice (some ⟨g, 0, none⟩) n n] w fun e w' => e = .returned (.tuple #[]) ∧ Wt w' Wb base (xs ++ eS ys) ∧ Wk base Wb w w' ∧ (0 < n → WtO w' Wb base (xs ++ eS ys)) := by
  have hl' : Hid (ys.length = n) := hl
  have hn' : Hid (Nums w g ys) := hn
  have h0 : Hid (Wt w Wb base (xs ++ eS (ys.take 0))) := by unfold Hid; simpa [eS] using h
  have hWb : Wb < w.heap.size := by obtain ⟨v, h1, -⟩ := h; exact lt_of_heap h1
  clear hl hn h
  go_enter Tryz.func54, Tryz.ntmps54
  go_wp2
  go_loopw [8] (fun i wr => ∃ k : Nat, k ≤ n ∧ i = .int .i64 k ∧ Wt wr Wb base (xs ++ eS (ys.take k)) ∧ Wk base Wb w wr ∧ (0 < k → WtO wr Wb base (xs ++ eS (ys.take k)))) (fun i _ => n - (intOf i).toNat)
  case atStart => exact ⟨0, Nat.zero_le _, rfl, h0.out, Wk.refl _ _ _, fun h => by omega⟩
  case round =>
    obtain ⟨k, hk, rfl, hT, hK, hO⟩ := hrel
    clear h0
    have hK' : Hid (Wk base Wb w wr) := hK
    by_cases hlt : k < n
    · obtain ⟨y, hky⟩ : ∃ y, ys[k]? = some y := ⟨_, List.getElem?_eq_getElem (by rw [hl'.out]; exact hlt)⟩
      have hcy := (show Nums wr g ys from hK.2 g _ _ hg (by decide) hn'.out).at hky
      have hlen : Hid ((xs ++ eS (ys.take k)).length ≤ xs.length + 10 * k) := by
        have := eS_le (ys.take k) (fun x hx => hy x (List.mem_of_mem_take hx)); simp only [Hid, List.length_append, List.length_take] at *; omega
      have hnext : Hid (xs ++ eS (ys.take k) ++ (putR (foldR y)) = xs ++ eS (ys.take (k + 1))) := by
        unfold Hid; rw [take_more hky, eS_app, List.append_assoc]; simp [eS]
      obtain ⟨v, h1, h2⟩ := hT
      obtain ⟨c1, f1, z1⟩ := cells_at h1
      have hy64 := hy y (List.mem_of_getElem? hky)
      have hpos : Hid (0 < (putR (foldR y)).length) := putR_pos _
      have hput : Hid (((putR (foldR y))).length ≤ 10) := putR_ten (foldR_lt hy64.1 hy64.2)
      have hS : Hid (∀ w', Below wr.heap.size wr w' → ∀ i, w'.cell? ⟨Wb, i, none⟩ = #[v][i]?) := fun w' hb' => (cells_at ((hb'.block _ (lt_of_heap h1)).trans h1)).1
      have H1 : Hid (wr.heap[Wb]? = some (.cells #[v] 88 (0, 0))) := h1
      have H2 : Hid (Wo wr base v (xs ++ eS (ys.take k))) := h2
      have hbase : Hid (base ≤ wr.heap.size) := by unfold Hid; omega
      have hD : Below wr.heap.size wr wr.drew := (Below.refl _ _).drew
      clear hK h1 h2 hky hO
      go_wp2
      go_region_law (first
        | (go_simp; go_at_call 77; refine (putS_is none 0 0 [] y _ (row_e _) hy64.1 hy64.2 (by omega)).mono ?_; rintro e w1 ⟨v1, rfl, own1, nn1, b1⟩; replace hD := bt hD b1; have cq := hS.out _ hD; obtain ⟨d1, p1, rfl, r1⟩ := own_get own1 nn1)
        | (refine step_appW rfl (.tmp 16) (.tmp 18) rfl base v (xs ++ eS (ys.take k)) ([] ++ (putR (foldR y))) rfl (H2.out.below hD) d1 _ _ rfl r1 (by have := hpos.out; simpa using this) (by have := hlen.out; have := hput.out; simp only [List.nil_append]; omega) (Nat.le_trans hbase.out hD.size) ?_; intro v2 w2 own2 nn2 kw; have hW2 := kw.2 _ _ _ (by decide) ((hD.block _ z1).trans H1.out); obtain ⟨cS, f2, z2⟩ := cells_at hW2; obtain ⟨d2, n2, p2, rfl⟩ := own_ltr own2 nn2))
      all_goals
        have hE : Hid (WtO (w2.setCell ⟨Wb, 0, none⟩ (.slice (some d2) n2 p2)) Wb base (xs ++ eS (ys.take (k + 1))) ∧ Wk base Wb w (w2.setCell ⟨Wb, 0, none⟩ (.slice (some d2) n2 p2))) := ⟨wt_set hW2 (by rw [List.nil_append, hnext.out] at own2; exact own2) nn2, (hK'.out.trans (Wk.of hD hbase.out)).trans (kw.wk.trans (wk_set hb))⟩
        clear hW2 own2 kw cS r1 own1 cq c1
        go_wp2
        go_roundw
        case rel => exact ⟨k + 1, by omega, by go_num, hE.out.1.wt, hE.out.2, fun _ => hE.out.1⟩
        case measure => simp [intOf]; omega
    · have hE : Hid (Wt wr Wb base (xs ++ eS ys) ∧ (0 < n → WtO wr Wb base (xs ++ eS ys))) := by
        unfold Hid; rw [List.take_of_length_le (by rw [hl'.out]; omega)] at hT hO; exact ⟨hT, fun h => hO (by omega)⟩
      clear hT hK hO
      go_wp2
      go_end0
      exact ⟨rfl, hE.out.1, hK'.out, hE.out.2⟩
end Go.Proofs.YthagdpiocmcbmaaGreat

/- The writer of package pack: windows, lists, ops. -/
namespace Go.Proofs.YthagdpiocmcbmaaGreat
open Wr
open Go.ChangeShapes Go.WideShapes Go.ChangeAt Go.RowKit
set_option linter.unusedVariables false
theorem Wt.lt {w : World} {Wb base : Nat} {xs : List Int} (h : Wt w Wb base xs) : Wb < w.heap.size := by obtain ⟨v, h1, -⟩ := h; exact lt_of_heap h1
theorem Wt.al {w : World} {Wb base : Nat} {xs : List Int} (h : Wt w Wb base xs) (o : Obj) : Wt (w.alloc o) Wb base xs := h.below (bal _ _)
theorem wk_al {w : World} {base Wb : Nat} (o : Obj) (hb : base ≤ w.heap.size) : Wk base Wb w (w.alloc o) := Wk.of (bal _ _) hb
set_option maxHeartbeats 1000000 in
theorem wwindow_any (Wb base : Nat) (xs : List Int) (a b c d p q r s : Int) (w : World) (h : Wt w Wb base xs) (hb : base ≤ Wb) (hs : xs.length + 1000 ≤ 140737488355328) :
    Calls Tryz.prog 78 #[(.pointer (some ⟨Wb, 0, none⟩)), .agg #[.int .i64 a, .int .i64 b, .int .i64 c, .int .i64 d, .int .i64 p, .int .i64 q, .int .i64 r, .int .i64 s]] w fun e w' => e = .returned (.tuple #[]) ∧ Wt w' Wb base (xs ++ eU [a, b, c, d, p, q, r, s]) ∧ Wk base Wb w w' := by
  have hlt := h.lt
  have H : Hid (Wt w Wb base xs) := h
  clear h
  go_enter Tryz.func78, Tryz.ntmps78
  go_wp2_with fail
  refine (unsigned_any Wb base (w.heap.size + 1) 4 xs [a, b, c, d] _ ((H.out.al _).al _) (by unfold Nums; simpa using heap_alloc_new (w.alloc _) _) rfl (by omega) hb (by omega) (by omega) trivial).mono ?_
  rintro e w1 ⟨rfl, T1, K1, -⟩
  have hB := K1.2 w.heap.size _ 49 (by omega) (by decide) (heap_alloc2_old w _ _)
  have k1 : Hid (Wk base Wb w w1) := (wk_al _ (by omega)).trans ((wk_al _ (by simp; omega)).trans K1)
  have z1 := k1.out.size
  have l1 : Hid (eU [a, b, c, d] ++ eU [p, q, r, s] = eU [a, b, c, d, p, q, r, s]) := (eU_app [a, b, c, d] [p, q, r, s]).symm
  have n1 := eU_le [a, b, c, d]
  obtain ⟨c1, f1, y1⟩ := cells_at hB
  have T1' : Hid (Wt w1 Wb base (xs ++ eU [a, b, c, d])) := T1
  have n2 : Hid ((xs ++ eU [a, b, c, d]).length + 10 * 4 ≤ 140737488355328) := by simp only [Hid, List.length_append, List.length_cons, List.length_nil] at *; omega
  clear K1 hB T1 n1
  go_wp2_with fail
  refine (unsigned_any Wb base w1.heap.size 4 (xs ++ eU [a, b, c, d]) [p, q, r, s] _ (T1'.out.al _) (heap_alloc_new w1 _) rfl (by omega) hb n2.out (by omega) trivial).mono ?_
  rintro e w2 ⟨rfl, T2, K2, -⟩
  have k2 : Hid (Wk base Wb w w2) := k1.out.trans ((wk_al _ (by omega)).trans K2)
  have t2 : Hid (Wt w2 Wb base (xs ++ eU [a, b, c, d, p, q, r, s])) := by unfold Hid; rw [← l1.out, ← List.append_assoc]; exact T2
  clear K2 T2 c1
  go_wp2
  go_end0
  exact ⟨rfl, t2.out, k2.out⟩
theorem i16_of {a : Int} (h : (Lit.int .i16 a).wf = true) : -32768 ≤ a ∧ a ≤ 32767 := by
  simp [Lit.wf, IntKind.min, IntKind.max, IntKind.bits, IntKind.signed] at h; omega
theorem i32_of {a : Int} (h : (Lit.int .i32 a).wf = true) : -2147483648 ≤ a ∧ a ≤ 2147483647 := by
  simp [Lit.wf, IntKind.min, IntKind.max, IntKind.bits, IntKind.signed] at h; omega
set_option maxHeartbeats 2000000 in
theorem put_i16 (Wb : Nat) (xs zs : List Int) (a : Option Addr) (len cap : Nat) (W w : World) (h : Wt w Wb W.heap.size xs) (hW : Below W.heap.size W w) (hr : IRow .i16 W a len cap zs) (hb : W.heap.size ≤ Wb) (hs : xs.length + 10 * len + 1000 ≤ 140737488355328) :
    Calls Tryz.prog 79 #[(.pointer (some ⟨Wb, 0, none⟩)), .slice a len cap] w fun e w' => e = .returned (.tuple #[]) ∧ Wt w' Wb W.heap.size (xs ++ (putR zs.length ++ eS zs)) ∧ Wk W.heap.size Wb w w' := by
  have hlt := h.lt
  have hl : Hid (zs.length = len) := hr.1
  have hc := hr.2.1
  have hm := hr.2.2.1
  unfold maxLen at hm
  have H : Hid (Wt w Wb W.heap.size xs) := h
  have HR : Hid (IRow .i16 W a len cap zs) := hr
  have HW : Hid (Below W.heap.size W w) := hW
  have hp : Hid (eU [(len : Int)] = putR zs.length) := by
    unfold Hid; rw [hl.out]; unfold eU; rw [List.flatMap_singleton, u64_of (by omega) (by omega), Int.toNat_natCast]
  have hpl : Hid ((putR zs.length).length ≤ 10) := by unfold Hid; exact putR_ten (by have := hl.out; omega)
  clear h hr hW
  go_enter Tryz.func79, Tryz.ntmps79
  go_wp2_with fail
  refine (unsigned_any Wb W.heap.size w.heap.size 1 xs [(len : Int)] _ (H.out.al _) (heap_alloc_new w _) rfl (by omega) hb (by omega) (by omega) trivial).mono ?_
  rintro e w1 ⟨rfl, T1, K1, -⟩
  have T1' : Hid (Wt w1 Wb W.heap.size (xs ++ (putR zs.length ++ eS (zs.take 0)))) := by unfold Hid; rw [hp.out] at T1; simpa [eS] using T1
  have k1 : Hid (Wk W.heap.size Wb w w1) := (wk_al _ (by omega)).trans K1
  have hlt1 := T1'.out.lt
  clear K1 T1
  go_wp2
  go_loopw [13] (fun i wr => ∃ k : Nat, k ≤ len ∧ i = .int .i64 k ∧ Wt wr Wb W.heap.size (xs ++ (putR zs.length ++ eS (zs.take k))) ∧ Wk W.heap.size Wb w wr) (fun i _ => len - (intOf i).toNat)
  case atStart => exact ⟨0, Nat.zero_le _, rfl, T1'.out, k1.out⟩
  case round =>
    obtain ⟨k, hk, rfl, hT, hK⟩ := hrel
    clear T1'
    have hltr := hT.lt
    have hT' : Hid (Wt wr Wb W.heap.size (xs ++ (putR zs.length ++ eS (zs.take k)))) := hT
    have hK' : Hid (Wk W.heap.size Wb w wr) := hK
    by_cases hlk : k < len
    · obtain ⟨x, y, rfl, hcx, hwf, hky, -⟩ := (HR.out.below (HW.out.trans hK.1)).at hlk
      have hyb := i16_of hwf
      have h64 : Hid (In64 [y]) := fun q hq => by simp at hq; subst hq; omega
      have hbd : Hid (In64 (zs.take k)) := fun q hq => by have := i16_of (HR.out.2.2.2.1 q (List.mem_of_mem_take hq)); omega
      have hlen : Hid ((xs ++ (putR zs.length ++ eS (zs.take k))).length + 10 * 1 ≤ 140737488355328) := by
        have := eS_le _ hbd.out; have := hpl.out; simp only [Hid, List.length_append, List.length_take] at *; omega
      have hnext : Hid (xs ++ (putR zs.length ++ eS (zs.take k)) ++ eS [y] = xs ++ (putR zs.length ++ eS (zs.take (k + 1)))) := by
        unfold Hid; rw [take_more hky, eS_app]; simp
      clear hT hK hky hwf
      go_wp2_with fail
      refine (signed_any Wb W.heap.size wr.heap.size 1 _ [y] _ (hT'.out.al _) (heap_alloc_new wr _) rfl (by omega) hb hlen.out (by omega) h64.out).mono ?_
      rintro e w2 ⟨rfl, T2, K2, -⟩
      have t2 : Hid (Wt w2 Wb W.heap.size (xs ++ (putR zs.length ++ eS (zs.take (k + 1))))) := by unfold Hid; rw [← hnext.out]; exact T2
      have k2 : Hid (Wk W.heap.size Wb w w2) := hK'.out.trans ((wk_al _ (by omega)).trans K2)
      clear T2 K2 hT'
      go_wp2
      go_roundw
      case rel => exact ⟨k + 1, by omega, by go_num, t2.out, k2.out⟩
      case measure => simp [intOf]; omega
    · have t2 : Hid (Wt wr Wb W.heap.size (xs ++ (putR zs.length ++ eS zs))) := by
        unfold Hid; rw [List.take_of_length_le (by rw [hl.out]; omega)] at hT; exact hT
      clear hT hK hT'
      go_wp2
      go_end0
      exact ⟨rfl, t2.out, hK'.out⟩
set_option maxHeartbeats 2000000 in
theorem put_i32 (Wb : Nat) (xs zs : List Int) (a : Option Addr) (len cap : Nat) (W w : World) (h : Wt w Wb W.heap.size xs) (hW : Below W.heap.size W w) (hr : IRow .i32 W a len cap zs) (hb : W.heap.size ≤ Wb) (hs : xs.length + 10 * len + 1000 ≤ 140737488355328) :
    Calls Tryz.prog 80 #[(.pointer (some ⟨Wb, 0, none⟩)), .slice a len cap] w fun e w' => e = .returned (.tuple #[]) ∧ Wt w' Wb W.heap.size (xs ++ (putR zs.length ++ eS zs)) ∧ Wk W.heap.size Wb w w' := by
  have hlt := h.lt
  have hl : Hid (zs.length = len) := hr.1
  have hc := hr.2.1
  have hm := hr.2.2.1
  unfold maxLen at hm
  have H : Hid (Wt w Wb W.heap.size xs) := h
  have HR : Hid (IRow .i32 W a len cap zs) := hr
  have HW : Hid (Below W.heap.size W w) := hW
  have hp : Hid (eU [(len : Int)] = putR zs.length) := by
    unfold Hid; rw [hl.out]; unfold eU; rw [List.flatMap_singleton, u64_of (by omega) (by omega), Int.toNat_natCast]
  have hpl : Hid ((putR zs.length).length ≤ 10) := by unfold Hid; exact putR_ten (by have := hl.out; omega)
  clear h hr hW
  go_enter Tryz.func80, Tryz.ntmps80
  go_wp2_with fail
  refine (unsigned_any Wb W.heap.size w.heap.size 1 xs [(len : Int)] _ (H.out.al _) (heap_alloc_new w _) rfl (by omega) hb (by omega) (by omega) trivial).mono ?_
  rintro e w1 ⟨rfl, T1, K1, -⟩
  have T1' : Hid (Wt w1 Wb W.heap.size (xs ++ (putR zs.length ++ eS (zs.take 0)))) := by unfold Hid; rw [hp.out] at T1; simpa [eS] using T1
  have k1 : Hid (Wk W.heap.size Wb w w1) := (wk_al _ (by omega)).trans K1
  have hlt1 := T1'.out.lt
  clear K1 T1
  go_wp2
  go_loopw [13] (fun i wr => ∃ k : Nat, k ≤ len ∧ i = .int .i64 k ∧ Wt wr Wb W.heap.size (xs ++ (putR zs.length ++ eS (zs.take k))) ∧ Wk W.heap.size Wb w wr) (fun i _ => len - (intOf i).toNat)
  case atStart => exact ⟨0, Nat.zero_le _, rfl, T1'.out, k1.out⟩
  case round =>
    obtain ⟨k, hk, rfl, hT, hK⟩ := hrel
    clear T1'
    have hltr := hT.lt
    have hT' : Hid (Wt wr Wb W.heap.size (xs ++ (putR zs.length ++ eS (zs.take k)))) := hT
    have hK' : Hid (Wk W.heap.size Wb w wr) := hK
    by_cases hlk : k < len
    · obtain ⟨x, y, rfl, hcx, hwf, hky, -⟩ := (HR.out.below (HW.out.trans hK.1)).at hlk
      have hyb := i32_of hwf
      have h64 : Hid (In64 [y]) := fun q hq => by simp at hq; subst hq; omega
      have hbd : Hid (In64 (zs.take k)) := fun q hq => by have := i32_of (HR.out.2.2.2.1 q (List.mem_of_mem_take hq)); omega
      have hlen : Hid ((xs ++ (putR zs.length ++ eS (zs.take k))).length + 10 * 1 ≤ 140737488355328) := by
        have := eS_le _ hbd.out; have := hpl.out; simp only [Hid, List.length_append, List.length_take] at *; omega
      have hnext : Hid (xs ++ (putR zs.length ++ eS (zs.take k)) ++ eS [y] = xs ++ (putR zs.length ++ eS (zs.take (k + 1)))) := by
        unfold Hid; rw [take_more hky, eS_app]; simp
      clear hT hK hky hwf
      go_wp2_with fail
      refine (signed_any Wb W.heap.size wr.heap.size 1 _ [y] _ (hT'.out.al _) (heap_alloc_new wr _) rfl (by omega) hb hlen.out (by omega) h64.out).mono ?_
      rintro e w2 ⟨rfl, T2, K2, -⟩
      have t2 : Hid (Wt w2 Wb W.heap.size (xs ++ (putR zs.length ++ eS (zs.take (k + 1))))) := by unfold Hid; rw [← hnext.out]; exact T2
      have k2 : Hid (Wk W.heap.size Wb w w2) := hK'.out.trans ((wk_al _ (by omega)).trans K2)
      clear T2 K2 hT'
      go_wp2
      go_roundw
      case rel => exact ⟨k + 1, by omega, by go_num, t2.out, k2.out⟩
      case measure => simp [intOf]; omega
    · have t2 : Hid (Wt wr Wb W.heap.size (xs ++ (putR zs.length ++ eS zs))) := by
        unfold Hid; rw [List.take_of_length_le (by rw [hl.out]; omega)] at hT; exact hT
      clear hT hK hT'
      go_wp2
      go_end0
      exact ⟨rfl, t2.out, hK'.out⟩
end Go.Proofs.YthagdpiocmcbmaaGreat

/- The writer of package pack: an op. -/
namespace Go.Proofs.YthagdpiocmcbmaaGreat
open Wr
open Go.ChangeShapes Go.WideShapes Go.ChangeAt Go.RowKit
set_option linter.unusedVariables false
def dOp (o : Nat → Int) (z b : List Int) : OpD := ⟨[o 0, o 1, o 2, o 3, o 4, o 5, o 6, o 7, o 8, o 9, o 10, o 11], z, b, [o 14, o 15, o 16, o 17], [o 18, o 19, o 20, o 21]⟩
theorem eOp_is (o : Nat → Int) (z b xs : List Int) : xs ++ eU [o 0, o 1, o 2, o 3] ++ eU [o 4, o 5, o 6, o 7, o 8, o 9, o 10, o 11] ++ (putR z.length ++ eS z) ++ (putR b.length ++ eS b) ++ eU [o 14, o 15, o 16, o 17] ++ eS [o 18, o 19, o 20, o 21] = xs ++ eOp (dOp o z b) := by
  unfold eOp dOp
  simp only [List.append_assoc]
  rw [show [o 0, o 1, o 2, o 3, o 4, o 5, o 6, o 7, o 8, o 9, o 10, o 11] = [o 0, o 1, o 2, o 3] ++ [o 4, o 5, o 6, o 7, o 8, o 9, o 10, o 11] from rfl, eU_app]
  simp only [List.append_assoc]
theorem put_le {n : Nat} (h : n ≤ 1000000000) : (putR n).length ≤ 10 := putR_ten (by omega)
set_option maxHeartbeats 4000000 in
set_option maxRecDepth 100000 in
theorem wop_any (Wb : Nat) (xs : List Int) (o : Nat → Int) (z b : List Int) (wa : Option Addr) (lw cw : Nat) (ba : Option Addr) (lb cb : Nat) (W w : World) (h : Wt w Wb W.heap.size xs) (hW : Below W.heap.size W w) (hb : W.heap.size ≤ Wb)
    (h1 : IRow .i16 W wa lw cw z) (h2 : IRow .i32 W ba lb cb b) (l1 : lw ≤ 131072) (l2 : lb ≤ 1024) (h3 : In64 [o 18, o 19, o 20, o 21]) (hs : xs.length + 2000000 ≤ 140737488355328) :
    Calls Tryz.prog 55 #[(.pointer (some ⟨Wb, 0, none⟩)), .agg #[.int .i64 (o 0), .int .i64 (o 1), .int .i64 (o 2), .int .i64 (o 3), .int .i64 (o 4), .int .i64 (o 5), .int .i64 (o 6), .int .i64 (o 7), .int .i64 (o 8), .int .i64 (o 9), .int .i64 (o 10), .int .i64 (o 11), .slice wa lw cw, .slice ba lb cb, .int .i64 (o 14), .int .i64 (o 15), .int .i64 (o 16), .int .i64 (o 17), .int .i64 (o 18), .int .i64 (o 19), .int .i64 (o 20), .int .i64 (o 21)]] w fun e w' => e = .returned (.tuple #[]) ∧ Wt w' Wb W.heap.size (xs ++ eOp (dOp o z b)) ∧ Wk W.heap.size Wb w w' := by
  have hlt := h.lt
  have H1 : Hid (IRow .i16 W wa lw cw z) := h1
  have H2 : Hid (IRow .i32 W ba lb cb b) := h2
  have H3 : Hid (In64 [o 18, o 19, o 20, o 21]) := h3
  have HW : Hid (Below W.heap.size W w) := hW
  have zl : Hid (z.length = lw) := h1.1
  have bl : Hid (b.length = lb) := h2.1
  have e1 : Hid ((eU [o 0, o 1, o 2, o 3]).length ≤ 40) := eU_le _
  have e2 : Hid ((eU [o 4, o 5, o 6, o 7, o 8, o 9, o 10, o 11]).length ≤ 80) := eU_le _
  have e3 : Hid ((eS z).length ≤ 10 * z.length) := eS_le _ fun q hq => by have := i16_of (h1.2.2.2.1 q hq); omega
  have e4 : Hid ((eS b).length ≤ 10 * b.length) := eS_le _ fun q hq => by have := i32_of (h2.2.2.2.1 q hq); omega
  have e5 : Hid ((putR z.length).length ≤ 10 ∧ (putR b.length).length ≤ 10) := ⟨put_le (by have := zl.out; omega), put_le (by have := bl.out; omega)⟩
  have e6 : Hid ((eU [o 14, o 15, o 16, o 17]).length ≤ 40) := eU_le _
  have E := eOp_is o z b xs
  have HE : Hid _ := E
  have H : Hid (Wt w Wb W.heap.size xs) := h
  have k0 : Hid (Wk W.heap.size Wb w (w.alloc (.cells #[.int .i64 (o 0), .int .i64 (o 1), .int .i64 (o 2), .int .i64 (o 3), .int .i64 (o 4), .int .i64 (o 5), .int .i64 (o 6), .int .i64 (o 7), .int .i64 (o 8), .int .i64 (o 9), .int .i64 (o 10), .int .i64 (o 11), .slice wa lw cw, .slice ba lb cb, .int .i64 (o 14), .int .i64 (o 15), .int .i64 (o 16), .int .i64 (o 17), .int .i64 (o 18), .int .i64 (o 19), .int .i64 (o 20), .int .i64 (o 21)] 55))) := wk_al _ (by omega)
  have B0 : Hid ((w.alloc (.cells #[.int .i64 (o 0), .int .i64 (o 1), .int .i64 (o 2), .int .i64 (o 3), .int .i64 (o 4), .int .i64 (o 5), .int .i64 (o 6), .int .i64 (o 7), .int .i64 (o 8), .int .i64 (o 9), .int .i64 (o 10), .int .i64 (o 11), .slice wa lw cw, .slice ba lb cb, .int .i64 (o 14), .int .i64 (o 15), .int .i64 (o 16), .int .i64 (o 17), .int .i64 (o 18), .int .i64 (o 19), .int .i64 (o 20), .int .i64 (o 21)] 55)).heap[w.heap.size]? = some (.cells #[.int .i64 (o 0), .int .i64 (o 1), .int .i64 (o 2), .int .i64 (o 3), .int .i64 (o 4), .int .i64 (o 5), .int .i64 (o 6), .int .i64 (o 7), .int .i64 (o 8), .int .i64 (o 9), .int .i64 (o 10), .int .i64 (o 11), .slice wa lw cw, .slice ba lb cb, .int .i64 (o 14), .int .i64 (o 15), .int .i64 (o 16), .int .i64 (o 17), .int .i64 (o 18), .int .i64 (o 19), .int .i64 (o 20), .int .i64 (o 21)] 55 (0, 0))) := heap_alloc_new w _
  clear h h1 h2 h3 hW E
  go_enter Tryz.func55, Tryz.ntmps55
  go_wp2_with fail
  refine (unsigned_any Wb W.heap.size (w.heap.size + 1) 4 xs [o 0, o 1, o 2, o 3] _ ((H.out.al _).al _) (by unfold Nums; simpa using heap_alloc_new (w.alloc _) _) rfl (by omega) hb (by omega) (by omega) trivial).mono ?_
  rintro e w1 ⟨rfl, T1, K1, -⟩
  have k1 : Hid (Wk W.heap.size Wb w w1) := k0.out.trans ((wk_al _ (by simp; omega)).trans K1)
  have B1 : Hid (w1.heap[w.heap.size]? = some (.cells #[.int .i64 (o 0), .int .i64 (o 1), .int .i64 (o 2), .int .i64 (o 3), .int .i64 (o 4), .int .i64 (o 5), .int .i64 (o 6), .int .i64 (o 7), .int .i64 (o 8), .int .i64 (o 9), .int .i64 (o 10), .int .i64 (o 11), .slice wa lw cw, .slice ba lb cb, .int .i64 (o 14), .int .i64 (o 15), .int .i64 (o 16), .int .i64 (o 17), .int .i64 (o 18), .int .i64 (o 19), .int .i64 (o 20), .int .i64 (o 21)] 55 (0, 0))) := K1.2 _ _ _ (by omega) (by decide) (((bal _ _).block _ (by simp)).trans B0.out)
  have t1 : Hid (Wt w1 Wb W.heap.size _) := T1
  have hl1 := k1.out.size
  obtain ⟨c1, f1, y1⟩ := cells_at B1.out
  clear K1 T1
  go_wp2_with fail
  refine (wwindow_any Wb W.heap.size _ (o 4) (o 5) (o 6) (o 7) (o 8) (o 9) (o 10) (o 11) _ t1.out hb (by have := e1.out; simp only [List.length_append]; omega)).mono ?_
  rintro e w2 ⟨rfl, T2, K2⟩
  have k2 : Hid (Wk W.heap.size Wb w w2) := k1.out.trans K2
  have B2 : Hid (w2.heap[w.heap.size]? = some (.cells #[.int .i64 (o 0), .int .i64 (o 1), .int .i64 (o 2), .int .i64 (o 3), .int .i64 (o 4), .int .i64 (o 5), .int .i64 (o 6), .int .i64 (o 7), .int .i64 (o 8), .int .i64 (o 9), .int .i64 (o 10), .int .i64 (o 11), .slice wa lw cw, .slice ba lb cb, .int .i64 (o 14), .int .i64 (o 15), .int .i64 (o 16), .int .i64 (o 17), .int .i64 (o 18), .int .i64 (o 19), .int .i64 (o 20), .int .i64 (o 21)] 55 (0, 0))) := K2.2 _ _ _ (by omega) (by decide) B1.out
  have t2 : Hid (Wt w2 Wb W.heap.size _) := T2
  clear K2 T2 c1 f1 y1 k1 B1 t1
  obtain ⟨c1, f1, y1⟩ := cells_at B2.out
  go_wp2_with fail
  refine (put_i16 Wb _ z wa lw cw W _ t2.out (HW.out.trans k2.out.1) H1.out hb (by have := e1.out; have := e2.out; simp only [List.length_append]; omega)).mono ?_
  rintro e w3 ⟨rfl, T3, K3⟩
  have k3 : Hid (Wk W.heap.size Wb w w3) := k2.out.trans K3
  have B3 : Hid (w3.heap[w.heap.size]? = some (.cells #[.int .i64 (o 0), .int .i64 (o 1), .int .i64 (o 2), .int .i64 (o 3), .int .i64 (o 4), .int .i64 (o 5), .int .i64 (o 6), .int .i64 (o 7), .int .i64 (o 8), .int .i64 (o 9), .int .i64 (o 10), .int .i64 (o 11), .slice wa lw cw, .slice ba lb cb, .int .i64 (o 14), .int .i64 (o 15), .int .i64 (o 16), .int .i64 (o 17), .int .i64 (o 18), .int .i64 (o 19), .int .i64 (o 20), .int .i64 (o 21)] 55 (0, 0))) := K3.2 _ _ _ (by omega) (by decide) B2.out
  have t3 : Hid (Wt w3 Wb W.heap.size _) := T3
  clear K3 T3 c1 f1 y1 k2 B2 t2
  obtain ⟨c1, f1, y1⟩ := cells_at B3.out
  go_wp2_with fail
  refine (put_i32 Wb _ b ba lb cb W _ t3.out (HW.out.trans k3.out.1) H2.out hb (by have := e1.out; have := e2.out; have := e3.out; have := e5.out.1; have := zl.out; simp only [List.length_append]; omega)).mono ?_
  rintro e w4 ⟨rfl, T4, K4⟩
  have k4 : Hid (Wk W.heap.size Wb w w4) := k3.out.trans K4
  have B4 : Hid (w4.heap[w.heap.size]? = some (.cells #[.int .i64 (o 0), .int .i64 (o 1), .int .i64 (o 2), .int .i64 (o 3), .int .i64 (o 4), .int .i64 (o 5), .int .i64 (o 6), .int .i64 (o 7), .int .i64 (o 8), .int .i64 (o 9), .int .i64 (o 10), .int .i64 (o 11), .slice wa lw cw, .slice ba lb cb, .int .i64 (o 14), .int .i64 (o 15), .int .i64 (o 16), .int .i64 (o 17), .int .i64 (o 18), .int .i64 (o 19), .int .i64 (o 20), .int .i64 (o 21)] 55 (0, 0))) := K4.2 _ _ _ (by omega) (by decide) B3.out
  have t4 : Hid (Wt w4 Wb W.heap.size _) := T4
  have hl4 := t4.out.lt
  clear K4 T4 c1 f1 y1 k3 B3 t3
  obtain ⟨c1, f1, y1⟩ := cells_at B4.out
  go_wp2_with fail
  refine (unsigned_any Wb W.heap.size w4.heap.size 4 _ [o 14, o 15, o 16, o 17] _ (t4.out.al _) (heap_alloc_new w4 _) rfl (by omega) hb (by have := e1.out; have := e2.out; have := e3.out; have := e4.out; have := e5.out; have := zl.out; have := bl.out; simp only [List.length_append]; omega) (by omega) trivial).mono ?_
  rintro e w5 ⟨rfl, T5, K5, -⟩
  have k5 : Hid (Wk W.heap.size Wb w w5) := k4.out.trans ((wk_al _ (by omega)).trans K5)
  have B5 : Hid (w5.heap[w.heap.size]? = some (.cells #[.int .i64 (o 0), .int .i64 (o 1), .int .i64 (o 2), .int .i64 (o 3), .int .i64 (o 4), .int .i64 (o 5), .int .i64 (o 6), .int .i64 (o 7), .int .i64 (o 8), .int .i64 (o 9), .int .i64 (o 10), .int .i64 (o 11), .slice wa lw cw, .slice ba lb cb, .int .i64 (o 14), .int .i64 (o 15), .int .i64 (o 16), .int .i64 (o 17), .int .i64 (o 18), .int .i64 (o 19), .int .i64 (o 20), .int .i64 (o 21)] 55 (0, 0))) := K5.2 _ _ _ (by omega) (by decide) (((bal _ _).block _ y1).trans B4.out)
  have t5 : Hid (Wt w5 Wb W.heap.size _) := T5
  have hl5 := t5.out.lt
  clear K5 T5 c1 f1 y1 k4 B4 t4
  obtain ⟨c1, f1, y1⟩ := cells_at B5.out
  go_wp2_with fail
  refine (signed_any Wb W.heap.size w5.heap.size 4 _ [o 18, o 19, o 20, o 21] _ (t5.out.al _) (heap_alloc_new w5 _) rfl (by omega) hb (by have := e1.out; have := e2.out; have := e3.out; have := e4.out; have := e5.out; have := e6.out; have := zl.out; have := bl.out; simp only [List.length_append]; omega) (by omega) H3.out).mono ?_
  rintro e w6 ⟨rfl, T6, K6, -⟩
  have k6 : Hid (Wk W.heap.size Wb w w6) := k5.out.trans ((wk_al _ (by omega)).trans K6)
  have t6 : Hid (Wt w6 Wb W.heap.size (xs ++ eOp (dOp o z b))) := by unfold Hid; rw [← HE.out]; exact T6
  clear K6 T6 c1 f1 y1 k5 B5 t5
  go_wp2
  go_end0
  exact ⟨rfl, t6.out, k6.out⟩
end Go.Proofs.YthagdpiocmcbmaaGreat
