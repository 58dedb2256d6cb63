/- Certificates in bytes, in plain lists: what stands in bytes, which bytes a certificate has; there and back; cut short; one form. -/
import Derived.Test.YthlnhodfgmpabaaPckP
import Derived.Test.YthlnhodfgmpabaaCrtP
namespace Go.Proofs.Ythlnhodfgmpabaa.Sl
open Wr
set_option linter.unusedVariables false
/-- An end of a span; a span; a plan. Where: the list's number times 4096, and the plan's. -/
def p64 (t : Int) : List Int → Sum (Int × Int) (Int × List Int) := pS t (-9223372036854775808) 9223372036854775807
def pSp (t : Int) (zs : List Int) : Sum (Int × Int) ((Int × Int) × List Int) := pbind (p64 t zs) fun a r => pbind (p64 t r) fun b r' => .inr ((a, b), r')
def pPl (t : Int) (zs : List Int) : Sum (Int × Int) (Pl × List Int) :=
  pbind (pU t zs) fun w r1 => pbind (pU t r1) fun d r2 => pbind (pSp t r2) fun p r3 => pbind (pSp t r3) fun q r4 => .inr ((w, d, p.1, p.2, q.1, q.2), r4)
/-- So many, one behind another, the first of them being number i. -/
def pI {α : Type} (p : Nat → List Int → Sum (Int × Int) (α × List Int)) : Nat → Nat → List Int → Sum (Int × Int) (List α × List Int)
  | 0, _, zs => .inr ([], zs)
  | n + 1, i, zs => pbind (p i zs) fun a r => pbind (pI p n (i + 1) r) fun l r' => .inr (a :: l, r')
def pRs (zs : List Int) : Sum (Int × Int) (List (Int × Int) × List Int) := pbind (pN 0 65 zs) fun n r => pI (fun _ => pSp 0) n.toNat 0 r
def pLi (o : Int) (zs : List Int) : Sum (Int × Int) (List Pl × List Int) := pbind (pN (o * 4096) 1024 zs) fun n r => pI (fun k => pPl (o * 4096 + ((k : Int) + 1))) n.toNat 0 r
def pLs (zs : List Int) : Sum (Int × Int) (List (List Pl) × List Int) := pbind (pN 0 64 zs) fun n r => pI (fun i => pLi ((i : Int) + 1)) n.toNat 0 r
abbrev CeD := List (Int × Int) × List (List Pl)
def pCe (zs : List Int) : Sum (Int × Int) (CeD × List Int) := pbind (pRs zs) fun R r => pbind (pLs r) fun P r' => .inr ((R, P), r')
def head4 : List Int := [83, 87, 67, 49]
def pAll (zs : List Int) : Sum (Int × Int) CeD :=
  if zs.length < 4 then .inl (40, 0) else if zs.take 4 ≠ head4 then .inl (41, 0) else
    match pCe (zs.drop 4) with
    | .inl e => .inl e
    | .inr (m, r) => if r = [] then .inr m else .inl (43, 0)
/-! ### The bytes -/
def eSp (s : Int × Int) : List Int := putR (foldR s.1) ++ putR (foldR s.2)
def ePl (p : Pl) : List Int := putR (u64 p.1) ++ (putR (u64 p.2.1) ++ (eSp (p.2.2.1, p.2.2.2.1) ++ eSp (p.2.2.2.2.1, p.2.2.2.2.2)))
def eLi (l : List Pl) : List Int := putR l.length ++ l.flatMap ePl
def eCe (c : CeD) : List Int := putR c.1.length ++ (c.1.flatMap eSp ++ (putR c.2.length ++ c.2.flatMap eLi))
def eAll (c : CeD) : List Int := head4 ++ eCe c
/-! ### Which certificates have bytes -/
def okB (p : Pl) : Bool := decide ((0 ≤ p.1 ∧ p.1 ≤ 2147483647) ∧ 0 ≤ p.2.1 ∧ p.2.1 ≤ 2147483647)
def fPl (o : Int) : List Pl → Nat → Int × Int × Int
  | [], _ => (0, 0, 0)
  | p :: r, k => if okB p = true then fPl o r (k + 1) else (2, o, (k : Int) + 1)
def fLi (o : Int) (l : List Pl) : Int × Int × Int := if 1024 < l.length then (42, o, 0) else fPl o l 0
def fLs : List (List Pl) → Nat → Int × Int × Int
  | [], _ => (0, 0, 0)
  | l :: r, i => if (fLi ((i : Int) + 1) l).1 = 0 then fLs r (i + 1) else fLi ((i : Int) + 1) l
def fCe (c : CeD) : Int × Int × Int := if 65 < c.1.length ∨ 64 < c.2.length then (42, 0, 0) else fLs c.2 0
/-- Numbers of 64 bits. -/
def S64 (s : Int × Int) : Prop := (-9223372036854775808 ≤ s.1 ∧ s.1 ≤ 9223372036854775807) ∧ -9223372036854775808 ≤ s.2 ∧ s.2 ≤ 9223372036854775807
def P64 (p : Pl) : Prop := S64 (p.2.2.1, p.2.2.2.1) ∧ S64 (p.2.2.2.2.1, p.2.2.2.2.2)
def C64 (c : CeD) : Prop := (∀ s ∈ c.1, S64 s) ∧ ∀ l ∈ c.2, ∀ p ∈ l, P64 p
def PlF (p : Pl) : Prop := ((0 ≤ p.1 ∧ p.1 ≤ 2147483647) ∧ 0 ≤ p.2.1 ∧ p.2.1 ≤ 2147483647) ∧ P64 p
def LiF (l : List Pl) : Prop := l.length ≤ 1024 ∧ ∀ p ∈ l, PlF p
def CeF (c : CeD) : Prop := (c.1.length ≤ 65 ∧ ∀ s ∈ c.1, S64 s) ∧ c.2.length ≤ 64 ∧ ∀ l ∈ c.2, LiF l
theorem fPl_yes {o : Int} {p : Pl} {r : List Pl} {k : Nat} (h : okB p = true) : fPl o (p :: r) k = fPl o r (k + 1) := if_pos h
theorem fPl_no {o : Int} {p : Pl} {r : List Pl} {k : Nat} (h : okB p = false) : fPl o (p :: r) k = (2, o, (k : Int) + 1) := if_neg (by rw [h]; decide)
theorem fPl_0 {o : Int} : ∀ (r : List Pl) (k : Nat), (fPl o r k).1 = 0 → fPl o r k = (0, 0, 0) ∧ ∀ p ∈ r, okB p = true
  | [], _, _ => ⟨rfl, fun p h => by cases h⟩
  | p :: r, k, h => by
    cases q : okB p with
    | true =>
      rw [fPl_yes q] at h ⊢
      obtain ⟨h1, h2⟩ := fPl_0 r _ h
      exact ⟨h1, fun x hx => by rcases List.mem_cons.1 hx with rfl | hx; exact q; exact h2 x hx⟩
    | false => rw [fPl_no q] at h; cases h
theorem fLi_long {o : Int} {l : List Pl} (h : 1024 < l.length) : fLi o l = (42, o, 0) := if_pos h
theorem fLi_short {o : Int} {l : List Pl} (h : ¬ 1024 < l.length) : fLi o l = fPl o l 0 := if_neg h
theorem fLi_0 {o : Int} {l : List Pl} (h : (fLi o l).1 = 0) : fLi o l = (0, 0, 0) ∧ l.length ≤ 1024 ∧ ∀ p ∈ l, okB p = true := by
  by_cases q : 1024 < l.length
  · rw [fLi_long q] at h; cases h
  · rw [fLi_short q] at h ⊢
    obtain ⟨h1, h2⟩ := fPl_0 l 0 h
    exact ⟨h1, by omega, h2⟩
theorem fLs_yes {l : List Pl} {r : List (List Pl)} {i : Nat} (h : (fLi ((i : Int) + 1) l).1 = 0) : fLs (l :: r) i = fLs r (i + 1) := if_pos h
theorem fLs_no {l : List Pl} {r : List (List Pl)} {i : Nat} (h : (fLi ((i : Int) + 1) l).1 ≠ 0) : fLs (l :: r) i = fLi ((i : Int) + 1) l := if_neg h
theorem fLs_0 : ∀ (r : List (List Pl)) (i : Nat), (fLs r i).1 = 0 → fLs r i = (0, 0, 0) ∧ ∀ l ∈ r, l.length ≤ 1024 ∧ ∀ p ∈ l, okB p = true
  | [], _, _ => ⟨rfl, fun p h => by cases h⟩
  | l :: r, i, h => by
    by_cases q : (fLi ((i : Int) + 1) l).1 = 0
    · rw [fLs_yes q] at h ⊢
      obtain ⟨h1, h2⟩ := fLs_0 r _ h
      exact ⟨h1, fun x hx => by rcases List.mem_cons.1 hx with rfl | hx; exact (fLi_0 q).2; exact h2 x hx⟩
    · rw [fLs_no q] at h; exact absurd h q
theorem okB_y {p : Pl} (h : okB p = true) : (0 ≤ p.1 ∧ p.1 ≤ 2147483647) ∧ 0 ≤ p.2.1 ∧ p.2.1 ≤ 2147483647 := by unfold okB at h; exact of_decide_eq_true h
theorem fCe_0 {c : CeD} (h : (fCe c).1 = 0) (h64 : C64 c) : fCe c = (0, 0, 0) ∧ CeF c := by
  unfold fCe at h ⊢
  by_cases q : 65 < c.1.length ∨ 64 < c.2.length
  · rw [if_pos q] at h; cases h
  · rw [if_neg q] at h ⊢
    obtain ⟨h1, h2⟩ := fLs_0 c.2 0 h
    exact ⟨h1, ⟨by omega, h64.1⟩, by omega, fun l hl => ⟨(h2 l hl).1, fun p hp => ⟨okB_y ((h2 l hl).2 p hp), h64.2 l hl p hp⟩⟩⟩
theorem fPl_ok {o : Int} : ∀ (r : List Pl) (k : Nat), (∀ p ∈ r, okB p = true) → fPl o r k = (0, 0, 0)
  | [], _, _ => rfl
  | p :: r, k, h => by rw [fPl_yes (h p List.mem_cons_self)]; exact fPl_ok r _ fun x hx => h x (List.mem_cons_of_mem _ hx)
theorem fLs_ok : ∀ (r : List (List Pl)) (i : Nat), (∀ l ∈ r, LiF l) → fLs r i = (0, 0, 0)
  | [], _, _ => rfl
  | l :: r, i, h => by
    have hl := h l List.mem_cons_self
    have e : fLi ((i : Int) + 1) l = (0, 0, 0) := by
      rw [fLi_short (by have := hl.1; omega)]
      exact fPl_ok l 0 fun p hp => decide_eq_true (hl.2 p hp).1
    rw [fLs_yes (by rw [e])]
    exact fLs_ok r _ fun x hx => h x (List.mem_cons_of_mem _ hx)
theorem fCe_ok {c : CeD} (h : CeF c) : fCe c = (0, 0, 0) := by
  unfold fCe
  rw [if_neg (by have := h.1.1; have := h.2.1; omega)]
  exact fLs_ok _ _ h.2.2
theorem CeF.c64 {c : CeD} (h : CeF c) : C64 c := ⟨h.1.2, fun l hl p hp => ((h.2.2 l hl).2 p hp).2⟩
/-! ### There and back -/
theorem cod_Sp (t : Int) {s : Int × Int} (h : S64 s) : Cod (pSp t) (eSp s) s :=
  (cod_S t _ _ h.1.1 h.1.2 (by omega) (by omega)).bind ((cod_S t _ _ h.2.1 h.2.2 (by omega) (by omega)).last fun b => (s.1, b))
theorem cod_Pl (t : Int) {p : Pl} (h : PlF p) : Cod (pPl t) (ePl p) p :=
  (cod_U t h.1.1.1 h.1.1.2).bind ((cod_U t h.1.2.1 h.1.2.2).bind ((cod_Sp t h.2.1).bind ((cod_Sp t h.2.2).last fun q => ((p.1, p.2.1, p.2.2.1, p.2.2.2.1, q.1, q.2) : Pl))))
theorem cod_I {α : Type} {p : Nat → List Int → Sum (Int × Int) (α × List Int)} {en : α → List Int} : ∀ (l : List α) (i : Nat), (∀ x ∈ l, ∀ i, Cod (p i) (en x) x) → Cod (pI p l.length i) (l.flatMap en) l
  | [], _, _ => ⟨fun r => rfl, fun n hn => by simp at hn⟩
  | x :: l, i, h => by
    have := (h x List.mem_cons_self i).bind (q := fun a r => pbind (pI p l.length (i + 1) r) fun l r' => .inr (a :: l, r')) ((cod_I l (i + 1) fun y hy => h y (List.mem_cons_of_mem _ hy)).last (x :: ·))
    exact this
theorem cod_It {α : Type} {p : Nat → List Int → Sum (Int × Int) (α × List Int)} {en : α → List Int} (l : List α) (h : ∀ x ∈ l, ∀ i, Cod (p i) (en x) x) : Cod (pI p (l.length : Int).toNat 0) (l.flatMap en) l := by
  rw [Int.toNat_natCast]; exact cod_I l 0 h
theorem cod_Li (o : Int) {l : List Pl} (h : LiF l) : Cod (pLi o) (eLi l) l :=
  (cod_N (o * 4096) (by have := h.1; omega) (by omega)).bind (cod_It l fun x hx i => cod_Pl _ (h.2 x hx))
theorem cod_Ce {c : CeD} (h : CeF c) : Cod pCe (eCe c) c := by
  have h1 : Cod pRs (putR c.1.length ++ c.1.flatMap eSp) c.1 := (cod_N 0 (by have := h.1.1; omega) (by omega)).bind (cod_It (p := fun _ => pSp 0) c.1 fun x hx i => cod_Sp _ (h.1.2 x hx))
  have h2 : Cod pLs (putR c.2.length ++ c.2.flatMap eLi) c.2 := (cod_N 0 (by have := h.2.1; omega) (by omega)).bind (cod_It (p := fun i => pLi ((i : Int) + 1)) c.2 fun x hx i => cod_Li _ (h.2.2 x hx))
  have := h1.bind (q := fun R r => pbind (pLs r) fun P r' => .inr ((R, P), r')) (h2.last fun P => (c.1, P))
  rw [List.append_assoc] at this
  exact this
theorem all_back {m : CeD} (h : CeF m) : pAll (eAll m) = .inr m := by
  have := (cod_Ce h).1 []
  rw [List.append_nil] at this
  unfold pAll eAll
  rw [if_neg (by simp [head4]), if_neg (by simp [head4]), show (head4 ++ eCe m).drop 4 = eCe m from rfl, this]
  rfl
theorem all_cut {m : CeD} (h : CeF m) {n : Nat} (hn : n < (eAll m).length) : ∃ t, pAll ((eAll m).take n) = .inl (40, t) := by
  unfold pAll eAll
  rcases Nat.lt_or_ge n 4 with c | c
  · exact ⟨0, by rw [if_pos (by simp; omega)]⟩
  · have e : (head4 ++ eCe m).take n = head4 ++ (eCe m).take (n - 4) := by rw [List.take_append, List.take_of_length_le (by simp [head4]; omega)]; rfl
    rw [e]
    obtain ⟨t, ht⟩ := (cod_Ce h).2 (n - 4) (by unfold eAll at hn; simp [head4] at hn; omega)
    refine ⟨t, ?_⟩
    rw [if_neg (by simp [head4]), if_neg (by simp [head4]), show (head4 ++ (eCe m).take (n - 4)).drop 4 = (eCe m).take (n - 4) from rfl, ht]
theorem all_more {m : CeD} (h : CeF m) (c : Int) : pAll (eAll m ++ [c]) = .inl (43, 0) := by
  have := (cod_Ce h).1 [c]
  unfold pAll eAll
  rw [List.append_assoc, if_neg (by simp [head4]), if_neg (by simp [head4]), show (head4 ++ (eCe m ++ [c])).drop 4 = eCe m ++ [c] from rfl, this]
  rfl
/-! ### One form -/
theorem unq_Sp (t : Int) : Unq (pSp t) eSp S64 := by
  intro zs x r hb e
  unfold pSp at e
  obtain ⟨a, r1, e1, e⟩ := pbind_inv e
  obtain ⟨b, r2, e2, e⟩ := pbind_inv e
  simp only [Sum.inr.injEq, Prod.mk.injEq] at e
  obtain ⟨rfl, rfl⟩ := e
  obtain ⟨a1, i1⟩ := unq_S t _ _ zs a r1 hb e1
  obtain ⟨a2, i2⟩ := unq_S t _ _ r1 b r2 (byt_of hb a1) e2
  refine ⟨?_, i1, i2⟩
  unfold eSp
  rw [List.append_assoc, ← a2, ← a1]
theorem unq_Pl (t : Int) : Unq (pPl t) ePl PlF := by
  intro zs x r hb e
  unfold pPl at e
  obtain ⟨a, r1, e1, e⟩ := pbind_inv e
  obtain ⟨b, r2, e2, e⟩ := pbind_inv e
  obtain ⟨c, r3, e3, e⟩ := pbind_inv e
  obtain ⟨d, r4, e4, e⟩ := pbind_inv e
  simp only [Sum.inr.injEq, Prod.mk.injEq] at e
  obtain ⟨rfl, rfl⟩ := e
  obtain ⟨a1, i1⟩ := unq_U t zs a r1 hb e1
  have b1 := byt_of hb a1
  obtain ⟨a2, i2⟩ := unq_U t r1 b r2 b1 e2
  have b2 := byt_of b1 a2
  obtain ⟨a3, i3⟩ := unq_Sp t r2 c r3 b2 e3
  have b3 := byt_of b2 a3
  obtain ⟨a4, i4⟩ := unq_Sp t r3 d r4 b3 e4
  refine ⟨?_, ⟨i1, i2⟩, i3, i4⟩
  unfold ePl
  simp only [List.append_assoc]
  rw [← a4, ← a3, ← a2, ← a1]
theorem unq_I {α : Type} {p : Nat → List Int → Sum (Int × Int) (α × List Int)} {en : α → List Int} {F : α → Prop} (h : ∀ i, Unq (p i) en F) : ∀ n i, Unq (pI p n i) (fun l => l.flatMap en) (fun l => l.length = n ∧ ∀ x ∈ l, F x)
  | 0, i, zs, x, r, hb, e => by
    simp only [pI, Sum.inr.injEq, Prod.mk.injEq] at e
    obtain ⟨rfl, rfl⟩ := e
    exact ⟨rfl, rfl, fun x hx => by cases hx⟩
  | n + 1, i, zs, x, r, hb, e => by
    unfold pI at e
    obtain ⟨a, r1, e1, e2⟩ := pbind_inv e
    obtain ⟨l, r2, e3, e4⟩ := pbind_inv e2
    simp only [Sum.inr.injEq, Prod.mk.injEq] at e4
    obtain ⟨rfl, rfl⟩ := e4
    obtain ⟨f1, f2⟩ := h i zs a r1 hb e1
    obtain ⟨g1, g2, g3⟩ := unq_I h n (i + 1) r1 l r2 (byt_of hb f1) e3
    refine ⟨?_, by simp [g2], fun y hy => ?_⟩
    · rw [f1, g1]; simp
    · rcases List.mem_cons.1 hy with rfl | hy
      · exact f2
      · exact g3 y hy
theorem unq_Nt {α : Type} {p : Nat → List Int → Sum (Int × Int) (α × List Int)} {en : α → List Int} {F : α → Prop} (h : ∀ i, Unq (p i) en F) (t : Int) (most : Nat) : Unq (fun zs => pbind (pN t most zs) fun n r => pI p n.toNat 0 r) (fun l => putR l.length ++ l.flatMap en) (fun l => l.length ≤ most ∧ ∀ x ∈ l, F x) := by
  intro zs x r hb e
  obtain ⟨n, r1, e1, e2⟩ := pbind_inv e
  obtain ⟨a1, i1⟩ := unq_N t most zs n r1 hb e1
  obtain ⟨a2, l2, i2⟩ := unq_I h n.toNat 0 r1 x r (byt_of hb a1) e2
  refine ⟨?_, by omega, i2⟩
  simp only at a1 a2 ⊢
  rw [l2, List.append_assoc, ← a2, ← a1]
theorem unq_Li (o : Int) : Unq (pLi o) eLi LiF := unq_Nt (fun k => unq_Pl _) (o * 4096) 1024
theorem unq_Ce : Unq pCe eCe CeF := by
  intro zs x r hb e
  unfold pCe at e
  obtain ⟨R, r1, e1, e⟩ := pbind_inv e
  obtain ⟨P, r2, e2, e⟩ := pbind_inv e
  simp only [Sum.inr.injEq, Prod.mk.injEq] at e
  obtain ⟨rfl, rfl⟩ := e
  obtain ⟨a1, l1, i1⟩ := unq_Nt (fun _ => unq_Sp 0) 0 65 zs R r1 hb e1
  obtain ⟨a2, l2, i2⟩ := unq_Nt (fun i => unq_Li ((i : Int) + 1)) 0 64 r1 P r2 (byt_of hb a1) e2
  refine ⟨?_, ⟨l1, i1⟩, l2, i2⟩
  unfold eCe
  simp only [List.append_assoc] at a1 a2 ⊢
  rw [← a2, ← a1]
theorem unq_all {zs : List Int} {m : CeD} (hb : Byt zs) (h : pAll zs = .inr m) : zs = eAll m ∧ CeF m := by
  unfold pAll at h
  by_cases c : zs.length < 4
  · rw [if_pos c] at h; cases h
  rw [if_neg c] at h
  by_cases d : zs.take 4 ≠ head4
  · rw [if_pos d] at h; cases h
  rw [if_neg d] at h
  have d' := Decidable.not_not.1 d
  match hp : pCe (zs.drop 4), h with
  | .inl e, h => cases h
  | .inr (m', r), h =>
    simp only at h
    by_cases hr : r = []
    · rw [if_pos hr] at h
      cases h
      obtain ⟨a1, a2⟩ := unq_Ce _ _ _ (hb.drop 4) hp
      refine ⟨?_, a2⟩
      unfold eAll
      rw [hr, List.append_nil] at a1
      rw [← a1, ← d', List.take_append_drop]
    · rw [if_neg hr] at h; cases h
/-! ### No error is 0 -/
def NoZ {α : Type} (p : List Int → Sum (Int × Int) (α × List Int)) : Prop := ∀ zs e, p zs = .inl e → e.1 ≠ 0
theorem NoZ.bind {α β : Type} {p : List Int → Sum (Int × Int) (α × List Int)} {q : α → List Int → Sum (Int × Int) (β × List Int)} (h : NoZ p) (k : ∀ a, NoZ (q a)) : NoZ fun zs => pbind (p zs) q := by
  intro zs e he
  match hp : p zs, he with
  | .inl x, he =>
    have : pbind (p zs) q = .inl e := he
    rw [hp] at this
    cases this
    exact h zs _ hp
  | .inr (a, r), he =>
    have : pbind (p zs) q = .inl e := he
    rw [hp, pbind_r] at this
    exact k a r e this
theorem noz_U (t : Int) : NoZ (pU t) := by
  intro zs e h
  unfold pU at h
  by_cases c : (getR zs).2.2 ≠ 0
  · rw [if_pos c] at h; cases h; exact c
  · rw [if_neg c] at h
    by_cases d : 2147483647 < (getR zs).1
    · rw [if_pos d] at h; cases h; show (41 : Int) ≠ 0; decide
    · rw [if_neg d] at h; cases h
theorem noz_N (t most : Int) : NoZ (pN t most) := by
  intro zs e h
  unfold pN at h
  by_cases c : (cut most (getR zs)).2.2 ≠ 0
  · rw [if_pos c] at h; cases h; exact c
  · rw [if_neg c] at h; cases h
theorem noz_S (t lo hi : Int) : NoZ (pS t lo hi) := by
  intro zs e h
  unfold pS at h
  by_cases c : (getR zs).2.2 ≠ 0
  · rw [if_pos c] at h; cases h; exact c
  · rw [if_neg c] at h
    by_cases d : unfR (getR zs).1 < lo ∨ hi < unfR (getR zs).1
    · rw [if_pos d] at h; cases h; show (41 : Int) ≠ 0; decide
    · rw [if_neg d] at h; cases h
theorem noz_I {α : Type} {p : Nat → List Int → Sum (Int × Int) (α × List Int)} (h : ∀ i, NoZ (p i)) : ∀ n i, NoZ (pI p n i)
  | 0, _ => fun zs e h => by cases h
  | n + 1, i => (h i).bind fun a => (noz_I h n (i + 1)).bind fun l zs e h => by cases h
theorem noz_Sp (t : Int) : NoZ (pSp t) := (noz_S t _ _).bind fun a => (noz_S t _ _).bind fun b zs e h => by cases h
theorem noz_Pl (t : Int) : NoZ (pPl t) := (noz_U t).bind fun a => (noz_U t).bind fun b => (noz_Sp t).bind fun c => (noz_Sp t).bind fun d zs e h => by cases h
theorem noz_Li (o : Int) : NoZ (pLi o) := (noz_N _ _).bind fun n => noz_I (fun i => noz_Pl _) _ _
theorem noz_Ce : NoZ pCe := ((noz_N _ _).bind fun n => noz_I (p := fun _ => pSp 0) (fun i => noz_Sp _) _ _ : NoZ pRs).bind fun R => ((noz_N _ _).bind fun n => noz_I (fun i => noz_Li _) _ _ : NoZ pLs).bind fun P zs e h => by cases h
theorem pall_ne {zs : List Int} {x t : Int} (h : pAll zs = .inl (x, t)) : x ≠ 0 := by
  unfold pAll at h
  by_cases c : zs.length < 4
  · rw [if_pos c] at h; cases h; decide
  rw [if_neg c] at h
  by_cases d : zs.take 4 ≠ head4
  · rw [if_pos d] at h; cases h; decide
  rw [if_neg d] at h
  match hp : pCe (zs.drop 4), h with
  | .inl e, h => simp only at h; cases h; exact noz_Ce _ _ hp
  | .inr (m', r), h =>
    simp only at h
    by_cases hr : r = []
    · rw [if_pos hr] at h; cases h
    · rw [if_neg hr] at h; cases h; decide
/-! ### Lists taken one by one -/
/-- Behind what was taken already. -/
def preI {α : Type} (z : List α) (x : Sum (Int × Int) (List α × List Int)) : Sum (Int × Int) (List α × List Int) := pbind x fun l r => .inr (z ++ l, r)
theorem preI_nil {α : Type} (x : Sum (Int × Int) (List α × List Int)) : preI [] x = x := by
  match x with
  | .inl e => rfl
  | .inr (l, r) => rfl
theorem preI_ok {α : Type} {p : Nat → List Int → Sum (Int × Int) (α × List Int)} {z : List α} {r rs : List Int} {n k : Nat} {v : α} (h : p k r = .inr (v, rs)) : preI z (pI p (n + 1) k r) = preI (z ++ [v]) (pI p n (k + 1) rs) := by
  unfold preI
  rw [pI, h, pbind_r]
  match pI p n (k + 1) rs with
  | .inl e => rfl
  | .inr (l, r') => simp [pbind]
theorem preI_bad {α : Type} {p : Nat → List Int → Sum (Int × Int) (α × List Int)} {z : List α} {r : List Int} {n k : Nat} {x : Int × Int} (h : p k r = .inl x) : preI z (pI p (n + 1) k r) = .inl x := by
  unfold preI
  rw [pI, h]; rfl
theorem preI_end {α : Type} {p : Nat → List Int → Sum (Int × Int) (α × List Int)} (z : List α) (r : List Int) (k : Nat) : preI z (pI p 0 k r) = .inr (z, r) := by simp [preI, pI, pbind]
theorem pI_snoc {α : Type} (p : Nat → List Int → Sum (Int × Int) (α × List Int)) : ∀ (n i : Nat) (zs : List Int), pI p (n + 1) i zs = pbind (pI p n i zs) fun l r => pbind (p (i + n) r) fun a r' => .inr (l ++ [a], r')
  | 0, i, zs => by
    simp only [pI, pbind, Nat.add_zero]
    match p i zs with
    | .inl e => rfl
    | .inr (a, r) => rfl
  | n + 1, i, zs => by
    rw [pI, show pI p (n + 1) i zs = pbind (p i zs) fun o r => pbind (pI p n (i + 1) r) fun l r' => .inr (o :: l, r') from rfl]
    match p i zs with
    | .inl e => rfl
    | .inr (a, r) =>
      simp only [pbind_r]
      rw [pI_snoc p n (i + 1) r, show i + 1 + n = i + (n + 1) by omega]
      match pI p n (i + 1) r with
      | .inl e => rfl
      | .inr (l, r') =>
        simp only [pbind_r]
        match p (i + (n + 1)) r' with
        | .inl e => rfl
        | .inr (c, r'') => rfl
/-! ### Their sizes -/
theorem eSp_le {s : Int × Int} (h : S64 s) : (eSp s).length ≤ 20 := by
  have := putR_ten (foldR_lt h.1.1 h.1.2)
  have := putR_ten (foldR_lt h.2.1 h.2.2)
  unfold eSp; rw [List.length_append]; omega
theorem ePl_le {p : Pl} (h : P64 p) : (ePl p).length ≤ 60 := by
  have := putR_ten (u64_lt p.1)
  have := putR_ten (u64_lt p.2.1)
  have := eSp_le h.1
  have := eSp_le h.2
  unfold ePl; simp only [List.length_append]; omega
theorem flat_le {α : Type} {en : α → List Int} {c : Nat} : ∀ (l : List α), (∀ x ∈ l, (en x).length ≤ c) → (l.flatMap en).length ≤ c * l.length
  | [], _ => by simp
  | x :: l, h => by
    have h1 := h x List.mem_cons_self
    have h2 := flat_le l fun y hy => h y (List.mem_cons_of_mem _ hy)
    rw [List.flatMap_cons, List.length_append, List.length_cons, Nat.mul_add]
    omega
theorem put_small {n : Nat} (h : n ≤ 1000000000) : (putR n).length ≤ 10 := putR_ten (by omega)
theorem eLi_le {l : List Pl} (h : ∀ p ∈ l, P64 p) (hl : l.length ≤ 1024) : (eLi l).length ≤ 70000 := by
  have := flat_le (en := ePl) l fun p hp => ePl_le (h p hp)
  have := put_small (n := l.length) (by omega)
  unfold eLi; rw [List.length_append]; omega
end Go.Proofs.Ythlnhodfgmpabaa.Sl
