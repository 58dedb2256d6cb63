/- Models in bytes, in plain lists: what stands in bytes, which bytes a model has; there and back; cut short; one form. -/
import Derived.Test.YthlnhodfgmpabaaWqG
import Derived.Test.YthlnhodfgmpabaaWqR
namespace Go.Proofs.Ythlnhodfgmpabaa
open Wr
set_option linter.unusedVariables false
/-- Then. -/
def pbind {α β : Type} (x : Sum (Int × Int) (α × List Int)) (f : α → List Int → Sum (Int × Int) (β × List Int)) : Sum (Int × Int) (β × List Int) :=
  match x with
  | .inl e => .inl e
  | .inr (a, r) => f a r
theorem pbind_l {α β : Type} {e : Int × Int} {f : α → List Int → Sum (Int × Int) (β × List Int)} : pbind (.inl e) f = .inl e := rfl
theorem pbind_r {α β : Type} {a : α} {r : List Int} {f : α → List Int → Sum (Int × Int) (β × List Int)} : pbind (.inr (a, r)) f = f a r := rfl
/-- A number up to 2^31 - 1; a count; a number with a sign, between two ends. -/
def pU (t : Int) (zs : List Int) : Sum (Int × Int) (Int × List Int) :=
  if (getR zs).2.2 ≠ 0 then .inl ((getR zs).2.2, t) else if 2147483647 < (getR zs).1 then .inl (41, t) else .inr ((getR zs).1, zs.drop (getR zs).2.1)
def pN (t most : Int) (zs : List Int) : Sum (Int × Int) (Int × List Int) :=
  if (cut most (getR zs)).2.2 ≠ 0 then .inl ((cut most (getR zs)).2.2, t) else .inr ((cut most (getR zs)).1, zs.drop (cut most (getR zs)).2.1)
def pS (t lo hi : Int) (zs : List Int) : Sum (Int × Int) (Int × List Int) :=
  if (getR zs).2.2 ≠ 0 then .inl ((getR zs).2.2, t) else if unfR (getR zs).1 < lo ∨ hi < unfR (getR zs).1 then .inl (41, t) else .inr (unfR (getR zs).1, zs.drop (getR zs).2.1)
def pL (p : List Int → Sum (Int × Int) (Int × List Int)) : Nat → List Int → Sum (Int × Int) (List Int × List Int)
  | 0, zs => .inr ([], zs)
  | n + 1, zs => pbind (p zs) fun a r => pbind (pL p n r) fun l r' => .inr (a :: l, r')
def p16 (t : Int) : List Int → Sum (Int × Int) (Int × List Int) := pS t (-32768) 32767
def p32 (t : Int) : List Int → Sum (Int × Int) (Int × List Int) := pS t (-2147483648) 2147483647
/-- An op: twelve numbers, weights, bias, four numbers, four with a sign. -/
structure OpD where
  us : List Int
  z : List Int
  b : List Int
  vs : List Int
  ss : List Int
def pOp (t : Int) (zs : List Int) : Sum (Int × Int) (OpD × List Int) :=
  pbind (pL (pU t) 12 zs) fun us r1 => pbind (pN t 131072 r1) fun n r2 => pbind (pL (p16 t) n.toNat r2) fun z r3 => pbind (pN t 1024 r3) fun m r4 => pbind (pL (p32 t) m.toNat r4) fun b r5 =>
    pbind (pL (pU t) 4 r5) fun vs r6 => pbind (pL (p32 t) 4 r6) fun ss r7 => .inr (⟨us, z, b, vs, ss⟩, r7)
def pOps : Nat → Nat → List Int → Sum (Int × Int) (List OpD × List Int)
  | 0, _, zs => .inr ([], zs)
  | n + 1, i, zs => pbind (pOp ((i : Int) + 1) zs) fun o r => pbind (pOps n (i + 1) r) fun l r' => .inr (o :: l, r')
/-- A model: its input's shape, its range, its ops, its output. -/
structure ModD where
  s : List Int
  lh : List Int
  ops : List OpD
  ot : Int
def pMod (zs : List Int) : Sum (Int × Int) (ModD × List Int) :=
  pbind (pL (pU 0) 3 zs) fun s r1 => pbind (pL (p32 0) 2 r1) fun lh r2 => pbind (pN 0 64 r2) fun n r3 => pbind (pOps n.toNat 0 r3) fun ops r4 => pbind (pU 0 r4) fun ot r5 => .inr (⟨s, lh, ops, ot⟩, r5)
def head4 : List Int := [83, 87, 77, 49]
def pAll (zs : List Int) : Sum (Int × Int) ModD :=
  if zs.length < 4 then .inl (40, 0) else if zs.take 4 ≠ head4 then .inl (41, 0) else
    match pMod (zs.drop 4) with
    | .inl e => .inl e
    | .inr (m, r) => if r = [] then .inr m else .inl (43, 0)
/-! ### The bytes -/
def u64 (x : Int) : Nat := (IntKind.u64.wrap x).toNat
def eU (l : List Int) : List Int := l.flatMap fun x => putR (u64 x)
def eS (l : List Int) : List Int := l.flatMap fun x => putR (foldR x)
def eOp (d : OpD) : List Int := eU d.us ++ (putR d.z.length ++ (eS d.z ++ (putR d.b.length ++ (eS d.b ++ (eU d.vs ++ eS d.ss)))))
def eOps (l : List OpD) : List Int := l.flatMap eOp
def eMod (m : ModD) : List Int := eU m.s ++ (eS m.lh ++ (putR m.ops.length ++ (eOps m.ops ++ putR (u64 m.ot))))
def eAll (m : ModD) : List Int := head4 ++ eMod m
theorem u64_of {x : Int} (h0 : 0 ≤ x) (h1 : x < 18446744073709551616) : u64 x = x.toNat := by
  unfold u64; rw [IntKind.wrap_u64]; congr 1; omega
theorem u64_lt (x : Int) : u64 x < 18446744073709551616 := by
  unfold u64; rw [IntKind.wrap_u64]; omega
theorem eU_app (a b : List Int) : eU (a ++ b) = eU a ++ eU b := List.flatMap_append
theorem eS_app (a b : List Int) : eS (a ++ b) = eS a ++ eS b := List.flatMap_append
theorem eU_cons (x : Int) (l : List Int) : eU (x :: l) = putR (u64 x) ++ eU l := rfl
theorem eS_cons (x : Int) (l : List Int) : eS (x :: l) = putR (foldR x) ++ eS l := rfl
/-! ### There and back -/
/-- These bytes, ahead of whatever, are taken as x; cut short they are too short. -/
def Cod {α : Type} (p : List Int → Sum (Int × Int) (α × List Int)) (e : List Int) (x : α) : Prop := (∀ r, p (e ++ r) = .inr (x, r)) ∧ ∀ n, n < e.length → ∃ t, p (e.take n) = .inl (40, t)
theorem Cod.bind {α β : Type} {p : List Int → Sum (Int × Int) (α × List Int)} {q : α → List Int → Sum (Int × Int) (β × List Int)} {e f : List Int} {x : α} {y : β} (h : Cod p e x) (k : Cod (q x) f y) : Cod (fun zs => pbind (p zs) q) (e ++ f) y := by
  refine ⟨fun r => ?_, fun n hn => ?_⟩
  · show pbind (p (e ++ f ++ r)) q = _
    rw [List.append_assoc, h.1, pbind_r, k.1]
  · rcases Nat.lt_or_ge n e.length with c | c
    · obtain ⟨t, ht⟩ := h.2 n c
      exact ⟨t, by show pbind (p _) q = _; rw [List.take_append_of_le_length (by omega), ht]; rfl⟩
    · rw [List.length_append] at hn
      obtain ⟨t, ht⟩ := k.2 (n - e.length) (by omega)
      refine ⟨t, ?_⟩
      show pbind (p _) q = _
      rw [List.take_append, List.take_of_length_le c, h.1, pbind_r, ht]
theorem Cod.last {α β : Type} {p : List Int → Sum (Int × Int) (α × List Int)} {e : List Int} {x : α} (g : α → β) (h : Cod p e x) : Cod (fun zs => pbind (p zs) fun a r => .inr (g a, r)) e (g x) := by
  refine ⟨fun r => by show pbind (p _) _ = _; rw [h.1, pbind_r], fun n hn => ?_⟩
  obtain ⟨t, ht⟩ := h.2 n hn
  exact ⟨t, by show pbind (p _) _ = _; rw [ht]; rfl⟩
theorem take_short {x n : Nat} (hx : x < 18446744073709551616) (hn : n < (putR x).length) : getR ((putR x).take n) = (0, 0, 40) := by
  obtain ⟨m, hm⟩ : ∃ m, (putR x).length = m + 1 := ⟨(putR x).length - 1, by omega⟩
  have hf := putR_front m x hm
  refine gR_short _ 0 0 (fun c hc => hf c ?_) (by have := putR_ten hx; simp; omega)
  have e : (putR x).take n = ((putR x).take m).take n := by rw [List.take_take, Nat.min_eq_left (by omega)]
  rw [e] at hc
  exact List.mem_of_mem_take hc
theorem drop_put (a r : List Int) : (a ++ r).drop a.length = r := by simp
theorem cod_U (t : Int) {x : Int} (h0 : 0 ≤ x) (h1 : x ≤ 2147483647) : Cod (pU t) (putR (u64 x)) x := by
  have hu : u64 x = x.toNat := u64_of h0 (by omega)
  rw [hu]
  refine ⟨fun r => ?_, fun n hn => ⟨t, ?_⟩⟩
  · unfold pU
    rw [get_put (by omega)]
    simp only [ne_eq, not_true_eq_false, if_false]
    rw [if_neg (by omega), drop_put, Int.toNat_of_nonneg h0]
  · unfold pU
    rw [take_short (by omega) hn]
    rfl
theorem cod_N (t : Int) {most : Int} {n : Nat} (h1 : (n : Int) ≤ most) (hm : most < 18446744073709551616) : Cod (pN t most) (putR n) (n : Int) := by
  have hc : ∀ k, cut most ((n : Int), k, 0) = ((n : Int), k, 0) := fun k => by unfold cut; rw [if_neg]; simp only; omega
  refine ⟨fun r => ?_, fun k hk => ⟨t, ?_⟩⟩
  · unfold pN
    rw [get_put (by omega), hc]
    simp only [ne_eq, not_true_eq_false, if_false]
    rw [drop_put]
  · unfold pN
    rw [take_short (by omega) hk]
    rfl
theorem cod_S (t lo hi : Int) {x : Int} (h0 : lo ≤ x) (h1 : x ≤ hi) (hl : -9223372036854775808 ≤ lo) (hh : hi ≤ 9223372036854775807) : Cod (pS t lo hi) (putR (foldR x)) x := by
  have hf := foldR_lt (y := x) (by omega) (by omega)
  refine ⟨fun r => ?_, fun n hn => ⟨t, ?_⟩⟩
  · unfold pS
    rw [get_put hf]
    simp only [ne_eq, not_true_eq_false, if_false]
    rw [unfR_foldR, if_neg (by omega), drop_put]
  · unfold pS
    rw [take_short hf hn]
    rfl
theorem cod_L {p : List Int → Sum (Int × Int) (Int × List Int)} {en : Int → List Int} : ∀ (l : List Int), (∀ x ∈ l, Cod p (en x) x) → Cod (pL p l.length) (l.flatMap en) l
  | [], _ => ⟨fun r => rfl, fun n hn => by simp at hn⟩
  | x :: l, h => by
    have := (h x List.mem_cons_self).bind (q := fun a r => pbind (pL p l.length r) fun l r' => .inr (a :: l, r')) ((cod_L l fun y hy => h y (List.mem_cons_of_mem _ hy)).last (x :: ·))
    exact this
/-- What a number without a sign may be; with one. -/
def InU (l : List Int) : Prop := ∀ x ∈ l, 0 ≤ x ∧ x ≤ 2147483647
def InS (l : List Int) : Prop := ∀ x ∈ l, -2147483648 ≤ x ∧ x ≤ 2147483647
def In16 (l : List Int) : Prop := ∀ x ∈ l, -32768 ≤ x ∧ x ≤ 32767
theorem cod_Us (t : Int) {l : List Int} {n : Nat} (hn : l.length = n) (h : InU l) : Cod (pL (pU t) n) (eU l) l := by
  subst hn; exact cod_L l fun x hx => cod_U t (h x hx).1 (h x hx).2
theorem cod_Ss (t : Int) {l : List Int} {n : Nat} (hn : l.length = n) (h : InS l) : Cod (pL (p32 t) n) (eS l) l := by
  subst hn; exact cod_L l fun x hx => cod_S t _ _ (h x hx).1 (h x hx).2 (by omega) (by omega)
theorem cod_16 (t : Int) {l : List Int} {n : Nat} (hn : l.length = n) (h : In16 l) : Cod (pL (p16 t) n) (eS l) l := by
  subst hn; exact cod_L l fun x hx => cod_S t _ _ (h x hx).1 (h x hx).2 (by omega) (by omega)
/-- An op whose numbers fit their forms. -/
def OpF (d : OpD) : Prop := d.us.length = 12 ∧ InU d.us ∧ d.z.length ≤ 131072 ∧ In16 d.z ∧ d.b.length ≤ 1024 ∧ InS d.b ∧ d.vs.length = 4 ∧ InU d.vs ∧ d.ss.length = 4 ∧ InS d.ss
theorem cod_Op (t : Int) {d : OpD} (h : OpF d) : Cod (pOp t) (eOp d) d := by
  obtain ⟨h1, h2, h3, h4, h5, h6, h7, h8, h9, h10⟩ := h
  exact (cod_Us t h1 h2).bind ((cod_N t (by omega) (by omega)).bind ((cod_16 t (by simp) h4).bind ((cod_N t (by omega) (by omega)).bind ((cod_Ss t (by simp) h6).bind ((cod_Us t h7 h8).bind ((cod_Ss t h9 h10).last fun ss => (⟨d.us, d.z, d.b, d.vs, ss⟩ : OpD)))))))
theorem cod_Ops : ∀ (l : List OpD) (i : Nat), (∀ d ∈ l, OpF d) → Cod (pOps l.length i) (eOps l) l
  | [], _, _ => ⟨fun r => rfl, fun n hn => by simp [eOps] at hn⟩
  | d :: l, i, h => by
    have := (cod_Op ((i : Int) + 1) (h d List.mem_cons_self)).bind (q := fun a r => pbind (pOps l.length (i + 1) r) fun l r' => .inr (a :: l, r')) ((cod_Ops l (i + 1) fun y hy => h y (List.mem_cons_of_mem _ hy)).last (d :: ·))
    exact this
def ModF (m : ModD) : Prop := m.s.length = 3 ∧ InU m.s ∧ m.lh.length = 2 ∧ InS m.lh ∧ m.ops.length ≤ 64 ∧ (∀ d ∈ m.ops, OpF d) ∧ 0 ≤ m.ot ∧ m.ot ≤ 2147483647
theorem cod_Mod {m : ModD} (h : ModF m) : Cod pMod (eMod m) m := by
  obtain ⟨h1, h2, h3, h4, h5, h6, h7, h8⟩ := h
  exact (cod_Us 0 h1 h2).bind ((cod_Ss 0 h3 h4).bind ((cod_N 0 (by omega) (by omega)).bind ((by simpa using cod_Ops m.ops 0 h6 : Cod (pOps (m.ops.length : Int).toNat 0) (eOps m.ops) m.ops).bind ((cod_U 0 h7 h8).last fun ot => (⟨m.s, m.lh, m.ops, ot⟩ : ModD)))))
/-- There and back; cut; with a byte behind. -/
theorem all_back {m : ModD} (h : ModF m) : pAll (eAll m) = .inr m := by
  have := (cod_Mod h).1 []
  rw [List.append_nil] at this
  unfold pAll eAll
  rw [if_neg (by simp [head4]), if_neg (by simp [head4]), show (head4 ++ eMod m).drop 4 = eMod m from rfl, this]
  rfl
theorem all_cut {m : ModD} (h : ModF m) {n : Nat} (hn : n < (eAll m).length) : ∃ t, pAll ((eAll m).take n) = .inl (40, t) := by
  unfold pAll eAll
  rcases Nat.lt_or_ge n 4 with c | c
  · exact ⟨0, by rw [if_pos (by simp; omega)]⟩
  · have e : (head4 ++ eMod m).take n = head4 ++ (eMod m).take (n - 4) := by rw [List.take_append, List.take_of_length_le (by simp [head4]; omega)]; rfl
    rw [e]
    obtain ⟨t, ht⟩ := (cod_Mod h).2 (n - 4) (by unfold eAll at hn; simp [head4] at hn; omega)
    refine ⟨t, ?_⟩
    rw [if_neg (by simp [head4]), if_neg (by simp [head4]), show (head4 ++ (eMod m).take (n - 4)).drop 4 = (eMod m).take (n - 4) from rfl, ht]
theorem all_more {m : ModD} (h : ModF m) (c : Int) : pAll (eAll m ++ [c]) = .inl (43, 0) := by
  have := (cod_Mod h).1 [c]
  unfold pAll eAll
  rw [List.append_assoc, if_neg (by simp [head4]), if_neg (by simp [head4]), show (head4 ++ (eMod m ++ [c])).drop 4 = eMod m ++ [c] from rfl, this]
  rfl
/-! ### One form -/
/-- What is taken is the form of what is told. -/
def Unq {α : Type} (p : List Int → Sum (Int × Int) (α × List Int)) (en : α → List Int) (F : α → Prop) : Prop := ∀ zs x r, Byt zs → p zs = .inr (x, r) → zs = en x ++ r ∧ F x
theorem byt_of {zs a r : List Int} (h : Byt zs) (e : zs = a ++ r) : Byt r := fun z hz => h z (by rw [e]; exact List.mem_append_right _ hz)
theorem pbind_inv {α β : Type} {x : Sum (Int × Int) (α × List Int)} {f : α → List Int → Sum (Int × Int) (β × List Int)} {y : β × List Int} (h : pbind x f = .inr y) : ∃ a r, x = .inr (a, r) ∧ f a r = .inr y := by
  match x, h with
  | .inl _, h => cases h
  | .inr (a, r), h => exact ⟨a, r, rfl, h⟩
theorem unq_U (t : Int) : Unq (pU t) (fun x => putR (u64 x)) (fun x => 0 ≤ x ∧ x ≤ 2147483647) := by
  intro zs x r hb h
  unfold pU at h
  by_cases c : (getR zs).2.2 ≠ 0
  · rw [if_pos c] at h; cases h
  · rw [if_neg c] at h
    obtain ⟨y, e1, e2, -, e4⟩ := get_form hb (Decidable.not_not.1 c)
    by_cases d : 2147483647 < (getR zs).1
    · rw [if_pos d] at h; cases h
    · rw [if_neg d] at h
      simp only [Sum.inr.injEq, Prod.mk.injEq] at h
      obtain ⟨rfl, rfl⟩ := h
      refine ⟨?_, by omega, by omega⟩
      rw [e1]
      show _ = putR (u64 (y : Int)) ++ _
      rw [u64_of (x := (y : Int)) (by omega) (by omega), Int.toNat_natCast, ← e2, List.take_append_drop]
theorem unq_N (t most : Int) : Unq (pN t most) (fun x => putR x.toNat) (fun x => 0 ≤ x ∧ x ≤ most) := by
  intro zs x r hb h
  unfold pN at h
  by_cases c : (cut most (getR zs)).2.2 ≠ 0
  · rw [if_pos c] at h; cases h
  · rw [if_neg c] at h
    simp only [Sum.inr.injEq, Prod.mk.injEq] at h
    unfold cut at c h
    by_cases d : (getR zs).2.2 = 0 ∧ (most < 0 ∨ most < (getR zs).1)
    · rw [if_pos d] at c; exact absurd (show (42 : Int) ≠ 0 by decide) c
    · rw [if_neg d] at c h
      have c' := Decidable.not_not.1 c
      obtain ⟨y, e1, e2, -, e4⟩ := get_form hb c'
      obtain ⟨rfl, rfl⟩ := h
      refine ⟨?_, by omega, by omega⟩
      rw [e1]
      show _ = putR (y : Int).toNat ++ _
      rw [Int.toNat_natCast, ← e2, List.take_append_drop]
theorem foldR_unfR (u : Nat) : foldR (unfR u) = u := by
  unfold foldR unfR; split <;> split <;> omega
theorem unq_S (t lo hi : Int) : Unq (pS t lo hi) (fun x => putR (foldR x)) (fun x => lo ≤ x ∧ x ≤ hi) := by
  intro zs x r hb h
  unfold pS at h
  by_cases c : (getR zs).2.2 ≠ 0
  · rw [if_pos c] at h; cases h
  · rw [if_neg c] at h
    obtain ⟨y, e1, e2, -, e4⟩ := get_form hb (Decidable.not_not.1 c)
    by_cases d : unfR (getR zs).1 < lo ∨ hi < unfR (getR zs).1
    · rw [if_pos d] at h; cases h
    · rw [if_neg d] at h
      simp only [Sum.inr.injEq, Prod.mk.injEq] at h
      obtain ⟨rfl, rfl⟩ := h
      refine ⟨?_, by omega, by omega⟩
      rw [e1]
      show _ = putR (foldR (unfR (y : Int))) ++ _
      rw [foldR_unfR, ← e2, List.take_append_drop]
theorem unq_L {p : List Int → Sum (Int × Int) (Int × List Int)} {en : Int → List Int} {F : Int → Prop} (h : Unq p en F) : ∀ n, Unq (pL p n) (fun l => l.flatMap en) (fun l => l.length = n ∧ ∀ x ∈ l, F x)
  | 0, zs, x, r, hb, e => by
    simp only [pL, Sum.inr.injEq, Prod.mk.injEq] at e
    obtain ⟨rfl, rfl⟩ := e
    exact ⟨rfl, rfl, fun x hx => by cases hx⟩
  | n + 1, zs, x, r, hb, e => by
    unfold pL at e
    obtain ⟨a, r1, e1, e2⟩ := pbind_inv e
    obtain ⟨l, r2, e3, e4⟩ := pbind_inv e2
    simp only [Sum.inr.injEq, Prod.mk.injEq] at e4
    obtain ⟨rfl, rfl⟩ := e4
    obtain ⟨f1, f2⟩ := h zs a r1 hb e1
    obtain ⟨g1, g2, g3⟩ := unq_L h n r1 l r2 (byt_of hb f1) e3
    refine ⟨?_, by simp [g2], fun y hy => ?_⟩
    · rw [f1, g1]; simp
    · rcases List.mem_cons.1 hy with rfl | hy
      · exact f2
      · exact g3 y hy
theorem unq_Op (t : Int) : Unq (pOp t) eOp OpF := by
  intro zs d r hb e
  unfold pOp at e
  obtain ⟨us, r1, e1, e⟩ := pbind_inv e
  obtain ⟨n, r2, e2, e⟩ := pbind_inv e
  obtain ⟨z, r3, e3, e⟩ := pbind_inv e
  obtain ⟨m, r4, e4, e⟩ := pbind_inv e
  obtain ⟨b, r5, e5, e⟩ := pbind_inv e
  obtain ⟨vs, r6, e6, e⟩ := pbind_inv e
  obtain ⟨ss, r7, e7, e⟩ := pbind_inv e
  simp only [Sum.inr.injEq, Prod.mk.injEq] at e
  obtain ⟨rfl, rfl⟩ := e
  obtain ⟨a1, l1, i1⟩ := unq_L (unq_U t) 12 zs us r1 hb e1
  have b1 := byt_of hb a1
  obtain ⟨a2, i2⟩ := unq_N t 131072 r1 n r2 b1 e2
  have b2 := byt_of b1 a2
  obtain ⟨a3, l3, i3⟩ := unq_L (unq_S t (-32768) 32767) n.toNat r2 z r3 b2 e3
  have b3 := byt_of b2 a3
  obtain ⟨a4, i4⟩ := unq_N t 1024 r3 m r4 b3 e4
  have b4 := byt_of b3 a4
  obtain ⟨a5, l5, i5⟩ := unq_L (unq_S t (-2147483648) 2147483647) m.toNat r4 b r5 b4 e5
  have b5 := byt_of b4 a5
  obtain ⟨a6, l6, i6⟩ := unq_L (unq_U t) 4 r5 vs r6 b5 e6
  have b6 := byt_of b5 a6
  obtain ⟨a7, l7, i7⟩ := unq_L (unq_S t (-2147483648) 2147483647) 4 r6 ss r7 b6 e7
  refine ⟨?_, l1, i1, by show z.length ≤ _; omega, i3, by show b.length ≤ _; omega, i5, l6, i6, l7, i7⟩
  unfold eOp eU eS
  simp only [List.append_assoc]
  rw [l3, l5, ← a7, ← a6, ← a5, ← a4, ← a3, ← a2, ← a1]
theorem unq_Ops : ∀ (n i : Nat), Unq (pOps n i) eOps (fun l => l.length = n ∧ ∀ d ∈ l, OpF d)
  | 0, i, zs, x, r, hb, e => by
    simp only [pOps, Sum.inr.injEq, Prod.mk.injEq] at e
    obtain ⟨rfl, rfl⟩ := e
    exact ⟨rfl, rfl, fun x hx => by cases hx⟩
  | n + 1, i, zs, x, r, hb, e => by
    unfold pOps at e
    obtain ⟨a, r1, e1, e2⟩ := pbind_inv e
    obtain ⟨l, r2, e3, e4⟩ := pbind_inv e2
    simp only [Sum.inr.injEq, Prod.mk.injEq] at e4
    obtain ⟨rfl, rfl⟩ := e4
    obtain ⟨f1, f2⟩ := unq_Op _ zs a r1 hb e1
    obtain ⟨g1, g2, g3⟩ := unq_Ops n (i + 1) r1 l r2 (byt_of hb f1) e3
    refine ⟨?_, by simp [g2], fun y hy => ?_⟩
    · rw [f1, g1]; simp [eOps]
    · rcases List.mem_cons.1 hy with rfl | hy
      · exact f2
      · exact g3 y hy
theorem unq_Mod : Unq pMod eMod ModF := by
  intro zs d r hb e
  unfold pMod at e
  obtain ⟨s, r1, e1, e⟩ := pbind_inv e
  obtain ⟨lh, r2, e2, e⟩ := pbind_inv e
  obtain ⟨n, r3, e3, e⟩ := pbind_inv e
  obtain ⟨ops, r4, e4, e⟩ := pbind_inv e
  obtain ⟨ot, r5, e5, e⟩ := pbind_inv e
  simp only [Sum.inr.injEq, Prod.mk.injEq] at e
  obtain ⟨rfl, rfl⟩ := e
  obtain ⟨a1, l1, i1⟩ := unq_L (unq_U 0) 3 zs s r1 hb e1
  have b1 := byt_of hb a1
  obtain ⟨a2, l2, i2⟩ := unq_L (unq_S 0 (-2147483648) 2147483647) 2 r1 lh r2 b1 e2
  have b2 := byt_of b1 a2
  obtain ⟨a3, i3⟩ := unq_N 0 64 r2 n r3 b2 e3
  have b3 := byt_of b2 a3
  obtain ⟨a4, l4, i4⟩ := unq_Ops n.toNat 0 r3 ops r4 b3 e4
  have b4 := byt_of b3 a4
  obtain ⟨a5, i5⟩ := unq_U 0 r4 ot r5 b4 e5
  refine ⟨?_, l1, i1, l2, i2, by show ops.length ≤ _; omega, i4, i5.1, i5.2⟩
  unfold eMod eU eS
  simp only [List.append_assoc]
  rw [l4, ← a5, ← a4, ← a3, ← a2, ← a1]
theorem unq_all {zs : List Int} {m : ModD} (hb : Byt zs) (h : pAll zs = .inr m) : zs = eAll m ∧ ModF m := by
  unfold pAll at h
  by_cases c : zs.length < 4
  · rw [if_pos c] at h; cases h
  rw [if_neg c] at h
  by_cases d : zs.take 4 ≠ head4
  · rw [if_pos d] at h; cases h
  rw [if_neg d] at h
  have d' := Decidable.not_not.1 d
  match hp : pMod (zs.drop 4), h with
  | .inl e, h => cases h
  | .inr (m', r), h =>
    simp only at h
    by_cases hr : r = []
    · rw [if_pos hr] at h
      cases h
      obtain ⟨a1, a2⟩ := unq_Mod _ _ _ (hb.drop 4) hp
      refine ⟨?_, a2⟩
      unfold eAll
      rw [hr, List.append_nil] at a1
      rw [← a1, ← d', List.take_append_drop]
    · rw [if_neg hr] at h; cases h
end Go.Proofs.Ythlnhodfgmpabaa
