/- The reader of package pack: lists. The writer of package pack: numbers put behind its bytes. The writer of package pack: windows, lists, ops. The writer of package pack: an op. What sides and Elems of package shape, and the document's, return: each for every argument. Windows over a plane, in plain numbers: which are valid, how many positions they have, what each of their taps covers. What the document's test of a shape returns. -/
import Derived.Test.YthagdpiocmcbmaaGr02
import Derived.Deep.RegionHeld3
import Derived.Deep.RegionLawGrows
import Derived.LoopN
import Derived.BigQuiet
/- The reader of package pack: lists. -/
namespace Go.Proofs.Ythagdpiocmcbmaa
open Wr
open Go.ChangeShapes Go.WideShapes Go.ChangeAt Go.RowKit
set_option linter.unusedVariables false
/-- Behind what was taken already. -/
def pre (z : List Int) (x : Sum (Int × Int) (List Int × List Int)) : Sum (Int × Int) (List Int × List Int) := pbind x fun l r => .inr (z ++ l, r)
theorem pre_nil (x : Sum (Int × Int) (List Int × List Int)) : pre [] x = x := by
  match x with
  | .inl e => rfl
  | .inr (l, r) => rfl
theorem pre_ok {p : List Int → Sum (Int × Int) (Int × List Int)} {z r rs : List Int} {n : Nat} {v : Int} (h : p r = .inr (v, rs)) : pre z (pL p (n + 1) r) = pre (z ++ [v]) (pL p n rs) := by
  unfold pre
  rw [pL, h, pbind_r]
  match pL p n rs with
  | .inl e => rfl
  | .inr (l, r') => simp [pbind]
theorem pre_bad {p : List Int → Sum (Int × Int) (Int × List Int)} {z r : List Int} {n : Nat} {x : Int × Int} (h : p r = .inl x) : pre z (pL p (n + 1) r) = .inl x := by
  unfold pre
  rw [pL, h]; rfl
def pT (t most : Int) (p : List Int → Sum (Int × Int) (Int × List Int)) (zs : List Int) : Sum (Int × Int) (List Int × List Int) := pbind (pN t most zs) fun n r => pL p n.toNat r
theorem own_kept {k : IntKind} {T : TypeId} {w w' : World} {base B : Nat} {v : Value} {zs : List Int} (h : Own k T w base v zs) (q : Wr.Kept [B] w w') (hB : B < base) : Own k T w' base v zs := by
  refine ⟨⟨h.1.1, ?_⟩, h.2⟩
  rcases h.1.2 with h0 | ⟨g, cap, cur, h1, h2, h3, h4⟩
  · exact .inl h0
  · exact .inr ⟨g, cap, cur, h1, h2, (q.2.2.2.2 g (lt_of_heap h3) (by simp; omega)).trans h3, h4⟩
theorem kept_below {w w1 w2 : World} {B : Nat} (k : Wr.Kept [B] w w1) (h : Below w.heap.size w1 w2) : Wr.Kept [B] w w2 :=
  ⟨h.os.trans k.1, h.tape.trans k.2.1, h.output.trans k.2.2.1, Nat.le_trans k.2.2.2.1 h.size, fun i hi hB => (h.block i hi).trans (k.2.2.2.2 i hi hB)⟩
theorem inf_i16 {v : Int} (h : -32768 ≤ v ∧ v ≤ 32767) : (Lit.int .i16 v).wf = true := by simp [Lit.wf, IntKind.min, IntKind.max, IntKind.bits, IntKind.signed]; omega
theorem inf_i32 {v : Int} (h : -2147483648 ≤ v ∧ v ≤ 2147483647) : (Lit.int .i32 v).wf = true := by simp [Lit.wf, IntKind.min, IntKind.max, IntKind.bits, IntKind.signed]; omega
set_option maxHeartbeats 2000000 in
set_option maxRecDepth 100000 in
theorem take_i16 (Rb B : Nat) (zs : List Int) (t most : Int) (w : World) (h : PR w Rb B zs t) (hm0 : 0 ≤ most) (hm1 : most ≤ 1000000) :
    Calls Try.prog 91 #[(.pointer (some ⟨Rb, 0, none⟩)), .int .i64 most] w fun r w' => (∃ x, pT t most (p16 t) zs = .inl x ∧ r = fpan x.1 x.2 ∧ Wr.Kept [B] w w') ∨ ∃ z rs v, pT t most (p16 t) zs = .inr (z, rs) ∧ (z.length : Int) ≤ most ∧ r = .returned v ∧ Own .i16 51 w' w.heap.size v z ∧ PR w' Rb B rs t ∧ Wr.Kept [B] w w' := by
  have hlt := h.ltB
  have H : Hid _ := rcount_any Rb B zs t most w h hm0 hm1
  clear h
  go_enter Try.func91, Try.ntmps91
  go_wp2_with fail
  refine Calls.mono H.out ?_
  rintro r w1 (⟨x, hx, rfl, k⟩ | ⟨n, r0, hx, hn, rfl, p, k⟩)
  · exact ⟨rfl, .inl ⟨x, by simp only [pT, pbind, hx], rfl, k⟩⟩
  have hP : Hid (pT t most (p16 t) zs = pre [] (pL (p16 t) n r0)) := by simp only [Hid, pT, hx, pbind_r, Int.toNat_natCast, pre_nil]
  have hp0 : Hid (PR w1 Rb B r0 t ∧ Wr.Kept [B] w w1) := ⟨p, k⟩
  clear hx p k H
  go_wp2
  go_loopw [5, 9] (fun l i wr => ∃ (k : Nat) (z rs : List Int), k ≤ n ∧ i = .int .i64 k ∧ z.length = k ∧ pre [] (pL (p16 t) n r0) = pre z (pL (p16 t) (n - k) rs) ∧ Own .i16 51 wr w.heap.size l z ∧ PR wr Rb B rs t ∧ Wr.Kept [B] w wr) (fun _ i _ => n - (intOf i).toNat)
  case atStart => exact ⟨0, [], r0, Nat.zero_le _, rfl, rfl, rfl, own_none _ _ _ _, hp0.out.1, hp0.out.2⟩
  case round =>
    obtain ⟨k, z, rs, hk, rfl, hz, hE, hO, hp, hK⟩ := hrel
    have hsz := hK.2.2.2.1
    have hz' : Hid (z.length = k) := hz
    have hE' : Hid (pre [] (pL (p16 t) n r0) = pre z (pL (p16 t) (n - k) rs)) := hE
    have hK' : Hid (Wr.Kept [B] w wr) := hK
    obtain ⟨la, lc, rfl⟩ : ∃ la lc, u5 = .slice la k lc := by
      obtain ⟨a, c, e, -⟩ := hO.row
      exact ⟨a, c, by rw [e, hz]⟩
    have hO' : Hid (Own .i16 51 wr w.heap.size (.slice la k lc) z) := hO
    clear hz hE hK hO hp0
    by_cases hlk : k < n
    · obtain ⟨m, hm⟩ : ∃ m, n - k = m + 1 := ⟨n - k - 1, by omega⟩
      have hm' : Hid (n - k = m + 1) := hm
      have H : Hid _ := rsigned_i16 Rb B rs t wr hp
      clear hp hm
      go_wp2_with fail
      refine Calls.mono H.out ?_
      rintro r w2 (⟨x, hx, rfl, k2⟩ | ⟨v, r2, hx, hv, rfl, p2, k2⟩)
      · exact ⟨rfl, .inl ⟨x, by rw [hP.out, hE'.out, hm'.out]; exact pre_bad hx, rfl, hK'.out.trans k2⟩⟩
      have own2 := (own_kept hO'.out k2 hlt).alloc (.cells #[.int .i16 v] 51)
      have hrow := row_one .i16 51 w2 v (inf_i16 hv)
      have hN : Hid (pre [] (pL (p16 t) n r0) = pre (z ++ [v]) (pL (p16 t) (n - (k + 1)) r2)) := by
        unfold Hid; rw [hE'.out, hm'.out, pre_ok hx, show n - (k + 1) = m by have := hm'.out; omega]
      have hp2 : Hid (PR w2 Rb B r2 t) := p2
      have hk2 : Hid (Wr.Kept [B] w w2) := hK'.out.trans k2
      have hs2 := k2.2.2.2.1
      clear hx hv p2 k2 H hE'
      go_wp2_with (at_builtin; refine wpList_app kt_i16 rfl (.tmp 11) (.tmp 14) rfl w.heap.size _ z [v] rfl own2 _ _ _ rfl hrow (by have := hz'.out; simp; omega) (by simp; omega) ?_; intro v3 w3 own3 gr3 nn3)
      have hb3 : Below w.heap.size w2 w3 := own2.bel ((bal w2 _).mono (by omega)) gr3 (Nat.le_refl _) (by simp; omega)
      have hl3 : Hid ((z ++ [v]).length = k + 1) := by unfold Hid; rw [List.length_append, hz'.out]; rfl
      have hR : Hid (Own .i16 51 w3 w.heap.size v3 (z ++ [v]) ∧ PR w3 Rb B r2 t ∧ Wr.Kept [B] w w3) := ⟨own3, hp2.out.keep (hb3.mono (by omega)), kept_below hk2.out hb3⟩
      clear own3 gr3 nn3 hb3 own2 hrow hp2
      go_wp2
      go_roundw
      case rel => exact ⟨k + 1, z ++ [v], r2, by omega, by go_num, hl3.out, hN.out, hR.out.1, hR.out.2.1, hR.out.2.2⟩
      case measure => simp [intOf]; omega
    · obtain rfl : k = n := by omega
      have hF : Hid (pT t most (p16 t) zs = .inr (z, rs)) := by
        unfold Hid; rw [hP.out, hE'.out, Nat.sub_self]; simp [pre, pL, pbind]
      have hp' : Hid (PR wr Rb B rs t) := hp
      clear hp
      go_wp2
      go_ret
      exact .inr ⟨z, rs, _, hF.out, by rw [hz'.out]; exact hn, rfl, hO'.out, hp'.out, hK'.out⟩
set_option maxHeartbeats 2000000 in
set_option maxRecDepth 100000 in
theorem take_i32 (Rb B : Nat) (zs : List Int) (t most : Int) (w : World) (h : PR w Rb B zs t) (hm0 : 0 ≤ most) (hm1 : most ≤ 1000000) :
    Calls Try.prog 92 #[(.pointer (some ⟨Rb, 0, none⟩)), .int .i64 most] w fun r w' => (∃ x, pT t most (p32 t) zs = .inl x ∧ r = fpan x.1 x.2 ∧ Wr.Kept [B] w w') ∨ ∃ z rs v, pT t most (p32 t) zs = .inr (z, rs) ∧ (z.length : Int) ≤ most ∧ r = .returned v ∧ Own .i32 21 w' w.heap.size v z ∧ PR w' Rb B rs t ∧ Wr.Kept [B] w w' := by
  have hlt := h.ltB
  have H : Hid _ := rcount_any Rb B zs t most w h hm0 hm1
  clear h
  go_enter Try.func92, Try.ntmps92
  go_wp2_with fail
  refine Calls.mono H.out ?_
  rintro r w1 (⟨x, hx, rfl, k⟩ | ⟨n, r0, hx, hn, rfl, p, k⟩)
  · exact ⟨rfl, .inl ⟨x, by simp only [pT, pbind, hx], rfl, k⟩⟩
  have hP : Hid (pT t most (p32 t) zs = pre [] (pL (p32 t) n r0)) := by simp only [Hid, pT, hx, pbind_r, Int.toNat_natCast, pre_nil]
  have hp0 : Hid (PR w1 Rb B r0 t ∧ Wr.Kept [B] w w1) := ⟨p, k⟩
  clear hx p k H
  go_wp2
  go_loopw [5, 9] (fun l i wr => ∃ (k : Nat) (z rs : List Int), k ≤ n ∧ i = .int .i64 k ∧ z.length = k ∧ pre [] (pL (p32 t) n r0) = pre z (pL (p32 t) (n - k) rs) ∧ Own .i32 21 wr w.heap.size l z ∧ PR wr Rb B rs t ∧ Wr.Kept [B] w wr) (fun _ i _ => n - (intOf i).toNat)
  case atStart => exact ⟨0, [], r0, Nat.zero_le _, rfl, rfl, rfl, own_none _ _ _ _, hp0.out.1, hp0.out.2⟩
  case round =>
    obtain ⟨k, z, rs, hk, rfl, hz, hE, hO, hp, hK⟩ := hrel
    have hsz := hK.2.2.2.1
    have hz' : Hid (z.length = k) := hz
    have hE' : Hid (pre [] (pL (p32 t) n r0) = pre z (pL (p32 t) (n - k) rs)) := hE
    have hK' : Hid (Wr.Kept [B] w wr) := hK
    obtain ⟨la, lc, rfl⟩ : ∃ la lc, u5 = .slice la k lc := by
      obtain ⟨a, c, e, -⟩ := hO.row
      exact ⟨a, c, by rw [e, hz]⟩
    have hO' : Hid (Own .i32 21 wr w.heap.size (.slice la k lc) z) := hO
    clear hz hE hK hO hp0
    by_cases hlk : k < n
    · obtain ⟨m, hm⟩ : ∃ m, n - k = m + 1 := ⟨n - k - 1, by omega⟩
      have hm' : Hid (n - k = m + 1) := hm
      have H : Hid _ := rsigned_i32 Rb B rs t wr hp
      clear hp hm
      go_wp2_with fail
      refine Calls.mono H.out ?_
      rintro r w2 (⟨x, hx, rfl, k2⟩ | ⟨v, r2, hx, hv, rfl, p2, k2⟩)
      · exact ⟨rfl, .inl ⟨x, by rw [hP.out, hE'.out, hm'.out]; exact pre_bad hx, rfl, hK'.out.trans k2⟩⟩
      have own2 := (own_kept hO'.out k2 hlt).alloc (.cells #[.int .i32 v] 21)
      have hrow := row_one .i32 21 w2 v (inf_i32 hv)
      have hN : Hid (pre [] (pL (p32 t) n r0) = pre (z ++ [v]) (pL (p32 t) (n - (k + 1)) r2)) := by
        unfold Hid; rw [hE'.out, hm'.out, pre_ok hx, show n - (k + 1) = m by have := hm'.out; omega]
      have hp2 : Hid (PR w2 Rb B r2 t) := p2
      have hk2 : Hid (Wr.Kept [B] w w2) := hK'.out.trans k2
      have hs2 := k2.2.2.2.1
      clear hx hv p2 k2 H hE'
      go_wp2_with (at_builtin; refine wpList_app kt_i32 rfl (.tmp 11) (.tmp 14) rfl w.heap.size _ z [v] rfl own2 _ _ _ rfl hrow (by have := hz'.out; simp; omega) (by simp; omega) ?_; intro v3 w3 own3 gr3 nn3)
      have hb3 : Below w.heap.size w2 w3 := own2.bel ((bal w2 _).mono (by omega)) gr3 (Nat.le_refl _) (by simp; omega)
      have hl3 : Hid ((z ++ [v]).length = k + 1) := by unfold Hid; rw [List.length_append, hz'.out]; rfl
      have hR : Hid (Own .i32 21 w3 w.heap.size v3 (z ++ [v]) ∧ PR w3 Rb B r2 t ∧ Wr.Kept [B] w w3) := ⟨own3, hp2.out.keep (hb3.mono (by omega)), kept_below hk2.out hb3⟩
      clear own3 gr3 nn3 hb3 own2 hrow hp2
      go_wp2
      go_roundw
      case rel => exact ⟨k + 1, z ++ [v], r2, by omega, by go_num, hl3.out, hN.out, hR.out.1, hR.out.2.1, hR.out.2.2⟩
      case measure => simp [intOf]; omega
    · obtain rfl : k = n := by omega
      have hF : Hid (pT t most (p32 t) zs = .inr (z, rs)) := by
        unfold Hid; rw [hP.out, hE'.out, Nat.sub_self]; simp [pre, pL, pbind]
      have hp' : Hid (PR wr Rb B rs t) := hp
      clear hp
      go_wp2
      go_ret
      exact .inr ⟨z, rs, _, hF.out, by rw [hz'.out]; exact hn, rfl, hO'.out, hp'.out, hK'.out⟩
end Go.Proofs.Ythagdpiocmcbmaa

/- The writer of package pack: numbers put behind its bytes. -/
namespace Go.Proofs.Ythagdpiocmcbmaa
open Wr
open Go.ChangeShapes Go.WideShapes Go.ChangeAt Go.RowKit
set_option linter.unusedVariables false
/-- What a writer's calls leave alone: all below 'base', and all blocks of no bytes but the writer's own. -/
def Wk (base Wb : Nat) (w w' : World) : Prop := Below base w w' ∧ ∀ (k : Nat) (c : Array Value) (T : TypeId), k ≠ Wb → T ≠ 5 → w.heap[k]? = some (.cells c T (0, 0)) → w'.heap[k]? = some (.cells c T (0, 0))
theorem Wk.refl (base Wb : Nat) (w : World) : Wk base Wb w w := ⟨Below.refl _ _, fun _ _ _ _ _ h => h⟩
theorem Wk.trans {base Wb : Nat} {a b c : World} (h : Wk base Wb a b) (k : Wk base Wb b c) : Wk base Wb a c := ⟨h.1.trans k.1, fun i cs T h1 h2 h3 => k.2 i cs T h1 h2 (h.2 i cs T h1 h2 h3)⟩
theorem Wk.of {base Wb : Nat} {w w' : World} (h : Below w.heap.size w w') (hb : base ≤ w.heap.size) : Wk base Wb w w' := ⟨h.mono hb, fun k c T _ _ hk => (h.block k (lt_of_heap hk)).trans hk⟩
theorem Wk.size {base Wb : Nat} {w w' : World} (h : Wk base Wb w w') : w.heap.size ≤ w'.heap.size := h.1.size
/-- The bytes of a writer: its own, or a row that is full. -/
def Wo (w : World) (base : Nat) (v : Value) (xs : List Int) : Prop := (Wr.Own w base v xs ∧ v ≠ .slice none 0 0) ∨ ∃ d, v = .slice (some d) xs.length xs.length ∧ Wr.Row w (some d) xs.length xs.length xs
theorem Wo.below {w w' : World} {base : Nat} {v : Value} {xs : List Int} (h : Wo w base v xs) (k : Below w.heap.size w w') : Wo w' base v xs := by
  rcases h with ⟨h1, h2⟩ | ⟨d, h1, h2⟩
  · exact .inl ⟨h1.below k, h2⟩
  · exact .inr ⟨d, h1, h2.below k⟩
/-- A writer, and its bytes; with bytes of its own. -/
def Wt (w : World) (Wb base : Nat) (xs : List Int) : Prop := ∃ v, w.heap[Wb]? = some (.cells #[v] 54 (0, 0)) ∧ Wo w base v xs
def WtO (w : World) (Wb base : Nat) (xs : List Int) : Prop := ∃ v, w.heap[Wb]? = some (.cells #[v] 54 (0, 0)) ∧ Wr.Own w base v xs ∧ v ≠ .slice none 0 0
theorem WtO.wt {w : World} {Wb base : Nat} {xs : List Int} (h : WtO w Wb base xs) : Wt w Wb base xs := by
  obtain ⟨v, h1, h2⟩ := h
  exact ⟨v, h1, .inl h2⟩
theorem Wt.below {w w' : World} {Wb base : Nat} {xs : List Int} (h : Wt w Wb base xs) (k : Below w.heap.size w w') : Wt w' Wb base xs := by
  obtain ⟨v, h1, h2⟩ := h
  exact ⟨v, (k.block _ (lt_of_heap h1)).trans h1, h2.below k⟩
theorem own_blk {w : World} {base b : Nat} {v : Value} {xs : List Int} (h : Wr.Own w base v xs) (hb : v.ownBlock = some b) : base ≤ b ∧ ∃ c, w.heap[b]? = some (.cells c 5 (0, 0)) := by
  rcases h.shape with ⟨rfl, -⟩ | ⟨g, cap, rfl, h1, -, -, -, ⟨cur, h2, -⟩, -⟩
  · simp [Value.ownBlock] at hb
  · obtain rfl : g = b := by simpa [Value.ownBlock] using hb
    exact ⟨h1, cur, h2⟩
theorem ne_ty {w : World} {b k : Nat} {c d : Array Value} {S T : TypeId} (h : w.heap[b]? = some (.cells c S (0, 0))) (g : w.heap[k]? = some (.cells d T (0, 0))) (hn : T ≠ S) : k ≠ b := by
  rintro rfl
  rw [h] at g
  simp only [Option.some.injEq, Obj.cells.injEq] at g
  exact hn g.2.1.symm
/-- Nothing below 'base', no block of no bytes has turned. -/
def Wk0 (base : Nat) (w w' : World) : Prop := Below base w w' ∧ ∀ (k : Nat) (c : Array Value) (T : TypeId), T ≠ 5 → w.heap[k]? = some (.cells c T (0, 0)) → w'.heap[k]? = some (.cells c T (0, 0))
theorem Wk0.wk {base Wb : Nat} {w w' : World} (h : Wk0 base w w') : Wk base Wb w w' := ⟨h.1, fun k c T _ hT hk => h.2 k c T hT hk⟩
theorem wk_set {w : World} {base Wb i : Nat} {v : Value} (hb : base ≤ Wb) : Wk base Wb w (w.setCell ⟨Wb, i, none⟩ v) :=
  ⟨(Below.refl _ _).setCell (p := ⟨Wb, i, none⟩) hb v, fun k c T hk _ h => by rw [Below.heap_setCell _ _ _ _ hk]; exact h⟩
theorem wk0_grown {w w' : World} {base : Nat} {v : Value} {xs : List Int} (h : Wr.Own w base v xs) (g : w.grownBy w' v.ownBlock) (hb : base ≤ w.heap.size) : Wk0 base w w' := by
  refine ⟨(Below.refl _ _).grown g hb fun b e => (own_blk h e).1, fun k c T hT hk => ?_⟩
  rw [g.block k (lt_of_heap hk) (fun e => ?_)]
  · exact hk
  · obtain ⟨d, hd⟩ := (own_blk h e.symm).2
    exact ne_ty hd hk hT rfl
theorem row_cells {w : World} {ad : Addr} {m c : Nat} {ys : List Int} (hy : Wr.Row w (some ad) m c ys) : ∀ j u, (ys.map (Value.int .u8))[j]? = some u → w.cell? (ad.add j) = some u := fun j u hj => by
  obtain ⟨hl, hc, hm, hb, hn, hcell⟩ := hy
  have hj' : j < m := by
    have := (List.getElem?_eq_some_iff.1 hj).1
    simpa [hl] using this
  rw [hcell ad rfl j hj']
  simp [List.getD, show j < ys.length by omega] at hj ⊢
  exact hj
/-- 'append' of bytes, in a region that draws its order. -/
theorem step_appW {w : World} {ops : Array Oper} {o : Oper} {a : Act} {K : Act → World → Prop} {Q : Exit → Act → World → Prop} {E : Prop} (hgd : o.guard = none) (s x : Operand)
    (ho : o.op = .call { callee := .builtin .append, args := #[s, x], argTypes := #[28, 28] })
    (base : Nat) (v : Value) (xs ys : List Int) (hs : a.eval s = v) (hown : Wo w base v xs) (ad : Addr) (m c : Nat) (hx : a.eval x = .slice (some ad) m c) (hy : Wr.Row w (some ad) m c ys) (hm0 : 0 < ys.length)
    (hlen : xs.length + ys.length ≤ 140737488355328) (hbase : base ≤ w.heap.size)
    (hK : ∀ v' w', Wr.Own w' base v' (xs ++ ys) → v' ≠ .slice none 0 0 → Wk0 base w w' → K (a.put o.dst v') w') : if Region.wanted o (yielded ops a.tmps) = true then Oper.wp Try.prog o a w K Q else E := by
  obtain ⟨i0, hi, hz0, hz1, hz2⟩ := info_parts Wr.Try.infoB
  have hcs := row_cells hy
  obtain ⟨hl, hc, hm, hb, hn, hcell⟩ := hy
  rcases hown with ⟨hown, hv⟩ | ⟨d, rfl, hr⟩
  · have hw : Region.wanted o (yielded ops a.tmps) = true := by simp [Region.wanted, hgd]
    rw [if_pos hw]
    obtain ⟨v', w', hrun, r1, r2, r3⟩ := run_append_own (P := Try.prog) w base 28 o.type 5 i0 (.int .u8 0) 1 1 Try.underlying28 hi hz0 hz1 hz2 rfl (by decide) v xs.length _ hown.1 ad m c (ys.map (Value.int .u8)) (by simp [hl]) hcs (ints_oneCell _ _) (by unfold maxLen; omega) (by omega) hbase
    unfold Oper.wp
    simp [execOp, ho, resolve, invoke, builtin, hs, hx, hrun, Result.andThen]
    refine hK v' w' ⟨?_, hown.2.app hb⟩ (fun e => hv (r3.1 e).1) (wk0_grown hown r2 hbase)
    rw [List.length_append, hl, List.map_append]
    exact r1
  · refine step_append_grows hgd s x 28 ho 5 i0 (.int .u8 0) 1 1 Try.underlying28 hi hz0 hz1 hz2 rfl (by omega) (some d) xs.length xs.length (xs.map (Value.int .u8)) hs (fun h => by cases h) (by simp) (fun b hb' => by cases hb'; exact row_cells hr) ad m c (ys.map (Value.int .u8)) hx (by simp [hl]) hcs (ints_oneCell _ _) (by omega) (by unfold maxLen; omega) (by omega) ?_
    intro v' w' h1 h2
    have hO : Wr.Own w' base v' (xs ++ ys) := by
      refine ⟨⟨by simp, ?_⟩, hr.2.2.2.1.app hb⟩
      rcases h1.2 with ⟨q1, q2⟩ | ⟨g, cap, cur, q1, q2, q3, q4, q5, q6, q7⟩
      · omega
      · refine .inr ⟨g, cap, cur, ?_, by omega, q3, ?_, q5, q6, ?_⟩
        · rw [q1, List.length_append, hl]
        · rw [List.length_append, hl]; exact q4
        · rw [List.length_append, hl, q7, List.map_append]
    refine hK v' w' hO (fun e => ?_) ⟨(Below.refl _ _).grown h2 hbase (fun b e => by cases e), fun k c T _ hk => (h2.block k (lt_of_heap hk) (by simp)).trans hk⟩
    rw [e] at hO
    rcases hO.shape with ⟨-, h0⟩ | ⟨g, cap, h0, -⟩
    · have : (xs ++ ys).length = 0 := by rw [h0]; rfl
      rw [List.length_append] at this; omega
    · cases h0
theorem u64_wrap (y : Int) : IntKind.u64.wrap y = ((u64 y : Nat) : Int) := by
  unfold u64; rw [IntKind.wrap_u64]; omega
theorem eU_le (l : List Int) : (eU l).length ≤ 10 * l.length := by
  induction l with
  | nil => simp [eU]
  | cons x l ih => have := putR_ten (u64_lt x); rw [eU_cons, List.length_append, List.length_cons]; omega
theorem eS_le (l : List Int) (h : ∀ x ∈ l, -9223372036854775808 ≤ x ∧ x ≤ 9223372036854775807) : (eS l).length ≤ 10 * l.length := by
  induction l with
  | nil => simp [eS]
  | cons x l ih =>
    have hx := h x List.mem_cons_self
    have := putR_ten (foldR_lt hx.1 hx.2)
    have := ih fun y hy => h y (List.mem_cons_of_mem _ hy)
    rw [eS_cons, List.length_append, List.length_cons]; omega
theorem take_more {ys : List Int} {k : Nat} {y : Int} (h : ys[k]? = some y) : ys.take (k + 1) = ys.take k ++ [y] := by
  rw [List.take_add_one, h]; rfl
theorem own_get {w : World} {base : Nat} {v : Value} {xs : List Int} (h : Wr.Own w base v xs) (hv : v ≠ .slice none 0 0) : ∃ d cap, v = .slice (some d) xs.length cap ∧ Wr.Row w (some d) xs.length cap xs := by
  obtain ⟨a, cap, rfl, r, -⟩ := h.row
  cases a with
  | none =>
    obtain rfl : cap = 0 := r.2.2.2.2.1 rfl
    exact absurd (by rw [Nat.le_zero.1 r.2.1]) hv
  | some d => exact ⟨d, cap, rfl, r⟩
theorem own_ltr {w : World} {base : Nat} {v : Value} {xs : List Int} (h : Wr.Own w base v xs) (hv : v ≠ .slice none 0 0) : ∃ d n cap, v = .slice (some d) n cap := by
  obtain ⟨d, cap, e, -⟩ := own_get h hv
  exact ⟨d, _, cap, e⟩
theorem Wo.ltr {w : World} {base : Nat} {v : Value} {xs : List Int} (h : Wo w base v xs) : ∃ d n cap, v = .slice (some d) n cap := by
  rcases h with ⟨h1, h2⟩ | ⟨d, h1, -⟩
  · exact own_ltr h1 h2
  · exact ⟨d, _, _, h1⟩
/-- Numbers in a block of their own. -/
def Nums (w : World) (g : Nat) (ys : List Int) : Prop := w.heap[g]? = some (.cells (ys.map (Value.int .i64)).toArray 3 (0, 0))
theorem Nums.at {w : World} {g k : Nat} {ys : List Int} {y : Int} (h : Nums w g ys) (hk : ys[k]? = some y) : w.cell? ⟨g, k, none⟩ = some (.int .i64 y) := by
  rw [(cells_at h).1]; simp [hk]
theorem row_e (w : World) : Wr.Row w none 0 0 [] := ⟨rfl, Nat.le_refl _, by unfold maxLen; omega, Byt.nil, fun _ => rfl, fun x h => by cases h⟩
theorem own_oth {w w' : World} {base : Nat} {v : Value} {zs : List Int} (h : Wr.Own w base v zs) (q : ∀ (g : Nat) (c : Array Value), w.heap[g]? = some (.cells c 5 (0, 0)) → w'.heap[g]? = some (.cells c 5 (0, 0))) : Wr.Own w' base v zs := by
  refine ⟨⟨h.1.1, ?_⟩, h.2⟩
  rcases h.1.2 with h0 | ⟨g, cap, cur, h1, h2, h3, h4⟩
  · exact .inl h0
  · exact .inr ⟨g, cap, cur, h1, h2, q g cur h3, h4⟩
theorem wt_set {w : World} {Wb base : Nat} {v v2 : Value} {zs : List Int} (h : w.heap[Wb]? = some (.cells #[v] 54 (0, 0))) (own : Wr.Own w base v2 zs) (nn : v2 ≠ .slice none 0 0) : WtO (w.setCell ⟨Wb, 0, none⟩ v2) Wb base zs :=
  ⟨v2, heap_setCell_at h, own_oth own fun g c hg => by rw [Below.heap_setCell _ _ _ _ (ne_ty h hg (by decide))]; exact hg, nn⟩
def In64 (l : List Int) : Prop := ∀ x ∈ l, -9223372036854775808 ≤ x ∧ x ≤ 9223372036854775807
set_option maxHeartbeats 2000000 in
set_option maxRecDepth 100000 in
theorem unsigned_any (Wb base g n : Nat) (xs ys : List Int) (w : World) (h : Wt w Wb base xs) (hn : Nums w g ys) (hl : ys.length = n) (hg : g ≠ Wb) (hb : base ≤ Wb) (hs : xs.length + 10 * n ≤ 140737488355328) (hn2 : n ≤ 1000) (hy : True) :
    Calls Try.prog 24 #[(.pointer (some ⟨Wb, 0, none⟩)), .slice (some ⟨g, 0, none⟩) n n] w fun e w' => e = .returned (.tuple #[]) ∧ Wt w' Wb base (xs ++ eU ys) ∧ Wk base Wb w w' ∧ (0 < n → WtO w' Wb base (xs ++ eU ys)) := by
  have hl' : Hid (ys.length = n) := hl
  have hn' : Hid (Nums w g ys) := hn
  have h0 : Hid (Wt w Wb base (xs ++ eU (ys.take 0))) := by unfold Hid; simpa [eU] using h
  have hWb : Wb < w.heap.size := by obtain ⟨v, h1, -⟩ := h; exact lt_of_heap h1
  clear hl hn h
  go_enter Try.func24, Try.ntmps24
  go_wp2
  go_loopw [8] (fun i wr => ∃ k : Nat, k ≤ n ∧ i = .int .i64 k ∧ Wt wr Wb base (xs ++ eU (ys.take k)) ∧ Wk base Wb w wr ∧ (0 < k → WtO wr Wb base (xs ++ eU (ys.take k)))) (fun i _ => n - (intOf i).toNat)
  case atStart => exact ⟨0, Nat.zero_le _, rfl, h0.out, Wk.refl _ _ _, fun h => by omega⟩
  case round =>
    obtain ⟨k, hk, rfl, hT, hK, hO⟩ := hrel
    clear h0
    have hK' : Hid (Wk base Wb w wr) := hK
    by_cases hlt : k < n
    · obtain ⟨y, hky⟩ : ∃ y, ys[k]? = some y := ⟨_, List.getElem?_eq_getElem (by rw [hl'.out]; exact hlt)⟩
      have hcy := (show Nums wr g ys from hK.2 g _ _ hg (by decide) hn'.out).at hky
      have hlen : Hid ((xs ++ eU (ys.take k)).length ≤ xs.length + 10 * k) := by
        have := eU_le (ys.take k); simp only [Hid, List.length_append, List.length_take] at *; omega
      have hnext : Hid (xs ++ eU (ys.take k) ++ (putR (u64 y)) = xs ++ eU (ys.take (k + 1))) := by
        unfold Hid; rw [take_more hky, eU_app, List.append_assoc]; simp [eU]
      obtain ⟨v, h1, h2⟩ := hT
      obtain ⟨c1, f1, z1⟩ := cells_at h1
      have hu := u64_lt y
      have hw := u64_wrap y
      have hpos : Hid (0 < (putR (u64 y)).length) := putR_pos _
      have hput : Hid (((putR (u64 y))).length ≤ 10) := putR_ten (u64_lt y)
      have hS : Hid (∀ w', Below wr.heap.size wr w' → ∀ i, w'.cell? ⟨Wb, i, none⟩ = #[v][i]?) := fun w' hb' => (cells_at ((hb'.block _ (lt_of_heap h1)).trans h1)).1
      have H1 : Hid (wr.heap[Wb]? = some (.cells #[v] 54 (0, 0))) := h1
      have H2 : Hid (Wo wr base v (xs ++ eU (ys.take k))) := h2
      have hbase : Hid (base ≤ wr.heap.size) := by unfold Hid; omega
      have hD : Below wr.heap.size wr wr.drew := (Below.refl _ _).drew
      clear hK h1 h2 hky hO
      go_wp2
      go_region_law (first
        | (go_simp; go_at_call 38; refine (putU_is none 0 0 [] (u64 y) _ (row_e _) hu (by omega)).mono ?_; rintro e w1 ⟨v1, rfl, own1, nn1, b1⟩; replace hD := bt hD b1; have cq := hS.out _ hD; obtain ⟨d1, p1, rfl, r1⟩ := own_get own1 nn1)
        | (refine step_appW rfl (.tmp 16) (.tmp 19) rfl base v (xs ++ eU (ys.take k)) ([] ++ (putR (u64 y))) rfl (H2.out.below hD) d1 _ _ rfl r1 (by have := hpos.out; simpa using this) (by have := hlen.out; have := hput.out; simp only [List.nil_append]; omega) (Nat.le_trans hbase.out hD.size) ?_; intro v2 w2 own2 nn2 kw; have hW2 := kw.2 _ _ _ (by decide) ((hD.block _ z1).trans H1.out); obtain ⟨cS, f2, z2⟩ := cells_at hW2; obtain ⟨d2, n2, p2, rfl⟩ := own_ltr own2 nn2))
      all_goals
        have hE : Hid (WtO (w2.setCell ⟨Wb, 0, none⟩ (.slice (some d2) n2 p2)) Wb base (xs ++ eU (ys.take (k + 1))) ∧ Wk base Wb w (w2.setCell ⟨Wb, 0, none⟩ (.slice (some d2) n2 p2))) := ⟨wt_set hW2 (by rw [List.nil_append, hnext.out] at own2; exact own2) nn2, (hK'.out.trans (Wk.of hD hbase.out)).trans (kw.wk.trans (wk_set hb))⟩
        clear hW2 own2 kw cS r1 own1 cq c1
        go_wp2
        go_roundw
        case rel => exact ⟨k + 1, by omega, by go_num, hE.out.1.wt, hE.out.2, fun _ => hE.out.1⟩
        case measure => simp [intOf]; omega
    · have hE : Hid (Wt wr Wb base (xs ++ eU ys) ∧ (0 < n → WtO wr Wb base (xs ++ eU ys))) := by
        unfold Hid; rw [List.take_of_length_le (by rw [hl'.out]; omega)] at hT hO; exact ⟨hT, fun h => hO (by omega)⟩
      clear hT hK hO
      go_wp2
      go_end0
      exact ⟨rfl, hE.out.1, hK'.out, hE.out.2⟩
set_option maxHeartbeats 2000000 in
set_option maxRecDepth 100000 in
theorem signed_any (Wb base g n : Nat) (xs ys : List Int) (w : World) (h : Wt w Wb base xs) (hn : Nums w g ys) (hl : ys.length = n) (hg : g ≠ Wb) (hb : base ≤ Wb) (hs : xs.length + 10 * n ≤ 140737488355328) (hn2 : n ≤ 1000) (hy : In64 ys) :
    Calls Try.prog 25 #[(.pointer (some ⟨Wb, 0, none⟩)), .slice (some ⟨g, 0, none⟩) n n] w fun e w' => e = .returned (.tuple #[]) ∧ Wt w' Wb base (xs ++ eS ys) ∧ Wk base Wb w w' ∧ (0 < n → WtO w' Wb base (xs ++ eS ys)) := by
  have hl' : Hid (ys.length = n) := hl
  have hn' : Hid (Nums w g ys) := hn
  have h0 : Hid (Wt w Wb base (xs ++ eS (ys.take 0))) := by unfold Hid; simpa [eS] using h
  have hWb : Wb < w.heap.size := by obtain ⟨v, h1, -⟩ := h; exact lt_of_heap h1
  clear hl hn h
  go_enter Try.func25, Try.ntmps25
  go_wp2
  go_loopw [8] (fun i wr => ∃ k : Nat, k ≤ n ∧ i = .int .i64 k ∧ Wt wr Wb base (xs ++ eS (ys.take k)) ∧ Wk base Wb w wr ∧ (0 < k → WtO wr Wb base (xs ++ eS (ys.take k)))) (fun i _ => n - (intOf i).toNat)
  case atStart => exact ⟨0, Nat.zero_le _, rfl, h0.out, Wk.refl _ _ _, fun h => by omega⟩
  case round =>
    obtain ⟨k, hk, rfl, hT, hK, hO⟩ := hrel
    clear h0
    have hK' : Hid (Wk base Wb w wr) := hK
    by_cases hlt : k < n
    · obtain ⟨y, hky⟩ : ∃ y, ys[k]? = some y := ⟨_, List.getElem?_eq_getElem (by rw [hl'.out]; exact hlt)⟩
      have hcy := (show Nums wr g ys from hK.2 g _ _ hg (by decide) hn'.out).at hky
      have hlen : Hid ((xs ++ eS (ys.take k)).length ≤ xs.length + 10 * k) := by
        have := eS_le (ys.take k) (fun x hx => hy x (List.mem_of_mem_take hx)); simp only [Hid, List.length_append, List.length_take] at *; omega
      have hnext : Hid (xs ++ eS (ys.take k) ++ (putR (foldR y)) = xs ++ eS (ys.take (k + 1))) := by
        unfold Hid; rw [take_more hky, eS_app, List.append_assoc]; simp [eS]
      obtain ⟨v, h1, h2⟩ := hT
      obtain ⟨c1, f1, z1⟩ := cells_at h1
      have hy64 := hy y (List.mem_of_getElem? hky)
      have hpos : Hid (0 < (putR (foldR y)).length) := putR_pos _
      have hput : Hid (((putR (foldR y))).length ≤ 10) := putR_ten (foldR_lt hy64.1 hy64.2)
      have hS : Hid (∀ w', Below wr.heap.size wr w' → ∀ i, w'.cell? ⟨Wb, i, none⟩ = #[v][i]?) := fun w' hb' => (cells_at ((hb'.block _ (lt_of_heap h1)).trans h1)).1
      have H1 : Hid (wr.heap[Wb]? = some (.cells #[v] 54 (0, 0))) := h1
      have H2 : Hid (Wo wr base v (xs ++ eS (ys.take k))) := h2
      have hbase : Hid (base ≤ wr.heap.size) := by unfold Hid; omega
      have hD : Below wr.heap.size wr wr.drew := (Below.refl _ _).drew
      clear hK h1 h2 hky hO
      go_wp2
      go_region_law (first
        | (go_simp; go_at_call 39; refine (putS_is none 0 0 [] y _ (row_e _) hy64.1 hy64.2 (by omega)).mono ?_; rintro e w1 ⟨v1, rfl, own1, nn1, b1⟩; replace hD := bt hD b1; have cq := hS.out _ hD; obtain ⟨d1, p1, rfl, r1⟩ := own_get own1 nn1)
        | (refine step_appW rfl (.tmp 16) (.tmp 18) rfl base v (xs ++ eS (ys.take k)) ([] ++ (putR (foldR y))) rfl (H2.out.below hD) d1 _ _ rfl r1 (by have := hpos.out; simpa using this) (by have := hlen.out; have := hput.out; simp only [List.nil_append]; omega) (Nat.le_trans hbase.out hD.size) ?_; intro v2 w2 own2 nn2 kw; have hW2 := kw.2 _ _ _ (by decide) ((hD.block _ z1).trans H1.out); obtain ⟨cS, f2, z2⟩ := cells_at hW2; obtain ⟨d2, n2, p2, rfl⟩ := own_ltr own2 nn2))
      all_goals
        have hE : Hid (WtO (w2.setCell ⟨Wb, 0, none⟩ (.slice (some d2) n2 p2)) Wb base (xs ++ eS (ys.take (k + 1))) ∧ Wk base Wb w (w2.setCell ⟨Wb, 0, none⟩ (.slice (some d2) n2 p2))) := ⟨wt_set hW2 (by rw [List.nil_append, hnext.out] at own2; exact own2) nn2, (hK'.out.trans (Wk.of hD hbase.out)).trans (kw.wk.trans (wk_set hb))⟩
        clear hW2 own2 kw cS r1 own1 cq c1
        go_wp2
        go_roundw
        case rel => exact ⟨k + 1, by omega, by go_num, hE.out.1.wt, hE.out.2, fun _ => hE.out.1⟩
        case measure => simp [intOf]; omega
    · have hE : Hid (Wt wr Wb base (xs ++ eS ys) ∧ (0 < n → WtO wr Wb base (xs ++ eS ys))) := by
        unfold Hid; rw [List.take_of_length_le (by rw [hl'.out]; omega)] at hT hO; exact ⟨hT, fun h => hO (by omega)⟩
      clear hT hK hO
      go_wp2
      go_end0
      exact ⟨rfl, hE.out.1, hK'.out, hE.out.2⟩
end Go.Proofs.Ythagdpiocmcbmaa

/- The writer of package pack: windows, lists, ops. -/
namespace Go.Proofs.Ythagdpiocmcbmaa
open Wr
open Go.ChangeShapes Go.WideShapes Go.ChangeAt Go.RowKit
set_option linter.unusedVariables false
theorem Wt.lt {w : World} {Wb base : Nat} {xs : List Int} (h : Wt w Wb base xs) : Wb < w.heap.size := by obtain ⟨v, h1, -⟩ := h; exact lt_of_heap h1
theorem Wt.al {w : World} {Wb base : Nat} {xs : List Int} (h : Wt w Wb base xs) (o : Obj) : Wt (w.alloc o) Wb base xs := h.below (bal _ _)
theorem wk_al {w : World} {base Wb : Nat} (o : Obj) (hb : base ≤ w.heap.size) : Wk base Wb w (w.alloc o) := Wk.of (bal _ _) hb
set_option maxHeartbeats 1000000 in
theorem wwindow_any (Wb base : Nat) (xs : List Int) (a b c d p q r s : Int) (w : World) (h : Wt w Wb base xs) (hb : base ≤ Wb) (hs : xs.length + 1000 ≤ 140737488355328) :
    Calls Try.prog 40 #[(.pointer (some ⟨Wb, 0, none⟩)), .agg #[.int .i64 a, .int .i64 b, .int .i64 c, .int .i64 d, .int .i64 p, .int .i64 q, .int .i64 r, .int .i64 s]] w fun e w' => e = .returned (.tuple #[]) ∧ Wt w' Wb base (xs ++ eU [a, b, c, d, p, q, r, s]) ∧ Wk base Wb w w' := by
  have hlt := h.lt
  have H : Hid (Wt w Wb base xs) := h
  clear h
  go_enter Try.func40, Try.ntmps40
  go_wp2_with fail
  refine (unsigned_any Wb base (w.heap.size + 1) 4 xs [a, b, c, d] _ ((H.out.al _).al _) (by unfold Nums; simpa using heap_alloc_new (w.alloc _) _) rfl (by omega) hb (by omega) (by omega) trivial).mono ?_
  rintro e w1 ⟨rfl, T1, K1, -⟩
  have hB := K1.2 w.heap.size _ 44 (by omega) (by decide) (heap_alloc2_old w _ _)
  have k1 : Hid (Wk base Wb w w1) := (wk_al _ (by omega)).trans ((wk_al _ (by simp; omega)).trans K1)
  have z1 := k1.out.size
  have l1 : Hid (eU [a, b, c, d] ++ eU [p, q, r, s] = eU [a, b, c, d, p, q, r, s]) := (eU_app [a, b, c, d] [p, q, r, s]).symm
  have n1 := eU_le [a, b, c, d]
  obtain ⟨c1, f1, y1⟩ := cells_at hB
  have T1' : Hid (Wt w1 Wb base (xs ++ eU [a, b, c, d])) := T1
  have n2 : Hid ((xs ++ eU [a, b, c, d]).length + 10 * 4 ≤ 140737488355328) := by simp only [Hid, List.length_append, List.length_cons, List.length_nil] at *; omega
  clear K1 hB T1 n1
  go_wp2_with fail
  refine (unsigned_any Wb base w1.heap.size 4 (xs ++ eU [a, b, c, d]) [p, q, r, s] _ (T1'.out.al _) (heap_alloc_new w1 _) rfl (by omega) hb n2.out (by omega) trivial).mono ?_
  rintro e w2 ⟨rfl, T2, K2, -⟩
  have k2 : Hid (Wk base Wb w w2) := k1.out.trans ((wk_al _ (by omega)).trans K2)
  have t2 : Hid (Wt w2 Wb base (xs ++ eU [a, b, c, d, p, q, r, s])) := by unfold Hid; rw [← l1.out, ← List.append_assoc]; exact T2
  clear K2 T2 c1
  go_wp2
  go_end0
  exact ⟨rfl, t2.out, k2.out⟩
theorem i16_of {a : Int} (h : (Lit.int .i16 a).wf = true) : -32768 ≤ a ∧ a ≤ 32767 := by
  simp [Lit.wf, IntKind.min, IntKind.max, IntKind.bits, IntKind.signed] at h; omega
theorem i32_of {a : Int} (h : (Lit.int .i32 a).wf = true) : -2147483648 ≤ a ∧ a ≤ 2147483647 := by
  simp [Lit.wf, IntKind.min, IntKind.max, IntKind.bits, IntKind.signed] at h; omega
set_option maxHeartbeats 2000000 in
theorem put_i16 (Wb : Nat) (xs zs : List Int) (a : Option Addr) (len cap : Nat) (W w : World) (h : Wt w Wb W.heap.size xs) (hW : Below W.heap.size W w) (hr : IRow .i16 W a len cap zs) (hb : W.heap.size ≤ Wb) (hs : xs.length + 10 * len + 1000 ≤ 140737488355328) :
    Calls Try.prog 41 #[(.pointer (some ⟨Wb, 0, none⟩)), .slice a len cap] w fun e w' => e = .returned (.tuple #[]) ∧ Wt w' Wb W.heap.size (xs ++ (putR zs.length ++ eS zs)) ∧ Wk W.heap.size Wb w w' := by
  have hlt := h.lt
  have hl : Hid (zs.length = len) := hr.1
  have hc := hr.2.1
  have hm := hr.2.2.1
  unfold maxLen at hm
  have H : Hid (Wt w Wb W.heap.size xs) := h
  have HR : Hid (IRow .i16 W a len cap zs) := hr
  have HW : Hid (Below W.heap.size W w) := hW
  have hp : Hid (eU [(len : Int)] = putR zs.length) := by
    unfold Hid; rw [hl.out]; unfold eU; rw [List.flatMap_singleton, u64_of (by omega) (by omega), Int.toNat_natCast]
  have hpl : Hid ((putR zs.length).length ≤ 10) := by unfold Hid; exact putR_ten (by have := hl.out; omega)
  clear h hr hW
  go_enter Try.func41, Try.ntmps41
  go_wp2_with fail
  refine (unsigned_any Wb W.heap.size w.heap.size 1 xs [(len : Int)] _ (H.out.al _) (heap_alloc_new w _) rfl (by omega) hb (by omega) (by omega) trivial).mono ?_
  rintro e w1 ⟨rfl, T1, K1, -⟩
  have T1' : Hid (Wt w1 Wb W.heap.size (xs ++ (putR zs.length ++ eS (zs.take 0)))) := by unfold Hid; rw [hp.out] at T1; simpa [eS] using T1
  have k1 : Hid (Wk W.heap.size Wb w w1) := (wk_al _ (by omega)).trans K1
  have hlt1 := T1'.out.lt
  clear K1 T1
  go_wp2
  go_loopw [13] (fun i wr => ∃ k : Nat, k ≤ len ∧ i = .int .i64 k ∧ Wt wr Wb W.heap.size (xs ++ (putR zs.length ++ eS (zs.take k))) ∧ Wk W.heap.size Wb w wr) (fun i _ => len - (intOf i).toNat)
  case atStart => exact ⟨0, Nat.zero_le _, rfl, T1'.out, k1.out⟩
  case round =>
    obtain ⟨k, hk, rfl, hT, hK⟩ := hrel
    clear T1'
    have hltr := hT.lt
    have hT' : Hid (Wt wr Wb W.heap.size (xs ++ (putR zs.length ++ eS (zs.take k)))) := hT
    have hK' : Hid (Wk W.heap.size Wb w wr) := hK
    by_cases hlk : k < len
    · obtain ⟨x, y, rfl, hcx, hwf, hky, -⟩ := (HR.out.below (HW.out.trans hK.1)).at hlk
      have hyb := i16_of hwf
      have h64 : Hid (In64 [y]) := fun q hq => by simp at hq; subst hq; omega
      have hbd : Hid (In64 (zs.take k)) := fun q hq => by have := i16_of (HR.out.2.2.2.1 q (List.mem_of_mem_take hq)); omega
      have hlen : Hid ((xs ++ (putR zs.length ++ eS (zs.take k))).length + 10 * 1 ≤ 140737488355328) := by
        have := eS_le _ hbd.out; have := hpl.out; simp only [Hid, List.length_append, List.length_take] at *; omega
      have hnext : Hid (xs ++ (putR zs.length ++ eS (zs.take k)) ++ eS [y] = xs ++ (putR zs.length ++ eS (zs.take (k + 1)))) := by
        unfold Hid; rw [take_more hky, eS_app]; simp
      clear hT hK hky hwf
      go_wp2_with fail
      refine (signed_any Wb W.heap.size wr.heap.size 1 _ [y] _ (hT'.out.al _) (heap_alloc_new wr _) rfl (by omega) hb hlen.out (by omega) h64.out).mono ?_
      rintro e w2 ⟨rfl, T2, K2, -⟩
      have t2 : Hid (Wt w2 Wb W.heap.size (xs ++ (putR zs.length ++ eS (zs.take (k + 1))))) := by unfold Hid; rw [← hnext.out]; exact T2
      have k2 : Hid (Wk W.heap.size Wb w w2) := hK'.out.trans ((wk_al _ (by omega)).trans K2)
      clear T2 K2 hT'
      go_wp2
      go_roundw
      case rel => exact ⟨k + 1, by omega, by go_num, t2.out, k2.out⟩
      case measure => simp [intOf]; omega
    · have t2 : Hid (Wt wr Wb W.heap.size (xs ++ (putR zs.length ++ eS zs))) := by
        unfold Hid; rw [List.take_of_length_le (by rw [hl.out]; omega)] at hT; exact hT
      clear hT hK hT'
      go_wp2
      go_end0
      exact ⟨rfl, t2.out, hK'.out⟩
set_option maxHeartbeats 2000000 in
theorem put_i32 (Wb : Nat) (xs zs : List Int) (a : Option Addr) (len cap : Nat) (W w : World) (h : Wt w Wb W.heap.size xs) (hW : Below W.heap.size W w) (hr : IRow .i32 W a len cap zs) (hb : W.heap.size ≤ Wb) (hs : xs.length + 10 * len + 1000 ≤ 140737488355328) :
    Calls Try.prog 42 #[(.pointer (some ⟨Wb, 0, none⟩)), .slice a len cap] w fun e w' => e = .returned (.tuple #[]) ∧ Wt w' Wb W.heap.size (xs ++ (putR zs.length ++ eS zs)) ∧ Wk W.heap.size Wb w w' := by
  have hlt := h.lt
  have hl : Hid (zs.length = len) := hr.1
  have hc := hr.2.1
  have hm := hr.2.2.1
  unfold maxLen at hm
  have H : Hid (Wt w Wb W.heap.size xs) := h
  have HR : Hid (IRow .i32 W a len cap zs) := hr
  have HW : Hid (Below W.heap.size W w) := hW
  have hp : Hid (eU [(len : Int)] = putR zs.length) := by
    unfold Hid; rw [hl.out]; unfold eU; rw [List.flatMap_singleton, u64_of (by omega) (by omega), Int.toNat_natCast]
  have hpl : Hid ((putR zs.length).length ≤ 10) := by unfold Hid; exact putR_ten (by have := hl.out; omega)
  clear h hr hW
  go_enter Try.func42, Try.ntmps42
  go_wp2_with fail
  refine (unsigned_any Wb W.heap.size w.heap.size 1 xs [(len : Int)] _ (H.out.al _) (heap_alloc_new w _) rfl (by omega) hb (by omega) (by omega) trivial).mono ?_
  rintro e w1 ⟨rfl, T1, K1, -⟩
  have T1' : Hid (Wt w1 Wb W.heap.size (xs ++ (putR zs.length ++ eS (zs.take 0)))) := by unfold Hid; rw [hp.out] at T1; simpa [eS] using T1
  have k1 : Hid (Wk W.heap.size Wb w w1) := (wk_al _ (by omega)).trans K1
  have hlt1 := T1'.out.lt
  clear K1 T1
  go_wp2
  go_loopw [13] (fun i wr => ∃ k : Nat, k ≤ len ∧ i = .int .i64 k ∧ Wt wr Wb W.heap.size (xs ++ (putR zs.length ++ eS (zs.take k))) ∧ Wk W.heap.size Wb w wr) (fun i _ => len - (intOf i).toNat)
  case atStart => exact ⟨0, Nat.zero_le _, rfl, T1'.out, k1.out⟩
  case round =>
    obtain ⟨k, hk, rfl, hT, hK⟩ := hrel
    clear T1'
    have hltr := hT.lt
    have hT' : Hid (Wt wr Wb W.heap.size (xs ++ (putR zs.length ++ eS (zs.take k)))) := hT
    have hK' : Hid (Wk W.heap.size Wb w wr) := hK
    by_cases hlk : k < len
    · obtain ⟨x, y, rfl, hcx, hwf, hky, -⟩ := (HR.out.below (HW.out.trans hK.1)).at hlk
      have hyb := i32_of hwf
      have h64 : Hid (In64 [y]) := fun q hq => by simp at hq; subst hq; omega
      have hbd : Hid (In64 (zs.take k)) := fun q hq => by have := i32_of (HR.out.2.2.2.1 q (List.mem_of_mem_take hq)); omega
      have hlen : Hid ((xs ++ (putR zs.length ++ eS (zs.take k))).length + 10 * 1 ≤ 140737488355328) := by
        have := eS_le _ hbd.out; have := hpl.out; simp only [Hid, List.length_append, List.length_take] at *; omega
      have hnext : Hid (xs ++ (putR zs.length ++ eS (zs.take k)) ++ eS [y] = xs ++ (putR zs.length ++ eS (zs.take (k + 1)))) := by
        unfold Hid; rw [take_more hky, eS_app]; simp
      clear hT hK hky hwf
      go_wp2_with fail
      refine (signed_any Wb W.heap.size wr.heap.size 1 _ [y] _ (hT'.out.al _) (heap_alloc_new wr _) rfl (by omega) hb hlen.out (by omega) h64.out).mono ?_
      rintro e w2 ⟨rfl, T2, K2, -⟩
      have t2 : Hid (Wt w2 Wb W.heap.size (xs ++ (putR zs.length ++ eS (zs.take (k + 1))))) := by unfold Hid; rw [← hnext.out]; exact T2
      have k2 : Hid (Wk W.heap.size Wb w w2) := hK'.out.trans ((wk_al _ (by omega)).trans K2)
      clear T2 K2 hT'
      go_wp2
      go_roundw
      case rel => exact ⟨k + 1, by omega, by go_num, t2.out, k2.out⟩
      case measure => simp [intOf]; omega
    · have t2 : Hid (Wt wr Wb W.heap.size (xs ++ (putR zs.length ++ eS zs))) := by
        unfold Hid; rw [List.take_of_length_le (by rw [hl.out]; omega)] at hT; exact hT
      clear hT hK hT'
      go_wp2
      go_end0
      exact ⟨rfl, t2.out, hK'.out⟩
end Go.Proofs.Ythagdpiocmcbmaa

/- The writer of package pack: an op. -/
namespace Go.Proofs.Ythagdpiocmcbmaa
open Wr
open Go.ChangeShapes Go.WideShapes Go.ChangeAt Go.RowKit
set_option linter.unusedVariables false
def dOp (o : Nat → Int) (z b : List Int) : OpD := ⟨[o 0, o 1, o 2, o 3, o 4, o 5, o 6, o 7, o 8, o 9, o 10, o 11], z, b, [o 14, o 15, o 16, o 17], [o 18, o 19, o 20, o 21]⟩
theorem eOp_is (o : Nat → Int) (z b xs : List Int) : xs ++ eU [o 0, o 1, o 2, o 3] ++ eU [o 4, o 5, o 6, o 7, o 8, o 9, o 10, o 11] ++ (putR z.length ++ eS z) ++ (putR b.length ++ eS b) ++ eU [o 14, o 15, o 16, o 17] ++ eS [o 18, o 19, o 20, o 21] = xs ++ eOp (dOp o z b) := by
  unfold eOp dOp
  simp only [List.append_assoc]
  rw [show [o 0, o 1, o 2, o 3, o 4, o 5, o 6, o 7, o 8, o 9, o 10, o 11] = [o 0, o 1, o 2, o 3] ++ [o 4, o 5, o 6, o 7, o 8, o 9, o 10, o 11] from rfl, eU_app]
  simp only [List.append_assoc]
theorem put_le {n : Nat} (h : n ≤ 1000000000) : (putR n).length ≤ 10 := putR_ten (by omega)
set_option maxHeartbeats 4000000 in
set_option maxRecDepth 100000 in
theorem wop_any (Wb : Nat) (xs : List Int) (o : Nat → Int) (z b : List Int) (wa : Option Addr) (lw cw : Nat) (ba : Option Addr) (lb cb : Nat) (W w : World) (h : Wt w Wb W.heap.size xs) (hW : Below W.heap.size W w) (hb : W.heap.size ≤ Wb)
    (h1 : IRow .i16 W wa lw cw z) (h2 : IRow .i32 W ba lb cb b) (l1 : lw ≤ 131072) (l2 : lb ≤ 1024) (h3 : In64 [o 18, o 19, o 20, o 21]) (hs : xs.length + 2000000 ≤ 140737488355328) :
    Calls Try.prog 26 #[(.pointer (some ⟨Wb, 0, none⟩)), .agg #[.int .i64 (o 0), .int .i64 (o 1), .int .i64 (o 2), .int .i64 (o 3), .int .i64 (o 4), .int .i64 (o 5), .int .i64 (o 6), .int .i64 (o 7), .int .i64 (o 8), .int .i64 (o 9), .int .i64 (o 10), .int .i64 (o 11), .slice wa lw cw, .slice ba lb cb, .int .i64 (o 14), .int .i64 (o 15), .int .i64 (o 16), .int .i64 (o 17), .int .i64 (o 18), .int .i64 (o 19), .int .i64 (o 20), .int .i64 (o 21)]] w fun e w' => e = .returned (.tuple #[]) ∧ Wt w' Wb W.heap.size (xs ++ eOp (dOp o z b)) ∧ Wk W.heap.size Wb w w' := by
  have hlt := h.lt
  have H1 : Hid (IRow .i16 W wa lw cw z) := h1
  have H2 : Hid (IRow .i32 W ba lb cb b) := h2
  have H3 : Hid (In64 [o 18, o 19, o 20, o 21]) := h3
  have HW : Hid (Below W.heap.size W w) := hW
  have zl : Hid (z.length = lw) := h1.1
  have bl : Hid (b.length = lb) := h2.1
  have e1 : Hid ((eU [o 0, o 1, o 2, o 3]).length ≤ 40) := eU_le _
  have e2 : Hid ((eU [o 4, o 5, o 6, o 7, o 8, o 9, o 10, o 11]).length ≤ 80) := eU_le _
  have e3 : Hid ((eS z).length ≤ 10 * z.length) := eS_le _ fun q hq => by have := i16_of (h1.2.2.2.1 q hq); omega
  have e4 : Hid ((eS b).length ≤ 10 * b.length) := eS_le _ fun q hq => by have := i32_of (h2.2.2.2.1 q hq); omega
  have e5 : Hid ((putR z.length).length ≤ 10 ∧ (putR b.length).length ≤ 10) := ⟨put_le (by have := zl.out; omega), put_le (by have := bl.out; omega)⟩
  have e6 : Hid ((eU [o 14, o 15, o 16, o 17]).length ≤ 40) := eU_le _
  have E := eOp_is o z b xs
  have HE : Hid _ := E
  have H : Hid (Wt w Wb W.heap.size xs) := h
  have k0 : Hid (Wk W.heap.size Wb w (w.alloc (.cells #[.int .i64 (o 0), .int .i64 (o 1), .int .i64 (o 2), .int .i64 (o 3), .int .i64 (o 4), .int .i64 (o 5), .int .i64 (o 6), .int .i64 (o 7), .int .i64 (o 8), .int .i64 (o 9), .int .i64 (o 10), .int .i64 (o 11), .slice wa lw cw, .slice ba lb cb, .int .i64 (o 14), .int .i64 (o 15), .int .i64 (o 16), .int .i64 (o 17), .int .i64 (o 18), .int .i64 (o 19), .int .i64 (o 20), .int .i64 (o 21)] 50))) := wk_al _ (by omega)
  have B0 : Hid ((w.alloc (.cells #[.int .i64 (o 0), .int .i64 (o 1), .int .i64 (o 2), .int .i64 (o 3), .int .i64 (o 4), .int .i64 (o 5), .int .i64 (o 6), .int .i64 (o 7), .int .i64 (o 8), .int .i64 (o 9), .int .i64 (o 10), .int .i64 (o 11), .slice wa lw cw, .slice ba lb cb, .int .i64 (o 14), .int .i64 (o 15), .int .i64 (o 16), .int .i64 (o 17), .int .i64 (o 18), .int .i64 (o 19), .int .i64 (o 20), .int .i64 (o 21)] 50)).heap[w.heap.size]? = some (.cells #[.int .i64 (o 0), .int .i64 (o 1), .int .i64 (o 2), .int .i64 (o 3), .int .i64 (o 4), .int .i64 (o 5), .int .i64 (o 6), .int .i64 (o 7), .int .i64 (o 8), .int .i64 (o 9), .int .i64 (o 10), .int .i64 (o 11), .slice wa lw cw, .slice ba lb cb, .int .i64 (o 14), .int .i64 (o 15), .int .i64 (o 16), .int .i64 (o 17), .int .i64 (o 18), .int .i64 (o 19), .int .i64 (o 20), .int .i64 (o 21)] 50 (0, 0))) := heap_alloc_new w _
  clear h h1 h2 h3 hW E
  go_enter Try.func26, Try.ntmps26
  go_wp2_with fail
  refine (unsigned_any Wb W.heap.size (w.heap.size + 1) 4 xs [o 0, o 1, o 2, o 3] _ ((H.out.al _).al _) (by unfold Nums; simpa using heap_alloc_new (w.alloc _) _) rfl (by omega) hb (by omega) (by omega) trivial).mono ?_
  rintro e w1 ⟨rfl, T1, K1, -⟩
  have k1 : Hid (Wk W.heap.size Wb w w1) := k0.out.trans ((wk_al _ (by simp; omega)).trans K1)
  have B1 : Hid (w1.heap[w.heap.size]? = some (.cells #[.int .i64 (o 0), .int .i64 (o 1), .int .i64 (o 2), .int .i64 (o 3), .int .i64 (o 4), .int .i64 (o 5), .int .i64 (o 6), .int .i64 (o 7), .int .i64 (o 8), .int .i64 (o 9), .int .i64 (o 10), .int .i64 (o 11), .slice wa lw cw, .slice ba lb cb, .int .i64 (o 14), .int .i64 (o 15), .int .i64 (o 16), .int .i64 (o 17), .int .i64 (o 18), .int .i64 (o 19), .int .i64 (o 20), .int .i64 (o 21)] 50 (0, 0))) := K1.2 _ _ _ (by omega) (by decide) (((bal _ _).block _ (by simp)).trans B0.out)
  have t1 : Hid (Wt w1 Wb W.heap.size _) := T1
  have hl1 := k1.out.size
  obtain ⟨c1, f1, y1⟩ := cells_at B1.out
  clear K1 T1
  go_wp2_with fail
  refine (wwindow_any Wb W.heap.size _ (o 4) (o 5) (o 6) (o 7) (o 8) (o 9) (o 10) (o 11) _ t1.out hb (by have := e1.out; simp only [List.length_append]; omega)).mono ?_
  rintro e w2 ⟨rfl, T2, K2⟩
  have k2 : Hid (Wk W.heap.size Wb w w2) := k1.out.trans K2
  have B2 : Hid (w2.heap[w.heap.size]? = some (.cells #[.int .i64 (o 0), .int .i64 (o 1), .int .i64 (o 2), .int .i64 (o 3), .int .i64 (o 4), .int .i64 (o 5), .int .i64 (o 6), .int .i64 (o 7), .int .i64 (o 8), .int .i64 (o 9), .int .i64 (o 10), .int .i64 (o 11), .slice wa lw cw, .slice ba lb cb, .int .i64 (o 14), .int .i64 (o 15), .int .i64 (o 16), .int .i64 (o 17), .int .i64 (o 18), .int .i64 (o 19), .int .i64 (o 20), .int .i64 (o 21)] 50 (0, 0))) := K2.2 _ _ _ (by omega) (by decide) B1.out
  have t2 : Hid (Wt w2 Wb W.heap.size _) := T2
  clear K2 T2 c1 f1 y1 k1 B1 t1
  obtain ⟨c1, f1, y1⟩ := cells_at B2.out
  go_wp2_with fail
  refine (put_i16 Wb _ z wa lw cw W _ t2.out (HW.out.trans k2.out.1) H1.out hb (by have := e1.out; have := e2.out; simp only [List.length_append]; omega)).mono ?_
  rintro e w3 ⟨rfl, T3, K3⟩
  have k3 : Hid (Wk W.heap.size Wb w w3) := k2.out.trans K3
  have B3 : Hid (w3.heap[w.heap.size]? = some (.cells #[.int .i64 (o 0), .int .i64 (o 1), .int .i64 (o 2), .int .i64 (o 3), .int .i64 (o 4), .int .i64 (o 5), .int .i64 (o 6), .int .i64 (o 7), .int .i64 (o 8), .int .i64 (o 9), .int .i64 (o 10), .int .i64 (o 11), .slice wa lw cw, .slice ba lb cb, .int .i64 (o 14), .int .i64 (o 15), .int .i64 (o 16), .int .i64 (o 17), .int .i64 (o 18), .int .i64 (o 19), .int .i64 (o 20), .int .i64 (o 21)] 50 (0, 0))) := K3.2 _ _ _ (by omega) (by decide) B2.out
  have t3 : Hid (Wt w3 Wb W.heap.size _) := T3
  clear K3 T3 c1 f1 y1 k2 B2 t2
  obtain ⟨c1, f1, y1⟩ := cells_at B3.out
  go_wp2_with fail
  refine (put_i32 Wb _ b ba lb cb W _ t3.out (HW.out.trans k3.out.1) H2.out hb (by have := e1.out; have := e2.out; have := e3.out; have := e5.out.1; have := zl.out; simp only [List.length_append]; omega)).mono ?_
  rintro e w4 ⟨rfl, T4, K4⟩
  have k4 : Hid (Wk W.heap.size Wb w w4) := k3.out.trans K4
  have B4 : Hid (w4.heap[w.heap.size]? = some (.cells #[.int .i64 (o 0), .int .i64 (o 1), .int .i64 (o 2), .int .i64 (o 3), .int .i64 (o 4), .int .i64 (o 5), .int .i64 (o 6), .int .i64 (o 7), .int .i64 (o 8), .int .i64 (o 9), .int .i64 (o 10), .int .i64 (o 11), .slice wa lw cw, .slice ba lb cb, .int .i64 (o 14), .int .i64 (o 15), .int .i64 (o 16), .int .i64 (o 17), .int .i64 (o 18), .int .i64 (o 19), .int .i64 (o 20), .int .i64 (o 21)] 50 (0, 0))) := K4.2 _ _ _ (by omega) (by decide) B3.out
  have t4 : Hid (Wt w4 Wb W.heap.size _) := T4
  have hl4 := t4.out.lt
  clear K4 T4 c1 f1 y1 k3 B3 t3
  obtain ⟨c1, f1, y1⟩ := cells_at B4.out
  go_wp2_with fail
  refine (unsigned_any Wb W.heap.size w4.heap.size 4 _ [o 14, o 15, o 16, o 17] _ (t4.out.al _) (heap_alloc_new w4 _) rfl (by omega) hb (by have := e1.out; have := e2.out; have := e3.out; have := e4.out; have := e5.out; have := zl.out; have := bl.out; simp only [List.length_append]; omega) (by omega) trivial).mono ?_
  rintro e w5 ⟨rfl, T5, K5, -⟩
  have k5 : Hid (Wk W.heap.size Wb w w5) := k4.out.trans ((wk_al _ (by omega)).trans K5)
  have B5 : Hid (w5.heap[w.heap.size]? = some (.cells #[.int .i64 (o 0), .int .i64 (o 1), .int .i64 (o 2), .int .i64 (o 3), .int .i64 (o 4), .int .i64 (o 5), .int .i64 (o 6), .int .i64 (o 7), .int .i64 (o 8), .int .i64 (o 9), .int .i64 (o 10), .int .i64 (o 11), .slice wa lw cw, .slice ba lb cb, .int .i64 (o 14), .int .i64 (o 15), .int .i64 (o 16), .int .i64 (o 17), .int .i64 (o 18), .int .i64 (o 19), .int .i64 (o 20), .int .i64 (o 21)] 50 (0, 0))) := K5.2 _ _ _ (by omega) (by decide) (((bal _ _).block _ y1).trans B4.out)
  have t5 : Hid (Wt w5 Wb W.heap.size _) := T5
  have hl5 := t5.out.lt
  clear K5 T5 c1 f1 y1 k4 B4 t4
  obtain ⟨c1, f1, y1⟩ := cells_at B5.out
  go_wp2_with fail
  refine (signed_any Wb W.heap.size w5.heap.size 4 _ [o 18, o 19, o 20, o 21] _ (t5.out.al _) (heap_alloc_new w5 _) rfl (by omega) hb (by have := e1.out; have := e2.out; have := e3.out; have := e4.out; have := e5.out; have := e6.out; have := zl.out; have := bl.out; simp only [List.length_append]; omega) (by omega) H3.out).mono ?_
  rintro e w6 ⟨rfl, T6, K6, -⟩
  have k6 : Hid (Wk W.heap.size Wb w w6) := k5.out.trans ((wk_al _ (by omega)).trans K6)
  have t6 : Hid (Wt w6 Wb W.heap.size (xs ++ eOp (dOp o z b))) := by unfold Hid; rw [← HE.out]; exact T6
  clear K6 T6 c1 f1 y1 k5 B5 t5
  go_wp2
  go_end0
  exact ⟨rfl, t6.out, k6.out⟩
end Go.Proofs.Ythagdpiocmcbmaa

/- What sides and Elems of package shape, and the document's, return: each for every argument. -/
namespace Go.Proofs.Ythagdpiocmcbmaa
open Go.ChangeShapes Go.WideShapes Go.ChangeAt Go.RowKit
def vS (h w c : Int) : Bool := decide ((1 ≤ h ∧ h ≤ 1024) ∧ (1 ≤ w ∧ w ≤ 1024) ∧ (1 ≤ c ∧ c ≤ 1024) ∧ h * w * c ≤ 16384)
def elR (h w c : Int) : Int × Int := if vS h w c = true then (h * w * c, 0) else (0, 50)
theorem vS_yes {h w c : Int} (g : vS h w c = true) : (1 ≤ h ∧ h ≤ 1024) ∧ (1 ≤ w ∧ w ≤ 1024) ∧ (1 ≤ c ∧ c ≤ 1024) ∧ h * w * c ≤ 16384 := by simpa [vS] using g
theorem elR_ok {h w c : Int} (g : vS h w c = true) : elR h w c = (h * w * c, 0) := if_pos g
theorem elR_no {h w c : Int} (g : vS h w c = false) : elR h w c = (0, 50) := if_neg (by rw [g]; exact Bool.false_ne_true)
theorem vS_mk {h w c : Int} (g : (1 ≤ h ∧ h ≤ 1024) ∧ (1 ≤ w ∧ w ≤ 1024) ∧ (1 ≤ c ∧ c ≤ 1024) ∧ h * w * c ≤ 16384) : vS h w c = true := by unfold vS; exact decide_eq_true g
theorem vS_not {h w c : Int} (g : ¬ ((1 ≤ h ∧ h ≤ 1024) ∧ (1 ≤ w ∧ w ≤ 1024) ∧ (1 ≤ c ∧ c ≤ 1024) ∧ h * w * c ≤ 16384)) : vS h w c = false := by unfold vS; exact decide_eq_false g
theorem mul_bd {a b A B : Int} (ha : 1 ≤ a) (hA : a ≤ A) (hb : 1 ≤ b) (hB : b ≤ B) : 1 ≤ a * b ∧ a * b ≤ A * B := by
  constructor
  · have := Int.mul_le_mul ha hb (by omega) (by omega); omega
  · exact Int.mul_le_mul hA hB (by omega) (by omega)
theorem sides_any (h w c : Int) (W : World) :
    Calls Try.prog 77 #[.agg #[.int .i64 h, .int .i64 w, .int .i64 c]] W fun e w' => e = .returned (.agg #[.int .i64 h, .int .i64 w, .int .i64 c]) ∧ Below W.heap.size W w' := by
  go_enter Try.func77, Try.ntmps77
  go_wp2
  exact bodyPost_ret (v := .agg #[.int .i64 h, .int .i64 w, .int .i64 c]) (by simp [results, Try.results77, go_sem]) rfl ⟨rfl, (St.start W).new.new.below⟩
theorem idx0 (h w c : Int) : ∀ W : World, (Instr.index 123 (.agg #[.int .i64 h, .int .i64 w, .int .i64 c]) (.int .i64 0)).run Try.prog W = .ok (.int .i64 h) W := fun _ => by kernel_rfl
theorem idx1 (h w c : Int) : ∀ W : World, (Instr.index 123 (.agg #[.int .i64 h, .int .i64 w, .int .i64 c]) (.int .i64 1)).run Try.prog W = .ok (.int .i64 w) W := fun _ => by kernel_rfl
theorem idx2 (h w c : Int) : ∀ W : World, (Instr.index 123 (.agg #[.int .i64 h, .int .i64 w, .int .i64 c]) (.int .i64 2)).run Try.prog W = .ok (.int .i64 c) W := fun _ => by kernel_rfl
theorem selems_any (h w c : Int) (W : World) :
    Calls Try.prog 56 #[.agg #[.int .i64 h, .int .i64 w, .int .i64 c]] W fun e w' => e = .returned (.tuple #[.int .i64 (elR h w c).1, .int .i64 (elR h w c).2]) ∧ Below W.heap.size W w' := by
  by_cases k1 : h < 1
  · rw [elR_no (vS_not (by omega))]
    have i0 := idx0 h w c
    go_enter Try.func56, Try.ntmps56
    go_wp2_with fail
    refine (sides_any _ _ _ _).mono ?_
    rintro e w1 ⟨rfl, hb⟩
    have s1 := (St.start W).new.call hb
    clear hb
    go_wp2
    refine wp_loop_rounds 1 ?_
    rw [rounds_succ]
    go_wp2
    go_ret2
    exact ⟨rfl, s1.below⟩
  by_cases k2 : 1024 < h
  · rw [elR_no (vS_not (by omega))]
    have i0 := idx0 h w c
    go_enter Try.func56, Try.ntmps56
    go_wp2_with fail
    refine (sides_any _ _ _ _).mono ?_
    rintro e w1 ⟨rfl, hb⟩
    have s1 := (St.start W).new.call hb
    clear hb
    go_wp2
    refine wp_loop_rounds 1 ?_
    rw [rounds_succ]
    go_wp2
    go_ret2
    exact ⟨rfl, s1.below⟩
  by_cases k3 : w < 1
  · rw [elR_no (vS_not (by omega))]
    have i0 := idx0 h w c
    have i1 := idx1 h w c
    go_enter Try.func56, Try.ntmps56
    go_wp2_with fail
    refine (sides_any _ _ _ _).mono ?_
    rintro e w1 ⟨rfl, hb⟩
    have s1 := (St.start W).new.call hb
    clear hb
    go_wp2
    refine wp_loop_rounds 2 ?_
    rw [rounds_succ]
    go_wp2
    rw [rounds_succ]
    go_wp2
    go_ret2
    exact ⟨rfl, s1.below⟩
  by_cases k4 : 1024 < w
  · rw [elR_no (vS_not (by omega))]
    have i0 := idx0 h w c
    have i1 := idx1 h w c
    go_enter Try.func56, Try.ntmps56
    go_wp2_with fail
    refine (sides_any _ _ _ _).mono ?_
    rintro e w1 ⟨rfl, hb⟩
    have s1 := (St.start W).new.call hb
    clear hb
    go_wp2
    refine wp_loop_rounds 2 ?_
    rw [rounds_succ]
    go_wp2
    rw [rounds_succ]
    go_wp2
    go_ret2
    exact ⟨rfl, s1.below⟩
  obtain ⟨p1, p2⟩ := mul_bd (by omega : 1 ≤ h) (by omega : h ≤ 1024) (by omega : 1 ≤ w) (by omega : w ≤ 1024)
  by_cases k5 : c < 1
  · rw [elR_no (vS_not (by omega))]
    have i0 := idx0 h w c
    have i1 := idx1 h w c
    have i2 := idx2 h w c
    obtain ⟨p, hp⟩ : ∃ p, h * w = p := ⟨_, rfl⟩
    rw [hp] at p1 p2
    go_enter Try.func56, Try.ntmps56
    go_wp2_with fail
    refine (sides_any _ _ _ _).mono ?_
    rintro e w1 ⟨rfl, hb⟩
    have s1 := (St.start W).new.call hb
    clear hb
    go_wp2
    refine wp_loop_rounds 3 ?_
    rw [rounds_succ]
    go_wp2
    rw [rounds_succ]
    go_wp2
    rw [rounds_succ]
    go_wp2
    go_ret2
    exact ⟨rfl, s1.below⟩
  by_cases k6 : 1024 < c
  · rw [elR_no (vS_not (by omega))]
    have i0 := idx0 h w c
    have i1 := idx1 h w c
    have i2 := idx2 h w c
    obtain ⟨p, hp⟩ : ∃ p, h * w = p := ⟨_, rfl⟩
    rw [hp] at p1 p2
    go_enter Try.func56, Try.ntmps56
    go_wp2_with fail
    refine (sides_any _ _ _ _).mono ?_
    rintro e w1 ⟨rfl, hb⟩
    have s1 := (St.start W).new.call hb
    clear hb
    go_wp2
    refine wp_loop_rounds 3 ?_
    rw [rounds_succ]
    go_wp2
    rw [rounds_succ]
    go_wp2
    rw [rounds_succ]
    go_wp2
    go_ret2
    exact ⟨rfl, s1.below⟩
  obtain ⟨q1, q2⟩ := mul_bd p1 p2 (by omega : 1 ≤ c) (by omega : c ≤ 1024)
  have HV : Hid (vS h w c = decide (h * w * c ≤ 16384)) := by
    unfold Hid vS
    exact decide_eq_decide.2 ⟨fun g => g.2.2.2, fun g => ⟨by omega, by omega, by omega, g⟩⟩
  obtain ⟨p, hp⟩ : ∃ p, h * w = p := ⟨_, rfl⟩
  have HR : Hid (elR h w c = if vS h w c = true then (p * c, 0) else (0, 50)) := by unfold Hid; rw [← hp]; rfl
  rw [hp] at p1 p2 q1 q2
  have HV2 : Hid (vS h w c = decide (p * c ≤ 16384)) := by unfold Hid; rw [HV.out, hp]
  clear HV
  obtain ⟨q, hq⟩ : ∃ q, p * c = q := ⟨_, rfl⟩
  rw [hq] at q1 q2
  have HR2 : Hid (elR h w c = if q ≤ 16384 then (q, 0) else (0, 50)) := by unfold Hid; rw [HR.out, HV2.out, hq]; simp only [decide_eq_true_eq]
  clear HV2 HR
  rw [HR2.out]
  clear HR2
  by_cases k7 : 16384 < q
  · rw [if_neg (by omega)]
    have i0 := idx0 h w c
    have i1 := idx1 h w c
    have i2 := idx2 h w c
    go_enter Try.func56, Try.ntmps56
    go_wp2_with fail
    refine (sides_any _ _ _ _).mono ?_
    rintro e w1 ⟨rfl, hb⟩
    have s1 := (St.start W).new.call hb
    clear hb
    go_wp2
    refine wp_loop_rounds 4 ?_
    rw [rounds_succ]
    go_wp2
    rw [rounds_succ]
    go_wp2
    rw [rounds_succ]
    go_wp2
    rw [rounds_succ]
    go_wp2
    go_ret2
    exact ⟨rfl, s1.below⟩
  · rw [if_pos (by omega)]
    have i0 := idx0 h w c
    have i1 := idx1 h w c
    have i2 := idx2 h w c
    go_enter Try.func56, Try.ntmps56
    go_wp2_with fail
    refine (sides_any _ _ _ _).mono ?_
    rintro e w1 ⟨rfl, hb⟩
    have s1 := (St.start W).new.call hb
    clear hb
    go_wp2
    refine wp_loop_rounds 4 ?_
    rw [rounds_succ]
    go_wp2
    rw [rounds_succ]
    go_wp2
    rw [rounds_succ]
    go_wp2
    rw [rounds_succ]
    go_wp2
    go_ret2
    exact ⟨rfl, s1.below⟩
end Go.Proofs.Ythagdpiocmcbmaa

/- Windows over a plane, in plain numbers: which are valid, how many positions they have, what each of their taps covers. -/
namespace Go.Proofs.Ythagdpiocmcbmaa
def btw (n lo hi : Int) : Bool := decide (lo ≤ n ∧ n ≤ hi)
theorem btw_yes {n lo hi : Int} (h : btw n lo hi = true) : lo ≤ n ∧ n ≤ hi := by simpa [btw] using h
theorem btw_no {n lo hi : Int} (h : btw n lo hi = false) : ¬ (lo ≤ n ∧ n ≤ hi) := by intro g; unfold btw at h; rw [decide_eq_true g] at h; cases h
def InW (kh kw sh sw tp lf bt rt : Int) : Prop := (1 ≤ kh ∧ kh ≤ 32) ∧ (1 ≤ kw ∧ kw ≤ 32) ∧ (1 ≤ sh ∧ sh ≤ 32) ∧ (1 ≤ sw ∧ sw ≤ 32) ∧ (0 ≤ tp ∧ tp ≤ kh - 1) ∧ (0 ≤ bt ∧ bt ≤ kh - 1) ∧ (0 ≤ lf ∧ lf ≤ kw - 1) ∧ (0 ≤ rt ∧ rt ≤ kw - 1)
def vW (kh kw sh sw tp lf bt rt : Int) : Bool := btw kh 1 32 && btw kw 1 32 && btw sh 1 32 && btw sw 1 32 && btw tp 0 (kh - 1) && btw bt 0 (kh - 1) && btw lf 0 (kw - 1) && btw rt 0 (kw - 1)
theorem vW_yes {kh kw sh sw tp lf bt rt : Int} (h : vW kh kw sh sw tp lf bt rt = true) : InW kh kw sh sw tp lf bt rt := by
  simp only [vW, Bool.and_eq_true] at h
  obtain ⟨⟨⟨⟨⟨⟨⟨h1, h2⟩, h3⟩, h4⟩, h5⟩, h6⟩, h7⟩, h8⟩ := h
  exact ⟨btw_yes h1, btw_yes h2, btw_yes h3, btw_yes h4, btw_yes h5, btw_yes h6, btw_yes h7, btw_yes h8⟩
/-- How often a window of k with steps of s fits into n. -/
def sp (n k s : Int) : Int := if n < k then 0 else (n - k) / s + 1
theorem sp_no {n k s : Int} (h : n < k) : sp n k s = 0 := if_pos h
theorem sp_ok {n k s : Int} (h : ¬ n < k) : sp n k s = (n - k) / s + 1 := if_neg h
theorem sp_bd {n k s : Int} (hs : 1 ≤ s) (hn : 0 ≤ n) (hk : 1 ≤ k) : 0 ≤ sp n k s ∧ sp n k s ≤ n + 1 := by
  by_cases h : n < k
  · rw [sp_no h]; omega
  · rw [sp_ok h]
    have h1 := Int.ediv_nonneg (show 0 ≤ n - k by omega) (show 0 ≤ s by omega)
    have h2 := Int.ediv_le_self s (show 0 ≤ n - k by omega)
    omega
theorem sp_mul {n k s : Int} (hs : 1 ≤ s) (h : ¬ n < k) : (sp n k s - 1) * s + k ≤ n := by
  rw [sp_ok h]
  have := Int.ediv_mul_le (n - k) (show s ≠ 0 by omega)
  have e : (n - k) / s + 1 - 1 = (n - k) / s := by omega
  rw [e]
  omega
theorem sp_pos {n k s : Int} (hs : 1 ≤ s) (h : ¬ n < k) : 1 ≤ sp n k s := by
  rw [sp_ok h]
  have h1 := Int.ediv_nonneg (show 0 ≤ n - k by omega) (show 0 ≤ s by omega)
  omega
theorem sp_of {n k s c t : Int} (hs : 1 ≤ s) (hc : 0 ≤ c) (ht : t = c * s) (h1 : n < t + k) (h2 : c = 0 ∨ t - s + k ≤ n) : c = sp n k s := by
  rcases h2 with rfl | h2
  · rw [sp_no (by omega)]
  · by_cases hn : n < k
    · rcases Int.le_iff_lt_or_eq.1 hc with h | h
      · have := Int.mul_le_mul_of_nonneg_right (show 1 ≤ c by omega) (show 0 ≤ s by omega)
        omega
      · subst h; rw [sp_no hn]
    · rw [sp_ok hn]
      have e : (c - 1) * s = t - s := by rw [Int.sub_mul, ht]; omega
      have g1 : c - 1 ≤ (n - k) / s := Int.le_ediv_of_mul_le (by omega) (by omega)
      have g2 : (n - k) / s < c := Int.ediv_lt_of_lt_mul (by omega) (by omega)
      omega
/-- Rows, columns and the error. -/
def ouR (h w c kh kw sh sw tp lf bt rt : Int) : Int × Int × Int :=
  if vS h w c = true then (if vW kh kw sh sw tp lf bt rt = true then (if sp (tp + h + bt) kh sh = 0 ∨ sp (lf + w + rt) kw sw = 0 then (0, 0, 60) else (sp (tp + h + bt) kh sh, sp (lf + w + rt) kw sw, 0)) else (0, 0, 60)) else (0, 0, 50)
theorem ouR_shape {h w c kh kw sh sw tp lf bt rt : Int} (g : vS h w c = false) : ouR h w c kh kw sh sw tp lf bt rt = (0, 0, 50) := if_neg (by rw [g]; exact Bool.false_ne_true)
theorem ouR_win {h w c kh kw sh sw tp lf bt rt : Int} (g : vS h w c = true) (k : vW kh kw sh sw tp lf bt rt = false) : ouR h w c kh kw sh sw tp lf bt rt = (0, 0, 60) := by unfold ouR; rw [if_pos g, if_neg (by rw [k]; exact Bool.false_ne_true)]
theorem ouR_out {h w c kh kw sh sw tp lf bt rt : Int} (g : vS h w c = true) (k : vW kh kw sh sw tp lf bt rt = true) (z : sp (tp + h + bt) kh sh = 0 ∨ sp (lf + w + rt) kw sw = 0) : ouR h w c kh kw sh sw tp lf bt rt = (0, 0, 60) := by unfold ouR; rw [if_pos g, if_pos k, if_pos z]
theorem ouR_in {h w c kh kw sh sw tp lf bt rt : Int} (g : vS h w c = true) (k : vW kh kw sh sw tp lf bt rt = true) (z : ¬ (sp (tp + h + bt) kh sh = 0 ∨ sp (lf + w + rt) kw sw = 0)) : ouR h w c kh kw sh sw tp lf bt rt = (sp (tp + h + bt) kh sh, sp (lf + w + rt) kw sw, 0) := by unfold ouR; rw [if_pos g, if_pos k, if_neg z]
/-- What is known of a window that fits: r rows, q columns. -/
def Fit (h w kh kw sh sw tp lf bt rt r q : Int) : Prop :=
  ((1 ≤ h ∧ h ≤ 1024) ∧ (1 ≤ w ∧ w ≤ 1024) ∧ h * w ≤ 16384) ∧ InW kh kw sh sw tp lf bt rt ∧ (1 ≤ r ∧ r ≤ 1200) ∧ (1 ≤ q ∧ q ≤ 1200) ∧ (r - 1) * sh + kh ≤ tp + h + bt ∧ (q - 1) * sw + kw ≤ lf + w + rt
theorem ouR_cases (h w c kh kw sh sw tp lf bt rt : Int) : (∃ e, ouR h w c kh kw sh sw tp lf bt rt = (0, 0, e) ∧ (e = 50 ∨ e = 60)) ∨ ∃ r q, ouR h w c kh kw sh sw tp lf bt rt = (r, q, 0) ∧ Fit h w kh kw sh sw tp lf bt rt r q := by
  cases g : vS h w c with
  | false => exact .inl ⟨50, ouR_shape g, .inl rfl⟩
  | true =>
    cases k : vW kh kw sh sw tp lf bt rt with
    | false => exact .inl ⟨60, ouR_win g k, .inr rfl⟩
    | true =>
      by_cases z : sp (tp + h + bt) kh sh = 0 ∨ sp (lf + w + rt) kw sw = 0
      · exact .inl ⟨60, ouR_out g k z, .inr rfl⟩
      · obtain ⟨h1, w1, c1, q9⟩ := vS_yes g
        have kk := vW_yes k
        obtain ⟨k1, k2, k3, k4, k5, k6, k7, k8⟩ := kk
        have z1 : ¬ tp + h + bt < kh := fun g => z (.inl (sp_no g))
        have z2 : ¬ lf + w + rt < kw := fun g => z (.inr (sp_no g))
        refine .inr ⟨_, _, ouR_in g k z, ⟨h1, w1, ?_⟩, ⟨k1, k2, k3, k4, k5, k6, k7, k8⟩, ⟨sp_pos (by omega) z1, ?_⟩, ⟨sp_pos (by omega) z2, ?_⟩, sp_mul (by omega) z1, sp_mul (by omega) z2⟩
        · have p1 := (mul_bd h1.1 h1.2 w1.1 w1.2).1
          have := Int.mul_le_mul_of_nonneg_left c1.1 (show 0 ≤ h * w by omega)
          omega
        · have := (sp_bd (n := tp + h + bt) (k := kh) (s := sh) (by omega) (by omega) (by omega)).2; omega
        · have := (sp_bd (n := lf + w + rt) (k := kw) (s := sw) (by omega) (by omega) (by omega)).2; omega
/-- The row and the column of the plane that tap 0 of a position covers. -/
def coR (h w c kh kw sh sw tp lf bt rt n : Int) : Int × Int × Int :=
  if (ouR h w c kh kw sh sw tp lf bt rt).2.2 = 0 then (if 0 ≤ n ∧ n < (ouR h w c kh kw sh sw tp lf bt rt).1 * (ouR h w c kh kw sh sw tp lf bt rt).2.1 then (n / (ouR h w c kh kw sh sw tp lf bt rt).2.1 * sh - tp, n % (ouR h w c kh kw sh sw tp lf bt rt).2.1 * sw - lf, 0) else (0, 0, 3)) else (0, 0, (ouR h w c kh kw sh sw tp lf bt rt).2.2)
/-- A place of the plane, -1 outside. -/
def plc (h w y x : Int) : Int := if (0 ≤ y ∧ y < h) ∧ (0 ≤ x ∧ x < w) then y * w + x else -1
theorem plc_in {h w y x : Int} (k : (0 ≤ y ∧ y < h) ∧ (0 ≤ x ∧ x < w)) : plc h w y x = y * w + x := if_pos k
theorem plc_out {h w y x : Int} (k : ¬ ((0 ≤ y ∧ y < h) ∧ (0 ≤ x ∧ x < w))) : plc h w y x = -1 := if_neg k
theorem rowbd {h w y x : Int} (h2 : y < h) (h1 : 0 ≤ y) (g1 : 0 ≤ x) (g2 : x < w) : 0 ≤ y * w ∧ y * w + x < h * w := by
  have a := Int.mul_le_mul_of_nonneg_right (show y + 1 ≤ h by omega) (show 0 ≤ w by omega)
  have b := Int.mul_le_mul_of_nonneg_right h1 (show 0 ≤ w by omega)
  rw [Int.add_mul] at a
  omega
/-- A tap: its number and what it covers. -/
def tap (h w kw t l : Int) (k : Nat) : Int × Int := ((k : Int), plc h w (t + (k : Int) / kw) (l + (k : Int) % kw))
def tapL (h w kw t l : Int) (n : Nat) : List (Int × Int) := (List.range n).map (tap h w kw t l)
theorem tapL_len (h w kw t l : Int) (n : Nat) : (tapL h w kw t l n).length = n := by simp [tapL]
theorem tapL_succ (h w kw t l : Int) (n : Nat) : tapL h w kw t l (n + 1) = tapL h w kw t l n ++ [tap h w kw t l n] := by simp [tapL, List.range_succ]
theorem tapL_take (h w kw t l : Int) {k n : Nat} (hk : k ≤ n) : tapL h w kw t l k = (tapL h w kw t l n).take k := by
  simp [tapL, ← List.map_take, List.take_range, Nat.min_eq_left hk]
/-- All taps of a position. -/
def tapsOf (h w c kh kw sh sw tp lf bt rt n : Int) : List (Int × Int) :=
  if (coR h w c kh kw sh sw tp lf bt rt n).2.2 = 0 then tapL h w kw (coR h w c kh kw sh sw tp lf bt rt n).1 (coR h w c kh kw sh sw tp lf bt rt n).2.1 (kh * kw).toNat else []
/-- A position's row and column. -/
def spotL (q : Int) (n : Nat) : List (Int × Int) := (List.range n).map fun (k : Nat) => ((k : Int) / q, (k : Int) % q)
theorem spotL_len (q : Int) (n : Nat) : (spotL q n).length = n := by simp [spotL]
theorem spotL_succ (q : Int) (n : Nat) : spotL q (n + 1) = spotL q n ++ [((n : Int) / q, (n : Int) % q)] := by simp [spotL, List.range_succ]
theorem spotL_take (q : Int) {k n : Nat} (hk : k ≤ n) : spotL q k = (spotL q n).take k := by
  simp [spotL, ← List.map_take, List.take_range, Nat.min_eq_left hk]
def spotsOf (h w c kh kw sh sw tp lf bt rt : Int) : List (Int × Int) := spotL (ouR h w c kh kw sh sw tp lf bt rt).2.1 ((ouR h w c kh kw sh sw tp lf bt rt).1 * (ouR h w c kh kw sh sw tp lf bt rt).2.1).toNat
/-- What is known where a position is there. -/
theorem coR_cases (h w c kh kw sh sw tp lf bt rt n : Int) : (∃ e, coR h w c kh kw sh sw tp lf bt rt n = (0, 0, e) ∧ (e = 50 ∨ e = 60 ∨ e = 3)) ∨
    ∃ r q, ouR h w c kh kw sh sw tp lf bt rt = (r, q, 0) ∧ Fit h w kh kw sh sw tp lf bt rt r q ∧ (0 ≤ n ∧ n < r * q) ∧ coR h w c kh kw sh sw tp lf bt rt n = (n / q * sh - tp, n % q * sw - lf, 0) := by
  rcases ouR_cases h w c kh kw sh sw tp lf bt rt with ⟨e, he, h2⟩ | ⟨r, q, he, hf⟩
  · left
    refine ⟨e, ?_, by omega⟩
    unfold coR
    rw [he, if_neg (by simp only; omega)]
  · by_cases hn : 0 ≤ n ∧ n < r * q
    · right
      refine ⟨r, q, he, hf, hn, ?_⟩
      unfold coR
      rw [he, if_pos rfl, if_pos hn]
    · left
      refine ⟨3, ?_, by omega⟩
      unfold coR
      rw [he, if_pos rfl, if_neg hn]
/-- The corner of a position that is there covers, with the window about it, some of the plane. -/
def Cor (h w kh kw t l : Int) : Prop := (1 ≤ h ∧ h ≤ 1024) ∧ (1 ≤ w ∧ w ≤ 1024) ∧ h * w ≤ 16384 ∧ (1 ≤ kh ∧ kh ≤ 32) ∧ (1 ≤ kw ∧ kw ≤ 32) ∧ (1 - kh ≤ t ∧ t < h) ∧ (1 - kw ≤ l ∧ l < w)
theorem cor_of {h w kh kw sh sw tp lf bt rt n r q : Int} (hf : Fit h w kh kw sh sw tp lf bt rt r q) (hn : 0 ≤ n ∧ n < r * q) : Cor h w kh kw (n / q * sh - tp) (n % q * sw - lf) := by
  obtain ⟨⟨h1, w1, q9⟩, ⟨k1, k2, k3, k4, k5, k6, k7, k8⟩, r1, q1, z1, z2⟩ := hf
  have a1 := Int.ediv_nonneg hn.1 (show 0 ≤ q by omega)
  have a2 : n / q < r := Int.ediv_lt_of_lt_mul (by omega) hn.2
  have b1 := Int.emod_nonneg n (show q ≠ 0 by omega)
  have b2 := Int.emod_lt_of_pos n (show 0 < q by omega)
  have c1 := Int.mul_le_mul_of_nonneg_right (show n / q ≤ r - 1 by omega) (show 0 ≤ sh by omega)
  have c2 := Int.mul_le_mul_of_nonneg_right (show n % q ≤ q - 1 by omega) (show 0 ≤ sw by omega)
  have c3 := Int.mul_nonneg a1 (show 0 ≤ sh by omega)
  have c4 := Int.mul_nonneg b1 (show 0 ≤ sw by omega)
  refine ⟨h1, w1, q9, k1, k2, ⟨by omega, by omega⟩, ⟨by omega, by omega⟩⟩
end Go.Proofs.Ythagdpiocmcbmaa

/- What the document's test of a shape returns. -/
namespace Go.Proofs.Ythagdpiocmcbmaa
open Go.ChangeShapes Go.WideShapes Go.ChangeAt Go.RowKit
def dmB (n : Int) : Bool := decide (1 ≤ n ∧ n ≤ 1024)
theorem dmB_yes {n : Int} (h : dmB n = true) : 1 ≤ n ∧ n ≤ 1024 := by simpa [dmB] using h
theorem dmB_no {n : Int} (h : dmB n = false) : ¬ (1 ≤ n ∧ n ≤ 1024) := by simpa [dmB] using h
theorem dim_any (n : Int) (W : World) :
    Calls Try.prog 63 #[.int .i64 n] W fun e w' => e = .returned (.bool (dmB n)) ∧ w' = W := by
  by_cases k1 : 1 ≤ n
  · have HR : Hid (decide (n ≤ 1024) = dmB n) := by unfold Hid dmB; simp [k1]
    go_enter Try.func63, Try.ntmps63
    go_wp2
    go_ret
    exact ⟨retB HR.out, rfl⟩
  · have HR : Hid (false = dmB n) := by unfold Hid dmB; simp [k1]
    go_enter Try.func63, Try.ntmps63
    go_wp2
    go_ret
    exact ⟨retB HR.out, rfl⟩
theorem rvalid_any (h w c : Int) (W : World) :
    Calls Try.prog 43 #[.agg #[.int .i64 h, .int .i64 w, .int .i64 c]] W fun e w' => e = .returned (.bool (vS h w c)) ∧ Below W.heap.size W w' := by
  cases k1 : dmB h with
  | false =>
    have HR : Hid (false = vS h w c) := by unfold Hid; rw [vS_not (by have := dmB_no k1; omega)]
    go_enter Try.func43, Try.ntmps43
    go_wp2_with fail
    refine (dim_any _ _).mono ?_
    rintro e w1 ⟨rfl, rfl⟩
    go_wp2
    go_ret
    exact ⟨retB HR.out, (St.start W).new.below⟩
  | true =>
    cases k2 : dmB w with
    | false =>
      have HR : Hid (false = vS h w c) := by unfold Hid; rw [vS_not (by have := dmB_no k2; omega)]
      go_enter Try.func43, Try.ntmps43
      go_wp2_with fail
      refine (dim_any _ _).mono ?_
      rintro e w1 ⟨rfl, rfl⟩
      go_wp2_with fail
      refine (dim_any _ _).mono ?_
      rintro e w1 ⟨rfl, rfl⟩
      go_wp2
      go_ret
      exact ⟨retB HR.out, (St.start W).new.below⟩
    | true =>
      cases k3 : dmB c with
      | false =>
        have HR : Hid (false = vS h w c) := by unfold Hid; rw [vS_not (by have := dmB_no k3; omega)]
        go_enter Try.func43, Try.ntmps43
        go_wp2_with fail
        refine (dim_any _ _).mono ?_
        rintro e w1 ⟨rfl, rfl⟩
        go_wp2_with fail
        refine (dim_any _ _).mono ?_
        rintro e w1 ⟨rfl, rfl⟩
        go_wp2_with fail
        refine (dim_any _ _).mono ?_
        rintro e w1 ⟨rfl, rfl⟩
        go_wp2
        go_ret
        exact ⟨retB HR.out, (St.start W).new.below⟩
      | true =>
        have h1 := dmB_yes k1
        have w1 := dmB_yes k2
        have c1 := dmB_yes k3
        obtain ⟨p1, p2⟩ := mul_bd h1.1 h1.2 w1.1 w1.2
        obtain ⟨q1, q2⟩ := mul_bd p1 p2 c1.1 c1.2
        have HV : Hid (decide (h * w * c ≤ 16384) = vS h w c) := by
          unfold Hid vS
          exact decide_eq_decide.2 ⟨fun g => ⟨by omega, by omega, by omega, g⟩, fun g => g.2.2.2⟩
        clear h1 w1 c1
        obtain ⟨p, hp⟩ : ∃ p, h * w = p := ⟨_, rfl⟩
        rw [hp] at p1 p2 q1 q2 HV
        obtain ⟨q, hq⟩ : ∃ q, p * c = q := ⟨_, rfl⟩
        rw [hq] at q1 q2 HV
        go_enter Try.func43, Try.ntmps43
        go_wp2_with fail
        refine (dim_any _ _).mono ?_
        rintro e w1 ⟨rfl, rfl⟩
        go_wp2_with fail
        refine (dim_any _ _).mono ?_
        rintro e w1 ⟨rfl, rfl⟩
        go_wp2_with fail
        refine (dim_any _ _).mono ?_
        rintro e w1 ⟨rfl, rfl⟩
        go_wp2
        go_ret
        exact ⟨retB HV.out, (St.start W).new.below⟩
end Go.Proofs.Ythagdpiocmcbmaa
