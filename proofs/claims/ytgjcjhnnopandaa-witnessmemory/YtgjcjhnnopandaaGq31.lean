/- Lists of numbers of 8 bits that are copied, written over and grown, apart from one another (for WitnessMemory). -/
import Derived.Test.YtgjcjhnnopandaaGq30
import Derived.Maps.AppendAt
import Derived.Laws.OwnMore
namespace Go.Proofs.Ytgjcjhnnopandaa
open Go.ChangeShapes Go.WideShapes Go.ChangeAt Go.RowKit
set_option linter.unusedVariables false
theorem run_app8 {w : World} (base : Nat) (v : Value) (xs ys : List Int) (ty : TypeId) (hown : Own .i8 51 w base v xs) (ao : Option Addr) (m c : Nat) (hy : IRow .i8 w ao m c ys) (hlen : xs.length + m ≤ 1000000) (hbase : base ≤ w.heap.size) :
    ∃ v' w', (Builtin.append_ #[32, 32] ty #[v, .slice ao m c]).run Try.prog w = .ok v' w' ∧ Own .i8 51 w' base v' (xs ++ ys) ∧ w.grownBy w' v.ownBlock ∧ (v'.ownBlock = v.ownBlock ∨ v'.ownBlock = some w.heap.size) := by
  obtain ⟨hu, hin, b1, b8⟩ := kt_i8
  obtain ⟨i0, hi, hz0, hz1, hz2⟩ := info_parts hin
  obtain ⟨hl, hc, hm, hb, hn, hcell⟩ := hy
  cases ao with
  | none =>
    obtain rfl : c = 0 := hn rfl
    obtain rfl : m = 0 := by omega
    obtain rfl : ys = [] := List.eq_nil_of_length_eq_zero hl
    have hrun := run_append_owned_none (P := Try.prog) (w := w) base 32 ty 51 i0 1 hu hi v xs.length _ hown.1
    exact ⟨v, w, hrun, by simpa using hown, ⟨rfl, rfl, rfl, Nat.le_refl _, fun _ _ _ => rfl⟩, .inl rfl⟩
  | some ad =>
    obtain ⟨v', w', h1, h2, h3, -, h5⟩ := run_append_own_at (P := Try.prog) w base 32 ty 51 i0 (.int .i8 0) 1 1 hu hi hz0 hz1 hz2 rfl (by decide) v xs.length _ hown.1 ad m c (ys.map (Value.int .i8)) (by simp [hl]) (fun j u hj => by
      have hj' : j < m := by
        have := (List.getElem?_eq_some_iff.1 hj).1
        simpa [hl] using this
      rw [hcell ad rfl j hj']
      simp [List.getD, show j < ys.length by omega] at hj ⊢
      exact hj) (ints_oneCell _ _) (by unfold maxLen; omega) (by omega) hbase
    refine ⟨v', w', h1, ⟨?_, hown.2.app hb⟩, h3, h5⟩
    rw [List.length_append, hl, List.map_append]
    exact h2
theorem Own.kep {w w' : World} {base : Nat} {v : Value} {zs : List Int} {row : Option Nat} (h : Own .i8 51 w base v zs) (g : w.grownBy w' row) (hn : ∀ b, v.ownBlock = some b → row ≠ some b) : Own .i8 51 w' base v zs := by
  refine ⟨World.ownsRow.kept h.1 g ?_, h.2⟩
  cases e : v.ownBlock with
  | none => exact .inl rfl
  | some b => exact .inr fun q => hn b e q.symm
theorem Own.lts {w : World} {base : Nat} {v : Value} {zs : List Int} (h : Own .i8 51 w base v zs) {b : Nat} (e : v.ownBlock = some b) : base ≤ b ∧ b < w.heap.size := World.ownsRow.lt h.1 b e
theorem Own.blk {w : World} {base : Nat} {v : Value} {zs : List Int} (h : Own .i8 51 w base v zs) {b : Nat} (e : v.ownBlock = some b) : ∃ c, w.heap[b]? = some (.cells c 51 (0, 0)) := by
  rcases h.1.2 with ⟨rfl, -⟩ | ⟨g, cap, cur, rfl, -, h3, -⟩
  · cases e
  · cases e; exact ⟨cur, h3⟩
theorem wwrap_wf8 (z : Int) : (Lit.int .i8 (IntKind.i8.wrap z)).wf = true := by
  have e : IntKind.i8.wrap z = (z + 128) % 256 - 128 := by
    simp only [IntKind.wrap, IntKind.bits, IntKind.signed]
    simp
    split <;> omega
  exact mk_i8 (by rw [e]; omega)
theorem wbits_wf8 (op : BinOp) (x y : Int) : (Lit.int .i8 (bits op .i8 x y)).wf = true := wwrap_wf8 _
theorem Own.irow8 {w : World} {base n cap : Nat} {a : Option Addr} {zs : List Int} (h : Own .i8 51 w base (.slice a n cap) zs) : IRow .i8 w a n cap zs := by
  obtain ⟨a', c', e, r, -⟩ := h.row
  rw [h.len] at e r
  cases e
  exact r
/-- In a drawn region: the empty lists that wait, the lists that are made. -/
structure RS (w0 w : World) (E : List Nat) (V : List (Value × List Int)) : Prop where
  bel : Below w0.heap.size w0 w
  emp : ∀ g ∈ E, Own .i8 51 w w0.heap.size (.slice (some ⟨g, 0, none⟩) 0 0) []
  row : ∀ x ∈ V, Own .i8 51 w w0.heap.size x.1 x.2
  nod : E.Nodup
  apa : ∀ x ∈ V, ∀ b, x.1.ownBlock = some b → b ∉ E
theorem RS.start {w0 w : World} (h : Below w0.heap.size w0 w) : RS w0 w [] [] :=
  ⟨h, fun g hg => absurd hg List.not_mem_nil, fun x hx => absurd hx List.not_mem_nil, List.nodup_nil, fun x hx => absurd hx List.not_mem_nil⟩
theorem RS.alloc {w0 w : World} {E : List Nat} {V : List (Value × List Int)} (h : RS w0 w E V) : RS w0 (w.alloc (.cells #[] 51)) (w.heap.size :: E) V := by
  refine ⟨h.bel.alloc h.bel.size _, fun g hg => ?_, fun x hx => (h.row x hx).alloc _, List.nodup_cons.2 ⟨fun hm => ?_, h.nod⟩, fun x hx b e hm => ?_⟩
  · rcases List.mem_cons.1 hg with rfl | hg
    · exact own_lit .i8 51 w w0.heap.size [] (Wf.nil _) (by unfold maxLen; simp) h.bel.size
    · exact (h.emp g hg).alloc _
  · have := ((h.emp _ hm).lts (b := w.heap.size) rfl).2
    omega
  · rcases List.mem_cons.1 hm with rfl | hm
    · have := ((h.row x hx).lts e).2; omega
    · exact h.apa x hx b e hm
theorem RS.up1 {w0 w : World} {a b : Nat} {E : List Nat} {V : List (Value × List Int)} (h : RS w0 w (a :: b :: E) V) : RS w0 w (b :: a :: E) V :=
  ⟨h.bel, fun g hg => h.emp g ((List.Perm.swap a b E).mem_iff.1 hg), h.row, (List.Perm.swap a b E).nodup_iff.2 h.nod, fun x hx k e hm => h.apa x hx k e ((List.Perm.swap a b E).mem_iff.1 hm)⟩
theorem RS.up2 {w0 w : World} {a b c : Nat} {E : List Nat} {V : List (Value × List Int)} (h : RS w0 w (a :: b :: c :: E) V) : RS w0 w (c :: a :: b :: E) V := by
  have q : (c :: a :: b :: E).Perm (a :: b :: c :: E) := (List.Perm.swap a c (b :: E)).trans (List.Perm.cons a (List.Perm.swap b c E))
  exact ⟨h.bel, fun g hg => h.emp g (q.mem_iff.1 hg), h.row, q.nodup_iff.2 h.nod, fun x hx k e hm => h.apa x hx k e (q.mem_iff.1 hm)⟩
theorem RS.app {w0 w w' : World} {E : List Nat} {V : List (Value × List Int)} {g : Nat} {v' : Value} {ys : List Int} (h : RS w0 w (g :: E) V) (q : w.grownBy w' (some g)) (ho : Own .i8 51 w' w0.heap.size v' ys) (hv : v'.ownBlock = some g ∨ v'.ownBlock = some w.heap.size) : RS w0 w' E ((v', ys) :: V) := by
  have hge := (h.emp g List.mem_cons_self).lts (b := g) rfl
  obtain ⟨hn1, hn2⟩ := List.nodup_cons.1 h.nod
  refine ⟨h.bel.grown q h.bel.size fun b e => (by cases e; exact hge.1), fun k hk => ?_, fun x hx => ?_, hn2, fun x hx b e hm => ?_⟩
  · exact (h.emp k (List.mem_cons_of_mem _ hk)).kep q fun b e e2 => hn1 (by cases e; cases e2; exact hk)
  · rcases List.mem_cons.1 hx with rfl | hx
    · exact ho
    · exact (h.row x hx).kep q fun b e e2 => h.apa x hx b e (by cases e2; exact List.mem_cons_self)
  · rcases List.mem_cons.1 hx with rfl | hx
    · rcases hv with e1 | e1 <;> rw [e1] at e <;> cases e
      · exact hn1 hm
      · have := ((h.emp _ (List.mem_cons_of_mem _ hm)).lts (b := w.heap.size) rfl).2
        omega
    · exact h.apa x hx b e (List.mem_cons_of_mem _ hm)
theorem run_apO {o : Oper} {a : Act} {w w' : World} {v x v' : Value} (s y : Operand) (hop : o.op = .call { callee := .builtin .append, args := #[s, y], argTypes := #[32, 32] }) (hs : a.eval s = v) (hy : a.eval y = x) (h1 : (Builtin.append_ #[32, 32] o.type #[v, x]).run Try.prog w = .ok v' w') : (execOp a.eval o).run Try.prog w = .ok (.value v') w' := by
  simp [execOp, hop, resolve, invoke, builtin, hs, hy, h1, Result.andThen]
section
variable {P : Program} {ops : Array Oper} {md : Region.Mode} {C : World → Prop} {Q : Exit → Act → World → Prop} {fuel : Nat} {listed : Array Bool} {a : Act} {w : World}
/-- Two, three may come up. -/
theorem w2C (i j : Nat) (hC : C w) (hr : Region.ready md ops listed = [i, j])
    (h1 : wpOpIn Fence.wide 3 P ops Q i (wpAnyC Fence.wide 3 P md ops C Q fuel (listed.setIfInBounds i true)) a w)
    (h2 : wpOpIn Fence.wide 3 P ops Q j (wpAnyC Fence.wide 3 P md ops C Q fuel (listed.setIfInBounds j true)) a w) : wpAnyC Fence.wide 3 P md ops C Q (fuel + 1) listed a w :=
  ⟨hC, fun h0 => (by rw [hr] at h0; cases h0), fun k hk => by
    rw [hr] at hk
    simp only [List.mem_cons, List.not_mem_nil, or_false] at hk
    rcases hk with rfl | rfl
    · exact h1
    · exact h2⟩
theorem w3C (i j k : Nat) (hC : C w) (hr : Region.ready md ops listed = [i, j, k])
    (h1 : wpOpIn Fence.wide 3 P ops Q i (wpAnyC Fence.wide 3 P md ops C Q fuel (listed.setIfInBounds i true)) a w)
    (h2 : wpOpIn Fence.wide 3 P ops Q j (wpAnyC Fence.wide 3 P md ops C Q fuel (listed.setIfInBounds j true)) a w)
    (h3 : wpOpIn Fence.wide 3 P ops Q k (wpAnyC Fence.wide 3 P md ops C Q fuel (listed.setIfInBounds k true)) a w) : wpAnyC Fence.wide 3 P md ops C Q (fuel + 1) listed a w :=
  ⟨hC, fun h0 => (by rw [hr] at h0; cases h0), fun m hm => by
    rw [hr] at hm
    simp only [List.mem_cons, List.not_mem_nil, or_false] at hm
    rcases hm with rfl | rfl | rfl
    · exact h1
    · exact h2
    · exact h3⟩
theorem w1R {i : Nat} {o : Oper} (ho : ops[i]? = some o) (hg : o.guard = none) (v : Value) (w' : World) (hrun : (execOp a.eval o).run P w = .ok (.value v) w') (h : wpAnyC Fence.wide 3 P md ops C Q fuel (listed.setIfInBounds i true) (a.put o.dst v) w') : wpOpIn Fence.wide 3 P ops Q i (wpAnyC Fence.wide 3 P md ops C Q fuel (listed.setIfInBounds i true)) a w :=
  wpOpIn_step ho fun K hK => step_wp hg (by unfold Oper.wp; rw [hrun, Oper.upon_value]; exact hK _ _ h)
end
/-- Lists that stand apart from one that is written over and grown. -/
structure FS (w : World) (va : Value) (L : List (Value × List Int)) : Prop where
  own : ∀ x ∈ L, Own .i8 51 w 0 x.1 x.2
  apa : ∀ x ∈ L, ∀ b, x.1.ownBlock = some b → va.ownBlock ≠ some b
theorem FS.grow {w w' : World} {va va' : Value} {L : List (Value × List Int)} (h : FS w va L) (g : w.grownBy w' va.ownBlock) (hv : va'.ownBlock = va.ownBlock ∨ va'.ownBlock = some w.heap.size) : FS w' va' L := by
  refine ⟨fun x hx => (h.own x hx).kep g (h.apa x hx), fun x hx b e q => ?_⟩
  rcases hv with e1 | e1
  · exact h.apa x hx b e (e1 ▸ q)
  · rw [e1] at q
    cases q
    have := ((h.own x hx).lts e).2
    omega
theorem FS.bel {w w' : World} {va : Value} {L : List (Value × List Int)} (h : FS w va L) (g : Below w.heap.size w w') : FS w' va L := ⟨fun x hx => (h.own x hx).below g, h.apa⟩
theorem FS.setB {w : World} {va : Value} {L : List (Value × List Int)} {B i : Nat} {u : Value} {c : Array Value} {T : TypeId} (h : FS w va L) (hB : w.heap[B]? = some (.cells c T (0, 0))) (hT : T ≠ 51) : FS (w.setCell ⟨B, i, none⟩ u) va L :=
  ⟨fun x hx => (h.own x hx).kep (grown_setB w B i u) fun b e q => (by cases q; obtain ⟨c', e'⟩ := (h.own x hx).blk e; rw [hB] at e'; simp only [Option.some.injEq, Obj.cells.injEq] at e'; exact hT e'.2.1), h.apa⟩
theorem St.growT {w0 w w' : World} {base : Nat} {va : Value} {zs : List Int} {l : List (Nat × Array Value × TypeId)} (h : St w0 w l) (ho : Own .i8 51 w base va zs) (g : w.grownBy w' va.ownBlock) (hb : w0.heap.size ≤ base) (ht : ∀ x ∈ l, x.2.2 ≠ 51) : St w0 w' l :=
  h.grown g (fun k e => Nat.le_trans hb (ho.lts e).1) fun x hx e => by
    obtain ⟨c', e'⟩ := ho.blk e.symm
    have := (h.2 x hx).1
    rw [e'] at this
    simp only [Option.some.injEq, Obj.cells.injEq] at this
    exact ht x hx this.2.1.symm
end Go.Proofs.Ytgjcjhnnopandaa
