/- One call of a buffer and of the document's, kind by kind. -/
import Derived.Test.YtedbcnkgembhbaaBufK
namespace Go.Proofs.Ytedbcnkgembhbaa
open Go.ChangeShapes Go.WideShapes Go.ChangeAt Go.RowKit Go.BigFrame
set_option linter.unusedVariables false
/-- What a play leaves. -/
def Plyd (w : World) (B b X x : Nat) (h u c : Int) (zs : List Int) (e : Ending) (w' : World) : Prop :=
  e = .returned (.bool true) ∧ ∃ ys : List Int, ys.length = zs.length ∧ Bf .i8 31 81 w' B b h u c ys ∧ Bf .i64 2 36 w' X x h u c ys ∧ Kept [b, x] w w'
theorem hasB_yes {i n : Nat} (h : i < n) : hasB i n = true := decide_eq_true (by omega)
theorem hasB_no {i : Int} {n : Nat} (h : i < 0 ∨ (n : Int) ≤ i) : hasB i n = false := decide_eq_false (by omega)
theorem loF_wf {k : IntKind} {l : List Int} {z : Int} (hl : Wf k l) (hz : (Lit.int k z).wf = true) : (Lit.int k (loF z l)).wf = true := by
  induction l generalizing z with
  | nil => exact hz
  | cons y r ih =>
    have := ih (z := if y < z then y else z) (fun q hq => hl q (List.mem_cons_of_mem _ hq)) (by split; exact hl y List.mem_cons_self; exact hz)
    exact this
theorem hiF_wf {k : IntKind} {l : List Int} {z : Int} (hl : Wf k l) (hz : (Lit.int k z).wf = true) : (Lit.int k (hiF z l)).wf = true := by
  induction l generalizing z with
  | nil => exact hz
  | cons y r ih =>
    have := ih (z := if z < y then y else z) (fun q hq => hl q (List.mem_cons_of_mem _ hq)) (by split; exact hl y List.mem_cons_self; exact hz)
    exact this
theorem wf_dn {J : IntKind} (hJ : J = .i16 ∨ J = .i32) {zs : List Int} (h : Wf .i8 zs) : Wf J zs := fun z hz => by
  have := wf_i8 (h z hz)
  rcases hJ with rfl | rfl
  · exact mk_i16 (by omega)
  · exact mk_i32 (by omega)
set_option maxHeartbeats 4000000 in
set_option maxRecDepth 100000 in
theorem play_3 (B b X x : Nat) (h u c : Int) (zs : List Int) (at1 n1 v1 : Int) (o1 : Bool) (w : World) (f : Bf .i8 31 81 w B b h u c zs) (d : Bf .i64 2 36 w X x h u c zs) (h1 : 1 ≤ zs.length) (hs : zs.length ≤ 1048576) (hv : (Lit.int .i8 v1).wf = true) :
    Calls Try.prog 15 #[.pointer (some ⟨B, 0, none⟩), .pointer (some ⟨X, 0, none⟩), .agg #[.int .i64 3, .int .i64 at1, .int .i64 n1, .int .i8 v1, .bool o1]] w fun e w' => Plyd w B b X x h u c zs e w' := by
  have fd : Hid (∀ w', Below w.heap.size w w' → Bf .i8 31 81 w' B b h u c zs ∧ Bf .i64 2 36 w' X x h u c zs) := fun w' q => ⟨f.below q, d.below q⟩
  have hP : Hid (∀ e w', e = .returned (.bool true) → Below w.heap.size w w' → Plyd w B b X x h u c zs e w') := fun e w' he q => ⟨he, zs, rfl, f.below q, d.below q, Kept.of q⟩
  obtain ⟨n, cap, hX, own⟩ := d
  have hn : Hid (zs.length = n) := own.len
  have row := own.facts.2.2.2.2.2.1
  have hnc := row.2.1
  have hcm := row.2.2.1
  unfold maxLen at hcm
  rw [own.len] at h1 hs
  have hS : Hid (∀ w', Below (w.alloc (.cells #[.int .i64 3, .int .i64 at1, .int .i64 n1, .int .i8 v1, .bool o1] 43)).heap.size (w.alloc (.cells #[.int .i64 3, .int .i64 at1, .int .i64 n1, .int .i8 v1, .bool o1] 43)) w' → ((∀ j, w'.cell? ⟨w.heap.size, j, none⟩ = #[Value.int .i64 3, .int .i64 at1, .int .i64 n1, .int .i8 v1, .bool o1][j]?) ∧ (∀ j, w'.cell? ⟨X, j, none⟩ = #[Value.int .i64 h, .int .i64 u, .int .i64 c, .slice (some ⟨x, 0, none⟩) n cap][j]?)) ∧ Below w.heap.size w w' ∧ IRow .i64 w' (some ⟨x, 0, none⟩) n cap zs) := fun w' q => by
    have q0 : Below w.heap.size w w' := bt (bal _ _) q
    exact ⟨⟨(cells_at ((q.block w.heap.size (by simp)).trans (heap_alloc_new w _))).1, (cells_at ((q0.block X (lt_of_heap hX)).trans hX)).1⟩, q0, row.below q0⟩
  have hD : Below (w.alloc (.cells #[.int .i64 3, .int .i64 at1, .int .i64 n1, .int .i8 v1, .bool o1] 43)).heap.size (w.alloc (.cells #[.int .i64 3, .int .i64 at1, .int .i64 n1, .int .i8 v1, .bool o1] 43)) (w.alloc (.cells #[.int .i64 3, .int .i64 at1, .int .i64 n1, .int .i8 v1, .bool o1] 43)) := Below.refl _ _
  obtain ⟨⟨cN, cX⟩, -, -⟩ := hS.out _ hD
  clear hX own row f
  go_enter Try.func15, Try.ntmps15
  go_wp2
  replace hD := bt hD (Below.refl _ _).drew
  go_region_held3 (fun w' => (∀ j, w'.cell? ⟨w.heap.size, j, none⟩ = #[Value.int .i64 3, .int .i64 at1, .int .i64 n1, .int .i8 v1, .bool o1][j]?) ∧ (∀ j, w'.cell? ⟨X, j, none⟩ = #[Value.int .i64 h, .int .i64 u, .int .i64 c, .slice (some ⟨x, 0, none⟩) n cap][j]?)) (with_reducible exact (hS.out _ hD).1)
    (first | (go_at_call 21; refine (list_i8 _ _ _ _ _ zs _ (fd.out _ (hS.out _ hD).2.1).1 (by have := hn.out; omega)).mono ?_; rw [hn.out]; rintro e w2 ⟨g, rfl, own2, b2⟩; replace hD := bt (c := w2) hD b2; clear b2) | (go_at_call 13; refine (wide_i8 _ _ _ _ _ own2.facts.2.2.2.2.2.1 (by omega)).mono ?_; rintro e w3 ⟨v3, rfl, own3, b3⟩; replace hD := bt (c := w3) hD b3; clear b3; obtain ⟨a3, cap3, rfl, row3, -⟩ := own3.row; clear own2 own3) | (go_at_call 20; refine (same_yes row3 (hS.out _ hD).2.2).mono ?_; rintro e w4 ⟨rfl, b4⟩; replace hD := bt (c := w4) hD b4; clear b4))
  go_wp2
  go_ret
  exact hP.out _ _ rfl (hS.out _ hD).2.1
set_option maxHeartbeats 4000000 in
set_option maxRecDepth 100000 in
theorem play_6 (B b X x : Nat) (h u c : Int) (zs : List Int) (at1 n1 v1 : Int) (o1 : Bool) (w : World) (f : Bf .i8 31 81 w B b h u c zs) (d : Bf .i64 2 36 w X x h u c zs) (h1 : 1 ≤ zs.length) (hs : zs.length ≤ 1048576) (hv : (Lit.int .i8 v1).wf = true) :
    Calls Try.prog 15 #[.pointer (some ⟨B, 0, none⟩), .pointer (some ⟨X, 0, none⟩), .agg #[.int .i64 6, .int .i64 at1, .int .i64 n1, .int .i8 v1, .bool o1]] w fun e w' => Plyd w B b X x h u c zs e w' := by
  have fd : Hid (∀ w', Below w.heap.size w w' → Bf .i8 31 81 w' B b h u c zs ∧ Bf .i64 2 36 w' X x h u c zs) := fun w' q => ⟨f.below q, d.below q⟩
  have hP : Hid (∀ e w', e = .returned (.bool true) → Below w.heap.size w w' → Plyd w B b X x h u c zs e w') := fun e w' he q => ⟨he, zs, rfl, f.below q, d.below q, Kept.of q⟩
  obtain ⟨n, cap, hX, own⟩ := d
  have hn : Hid (zs.length = n) := own.len
  have row := own.facts.2.2.2.2.2.1
  have hnc := row.2.1
  have hcm := row.2.2.1
  unfold maxLen at hcm
  rw [own.len] at h1 hs
  have hS : Hid (∀ w', Below (w.alloc (.cells #[.int .i64 6, .int .i64 at1, .int .i64 n1, .int .i8 v1, .bool o1] 43)).heap.size (w.alloc (.cells #[.int .i64 6, .int .i64 at1, .int .i64 n1, .int .i8 v1, .bool o1] 43)) w' → ((∀ j, w'.cell? ⟨w.heap.size, j, none⟩ = #[Value.int .i64 6, .int .i64 at1, .int .i64 n1, .int .i8 v1, .bool o1][j]?) ∧ (∀ j, w'.cell? ⟨X, j, none⟩ = #[Value.int .i64 h, .int .i64 u, .int .i64 c, .slice (some ⟨x, 0, none⟩) n cap][j]?)) ∧ Below w.heap.size w w' ∧ IRow .i64 w' (some ⟨x, 0, none⟩) n cap zs) := fun w' q => by
    have q0 : Below w.heap.size w w' := bt (bal _ _) q
    exact ⟨⟨(cells_at ((q.block w.heap.size (by simp)).trans (heap_alloc_new w _))).1, (cells_at ((q0.block X (lt_of_heap hX)).trans hX)).1⟩, q0, row.below q0⟩
  have hD : Below (w.alloc (.cells #[.int .i64 6, .int .i64 at1, .int .i64 n1, .int .i8 v1, .bool o1] 43)).heap.size (w.alloc (.cells #[.int .i64 6, .int .i64 at1, .int .i64 n1, .int .i8 v1, .bool o1] 43)) (w.alloc (.cells #[.int .i64 6, .int .i64 at1, .int .i64 n1, .int .i8 v1, .bool o1] 43)) := Below.refl _ _
  obtain ⟨⟨cN, cX⟩, -, -⟩ := hS.out _ hD
  clear hX own row f
  go_enter Try.func15, Try.ntmps15
  go_wp2
  replace hD := bt hD (Below.refl _ _).drew
  go_region_held3 (fun w' => (∀ j, w'.cell? ⟨w.heap.size, j, none⟩ = #[Value.int .i64 6, .int .i64 at1, .int .i64 n1, .int .i8 v1, .bool o1][j]?) ∧ (∀ j, w'.cell? ⟨X, j, none⟩ = #[Value.int .i64 h, .int .i64 u, .int .i64 c, .slice (some ⟨x, 0, none⟩) n cap][j]?)) (with_reducible exact (hS.out _ hD).1)
    (first | (go_at_call 31; refine (len_i8 _ _ _ _ _ zs _ (fd.out _ (hS.out _ hD).2.1).1).mono ?_; rw [hn.out]; rintro e w2 ⟨rfl, rfl⟩) | (go_at_call 38; refine (shape_i8 _ _ _ _ _ zs _ (fd.out _ (hS.out _ hD).2.1).1).mono ?_; rintro e w2 ⟨rfl, b2⟩; replace hD := bt (c := w2) hD b2; clear b2))
  go_wp2
  go_ret
  exact hP.out _ _ rfl (hS.out _ hD).2.1
set_option maxHeartbeats 4000000 in
set_option maxRecDepth 100000 in
theorem play_1 (B b X x : Nat) (h u c : Int) (zs : List Int) (at1 n1 v1 : Int) (o1 : Bool) (w : World) (f : Bf .i8 31 81 w B b h u c zs) (d : Bf .i64 2 36 w X x h u c zs) (h1 : 1 ≤ zs.length) (hs : zs.length ≤ 1048576) (hv : (Lit.int .i8 v1).wf = true) :
    Calls Try.prog 15 #[.pointer (some ⟨B, 0, none⟩), .pointer (some ⟨X, 0, none⟩), .agg #[.int .i64 1, .int .i64 at1, .int .i64 n1, .int .i8 v1, .bool o1]] w fun e w' => Plyd w B b X x h u c zs e w' := by
  have fd : Hid (∀ w', Below w.heap.size w w' → Bf .i8 31 81 w' B b h u c zs ∧ Bf .i64 2 36 w' X x h u c zs) := fun w' q => ⟨f.below q, d.below q⟩
  have hP : Hid (∀ e w', e = .returned (.bool true) → Below w.heap.size w w' → Plyd w B b X x h u c zs e w') := fun e w' he q => ⟨he, zs, rfl, f.below q, d.below q, Kept.of q⟩
  obtain ⟨n, cap, hX, own⟩ := d
  have hn : Hid (zs.length = n) := own.len
  have row := own.facts.2.2.2.2.2.1
  have hnc := row.2.1
  have hcm := row.2.2.1
  unfold maxLen at hcm
  rw [own.len] at h1 hs
  have hS : Hid (∀ w', Below (w.alloc (.cells #[.int .i64 1, .int .i64 at1, .int .i64 n1, .int .i8 v1, .bool o1] 43)).heap.size (w.alloc (.cells #[.int .i64 1, .int .i64 at1, .int .i64 n1, .int .i8 v1, .bool o1] 43)) w' → ((∀ j, w'.cell? ⟨w.heap.size, j, none⟩ = #[Value.int .i64 1, .int .i64 at1, .int .i64 n1, .int .i8 v1, .bool o1][j]?) ∧ (∀ j, w'.cell? ⟨X, j, none⟩ = #[Value.int .i64 h, .int .i64 u, .int .i64 c, .slice (some ⟨x, 0, none⟩) n cap][j]?)) ∧ Below w.heap.size w w' ∧ IRow .i64 w' (some ⟨x, 0, none⟩) n cap zs) := fun w' q => by
    have q0 : Below w.heap.size w w' := bt (bal _ _) q
    exact ⟨⟨(cells_at ((q.block w.heap.size (by simp)).trans (heap_alloc_new w _))).1, (cells_at ((q0.block X (lt_of_heap hX)).trans hX)).1⟩, q0, row.below q0⟩
  have hD : Below (w.alloc (.cells #[.int .i64 1, .int .i64 at1, .int .i64 n1, .int .i8 v1, .bool o1] 43)).heap.size (w.alloc (.cells #[.int .i64 1, .int .i64 at1, .int .i64 n1, .int .i8 v1, .bool o1] 43)) (w.alloc (.cells #[.int .i64 1, .int .i64 at1, .int .i64 n1, .int .i8 v1, .bool o1] 43)) := Below.refl _ _
  obtain ⟨⟨cN, cX⟩, -, -⟩ := hS.out _ hD
  clear hX own row f
  by_cases hi : at1 < 0 ∨ (n : Int) ≤ at1
  · have hH := has_is h u c (some ⟨x, 0, none⟩) n cap at1
    rw [hasB_no hi] at hH
    have hA := at_no_i8 B b h u c zs at1 _ (fd.out _ (hS.out _ hD).2.1).1 (by rw [hn.out]; exact hi)
    go_enter Try.func15, Try.ntmps15
    go_wp2_with fail
    refine hA.mono ?_
    rintro e w2 ⟨rfl, rfl⟩
    clear hA
    go_wp2
    replace hD := bt hD (Below.refl _ _).drew
    go_region_held3 (fun w' => (∀ j, w'.cell? ⟨w.heap.size, j, none⟩ = #[Value.int .i64 1, .int .i64 at1, .int .i64 n1, .int .i8 v1, .bool o1][j]?) ∧ (∀ j, w'.cell? ⟨X, j, none⟩ = #[Value.int .i64 h, .int .i64 u, .int .i64 c, .slice (some ⟨x, 0, none⟩) n cap][j]?)) (with_reducible exact (hS.out _ hD).1)
      (first | (go_at_call 39; refine (hH _).mono ?_; rintro e w2 ⟨rfl, b2⟩; replace hD := bt (c := w2) hD b2; clear b2))
    go_wp2
    go_ret
    exact hP.out _ _ rfl (hS.out _ hD).2.1
  obtain ⟨i, rfl⟩ : ∃ i : Nat, at1 = (i : Int) := ⟨at1.toNat, by omega⟩
  have hlt : i < n := by omega
  obtain ⟨y, z, hy, hc, -, hz, -⟩ := (hS.out _ hD).2.2.at hlt
  obtain rfl := Option.some.inj hy
  have hzw := wf_i8 ((fd.out _ (hS.out _ hD).2.1).1.wf z (List.mem_of_getElem? hz))
  have hA := at_ok_i8 B b h u c zs i z _ (fd.out _ (hS.out _ hD).2.1).1 hz
  have hH := has_is h u c (some ⟨x, 0, none⟩) n cap i
  rw [hasB_yes hlt] at hH
  have hz' : Hid (zs[i]? = some z) := hz
  clear hz hc hy hi
  go_enter Try.func15, Try.ntmps15
  go_wp2_with fail
  refine hA.mono ?_
  rintro e w2 ⟨rfl, rfl⟩
  clear hA
  go_wp2
  replace hD := bt hD (Below.refl _ _).drew
  go_region_held3 (fun w' => (∀ j, w'.cell? ⟨w.heap.size, j, none⟩ = #[Value.int .i64 1, .int .i64 (i : Int), .int .i64 n1, .int .i8 v1, .bool o1][j]?) ∧ (∀ j, w'.cell? ⟨X, j, none⟩ = #[Value.int .i64 h, .int .i64 u, .int .i64 c, .slice (some ⟨x, 0, none⟩) n cap][j]?)) (with_reducible exact (hS.out _ hD).1)
    (first | (go_at_call 39; refine (hH _).mono ?_; rintro e w2 ⟨rfl, b2⟩; replace hD := bt (c := w2) hD b2; clear b2))
  obtain ⟨⟨cN, cX⟩, -, r2⟩ := hS.out _ hD
  obtain ⟨y, z2, hy, hc, -, hz2, -⟩ := r2.at hlt
  obtain rfl := Option.some.inj hy
  obtain rfl : z = z2 := by rw [hz'.out] at hz2; exact Option.some.inj hz2
  rw [Addr.add_lit, Nat.zero_add] at hc
  clear hz2 hy r2 hH
  go_wp2
  go_quiet (fail)
  go_wp2
  go_ret
  exact hP.out _ _ rfl (bt (hS.out _ hD).2.1 (dbel _ _))
set_option maxHeartbeats 4000000 in
set_option maxRecDepth 100000 in
theorem play_4 (B b X x : Nat) (h u c : Int) (zs : List Int) (at1 n1 v1 : Int) (o1 : Bool) (w : World) (f : Bf .i8 31 81 w B b h u c zs) (d : Bf .i64 2 36 w X x h u c zs) (h1 : 1 ≤ zs.length) (hs : zs.length ≤ 1048576) (hv : (Lit.int .i8 v1).wf = true) :
    Calls Try.prog 15 #[.pointer (some ⟨B, 0, none⟩), .pointer (some ⟨X, 0, none⟩), .agg #[.int .i64 4, .int .i64 at1, .int .i64 n1, .int .i8 v1, .bool o1]] w fun e w' => Plyd w B b X x h u c zs e w' := by
  have fd : Hid (∀ w', Below w.heap.size w w' → Bf .i8 31 81 w' B b h u c zs ∧ Bf .i64 2 36 w' X x h u c zs) := fun w' q => ⟨f.below q, d.below q⟩
  have hP : Hid (∀ e w', e = .returned (.bool true) → Below w.heap.size w w' → Plyd w B b X x h u c zs e w') := fun e w' he q => ⟨he, zs, rfl, f.below q, d.below q, Kept.of q⟩
  obtain ⟨n, cap, hX, own⟩ := d
  have hn : Hid (zs.length = n) := own.len
  have row := own.facts.2.2.2.2.2.1
  have hnc := row.2.1
  have hcm := row.2.2.1
  unfold maxLen at hcm
  rw [own.len] at h1 hs
  have hS : Hid (∀ w', Below (w.alloc (.cells #[.int .i64 4, .int .i64 at1, .int .i64 n1, .int .i8 v1, .bool o1] 43)).heap.size (w.alloc (.cells #[.int .i64 4, .int .i64 at1, .int .i64 n1, .int .i8 v1, .bool o1] 43)) w' → ((∀ j, w'.cell? ⟨w.heap.size, j, none⟩ = #[Value.int .i64 4, .int .i64 at1, .int .i64 n1, .int .i8 v1, .bool o1][j]?) ∧ (∀ j, w'.cell? ⟨X, j, none⟩ = #[Value.int .i64 h, .int .i64 u, .int .i64 c, .slice (some ⟨x, 0, none⟩) n cap][j]?)) ∧ Below w.heap.size w w' ∧ IRow .i64 w' (some ⟨x, 0, none⟩) n cap zs) := fun w' q => by
    have q0 : Below w.heap.size w w' := bt (bal _ _) q
    exact ⟨⟨(cells_at ((q.block w.heap.size (by simp)).trans (heap_alloc_new w _))).1, (cells_at ((q0.block X (lt_of_heap hX)).trans hX)).1⟩, q0, row.below q0⟩
  have hD : Below (w.alloc (.cells #[.int .i64 4, .int .i64 at1, .int .i64 n1, .int .i8 v1, .bool o1] 43)).heap.size (w.alloc (.cells #[.int .i64 4, .int .i64 at1, .int .i64 n1, .int .i8 v1, .bool o1] 43)) (w.alloc (.cells #[.int .i64 4, .int .i64 at1, .int .i64 n1, .int .i8 v1, .bool o1] 43)) := Below.refl _ _
  obtain ⟨⟨cN, cX⟩, -, -⟩ := hS.out _ hD
  clear hX own row f
  by_cases hi : at1 < 0 ∨ n1 < 0 ∨ (n : Int) < at1 + n1
  · have hA := view_no_i8 B b h u c zs at1 n1 _ (fd.out _ (hS.out _ hD).2.1).1 (by rw [hn.out]; exact hi)
    have hV := fun W => rview_no h u c (some ⟨x, 0, none⟩) n cap at1 n1 W (by omega) hi
    go_enter Try.func15, Try.ntmps15
    go_wp2_with fail
    refine hA.mono ?_
    rintro e w2 ⟨rfl, rfl⟩
    clear hA
    go_wp2
    replace hD := bt hD (Below.refl _ _).drew
    go_region_held3 (fun w' => (∀ j, w'.cell? ⟨w.heap.size, j, none⟩ = #[Value.int .i64 4, .int .i64 at1, .int .i64 n1, .int .i8 v1, .bool o1][j]?) ∧ (∀ j, w'.cell? ⟨X, j, none⟩ = #[Value.int .i64 h, .int .i64 u, .int .i64 c, .slice (some ⟨x, 0, none⟩) n cap][j]?)) (with_reducible exact (hS.out _ hD).1)
      (first | (go_at_call 40; refine (hV _).mono ?_; rintro e w2 ⟨rfl, b2⟩; replace hD := bt (c := w2) hD b2; clear b2))
    go_wp2_with fail
    refine (wide_i8 none 0 0 [] _ (irow_nil _ _) (by omega)).mono ?_
    rintro e w3 ⟨v3, rfl, own3, b3⟩
    replace hD := bt (c := w3) hD b3
    obtain ⟨a3, cap3, rfl, row3, -⟩ := own3.row
    clear b3 own3
    go_wp2_with fail
    refine (same_yes row3 (irow_nil _ _)).mono ?_
    rintro e w4 ⟨rfl, b4⟩
    replace hD := bt (c := w4) hD b4
    clear b4 row3
    go_wp2
    go_ret
    exact hP.out _ _ rfl (hS.out _ hD).2.1
  obtain ⟨i, rfl⟩ : ∃ i : Nat, at1 = (i : Int) := ⟨at1.toNat, by omega⟩
  obtain ⟨m, rfl⟩ : ∃ m : Nat, n1 = (m : Int) := ⟨n1.toNat, by omega⟩
  have hlt : i + m ≤ n := by omega
  have hA := view_ok_i8 B b h u c zs i m _ (fd.out _ (hS.out _ hD).2.1).1 (by rw [hn.out]; exact hlt) (by rw [hn.out]; exact hs)
  have hV := fun W r => rview_ok h u c x n cap zs i m W r hlt
  obtain ⟨ys, hys⟩ : ∃ ys, (zs.drop i).take m = ys := ⟨_, rfl⟩
  rw [hys] at hA
  simp only [hys] at hV
  clear hi hys
  go_enter Try.func15, Try.ntmps15
  go_wp2_with fail
  refine hA.mono ?_
  rintro e w2 ⟨g, rfl, own2, b2⟩
  replace hD := bt (c := w2) hD b2
  have row2 : Hid (∀ w', Below w2.heap.size w2 w' → IRow .i8 w' (some ⟨g, 0, none⟩) m m ys) := fun w' q => own2.facts.2.2.2.2.2.1.below q
  have hB2 : Below w2.heap.size w2 w2.drew := (Below.refl _ _).drew
  clear b2 hA own2
  obtain ⟨⟨cN, cX⟩, -, -⟩ := hS.out _ hD
  go_wp2
  replace hD := bt hD (Below.refl _ _).drew
  go_region_held3 (fun w' => (∀ j, w'.cell? ⟨w.heap.size, j, none⟩ = #[Value.int .i64 4, .int .i64 (i : Int), .int .i64 (m : Int), .int .i8 v1, .bool o1][j]?) ∧ (∀ j, w'.cell? ⟨X, j, none⟩ = #[Value.int .i64 h, .int .i64 u, .int .i64 c, .slice (some ⟨x, 0, none⟩) n cap][j]?)) (with_reducible exact (hS.out _ hD).1)
    (first | (go_at_call 40; refine (hV _ (hS.out _ hD).2.2).mono ?_; rintro e w3 ⟨a3, c3, rfl, row3, b3⟩; replace hD := bt (c := w3) hD b3; replace hB2 := bt (c := w3) hB2 b3; clear b3))
  go_wp2_with fail
  refine (wide_i8 _ _ _ _ _ (row2.out _ hB2) (by omega)).mono ?_
  rintro e w4 ⟨v4, rfl, own4, b4⟩
  replace hD := bt (c := w4) hD b4
  obtain ⟨a4, cap4, rfl, row4, -⟩ := own4.row
  have row3' := row3.below b4
  clear b4 own4 row3 row2 hB2
  go_wp2_with fail
  refine (same_yes row4 row3').mono ?_
  rintro e w5 ⟨rfl, b5⟩
  replace hD := bt (c := w5) hD b5
  clear b5 row4 row3'
  go_wp2
  go_ret
  exact hP.out _ _ rfl (hS.out _ hD).2.1
set_option maxHeartbeats 4000000 in
set_option maxRecDepth 100000 in
theorem play_5 (B b X x : Nat) (h u c : Int) (zs : List Int) (at1 n1 v1 : Int) (o1 : Bool) (w : World) (f : Bf .i8 31 81 w B b h u c zs) (d : Bf .i64 2 36 w X x h u c zs) (h1 : 1 ≤ zs.length) (hs : zs.length ≤ 1048576) (hv : (Lit.int .i8 v1).wf = true) :
    Calls Try.prog 15 #[.pointer (some ⟨B, 0, none⟩), .pointer (some ⟨X, 0, none⟩), .agg #[.int .i64 5, .int .i64 at1, .int .i64 n1, .int .i8 v1, .bool o1]] w fun e w' => Plyd w B b X x h u c zs e w' := by
  have fd : Hid (∀ w', Below w.heap.size w w' → Bf .i8 31 81 w' B b h u c zs ∧ Bf .i64 2 36 w' X x h u c zs) := fun w' q => ⟨f.below q, d.below q⟩
  have hP : Hid (∀ e w', e = .returned (.bool true) → Below w.heap.size w w' → Plyd w B b X x h u c zs e w') := fun e w' he q => ⟨he, zs, rfl, f.below q, d.below q, Kept.of q⟩
  obtain ⟨n, cap, hX, own⟩ := d
  have hn : Hid (zs.length = n) := own.len
  have row := own.facts.2.2.2.2.2.1
  have hnc := row.2.1
  have hcm := row.2.2.1
  unfold maxLen at hcm
  rw [own.len] at h1 hs
  have hS : Hid (∀ w', Below (w.alloc (.cells #[.int .i64 5, .int .i64 at1, .int .i64 n1, .int .i8 v1, .bool o1] 43)).heap.size (w.alloc (.cells #[.int .i64 5, .int .i64 at1, .int .i64 n1, .int .i8 v1, .bool o1] 43)) w' → ((∀ j, w'.cell? ⟨w.heap.size, j, none⟩ = #[Value.int .i64 5, .int .i64 at1, .int .i64 n1, .int .i8 v1, .bool o1][j]?) ∧ (∀ j, w'.cell? ⟨X, j, none⟩ = #[Value.int .i64 h, .int .i64 u, .int .i64 c, .slice (some ⟨x, 0, none⟩) n cap][j]?)) ∧ Below w.heap.size w w' ∧ IRow .i64 w' (some ⟨x, 0, none⟩) n cap zs) := fun w' q => by
    have q0 : Below w.heap.size w w' := bt (bal _ _) q
    exact ⟨⟨(cells_at ((q.block w.heap.size (by simp)).trans (heap_alloc_new w _))).1, (cells_at ((q0.block X (lt_of_heap hX)).trans hX)).1⟩, q0, row.below q0⟩
  have hD : Below (w.alloc (.cells #[.int .i64 5, .int .i64 at1, .int .i64 n1, .int .i8 v1, .bool o1] 43)).heap.size (w.alloc (.cells #[.int .i64 5, .int .i64 at1, .int .i64 n1, .int .i8 v1, .bool o1] 43)) (w.alloc (.cells #[.int .i64 5, .int .i64 at1, .int .i64 n1, .int .i8 v1, .bool o1] 43)) := Below.refl _ _
  obtain ⟨⟨cN, cX⟩, -, -⟩ := hS.out _ hD
  clear hX own row f
  obtain ⟨y, z0, hy, hc, -, hz, -⟩ := (hS.out _ hD).2.2.at h1
  obtain rfl := Option.some.inj hy
  have hzw := (fd.out _ (hS.out _ hD).2.1).1.wf
  have hA := ends_i8 B b h u c zs z0 _ (fd.out _ (hS.out _ hD).2.1).1 hz
  have hlo := wf_i8 (loF_wf hzw (hzw z0 (List.mem_of_getElem? hz)))
  have hhi := wf_i8 (hiF_wf hzw (hzw z0 (List.mem_of_getElem? hz)))
  have hz' : Hid (zs[0]? = some z0) := hz
  clear hz hc hy hzw
  have hV := fun W r => rends_is h u c x n cap zs z0 W r hz'.out
  obtain ⟨lo, hlo'⟩ : ∃ lo, loF z0 zs = lo := ⟨_, rfl⟩
  obtain ⟨hi, hhi'⟩ : ∃ hi, hiF z0 zs = hi := ⟨_, rfl⟩
  rw [hlo'] at hA hlo
  rw [hhi'] at hA hhi
  simp only [hlo', hhi'] at hV
  clear hlo' hhi'
  go_enter Try.func15, Try.ntmps15
  go_wp2_with fail
  refine hA.mono ?_
  rintro e w2 ⟨rfl, q, rfl⟩
  replace hD := bt hD (dbel _ q)
  clear hA
  obtain ⟨⟨cN, cX⟩, -, -⟩ := hS.out _ hD
  go_wp2_with fail
  refine (hV _ (hS.out _ hD).2.2).mono ?_
  rintro e w3 ⟨rfl, b3⟩
  replace hD := bt (c := w3) hD b3
  clear b3 hV
  go_wp2
  go_ret
  exact hP.out _ _ rfl (hS.out _ hD).2.1
set_option maxHeartbeats 4000000 in
set_option maxRecDepth 100000 in
theorem play_7 (B b X x : Nat) (h u c : Int) (zs : List Int) (at1 n1 v1 : Int) (o1 : Bool) (w : World) (f : Bf .i8 31 81 w B b h u c zs) (d : Bf .i64 2 36 w X x h u c zs) (h1 : 1 ≤ zs.length) (hs : zs.length ≤ 1048576) (hv : (Lit.int .i8 v1).wf = true) :
    Calls Try.prog 15 #[.pointer (some ⟨B, 0, none⟩), .pointer (some ⟨X, 0, none⟩), .agg #[.int .i64 7, .int .i64 at1, .int .i64 n1, .int .i8 v1, .bool o1]] w fun e w' => Plyd w B b X x h u c zs e w' := by
  have fd : Hid (∀ w', Below w.heap.size w w' → Bf .i8 31 81 w' B b h u c zs ∧ Bf .i64 2 36 w' X x h u c zs) := fun w' q => ⟨f.below q, d.below q⟩
  have hP : Hid (∀ e w', e = .returned (.bool true) → Below w.heap.size w w' → Plyd w B b X x h u c zs e w') := fun e w' he q => ⟨he, zs, rfl, f.below q, d.below q, Kept.of q⟩
  obtain ⟨n, cap, hX, own⟩ := d
  have hn : Hid (zs.length = n) := own.len
  have row := own.facts.2.2.2.2.2.1
  have hnc := row.2.1
  have hcm := row.2.2.1
  unfold maxLen at hcm
  rw [own.len] at h1 hs
  have hS : Hid (∀ w', Below (w.alloc (.cells #[.int .i64 7, .int .i64 at1, .int .i64 n1, .int .i8 v1, .bool o1] 43)).heap.size (w.alloc (.cells #[.int .i64 7, .int .i64 at1, .int .i64 n1, .int .i8 v1, .bool o1] 43)) w' → ((∀ j, w'.cell? ⟨w.heap.size, j, none⟩ = #[Value.int .i64 7, .int .i64 at1, .int .i64 n1, .int .i8 v1, .bool o1][j]?) ∧ (∀ j, w'.cell? ⟨X, j, none⟩ = #[Value.int .i64 h, .int .i64 u, .int .i64 c, .slice (some ⟨x, 0, none⟩) n cap][j]?)) ∧ Below w.heap.size w w' ∧ IRow .i64 w' (some ⟨x, 0, none⟩) n cap zs) := fun w' q => by
    have q0 : Below w.heap.size w w' := bt (bal _ _) q
    exact ⟨⟨(cells_at ((q.block w.heap.size (by simp)).trans (heap_alloc_new w _))).1, (cells_at ((q0.block X (lt_of_heap hX)).trans hX)).1⟩, q0, row.below q0⟩
  have hD : Below (w.alloc (.cells #[.int .i64 7, .int .i64 at1, .int .i64 n1, .int .i8 v1, .bool o1] 43)).heap.size (w.alloc (.cells #[.int .i64 7, .int .i64 at1, .int .i64 n1, .int .i8 v1, .bool o1] 43)) (w.alloc (.cells #[.int .i64 7, .int .i64 at1, .int .i64 n1, .int .i8 v1, .bool o1] 43)) := Below.refl _ _
  obtain ⟨⟨cN, cX⟩, -, -⟩ := hS.out _ hD
  clear hX own row f
  go_enter Try.func15, Try.ntmps15
  go_wp2_with fail
  refine (conv_i8_i16 B b h u c zs _ (fd.out _ (hS.out _ hD).2.1).1 (by rw [hn.out]; exact hs) (wf_dn (by simp) (fd.out _ (hS.out _ hD).2.1).1.wf)).mono ?_
  rintro e w2 ⟨Y, y, rfl, hY, hy, fy, b2⟩
  replace hD := bt (c := w2) hD b2
  clear b2 hY hy
  obtain ⟨⟨cN, cX⟩, -, r2⟩ := hS.out _ hD
  go_wp2_with fail
  refine (is_i16 Y y h u c zs _ _ _ w2 fy r2 hs).mono ?_
  rintro e w3 ⟨rfl, b3⟩
  replace hD := bt (c := w3) hD b3
  have fy3 := fy.below b3
  clear b3 fy r2
  obtain ⟨⟨cN, cX⟩, -, r3⟩ := hS.out _ hD
  go_wp2_with fail
  refine (converts_is Y y h u c zs _ _ _ w3 fy3 r3 hs).mono ?_
  rintro e w4 ⟨rfl, b4⟩
  replace hD := bt (c := w4) hD b4
  clear b4 r3
  clear fy3
  go_wp2
  go_ret
  exact hP.out _ _ rfl (hS.out _ hD).2.1
set_option maxHeartbeats 4000000 in
set_option maxRecDepth 100000 in
theorem play_8 (B b X x : Nat) (h u c : Int) (zs : List Int) (at1 n1 v1 : Int) (o1 : Bool) (w : World) (f : Bf .i8 31 81 w B b h u c zs) (d : Bf .i64 2 36 w X x h u c zs) (h1 : 1 ≤ zs.length) (hs : zs.length ≤ 1048576) (hv : (Lit.int .i8 v1).wf = true) :
    Calls Try.prog 15 #[.pointer (some ⟨B, 0, none⟩), .pointer (some ⟨X, 0, none⟩), .agg #[.int .i64 8, .int .i64 at1, .int .i64 n1, .int .i8 v1, .bool o1]] w fun e w' => Plyd w B b X x h u c zs e w' := by
  have fd : Hid (∀ w', Below w.heap.size w w' → Bf .i8 31 81 w' B b h u c zs ∧ Bf .i64 2 36 w' X x h u c zs) := fun w' q => ⟨f.below q, d.below q⟩
  have hP : Hid (∀ e w', e = .returned (.bool true) → Below w.heap.size w w' → Plyd w B b X x h u c zs e w') := fun e w' he q => ⟨he, zs, rfl, f.below q, d.below q, Kept.of q⟩
  obtain ⟨n, cap, hX, own⟩ := d
  have hn : Hid (zs.length = n) := own.len
  have row := own.facts.2.2.2.2.2.1
  have hnc := row.2.1
  have hcm := row.2.2.1
  unfold maxLen at hcm
  rw [own.len] at h1 hs
  have hS : Hid (∀ w', Below (w.alloc (.cells #[.int .i64 8, .int .i64 at1, .int .i64 n1, .int .i8 v1, .bool o1] 43)).heap.size (w.alloc (.cells #[.int .i64 8, .int .i64 at1, .int .i64 n1, .int .i8 v1, .bool o1] 43)) w' → ((∀ j, w'.cell? ⟨w.heap.size, j, none⟩ = #[Value.int .i64 8, .int .i64 at1, .int .i64 n1, .int .i8 v1, .bool o1][j]?) ∧ (∀ j, w'.cell? ⟨X, j, none⟩ = #[Value.int .i64 h, .int .i64 u, .int .i64 c, .slice (some ⟨x, 0, none⟩) n cap][j]?)) ∧ Below w.heap.size w w' ∧ IRow .i64 w' (some ⟨x, 0, none⟩) n cap zs) := fun w' q => by
    have q0 : Below w.heap.size w w' := bt (bal _ _) q
    exact ⟨⟨(cells_at ((q.block w.heap.size (by simp)).trans (heap_alloc_new w _))).1, (cells_at ((q0.block X (lt_of_heap hX)).trans hX)).1⟩, q0, row.below q0⟩
  have hD : Below (w.alloc (.cells #[.int .i64 8, .int .i64 at1, .int .i64 n1, .int .i8 v1, .bool o1] 43)).heap.size (w.alloc (.cells #[.int .i64 8, .int .i64 at1, .int .i64 n1, .int .i8 v1, .bool o1] 43)) (w.alloc (.cells #[.int .i64 8, .int .i64 at1, .int .i64 n1, .int .i8 v1, .bool o1] 43)) := Below.refl _ _
  obtain ⟨⟨cN, cX⟩, -, -⟩ := hS.out _ hD
  clear hX own row f
  go_enter Try.func15, Try.ntmps15
  go_wp2_with fail
  refine (conv_i8_i32 B b h u c zs _ (fd.out _ (hS.out _ hD).2.1).1 (by rw [hn.out]; exact hs) (wf_dn (by simp) (fd.out _ (hS.out _ hD).2.1).1.wf)).mono ?_
  rintro e w2 ⟨Y, y, rfl, hY, hy, fy, b2⟩
  replace hD := bt (c := w2) hD b2
  clear b2 hY hy
  obtain ⟨⟨cN, cX⟩, -, r2⟩ := hS.out _ hD
  go_wp2_with fail
  refine (is_i32 Y y h u c zs _ _ _ w2 fy r2 hs).mono ?_
  rintro e w3 ⟨rfl, b3⟩
  replace hD := bt (c := w3) hD b3
  have fy3 := fy.below b3
  clear b3 fy r2
  clear fy3
  go_wp2
  go_ret
  exact hP.out _ _ rfl (hS.out _ hD).2.1
set_option maxHeartbeats 4000000 in
set_option maxRecDepth 100000 in
theorem play_0 (k1 : Int) (B b X x : Nat) (h u c : Int) (zs : List Int) (at1 n1 v1 : Int) (o1 : Bool) (w : World) (f : Bf .i8 31 81 w B b h u c zs) (d : Bf .i64 2 36 w X x h u c zs) (h1 : 1 ≤ zs.length) (hs : zs.length ≤ 1048576) (hv : (Lit.int .i8 v1).wf = true) (k_1 : ¬ k1 = 1) (k_2 : ¬ k1 = 2) (k_3 : ¬ k1 = 3) (k_4 : ¬ k1 = 4) (k_5 : ¬ k1 = 5) (k_6 : ¬ k1 = 6) (k_7 : ¬ k1 = 7) (k_8 : ¬ k1 = 8) :
    Calls Try.prog 15 #[.pointer (some ⟨B, 0, none⟩), .pointer (some ⟨X, 0, none⟩), .agg #[.int .i64 k1, .int .i64 at1, .int .i64 n1, .int .i8 v1, .bool o1]] w fun e w' => Plyd w B b X x h u c zs e w' := by
  have hP : Hid (∀ e w', e = .returned (.bool true) → Below w.heap.size w w' → Plyd w B b X x h u c zs e w') := fun e w' he q => ⟨he, zs, rfl, f.below q, d.below q, Kept.of q⟩
  clear f d
  go_enter Try.func15, Try.ntmps15
  go_wp2
  go_ret
  exact hP.out _ _ rfl (bal _ _)
theorem cells_set {w : World} {A x i : Nat} {v : Value} {c : Array Value} (h : ∀ j, w.cell? ⟨A, j, none⟩ = c[j]?) (hA : A ≠ x) : ∀ j, (w.setCell ⟨x, i, none⟩ v).cell? ⟨A, j, none⟩ = c[j]? := fun j =>
  (World.cell?_setCell_other w ⟨x, i, none⟩ ⟨A, j, none⟩ v (fun e => hA (by cases e; rfl))).trans (h j)
set_option maxHeartbeats 4000000 in
set_option maxRecDepth 100000 in
theorem play_2 (B b X x : Nat) (h u c : Int) (zs : List Int) (at1 n1 v1 : Int) (o1 : Bool) (w : World) (f : Bf .i8 31 81 w B b h u c zs) (d : Bf .i64 2 36 w X x h u c zs) (h1 : 1 ≤ zs.length) (hs : zs.length ≤ 1048576) (hv : (Lit.int .i8 v1).wf = true) :
    Calls Try.prog 15 #[.pointer (some ⟨B, 0, none⟩), .pointer (some ⟨X, 0, none⟩), .agg #[.int .i64 2, .int .i64 at1, .int .i64 n1, .int .i8 v1, .bool o1]] w fun e w' => Plyd w B b X x h u c zs e w' := by
  have hP : Hid (∀ e w', e = .returned (.bool true) → Below w.heap.size w w' → Plyd w B b X x h u c zs e w') := fun e w' he q => ⟨he, zs, rfl, f.below q, d.below q, Kept.of q⟩
  have f0 := f.below (bal w (.cells #[.int .i64 2, .int .i64 at1, .int .i64 n1, .int .i8 v1, .bool o1] 43))
  have d0 := d.below (bal w (.cells #[.int .i64 2, .int .i64 at1, .int .i64 n1, .int .i8 v1, .bool o1] 43))
  have hXb : X ≠ b := ne_of_type d.cells.1 f.cells.2 (by decide)
  have hxb : x ≠ b := ne_of_type d.cells.2 f.cells.2 (by decide)
  have hXx : X ≠ x := ne_of_type d.cells.1 d.cells.2 (by decide)
  have hBx : B ≠ x := ne_of_type f.cells.1 d.cells.2 (by decide)
  have hbN := f.lt.2
  have hxN := d.lt.2
  clear f d
  obtain ⟨n, hn⟩ : ∃ n, zs.length = n := ⟨_, rfl⟩
  by_cases hi : at1 < 0 ∨ (n : Int) ≤ at1
  · have hA := set_no_i8 B b h u c zs at1 v1 _ f0 (by rw [hn]; exact hi)
    obtain ⟨n', cap, hX, own⟩ := d0
    obtain rfl : n = n' := by rw [← hn]; exact own.len
    have hn' : Hid (zs.length = n) := hn
    have hS : Hid (∀ w', Below (w.alloc (.cells #[.int .i64 2, .int .i64 at1, .int .i64 n1, .int .i8 v1, .bool o1] 43)).heap.size (w.alloc (.cells #[.int .i64 2, .int .i64 at1, .int .i64 n1, .int .i8 v1, .bool o1] 43)) w' → ((∀ j, w'.cell? ⟨w.heap.size, j, none⟩ = #[Value.int .i64 2, .int .i64 at1, .int .i64 n1, .int .i8 v1, .bool o1][j]?) ∧ (∀ j, w'.cell? ⟨X, j, none⟩ = #[Value.int .i64 h, .int .i64 u, .int .i64 c, .slice (some ⟨x, 0, none⟩) n cap][j]?)) ∧ Below w.heap.size w w') := fun w' q =>
      ⟨⟨(cells_at ((q.block w.heap.size (by simp)).trans (heap_alloc_new w _))).1, (cells_at ((q.block X (lt_of_heap hX)).trans hX)).1⟩, bt (bal _ _) q⟩
    have hD : Below (w.alloc (.cells #[.int .i64 2, .int .i64 at1, .int .i64 n1, .int .i8 v1, .bool o1] 43)).heap.size (w.alloc (.cells #[.int .i64 2, .int .i64 at1, .int .i64 n1, .int .i8 v1, .bool o1] 43)) (w.alloc (.cells #[.int .i64 2, .int .i64 at1, .int .i64 n1, .int .i8 v1, .bool o1] 43)) := Below.refl _ _
    obtain ⟨⟨cN, cX⟩, -⟩ := hS.out _ hD
    have hH := has_is h u c (some ⟨x, 0, none⟩) n cap at1
    rw [hasB_no hi] at hH
    clear hX own f0 hn h1 hs
    go_enter Try.func15, Try.ntmps15
    go_wp2_with fail
    refine hA.mono ?_
    rintro e w2 ⟨rfl, rfl⟩
    clear hA
    go_wp2
    replace hD := bt hD (Below.refl _ _).drew
    go_region_held3 (fun w' => (∀ j, w'.cell? ⟨w.heap.size, j, none⟩ = #[Value.int .i64 2, .int .i64 at1, .int .i64 n1, .int .i8 v1, .bool o1][j]?) ∧ (∀ j, w'.cell? ⟨X, j, none⟩ = #[Value.int .i64 h, .int .i64 u, .int .i64 c, .slice (some ⟨x, 0, none⟩) n cap][j]?)) (with_reducible exact (hS.out _ hD).1)
      (first | (go_at_call 39; refine (hH _).mono ?_; rintro e w2 ⟨rfl, b2⟩; replace hD := bt (c := w2) hD b2; clear b2))
    go_wp2
    go_ret
    exact hP.out _ _ rfl (hS.out _ hD).2
  obtain ⟨i, rfl⟩ : ∃ i : Nat, at1 = (i : Int) := ⟨at1.toNat, by omega⟩
  have hlt : i < n := by omega
  have hA := set_ok_i8 B b h u c zs i v1 _ f0 (by rw [hn]; exact hlt) hv
  have hvb := wf_i8 hv
  have hv64 := mk_i64 (z := v1) (by omega)
  have d0' : Hid (Bf .i64 2 36 (w.alloc (.cells #[.int .i64 2, .int .i64 (i : Int), .int .i64 n1, .int .i8 v1, .bool o1] 43)) X x h u c zs) := d0
  have hn' : Hid (zs.length = n) := hn
  obtain ⟨cN, -, -⟩ := cells_at (heap_alloc_new w (.cells #[.int .i64 2, .int .i64 (i : Int), .int .i64 n1, .int .i8 v1, .bool o1] 43))
  clear f0 d0 hn h1 hs hP
  go_enter Try.func15, Try.ntmps15
  go_wp2_with fail
  refine hA.mono ?_
  rintro e w2 ⟨rfl, f2, k2⟩
  have d2 := d0'.out.kept k2 (by simpa using hXb) (by simpa using hxb)
  have d2' : Hid (Bf .i64 2 36 w2 X x h u c zs) := d2
  have hN2 := (k2.2.2.2.2 w.heap.size (by simp) (by simp; omega)).trans (heap_alloc_new w _)
  obtain ⟨n', cap, hX, own⟩ := d2
  obtain rfl : n = n' := by rw [← hn'.out]; exact own.len
  have hk2 : Hid (Kept [b] (w.alloc (.cells #[.int .i64 2, .int .i64 (i : Int), .int .i64 n1, .int .i8 v1, .bool o1] 43)) w2 ∧ Bf .i8 31 81 w2 B b h u c (zs.set i v1)) := ⟨k2, f2⟩
  have hS : Hid (∀ w', Below w2.heap.size w2 w' → ((∀ j, w'.cell? ⟨w.heap.size, j, none⟩ = #[Value.int .i64 2, .int .i64 (i : Int), .int .i64 n1, .int .i8 v1, .bool o1][j]?) ∧ (∀ j, w'.cell? ⟨X, j, none⟩ = #[Value.int .i64 h, .int .i64 u, .int .i64 c, .slice (some ⟨x, 0, none⟩) n cap][j]?)) ∧ Own .i64 2 w' 0 (.slice (some ⟨x, 0, none⟩) n cap) zs) := fun w' q =>
    ⟨⟨(cells_at ((q.block w.heap.size (lt_of_heap hN2)).trans hN2)).1, (cells_at ((q.block X (lt_of_heap hX)).trans hX)).1⟩, own.below q⟩
  have hD : Below w2.heap.size w2 w2 := Below.refl _ _
  have hH := has_is h u c (some ⟨x, 0, none⟩) n cap i
  rw [hasB_yes hlt] at hH
  clear hA cN hX own k2 f2 hN2
  obtain ⟨⟨cN, cX⟩, -⟩ := hS.out _ hD
  go_wp2
  replace hD := bt hD (Below.refl _ _).drew
  go_region_held3 (fun w' => (∀ j, w'.cell? ⟨w.heap.size, j, none⟩ = #[Value.int .i64 2, .int .i64 (i : Int), .int .i64 n1, .int .i8 v1, .bool o1][j]?) ∧ (∀ j, w'.cell? ⟨X, j, none⟩ = #[Value.int .i64 h, .int .i64 u, .int .i64 c, .slice (some ⟨x, 0, none⟩) n cap][j]?)) (with_reducible exact (hS.out _ hD).1)
    (first | (go_at_call 39; refine (hH _).mono ?_; rintro e w3 ⟨rfl, b3⟩; replace hD := bt (c := w3) hD b3; clear b3))
  obtain ⟨⟨cN, cX⟩, own3⟩ := hS.out _ hD
  obtain ⟨-, -, -, hnc, hcm, row3, fr3⟩ := own3.facts
  obtain ⟨y, z2, hy, hc, -, -, -⟩ := row3.at hlt
  obtain rfl := Option.some.inj hy
  rw [Addr.add_lit, Nat.zero_add] at hc
  clear hy row3 own3 hH
  have hNx : w.heap.size ≠ x := by omega
  go_wp2
  replace hD := bt hD (Below.refl _ _).drew
  go_region_held3 (fun w' => (∀ j, w'.cell? ⟨w.heap.size, j, none⟩ = #[Value.int .i64 2, .int .i64 (i : Int), .int .i64 n1, .int .i8 v1, .bool o1][j]?) ∧ (∀ j, w'.cell? ⟨X, j, none⟩ = #[Value.int .i64 h, .int .i64 u, .int .i64 c, .slice (some ⟨x, 0, none⟩) n cap][j]?)) (first | with_reducible exact (hS.out _ hD).1 | exact ⟨cells_set (hS.out _ hD).1.1 hNx, cells_set (hS.out _ hD).1.2 hXx⟩) (fail)
  go_wp2
  go_ret
  have hb3 : Below w2.heap.size w2 w3.drew := hD
  have d3 := (d2'.out.below hb3).set (i := i) hv64 (by decide)
  have f3 := (hk2.out.2.below hb3).kept (Kept.set (B := x) (i := i) (v := .int .i64 v1)) (by simpa using hBx) (by simpa using Ne.symm hxb)
  exact ⟨rfl, zs.set i v1, by simp, f3, d3, (((Kept.of (bal _ _)).trans (hk2.out.1.wide (by simp))).trans (Kept.of hb3)).trans (Kept.set.wide (by simp))⟩
end Go.Proofs.Ytedbcnkgembhbaa
