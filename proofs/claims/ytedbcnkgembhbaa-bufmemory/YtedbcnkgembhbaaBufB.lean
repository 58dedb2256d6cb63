/- A buffer in memory; what is told of it, and what it copies. -/
import Derived.Test.YtedbcnkgembhbaaBufA
import Derived.Test.YtedbcnkgembhbaaShpV
namespace Go.Proofs.Ytedbcnkgembhbaa
open Go.ChangeShapes Go.WideShapes Go.ChangeAt Go.RowKit
/-- But for the listed blocks all that was there stays. -/
def Kept (L : List Nat) (w w' : World) : Prop := w'.os = w.os ∧ w'.tape = w.tape ∧ w'.output = w.output ∧ w.heap.size ≤ w'.heap.size ∧ ∀ k, k < w.heap.size → k ∉ L → w'.heap[k]? = w.heap[k]?
theorem Kept.of {L : List Nat} {w w' : World} (h : Below w.heap.size w w') : Kept L w w' := ⟨h.os, h.tape, h.output, h.size, fun k hk _ => h.block k hk⟩
theorem Kept.trans {L : List Nat} {a b c : World} (h : Kept L a b) (k : Kept L b c) : Kept L a c :=
  ⟨k.1.trans h.1, k.2.1.trans h.2.1, k.2.2.1.trans h.2.2.1, Nat.le_trans h.2.2.2.1 k.2.2.2.1, fun i hi hL => (k.2.2.2.2 i (Nat.lt_of_lt_of_le hi h.2.2.2.1) hL).trans (h.2.2.2.2 i hi hL)⟩
theorem Kept.wide {L M : List Nat} {a b : World} (h : Kept L a b) (hs : ∀ k ∈ L, k ∈ M) : Kept M a b := ⟨h.1, h.2.1, h.2.2.1, h.2.2.2.1, fun k hk hM => h.2.2.2.2 k hk fun e => hM (hs k e)⟩
theorem Kept.size {L : List Nat} {a b : World} (h : Kept L a b) : a.heap.size ≤ b.heap.size := h.2.2.2.1
theorem Kept.below {L : List Nat} {w w' w0 : World} {B : Nat} (h : Kept L w w') (hb : Below B w0 w) (hB : B ≤ w.heap.size) (hL : ∀ k ∈ L, B ≤ k) : Below B w0 w' :=
  hb.trans ⟨h.1, h.2.1, h.2.2.1, h.2.2.2.1, fun k hk => h.2.2.2.2 k (by omega) fun e => by have := hL k e; omega⟩
theorem Kept.set {w : World} {B i : Nat} {v : Value} : Kept [B] w (w.setCell ⟨B, i, none⟩ v) :=
  ⟨rfl, rfl, rfl, by simp [World.setCell], fun k _ hL => Below.heap_setCell _ _ _ _ (by simpa using hL)⟩
theorem Own.keep {k : IntKind} {T : TypeId} {L : List Nat} {w w' : World} {base g n cap : Nat} {zs : List Int} (h : Own k T w base (.slice (some ⟨g, 0, none⟩) n cap) zs) (q : Kept L w w') (hg : g ∉ L) : Own k T w' base (.slice (some ⟨g, 0, none⟩) n cap) zs := by
  have hlt := h.facts.2.2.1
  refine ⟨⟨h.1.1, ?_⟩, h.2⟩
  rcases h.1.2 with ⟨h', _⟩ | ⟨g', cap', cur, h1, h2, h3, h4⟩
  · cases h'
  · cases h1
    exact .inr ⟨g, _, cur, rfl, h2, (q.2.2.2.2 g hlt hg).trans h3, h4⟩
/-- A buffer: its block, the block of its numbers. -/
def Bf (k : IntKind) (T TB : TypeId) (w : World) (B b : Nat) (h u c : Int) (zs : List Int) : Prop :=
  ∃ n cap, w.heap[B]? = some (.cells #[.int .i64 h, .int .i64 u, .int .i64 c, .slice (some ⟨b, 0, none⟩) n cap] TB (0, 0)) ∧ Own k T w 0 (.slice (some ⟨b, 0, none⟩) n cap) zs
theorem Bf.kept {k : IntKind} {T TB : TypeId} {L : List Nat} {w w' : World} {B b : Nat} {h u c : Int} {zs : List Int} (f : Bf k T TB w B b h u c zs) (q : Kept L w w') (hB : B ∉ L) (hb : b ∉ L) : Bf k T TB w' B b h u c zs := by
  obtain ⟨n, cap, h1, h2⟩ := f
  exact ⟨n, cap, (q.2.2.2.2 B (lt_of_heap h1) hB).trans h1, h2.keep q hb⟩
theorem Bf.below {k : IntKind} {T TB : TypeId} {w w' : World} {B b : Nat} {h u c : Int} {zs : List Int} (f : Bf k T TB w B b h u c zs) (q : Below w.heap.size w w') : Bf k T TB w' B b h u c zs := f.kept (L := []) (Kept.of q) (by simp) (by simp)
theorem Bf.lt {k : IntKind} {T TB : TypeId} {w : World} {B b : Nat} {h u c : Int} {zs : List Int} (f : Bf k T TB w B b h u c zs) : B < w.heap.size ∧ b < w.heap.size := by
  obtain ⟨n, cap, h1, h2⟩ := f
  exact ⟨lt_of_heap h1, h2.facts.2.2.1⟩
/-- Blocks of other types are other blocks. -/
theorem Own.cells {k : IntKind} {T : TypeId} {w : World} {base g n cap : Nat} {zs : List Int} (h : Own k T w base (.slice (some ⟨g, 0, none⟩) n cap) zs) : ∃ cs, w.heap[g]? = some (.cells cs T (0, 0)) := by
  rcases h.1.2 with ⟨h', _⟩ | ⟨g', cap', cur, h1, h2, h3, h4⟩
  · cases h'
  · cases h1; exact ⟨cur, h3⟩
theorem Bf.cells {k : IntKind} {T TB : TypeId} {w : World} {B b : Nat} {h u c : Int} {zs : List Int} (f : Bf k T TB w B b h u c zs) : (∃ cs, w.heap[B]? = some (.cells cs TB (0, 0))) ∧ ∃ cs, w.heap[b]? = some (.cells cs T (0, 0)) := by
  obtain ⟨n, cap, h1, h2⟩ := f
  exact ⟨⟨_, h1⟩, h2.cells⟩
theorem ne_of_type {w : World} {A B : Nat} {S T : TypeId} (hA : ∃ cs, w.heap[A]? = some (.cells cs S (0, 0))) (hB : ∃ cs, w.heap[B]? = some (.cells cs T (0, 0))) (h : S ≠ T) : A ≠ B := by
  rintro rfl
  obtain ⟨c, hc⟩ := hA
  obtain ⟨d, hd⟩ := hB
  rw [hc] at hd
  cases hd
  exact h rfl
theorem Bf.set {k : IntKind} {T TB : TypeId} {w : World} {B b i : Nat} {h u c z : Int} {zs : List Int} (f : Bf k T TB w B b h u c zs) (hz : (Lit.int k z).wf = true) (ht : TB ≠ T) : Bf k T TB (w.setCell ⟨b, i, none⟩ (.int k z)) B b h u c (zs.set i z) := by
  have hne := ne_of_type f.cells.1 f.cells.2 ht
  obtain ⟨n, cap, h1, h2⟩ := f
  exact ⟨n, cap, (Below.heap_setCell _ _ _ _ hne).trans h1, (h2.set hz).1⟩
theorem Bf.wf {k : IntKind} {T TB : TypeId} {w : World} {B b : Nat} {h u c : Int} {zs : List Int} (f : Bf k T TB w B b h u c zs) : Wf k zs := by
  obtain ⟨n, cap, h1, h2⟩ := f
  exact h2.2
set_option maxHeartbeats 1000000 in
theorem copied_i8 (a : Option Addr) (len cap : Nat) (zs : List Int) (w : World) (hr : IRow .i8 w a len cap zs) (hs : len ≤ 1048576) :
    Calls Try.prog 37 #[.slice a len cap] w fun e w' => ∃ g, e = .returned (.slice (some ⟨g, 0, none⟩) len len) ∧ Own .i8 31 w' w.heap.size (.slice (some ⟨g, 0, none⟩) len len) zs ∧ Below w.heap.size w w' := by
  have hl : Hid (zs.length = len) := hr.1
  have hw : Wf .i8 zs := hr.2.2.2.1
  have hcm := hr.2.1
  have hmm := hr.2.2.1
  unfold maxLen at hmm
  have b0 := bal w (.cells (Array.replicate len (Value.int .i8 0)) 31)
  have hr0 := hr.below b0
  have hp : Hid (0 < (zs.map (Value.int .i8)).length → ∃ ad, a = some ad ∧ ∀ j v, (zs.map (Value.int .i8))[j]? = some v → (w.alloc (.cells (Array.replicate len (Value.int .i8 0)) 31)).cell? (ad.add j) = some v) := by
    intro h
    simp only [List.length_map] at h
    obtain ⟨x, c, rfl, _⟩ := hr.at (i := 0) (by rw [← hl.out]; exact h)
    refine ⟨x, rfl, fun j v hj => ?_⟩
    rw [List.getElem?_map] at hj
    obtain ⟨hlt, -⟩ := List.getElem?_eq_some_iff.1 (show zs[j]? = some (zs.getD j 0) from by
      cases hz : zs[j]? with
      | none => rw [hz] at hj; cases hj
      | some z => simp [List.getD, hz])
    rw [hr0.2.2.2.2.2 x rfl j (by rw [← hl.out]; exact hlt)]
    simp [List.getD, List.getElem?_eq_getElem hlt] at hj ⊢
    exact hj
  clear hr hr0
  go_enter Try.func37, Try.ntmps37
  go_wp2_with (first
    | (at_make; refine wpList_mak kt_i8 rfl (.tmp 5) rfl len _ rfl (by omega) (by omega) ?_; intro _)
    | ((refine wpList_copy_splice rfl (.tmp 7) (.tmp 8) 24 24 rfl 31 Try.underlying24 (siz_of kt_i8.2.1) _ _ _ _ _ _ rfl rfl w.heap.size 0 (Array.replicate len (Value.int .i8 0)).toList 31 (heap_alloc_new w _) (zs.map (Value.int .i8)) (by simp [hl.out]) (fun h => ⟨rfl, hp.out h⟩) (by have := hl.out; simp; omega) (ints_oneCell _ _) w.heap.size w b0 (Nat.le_refl _) ?_); intro w1 hw1 b1))
  have own1 : Own .i8 31 w1 w.heap.size (.slice (some ⟨w.heap.size, 0, none⟩) zs.length zs.length) zs := by
    have h1 := hw1.out
    rw [splice_all _ _ (by simp [hl.out])] at h1
    exact own_full h1 hw (by rw [hl.out]; unfold maxLen; omega) (Nat.le_refl _)
  rw [hl.out] at own1
  have own2 : Hid (Own .i8 31 w1 w.heap.size (.slice (some ⟨w.heap.size, 0, none⟩) len len) zs) := own1
  clear own1 hw1 hp b0
  go_simp
  go_ret
  exact ⟨w.heap.size, rfl, own2.out, b1⟩
theorem len_i8 (B b : Nat) (h u c : Int) (zs : List Int) (w : World) (f : Bf .i8 31 81 w B b h u c zs) :
    Calls Try.prog 31 #[.pointer (some ⟨B, 0, none⟩)] w fun e w' => e = .returned (.int .i64 (zs.length : Nat)) ∧ w' = w := by
  obtain ⟨n, cap, hB, own⟩ := f
  obtain ⟨cB, fB, zB⟩ := cells_at hB
  rw [own.len]
  clear hB own
  go_enter Try.func31, Try.ntmps31
  go_wp2
  go_ret
  exact ⟨rfl, rfl⟩
theorem shape_i8 (B b : Nat) (h u c : Int) (zs : List Int) (w : World) (f : Bf .i8 31 81 w B b h u c zs) :
    Calls Try.prog 38 #[.pointer (some ⟨B, 0, none⟩)] w fun e w' => e = .returned (.agg #[.int .i64 h, .int .i64 u, .int .i64 c]) ∧ Below w.heap.size w w' := by
  obtain ⟨n, cap, hB, own⟩ := f
  obtain ⟨cB, fB, zB⟩ := cells_at hB
  clear hB own
  go_enter Try.func38, Try.ntmps38
  go_wp2
  exact bodyPost_ret (v := .agg #[.int .i64 h, .int .i64 u, .int .i64 c]) (by simp [results, Try.results38, go_sem]) rfl ⟨rfl, (St.start w).new.below⟩
theorem list_i8 (B b : Nat) (h u c : Int) (zs : List Int) (w : World) (f : Bf .i8 31 81 w B b h u c zs) (hs : zs.length ≤ 1048576) :
    Calls Try.prog 21 #[.pointer (some ⟨B, 0, none⟩)] w fun e w' => ∃ g, e = .returned (.slice (some ⟨g, 0, none⟩) zs.length zs.length) ∧ Own .i8 31 w' w.heap.size (.slice (some ⟨g, 0, none⟩) zs.length zs.length) zs ∧ Below w.heap.size w w' := by
  obtain ⟨n, cap, hB, own⟩ := f
  obtain ⟨cB, fB, zB⟩ := cells_at hB
  have row := own.facts.2.2.2.2.2.1
  rw [own.len] at hs ⊢
  clear hB own
  go_enter Try.func21, Try.ntmps21
  go_wp2_with fail
  refine (copied_i8 _ _ _ _ _ row hs).mono ?_
  rintro e w1 ⟨g, rfl, own1, b1⟩
  have own2 : Hid (Own .i8 31 w1 w.heap.size (.slice (some ⟨g, 0, none⟩) n n) zs) := own1
  clear own1
  go_wp2
  go_ret
  exact ⟨g, rfl, own2.out, b1⟩
set_option maxHeartbeats 1000000 in
theorem copied_i16 (a : Option Addr) (len cap : Nat) (zs : List Int) (w : World) (hr : IRow .i16 w a len cap zs) (hs : len ≤ 1048576) :
    Calls Try.prog 45 #[.slice a len cap] w fun e w' => ∃ g, e = .returned (.slice (some ⟨g, 0, none⟩) len len) ∧ Own .i16 51 w' w.heap.size (.slice (some ⟨g, 0, none⟩) len len) zs ∧ Below w.heap.size w w' := by
  have hl : Hid (zs.length = len) := hr.1
  have hw : Wf .i16 zs := hr.2.2.2.1
  have hcm := hr.2.1
  have hmm := hr.2.2.1
  unfold maxLen at hmm
  have b0 := bal w (.cells (Array.replicate len (Value.int .i16 0)) 51)
  have hr0 := hr.below b0
  have hp : Hid (0 < (zs.map (Value.int .i16)).length → ∃ ad, a = some ad ∧ ∀ j v, (zs.map (Value.int .i16))[j]? = some v → (w.alloc (.cells (Array.replicate len (Value.int .i16 0)) 51)).cell? (ad.add j) = some v) := by
    intro h
    simp only [List.length_map] at h
    obtain ⟨x, c, rfl, _⟩ := hr.at (i := 0) (by rw [← hl.out]; exact h)
    refine ⟨x, rfl, fun j v hj => ?_⟩
    rw [List.getElem?_map] at hj
    obtain ⟨hlt, -⟩ := List.getElem?_eq_some_iff.1 (show zs[j]? = some (zs.getD j 0) from by
      cases hz : zs[j]? with
      | none => rw [hz] at hj; cases hj
      | some z => simp [List.getD, hz])
    rw [hr0.2.2.2.2.2 x rfl j (by rw [← hl.out]; exact hlt)]
    simp [List.getD, List.getElem?_eq_getElem hlt] at hj ⊢
    exact hj
  clear hr hr0
  go_enter Try.func45, Try.ntmps45
  go_wp2_with (first
    | (at_make; refine wpList_mak kt_i16 rfl (.tmp 5) rfl len _ rfl (by omega) (by omega) ?_; intro _)
    | ((refine wpList_copy_splice rfl (.tmp 7) (.tmp 8) 47 47 rfl 51 Try.underlying47 (siz_of kt_i16.2.1) _ _ _ _ _ _ rfl rfl w.heap.size 0 (Array.replicate len (Value.int .i16 0)).toList 51 (heap_alloc_new w _) (zs.map (Value.int .i16)) (by simp [hl.out]) (fun h => ⟨rfl, hp.out h⟩) (by have := hl.out; simp; omega) (ints_oneCell _ _) w.heap.size w b0 (Nat.le_refl _) ?_); intro w1 hw1 b1))
  have own1 : Own .i16 51 w1 w.heap.size (.slice (some ⟨w.heap.size, 0, none⟩) zs.length zs.length) zs := by
    have h1 := hw1.out
    rw [splice_all _ _ (by simp [hl.out])] at h1
    exact own_full h1 hw (by rw [hl.out]; unfold maxLen; omega) (Nat.le_refl _)
  rw [hl.out] at own1
  have own2 : Hid (Own .i16 51 w1 w.heap.size (.slice (some ⟨w.heap.size, 0, none⟩) len len) zs) := own1
  clear own1 hw1 hp b0
  go_simp
  go_ret
  exact ⟨w.heap.size, rfl, own2.out, b1⟩
theorem len_i16 (B b : Nat) (h u c : Int) (zs : List Int) (w : World) (f : Bf .i16 51 95 w B b h u c zs) :
    Calls Try.prog 28 #[.pointer (some ⟨B, 0, none⟩)] w fun e w' => e = .returned (.int .i64 (zs.length : Nat)) ∧ w' = w := by
  obtain ⟨n, cap, hB, own⟩ := f
  obtain ⟨cB, fB, zB⟩ := cells_at hB
  rw [own.len]
  clear hB own
  go_enter Try.func28, Try.ntmps28
  go_wp2
  go_ret
  exact ⟨rfl, rfl⟩
theorem shape_i16 (B b : Nat) (h u c : Int) (zs : List Int) (w : World) (f : Bf .i16 51 95 w B b h u c zs) :
    Calls Try.prog 29 #[.pointer (some ⟨B, 0, none⟩)] w fun e w' => e = .returned (.agg #[.int .i64 h, .int .i64 u, .int .i64 c]) ∧ Below w.heap.size w w' := by
  obtain ⟨n, cap, hB, own⟩ := f
  obtain ⟨cB, fB, zB⟩ := cells_at hB
  clear hB own
  go_enter Try.func29, Try.ntmps29
  go_wp2
  exact bodyPost_ret (v := .agg #[.int .i64 h, .int .i64 u, .int .i64 c]) (by simp [results, Try.results29, go_sem]) rfl ⟨rfl, (St.start w).new.below⟩
theorem list_i16 (B b : Nat) (h u c : Int) (zs : List Int) (w : World) (f : Bf .i16 51 95 w B b h u c zs) (hs : zs.length ≤ 1048576) :
    Calls Try.prog 30 #[.pointer (some ⟨B, 0, none⟩)] w fun e w' => ∃ g, e = .returned (.slice (some ⟨g, 0, none⟩) zs.length zs.length) ∧ Own .i16 51 w' w.heap.size (.slice (some ⟨g, 0, none⟩) zs.length zs.length) zs ∧ Below w.heap.size w w' := by
  obtain ⟨n, cap, hB, own⟩ := f
  obtain ⟨cB, fB, zB⟩ := cells_at hB
  have row := own.facts.2.2.2.2.2.1
  rw [own.len] at hs ⊢
  clear hB own
  go_enter Try.func30, Try.ntmps30
  go_wp2_with fail
  refine (copied_i16 _ _ _ _ _ row hs).mono ?_
  rintro e w1 ⟨g, rfl, own1, b1⟩
  have own2 : Hid (Own .i16 51 w1 w.heap.size (.slice (some ⟨g, 0, none⟩) n n) zs) := own1
  clear own1
  go_wp2
  go_ret
  exact ⟨g, rfl, own2.out, b1⟩
set_option maxHeartbeats 1000000 in
theorem copied_i32 (a : Option Addr) (len cap : Nat) (zs : List Int) (w : World) (hr : IRow .i32 w a len cap zs) (hs : len ≤ 1048576) :
    Calls Try.prog 61 #[.slice a len cap] w fun e w' => ∃ g, e = .returned (.slice (some ⟨g, 0, none⟩) len len) ∧ Own .i32 21 w' w.heap.size (.slice (some ⟨g, 0, none⟩) len len) zs ∧ Below w.heap.size w w' := by
  have hl : Hid (zs.length = len) := hr.1
  have hw : Wf .i32 zs := hr.2.2.2.1
  have hcm := hr.2.1
  have hmm := hr.2.2.1
  unfold maxLen at hmm
  have b0 := bal w (.cells (Array.replicate len (Value.int .i32 0)) 21)
  have hr0 := hr.below b0
  have hp : Hid (0 < (zs.map (Value.int .i32)).length → ∃ ad, a = some ad ∧ ∀ j v, (zs.map (Value.int .i32))[j]? = some v → (w.alloc (.cells (Array.replicate len (Value.int .i32 0)) 21)).cell? (ad.add j) = some v) := by
    intro h
    simp only [List.length_map] at h
    obtain ⟨x, c, rfl, _⟩ := hr.at (i := 0) (by rw [← hl.out]; exact h)
    refine ⟨x, rfl, fun j v hj => ?_⟩
    rw [List.getElem?_map] at hj
    obtain ⟨hlt, -⟩ := List.getElem?_eq_some_iff.1 (show zs[j]? = some (zs.getD j 0) from by
      cases hz : zs[j]? with
      | none => rw [hz] at hj; cases hj
      | some z => simp [List.getD, hz])
    rw [hr0.2.2.2.2.2 x rfl j (by rw [← hl.out]; exact hlt)]
    simp [List.getD, List.getElem?_eq_getElem hlt] at hj ⊢
    exact hj
  clear hr hr0
  go_enter Try.func61, Try.ntmps61
  go_wp2_with (first
    | (at_make; refine wpList_mak kt_i32 rfl (.tmp 5) rfl len _ rfl (by omega) (by omega) ?_; intro _)
    | ((refine wpList_copy_splice rfl (.tmp 7) (.tmp 8) 103 103 rfl 21 Try.underlying103 (siz_of kt_i32.2.1) _ _ _ _ _ _ rfl rfl w.heap.size 0 (Array.replicate len (Value.int .i32 0)).toList 21 (heap_alloc_new w _) (zs.map (Value.int .i32)) (by simp [hl.out]) (fun h => ⟨rfl, hp.out h⟩) (by have := hl.out; simp; omega) (ints_oneCell _ _) w.heap.size w b0 (Nat.le_refl _) ?_); intro w1 hw1 b1))
  have own1 : Own .i32 21 w1 w.heap.size (.slice (some ⟨w.heap.size, 0, none⟩) zs.length zs.length) zs := by
    have h1 := hw1.out
    rw [splice_all _ _ (by simp [hl.out])] at h1
    exact own_full h1 hw (by rw [hl.out]; unfold maxLen; omega) (Nat.le_refl _)
  rw [hl.out] at own1
  have own2 : Hid (Own .i32 21 w1 w.heap.size (.slice (some ⟨w.heap.size, 0, none⟩) len len) zs) := own1
  clear own1 hw1 hp b0
  go_simp
  go_ret
  exact ⟨w.heap.size, rfl, own2.out, b1⟩
theorem len_i32 (B b : Nat) (h u c : Int) (zs : List Int) (w : World) (f : Bf .i32 21 105 w B b h u c zs) :
    Calls Try.prog 52 #[.pointer (some ⟨B, 0, none⟩)] w fun e w' => e = .returned (.int .i64 (zs.length : Nat)) ∧ w' = w := by
  obtain ⟨n, cap, hB, own⟩ := f
  obtain ⟨cB, fB, zB⟩ := cells_at hB
  rw [own.len]
  clear hB own
  go_enter Try.func52, Try.ntmps52
  go_wp2
  go_ret
  exact ⟨rfl, rfl⟩
theorem shape_i32 (B b : Nat) (h u c : Int) (zs : List Int) (w : World) (f : Bf .i32 21 105 w B b h u c zs) :
    Calls Try.prog 53 #[.pointer (some ⟨B, 0, none⟩)] w fun e w' => e = .returned (.agg #[.int .i64 h, .int .i64 u, .int .i64 c]) ∧ Below w.heap.size w w' := by
  obtain ⟨n, cap, hB, own⟩ := f
  obtain ⟨cB, fB, zB⟩ := cells_at hB
  clear hB own
  go_enter Try.func53, Try.ntmps53
  go_wp2
  exact bodyPost_ret (v := .agg #[.int .i64 h, .int .i64 u, .int .i64 c]) (by simp [results, Try.results53, go_sem]) rfl ⟨rfl, (St.start w).new.below⟩
theorem list_i32 (B b : Nat) (h u c : Int) (zs : List Int) (w : World) (f : Bf .i32 21 105 w B b h u c zs) (hs : zs.length ≤ 1048576) :
    Calls Try.prog 55 #[.pointer (some ⟨B, 0, none⟩)] w fun e w' => ∃ g, e = .returned (.slice (some ⟨g, 0, none⟩) zs.length zs.length) ∧ Own .i32 21 w' w.heap.size (.slice (some ⟨g, 0, none⟩) zs.length zs.length) zs ∧ Below w.heap.size w w' := by
  obtain ⟨n, cap, hB, own⟩ := f
  obtain ⟨cB, fB, zB⟩ := cells_at hB
  have row := own.facts.2.2.2.2.2.1
  rw [own.len] at hs ⊢
  clear hB own
  go_enter Try.func55, Try.ntmps55
  go_wp2_with fail
  refine (copied_i32 _ _ _ _ _ row hs).mono ?_
  rintro e w1 ⟨g, rfl, own1, b1⟩
  have own2 : Hid (Own .i32 21 w1 w.heap.size (.slice (some ⟨g, 0, none⟩) n n) zs) := own1
  clear own1
  go_wp2
  go_ret
  exact ⟨g, rfl, own2.out, b1⟩
set_option maxHeartbeats 1000000 in
theorem copied_i64 (a : Option Addr) (len cap : Nat) (zs : List Int) (w : World) (hr : IRow .i64 w a len cap zs) (hs : len ≤ 1048576) :
    Calls Try.prog 62 #[.slice a len cap] w fun e w' => ∃ g, e = .returned (.slice (some ⟨g, 0, none⟩) len len) ∧ Own .i64 2 w' w.heap.size (.slice (some ⟨g, 0, none⟩) len len) zs ∧ Below w.heap.size w w' := by
  have hl : Hid (zs.length = len) := hr.1
  have hw : Wf .i64 zs := hr.2.2.2.1
  have hcm := hr.2.1
  have hmm := hr.2.2.1
  unfold maxLen at hmm
  have b0 := bal w (.cells (Array.replicate len (Value.int .i64 0)) 2)
  have hr0 := hr.below b0
  have hp : Hid (0 < (zs.map (Value.int .i64)).length → ∃ ad, a = some ad ∧ ∀ j v, (zs.map (Value.int .i64))[j]? = some v → (w.alloc (.cells (Array.replicate len (Value.int .i64 0)) 2)).cell? (ad.add j) = some v) := by
    intro h
    simp only [List.length_map] at h
    obtain ⟨x, c, rfl, _⟩ := hr.at (i := 0) (by rw [← hl.out]; exact h)
    refine ⟨x, rfl, fun j v hj => ?_⟩
    rw [List.getElem?_map] at hj
    obtain ⟨hlt, -⟩ := List.getElem?_eq_some_iff.1 (show zs[j]? = some (zs.getD j 0) from by
      cases hz : zs[j]? with
      | none => rw [hz] at hj; cases hj
      | some z => simp [List.getD, hz])
    rw [hr0.2.2.2.2.2 x rfl j (by rw [← hl.out]; exact hlt)]
    simp [List.getD, List.getElem?_eq_getElem hlt] at hj ⊢
    exact hj
  clear hr hr0
  go_enter Try.func62, Try.ntmps62
  go_wp2_with (first
    | (at_make; refine wpList_mak kt_i64 rfl (.tmp 5) rfl len _ rfl (by omega) (by omega) ?_; intro _)
    | ((refine wpList_copy_splice rfl (.tmp 7) (.tmp 8) 34 34 rfl 2 Try.underlying34 (siz_of kt_i64.2.1) _ _ _ _ _ _ rfl rfl w.heap.size 0 (Array.replicate len (Value.int .i64 0)).toList 2 (heap_alloc_new w _) (zs.map (Value.int .i64)) (by simp [hl.out]) (fun h => ⟨rfl, hp.out h⟩) (by have := hl.out; simp; omega) (ints_oneCell _ _) w.heap.size w b0 (Nat.le_refl _) ?_); intro w1 hw1 b1))
  have own1 : Own .i64 2 w1 w.heap.size (.slice (some ⟨w.heap.size, 0, none⟩) zs.length zs.length) zs := by
    have h1 := hw1.out
    rw [splice_all _ _ (by simp [hl.out])] at h1
    exact own_full h1 hw (by rw [hl.out]; unfold maxLen; omega) (Nat.le_refl _)
  rw [hl.out] at own1
  have own2 : Hid (Own .i64 2 w1 w.heap.size (.slice (some ⟨w.heap.size, 0, none⟩) len len) zs) := own1
  clear own1 hw1 hp b0
  go_simp
  go_ret
  exact ⟨w.heap.size, rfl, own2.out, b1⟩
theorem len_i64 (B b : Nat) (h u c : Int) (zs : List Int) (w : World) (f : Bf .i64 2 109 w B b h u c zs) :
    Calls Try.prog 56 #[.pointer (some ⟨B, 0, none⟩)] w fun e w' => e = .returned (.int .i64 (zs.length : Nat)) ∧ w' = w := by
  obtain ⟨n, cap, hB, own⟩ := f
  obtain ⟨cB, fB, zB⟩ := cells_at hB
  rw [own.len]
  clear hB own
  go_enter Try.func56, Try.ntmps56
  go_wp2
  go_ret
  exact ⟨rfl, rfl⟩
theorem shape_i64 (B b : Nat) (h u c : Int) (zs : List Int) (w : World) (f : Bf .i64 2 109 w B b h u c zs) :
    Calls Try.prog 57 #[.pointer (some ⟨B, 0, none⟩)] w fun e w' => e = .returned (.agg #[.int .i64 h, .int .i64 u, .int .i64 c]) ∧ Below w.heap.size w w' := by
  obtain ⟨n, cap, hB, own⟩ := f
  obtain ⟨cB, fB, zB⟩ := cells_at hB
  clear hB own
  go_enter Try.func57, Try.ntmps57
  go_wp2
  exact bodyPost_ret (v := .agg #[.int .i64 h, .int .i64 u, .int .i64 c]) (by simp [results, Try.results57, go_sem]) rfl ⟨rfl, (St.start w).new.below⟩
theorem list_i64 (B b : Nat) (h u c : Int) (zs : List Int) (w : World) (f : Bf .i64 2 109 w B b h u c zs) (hs : zs.length ≤ 1048576) :
    Calls Try.prog 59 #[.pointer (some ⟨B, 0, none⟩)] w fun e w' => ∃ g, e = .returned (.slice (some ⟨g, 0, none⟩) zs.length zs.length) ∧ Own .i64 2 w' w.heap.size (.slice (some ⟨g, 0, none⟩) zs.length zs.length) zs ∧ Below w.heap.size w w' := by
  obtain ⟨n, cap, hB, own⟩ := f
  obtain ⟨cB, fB, zB⟩ := cells_at hB
  have row := own.facts.2.2.2.2.2.1
  rw [own.len] at hs ⊢
  clear hB own
  go_enter Try.func59, Try.ntmps59
  go_wp2_with fail
  refine (copied_i64 _ _ _ _ _ row hs).mono ?_
  rintro e w1 ⟨g, rfl, own1, b1⟩
  have own2 : Hid (Own .i64 2 w1 w.heap.size (.slice (some ⟨g, 0, none⟩) n n) zs) := own1
  clear own1
  go_wp2
  go_ret
  exact ⟨g, rfl, own2.out, b1⟩
end Go.Proofs.Ytedbcnkgembhbaa
