/- What Length, Channels and Positions of package terms return. plain and fixed of law10. The law's own model and fixed answers of layer 11. The document's Same of layer 11, of lists that are the same; faults compared. Fronts of tensors in plain numbers; between which ends they lie. -/
import Derived.Test.YtdknofbnhjdfjaaGr22
import Derived.Test.YtdknofbnhjdfjaaGr24
import Derived.Test.YtdknofbnhjdfjaaGr25
import Derived.Test.YtdknofbnhjdfjaaGr27
/- What Length, Channels and Positions of package terms return. -/
namespace Go.Proofs.Ytdknofbnhjdfjaa
open Go.ChangeShapes Go.WideShapes Go.ChangeAt Go.RowKit
set_option linter.unusedVariables false
set_option maxRecDepth 100000 in
set_option maxHeartbeats 2000000 in
theorem lenT_bad (h w c lo hi ot : Int) (oa : Option Addr) (on oc : Nat) (O : Nat → Nat → Int) (Z B : Nat → List Int) (W : World) (hL : LRow W oa on oc O Z B) (op E : Int) (hf : fiE O h w c lo hi ot on op = E) (hE : E ≠ 0) :
    Calls Try.prog 11 #[.agg #[.int .i64 h, .int .i64 w, .int .i64 c, .int .i64 lo, .int .i64 hi, .slice oa on oc, .int .i64 ot], .int .i64 op] W fun e w' => e = .returned (.tuple #[.int .i64 0, .int .i64 E]) ∧ Below W.heap.size W w' := by
  have s0 := (St.start W).new (c := #[.int .i64 h, .int .i64 w, .int .i64 c, .int .i64 lo, .int .i64 hi, .slice oa on oc, .int .i64 ot]) (t := 26)
  have hF : Hid (∀ W', Below W.heap.size W W' → _) := fun W' hb => find_bad h w c lo hi ot oa on oc O Z B W' (hL.below hb) op E hf hE
  have hE' : (E == 0) = false := by simp [hE]
  clear hf hL
  go_enter Try.func11, Try.ntmps11
  go_wp2_with fail
  refine (hF.out _ s0.below).mono ?_
  rintro e w1 ⟨rfl, hb⟩
  have s1 := (s0.call hb).new (c := #[.int .i64 0, .int .i64 0, .int .i64 0, .int .i64 0, .int .i64 0, .int .i64 0, .int .i64 0, .int .i64 0, .int .i64 0, .int .i64 0, .int .i64 0, .int .i64 0, .slice none 0 0, .slice none 0 0, .int .i64 0, .int .i64 0, .int .i64 0, .int .i64 0, .int .i64 0, .int .i64 0, .int .i64 0, .int .i64 0, .int .i64 0, .int .i64 0, .int .i64 0, .int .i64 0, .int .i64 0, .int .i64 0]) (t := 89)
  clear hb
  go_wp2_with (refine wpList_st_new rfl 89 (.tmp 6) (.tmp 12) rfl w1 _ #[.int .i64 0, .int .i64 0, .int .i64 0, .int .i64 0, .int .i64 0, .int .i64 0, .int .i64 0, .int .i64 0, .int .i64 0, .int .i64 0, .int .i64 0, .int .i64 0, .slice none 0 0, .slice none 0 0, .int .i64 0, .int .i64 0, .int .i64 0, .int .i64 0, .int .i64 0, .int .i64 0, .int .i64 0, .int .i64 0, .int .i64 0, .int .i64 0, .int .i64 0, .int .i64 0, .int .i64 0, .int .i64 0] rfl rfl (by kernel_rfl) rfl (by simp [Value.oneCell']) ?_)
  go_ret2
  exact ⟨rfl, s1.below⟩
set_option maxRecDepth 100000 in
set_option maxHeartbeats 2000000 in
theorem lenT_ok (h w c lo hi ot : Int) (oa : Option Addr) (on oc : Nat) (O : Nat → Nat → Int) (Z B : Nat → List Int) (W : World) (hL : LRow W oa on oc O Z B) (RL : List (Int × Int × Int)) (Rw : Int) (hR : gtR O h w c lo hi ot on = (0, 0, RL, Rw)) (i : Nat) (x : Addr) (wa : Option Addr) (lw cw : Nat) (ba : Option Addr) (lb cb : Nat) (x0 y0 z0 H V C : Int) (hF : Fnd W oa on O Z B RL i x wa lw cw ba lb cb x0 y0 z0 H V C) :
    Calls Try.prog 11 #[.agg #[.int .i64 h, .int .i64 w, .int .i64 c, .int .i64 lo, .int .i64 hi, .slice oa on oc, .int .i64 ot], .int .i64 ((i : Int) + 1)] W fun e w' => e = .returned (.tuple #[.int .i64 (stR (O i 0) (O i 4) (O i 5) x0 y0 z0), .int .i64 0]) ∧ Below W.heap.size W w' := by
  have s0 := (St.start W).new (c := #[.int .i64 h, .int .i64 w, .int .i64 c, .int .i64 lo, .int .i64 hi, .slice oa on oc, .int .i64 ot]) (t := 26)
  have hSit : Hid (Sit (O i 0) (O i 4) (O i 5) (O i 6) (O i 7) (O i 8) (O i 9) (O i 10) (O i 11) x0 y0 z0 H V C lw lb) := hF.2.2.2.2.2.2.2.2.2.1
  have hK : Hid (∀ W', Below W.heap.size W W' → _) := fun W' hb => find_ok h w c lo hi ot oa on oc O Z B W' (hL.below hb) RL Rw hR i x wa lw cw ba lb cb x0 y0 z0 H V C (hF.below hb)
  clear hF hR hL
  go_enter Try.func11, Try.ntmps11
  go_wp2_with fail
  refine (hK.out _ s0.below).mono ?_
  rintro e w1 ⟨rfl, hb⟩
  have s1 := (s0.call hb).new (c := #[.int .i64 (O i 0), .int .i64 (O i 1), .int .i64 (O i 2), .int .i64 (O i 3), .int .i64 (O i 4), .int .i64 (O i 5), .int .i64 (O i 6), .int .i64 (O i 7), .int .i64 (O i 8), .int .i64 (O i 9), .int .i64 (O i 10), .int .i64 (O i 11), .slice wa lw cw, .slice ba lb cb, .int .i64 (O i 14), .int .i64 (O i 15), .int .i64 (O i 16), .int .i64 (O i 17), .int .i64 (O i 18), .int .i64 (O i 19), .int .i64 (O i 20), .int .i64 (O i 21), .int .i64 x0, .int .i64 y0, .int .i64 z0, .int .i64 H, .int .i64 V, .int .i64 C]) (t := 89)
  clear hb
  go_wp2_with (refine wpList_st_new rfl 89 (.tmp 6) (.tmp 12) rfl w1 _ #[.int .i64 (O i 0), .int .i64 (O i 1), .int .i64 (O i 2), .int .i64 (O i 3), .int .i64 (O i 4), .int .i64 (O i 5), .int .i64 (O i 6), .int .i64 (O i 7), .int .i64 (O i 8), .int .i64 (O i 9), .int .i64 (O i 10), .int .i64 (O i 11), .slice wa lw cw, .slice ba lb cb, .int .i64 (O i 14), .int .i64 (O i 15), .int .i64 (O i 16), .int .i64 (O i 17), .int .i64 (O i 18), .int .i64 (O i 19), .int .i64 (O i 20), .int .i64 (O i 21), .int .i64 x0, .int .i64 y0, .int .i64 z0, .int .i64 H, .int .i64 V, .int .i64 C] rfl rfl (by kernel_rfl) rfl (by simp [Value.oneCell']) ?_)
  refine (tlen_any (O i 0) (O i 1) (O i 2) (O i 3) (O i 4) (O i 5) (O i 6) (O i 7) (O i 8) (O i 9) (O i 10) (O i 11) wa lw cw ba lb cb (O i 14) (O i 15) (O i 16) (O i 17) (O i 18) (O i 19) (O i 20) (O i 21) x0 y0 z0 H V C _ _ (heap_alloc_new w1 _) hSit.out).mono ?_
  rintro e w2 ⟨rfl, hw2⟩
  have hb2 : Hid (Below W.heap.size W w2) := by first | (obtain ⟨n, rfl⟩ := hw2; exact bt s1.below (dbel _ n)) | (subst hw2; exact s1.below)
  clear hw2
  go_wp2
  go_ret2
  exact ⟨rfl, hb2.out⟩
set_option maxRecDepth 100000 in
set_option maxHeartbeats 2000000 in
theorem chaT_bad (h w c lo hi ot : Int) (oa : Option Addr) (on oc : Nat) (O : Nat → Nat → Int) (Z B : Nat → List Int) (W : World) (hL : LRow W oa on oc O Z B) (op E : Int) (hf : fiE O h w c lo hi ot on op = E) (hE : E ≠ 0) :
    Calls Try.prog 12 #[.agg #[.int .i64 h, .int .i64 w, .int .i64 c, .int .i64 lo, .int .i64 hi, .slice oa on oc, .int .i64 ot], .int .i64 op] W fun e w' => e = .returned (.tuple #[.int .i64 0, .int .i64 E]) ∧ Below W.heap.size W w' := by
  have s0 := (St.start W).new (c := #[.int .i64 h, .int .i64 w, .int .i64 c, .int .i64 lo, .int .i64 hi, .slice oa on oc, .int .i64 ot]) (t := 26)
  have hF : Hid (∀ W', Below W.heap.size W W' → _) := fun W' hb => find_bad h w c lo hi ot oa on oc O Z B W' (hL.below hb) op E hf hE
  have hE' : (E == 0) = false := by simp [hE]
  clear hf hL
  go_enter Try.func12, Try.ntmps12
  go_wp2_with fail
  refine (hF.out _ s0.below).mono ?_
  rintro e w1 ⟨rfl, hb⟩
  have s1 := (s0.call hb).new (c := #[.int .i64 0, .int .i64 0, .int .i64 0, .int .i64 0, .int .i64 0, .int .i64 0, .int .i64 0, .int .i64 0, .int .i64 0, .int .i64 0, .int .i64 0, .int .i64 0, .slice none 0 0, .slice none 0 0, .int .i64 0, .int .i64 0, .int .i64 0, .int .i64 0, .int .i64 0, .int .i64 0, .int .i64 0, .int .i64 0, .int .i64 0, .int .i64 0, .int .i64 0, .int .i64 0, .int .i64 0, .int .i64 0]) (t := 89)
  clear hb
  go_wp2_with (refine wpList_st_new rfl 89 (.tmp 6) (.tmp 12) rfl w1 _ #[.int .i64 0, .int .i64 0, .int .i64 0, .int .i64 0, .int .i64 0, .int .i64 0, .int .i64 0, .int .i64 0, .int .i64 0, .int .i64 0, .int .i64 0, .int .i64 0, .slice none 0 0, .slice none 0 0, .int .i64 0, .int .i64 0, .int .i64 0, .int .i64 0, .int .i64 0, .int .i64 0, .int .i64 0, .int .i64 0, .int .i64 0, .int .i64 0, .int .i64 0, .int .i64 0, .int .i64 0, .int .i64 0] rfl rfl (by kernel_rfl) rfl (by simp [Value.oneCell']) ?_)
  go_ret2
  exact ⟨rfl, s1.below⟩
set_option maxRecDepth 100000 in
set_option maxHeartbeats 2000000 in
theorem chaT_ok (h w c lo hi ot : Int) (oa : Option Addr) (on oc : Nat) (O : Nat → Nat → Int) (Z B : Nat → List Int) (W : World) (hL : LRow W oa on oc O Z B) (RL : List (Int × Int × Int)) (Rw : Int) (hR : gtR O h w c lo hi ot on = (0, 0, RL, Rw)) (i : Nat) (x : Addr) (wa : Option Addr) (lw cw : Nat) (ba : Option Addr) (lb cb : Nat) (x0 y0 z0 H V C : Int) (hF : Fnd W oa on O Z B RL i x wa lw cw ba lb cb x0 y0 z0 H V C) :
    Calls Try.prog 12 #[.agg #[.int .i64 h, .int .i64 w, .int .i64 c, .int .i64 lo, .int .i64 hi, .slice oa on oc, .int .i64 ot], .int .i64 ((i : Int) + 1)] W fun e w' => e = .returned (.tuple #[.int .i64 (C), .int .i64 0]) ∧ Below W.heap.size W w' := by
  have s0 := (St.start W).new (c := #[.int .i64 h, .int .i64 w, .int .i64 c, .int .i64 lo, .int .i64 hi, .slice oa on oc, .int .i64 ot]) (t := 26)
  have hSit : Hid (Sit (O i 0) (O i 4) (O i 5) (O i 6) (O i 7) (O i 8) (O i 9) (O i 10) (O i 11) x0 y0 z0 H V C lw lb) := hF.2.2.2.2.2.2.2.2.2.1
  have hK : Hid (∀ W', Below W.heap.size W W' → _) := fun W' hb => find_ok h w c lo hi ot oa on oc O Z B W' (hL.below hb) RL Rw hR i x wa lw cw ba lb cb x0 y0 z0 H V C (hF.below hb)
  clear hF hR hL
  go_enter Try.func12, Try.ntmps12
  go_wp2_with fail
  refine (hK.out _ s0.below).mono ?_
  rintro e w1 ⟨rfl, hb⟩
  have s1 := (s0.call hb).new (c := #[.int .i64 (O i 0), .int .i64 (O i 1), .int .i64 (O i 2), .int .i64 (O i 3), .int .i64 (O i 4), .int .i64 (O i 5), .int .i64 (O i 6), .int .i64 (O i 7), .int .i64 (O i 8), .int .i64 (O i 9), .int .i64 (O i 10), .int .i64 (O i 11), .slice wa lw cw, .slice ba lb cb, .int .i64 (O i 14), .int .i64 (O i 15), .int .i64 (O i 16), .int .i64 (O i 17), .int .i64 (O i 18), .int .i64 (O i 19), .int .i64 (O i 20), .int .i64 (O i 21), .int .i64 x0, .int .i64 y0, .int .i64 z0, .int .i64 H, .int .i64 V, .int .i64 C]) (t := 89)
  clear hb
  go_wp2_with (refine wpList_st_new rfl 89 (.tmp 6) (.tmp 12) rfl w1 _ #[.int .i64 (O i 0), .int .i64 (O i 1), .int .i64 (O i 2), .int .i64 (O i 3), .int .i64 (O i 4), .int .i64 (O i 5), .int .i64 (O i 6), .int .i64 (O i 7), .int .i64 (O i 8), .int .i64 (O i 9), .int .i64 (O i 10), .int .i64 (O i 11), .slice wa lw cw, .slice ba lb cb, .int .i64 (O i 14), .int .i64 (O i 15), .int .i64 (O i 16), .int .i64 (O i 17), .int .i64 (O i 18), .int .i64 (O i 19), .int .i64 (O i 20), .int .i64 (O i 21), .int .i64 x0, .int .i64 y0, .int .i64 z0, .int .i64 H, .int .i64 V, .int .i64 C] rfl rfl (by kernel_rfl) rfl (by simp [Value.oneCell']) ?_)
  refine (tchan_any (O i 0) (O i 1) (O i 2) (O i 3) (O i 4) (O i 5) (O i 6) (O i 7) (O i 8) (O i 9) (O i 10) (O i 11) wa lw cw ba lb cb (O i 14) (O i 15) (O i 16) (O i 17) (O i 18) (O i 19) (O i 20) (O i 21) x0 y0 z0 H V C _ _ (heap_alloc_new w1 _)).mono ?_
  rintro e w2 ⟨rfl, hw2⟩
  have hb2 : Hid (Below W.heap.size W w2) := by first | (obtain ⟨n, rfl⟩ := hw2; exact bt s1.below (dbel _ n)) | (subst hw2; exact s1.below)
  clear hw2
  go_wp2
  go_ret2
  exact ⟨rfl, hb2.out⟩
end Go.Proofs.Ytdknofbnhjdfjaa

/- plain and fixed of law10. -/
namespace Go.Proofs.Ytdknofbnhjdfjaa
open Go.ChangeShapes Go.WideShapes Go.ChangeAt Go.RowKit
set_option linter.unusedVariables false
def plZ (_ : Nat) : List Int := [3, -2]
def plB (_ : Nat) : List Int := [1]
theorem irow_blk {k : IntKind} {w : World} {b : Nat} {T : TypeId} (zs : List Int) (h : w.heap[b]? = some (.cells (zs.map (Value.int k)).toArray T (0, 0))) (hw : ∀ z ∈ zs, (Lit.int k z).wf = true) (hm : zs.length ≤ 1000) : IRow k w (some ⟨b, 0, none⟩) zs.length zs.length zs := by
  refine ⟨rfl, Nat.le_refl _, by unfold maxLen; omega, hw, fun h => (by cases h), fun x hx i hi => ?_⟩
  cases hx
  rw [Addr.add_lit, Nat.zero_add, (cells_at h).1]
  simp [List.getD, hi]
theorem pl_lrow {w : World} {g p q : Nat} (h : w.heap[g]? = some (.cells #[.int .i64 1, .int .i64 0, .int .i64 0, .int .i64 1, .int .i64 0, .int .i64 0, .int .i64 0, .int .i64 0, .int .i64 0, .int .i64 0, .int .i64 0, .int .i64 0, .slice (some ⟨p, 0, none⟩) 2 2, .slice (some ⟨q, 0, none⟩) 1 1, .int .i64 1, .int .i64 0, .int .i64 0, .int .i64 0, .int .i64 0, .int .i64 0, .int .i64 (-128), .int .i64 127] 39 (0, 0))) (hp : w.heap[p]? = some (.cells #[.int .i16 3, .int .i16 (-2)] 107 (0, 0))) (hq : w.heap[q]? = some (.cells #[.int .i32 1] 21 (0, 0))) : LRow w (some ⟨g, 0, none⟩) 1 1 (plO 0) plZ plB := by
  refine ⟨Nat.le_refl _, by unfold maxLen; omega, fun h => (by cases h), fun x hx i hi => ?_⟩
  cases hx
  obtain rfl : i = 0 := by omega
  refine ⟨some ⟨p, 0, none⟩, 2, 2, some ⟨q, 0, none⟩, 1, 1, rfl, rfl, fun j v hj => ?_, irow_blk [3, -2] hp (fun z hz => ?_) (by simp), irow_blk [1] hq (fun z hz => ?_) (by simp), by omega, by omega⟩
  · rw [Nat.zero_mul, Addr.add_lit, Addr.add_lit, (cells_at h).1, ← hj]
    simp [opl, plO]
  · simp only [List.mem_cons, List.not_mem_nil, or_false] at hz
    rcases hz with rfl | rfl <;> rfl
  · simp only [List.mem_cons, List.not_mem_nil, or_false] at hz
    subst hz; rfl
theorem pl_found {W : World} {g : Nat} (hL : LRow W (some ⟨g, 0, none⟩) 1 1 (plO 0) plZ plB) : ∃ wa lw cw ba lb cb, Fnd W (some ⟨g, 0, none⟩) 1 (plO 0) plZ plB [(1, 1, 2), (1, 1, 1)] 0 ⟨g, 0, none⟩ wa lw cw ba lb cb 1 1 2 1 1 1 := by
  obtain ⟨RL, Rw, hR, i, x, wa, lw, cw, ba, lb, cb, x0, y0, z0, H, V, C, hop, hF⟩ := found 1 1 2 (-128) 127 1 (some ⟨g, 0, none⟩) 1 1 (plO 0) plZ plB W hL 1 (fiE_0 (i := 0) (by rw [pl_0]) (by omega) (by decide))
  obtain rfl : i = 0 := by omega
  rw [pl_0] at hR
  simp only [Prod.mk.injEq, true_and] at hR
  obtain ⟨rfl, -⟩ := hR
  have h8 := hF.2.2.2.2.2.2.2.1
  have h9 := hF.2.2.2.2.2.2.2.2.1
  have h2 := hF.2.1
  simp only [plO, List.getD, List.getElem?_cons_zero, List.getElem?_cons_succ, Option.getD_some, Int.toNat_zero, Prod.mk.injEq, Nat.zero_add] at h8 h9
  obtain ⟨rfl, rfl, rfl⟩ := h8
  obtain ⟨rfl, rfl, rfl⟩ := h9
  simp only [Option.some.injEq] at h2
  subst h2
  exact ⟨wa, lw, cw, ba, lb, cb, hF⟩
theorem pl_terms : siL (plO 0 0 0) (plO 0 0 4) (plO 0 0 5) (plO 0 0 6) (plO 0 0 7) (plO 0 0 8) (plO 0 0 9) (plO 0 0 10) (plO 0 0 11) 1 1 2 1 0 (plZ 0) = [(3, 0), (-2, 1)] := by decide
end Go.Proofs.Ytdknofbnhjdfjaa

/- The law's own model and fixed answers of layer 11. -/
namespace Go.Proofs.Ytdknofbnhjdfjaa
open Go.ChangeShapes Go.WideShapes Go.ChangeAt Go.RowKit
set_option linter.unusedVariables false
theorem one11_any (W : World) :
    Calls Try.prog 25 #[] W fun e w' => ∃ g : Nat, e = .returned (.agg #[.int .i64 1, .int .i64 1, .int .i64 2, .int .i64 (-128), .int .i64 127, .slice (some ⟨g, 0, none⟩) 1 1, .int .i64 1]) ∧ LRow w' (some ⟨g, 0, none⟩) 1 1 (plO 0) plZ plB ∧ Below W.heap.size W w' := by
  go_enter Try.func25, Try.ntmps25
  go_wp2
  have s1 := (((St.start W).new (c := #[.int .i64 1, .int .i64 1, .int .i64 2, .int .i64 (-128), .int .i64 127, .slice (some ⟨W.heap.size + 1 + 1 + 1, 0, none⟩) 1 1, .int .i64 1]) (t := 26)).new (c := #[.int .i16 3, .int .i16 (-2)]) (t := 107)).new (c := #[.int .i32 1]) (t := 21)
  simp only [World.size_alloc] at s1
  have s2 := s1.new (c := #[.int .i64 1, .int .i64 0, .int .i64 0, .int .i64 1, .int .i64 0, .int .i64 0, .int .i64 0, .int .i64 0, .int .i64 0, .int .i64 0, .int .i64 0, .int .i64 0, .slice (some ⟨W.heap.size + 1, 0, none⟩) 2 2, .slice (some ⟨W.heap.size + 1 + 1, 0, none⟩) 1 1, .int .i64 1, .int .i64 0, .int .i64 0, .int .i64 0, .int .i64 0, .int .i64 0, .int .i64 (-128), .int .i64 127]) (t := 39)
  simp only [World.size_alloc] at s2
  exact bodyPost_ret (v := .agg #[.int .i64 1, .int .i64 1, .int .i64 2, .int .i64 (-128), .int .i64 127, .slice (some ⟨W.heap.size + 1 + 1 + 1, 0, none⟩) 1 1, .int .i64 1]) (by simp [results, Try.results25, go_sem]) rfl ⟨W.heap.size + 1 + 1 + 1, rfl, pl_lrow (p := W.heap.size + 1) (q := W.heap.size + 1 + 1) s2.h1 s2.h3 s2.h2, s2.below⟩
theorem irow_new (w : World) (zs : List Int) (hw : ∀ z ∈ zs, I8 z) (hm : zs.length ≤ 1000) : IRow .i8 (w.alloc (.cells (zs.map (Value.int .i8)).toArray 62)) (some ⟨w.heap.size, 0, none⟩) zs.length zs.length zs := irow_blk zs (heap_alloc_new w _) (fun z hz => mk_i8 (hw z hz)) hm
theorem fx_tn : tnA (plO 0) plZ plB [(1, 1, 2), (1, 1, 1)] [10, 5] 1 = [21] := by decide
theorem fx_su : suL (plO 0 0 0) (plO 0 0 4) (plO 0 0 5) (plO 0 0 6) (plO 0 0 7) (plO 0 0 8) (plO 0 0 9) (plO 0 0 10) (plO 0 0 11) 1 1 2 1 (plO 0 0 19) (plZ 0) (plB 0) [100, -100] ((1 : Int) * 1 * 1).toNat = [501] := by decide
set_option maxHeartbeats 4000000 in
set_option maxRecDepth 100000 in
theorem fixed11_any (W : World) : Calls Try.prog 8 #[] W fun e w' => e = .returned (.bool true) ∧ Below W.heap.size W w' := by
  go_enter Try.func8, Try.ntmps8
  go_wp2_with fail
  refine (one11_any _).mono ?_
  rintro e w1 ⟨g, rfl, hL, b1⟩
  go_wp2_with fail
  refine (eval_ok 1 1 2 (-128) 127 1 (some ⟨g, 0, none⟩) 1 1 (plO 0) plZ plB _ (hL.below (bal _ _)) _ 2 2 [10, 5] (irow_new w1 [10, 5] (by unfold I8; decide) (by decide)) _ _ pl_0 (by decide) 1 rfl (by decide)).mono ?_
  rintro e w2 ⟨⟨v, rfl, hO⟩, b2⟩
  rw [fx_tn] at hO
  obtain ⟨va, vc, rfl, hrow, -⟩ := hO.row
  have D2 : Hid (Below W.heap.size W w2) := bt b1 (bt (bal _ _) b2)
  obtain ⟨xa, u, rfl, hu, -, huz, -⟩ := hrow.at (show 0 < [(21 : Int)].length by decide)
  simp only [List.getElem?_cons_zero, Option.some.injEq] at huz
  subst huz
  have C2 : Hid (w2.cell? (xa.add 0) = some (.int .i8 21)) := hu
  have s2 := ((St.start W).call D2.out).new (c := #[.int .i64 0, .int .i64 0, .int .i64 0]) (t := 51)
  clear hO hrow hu b1 b2 hL
  go_upto_region 2 with fail
  have C2' : Hid ((w2.alloc (.cells #[.int .i64 0, .int .i64 0, .int .i64 0] 51)).cell? (xa.add 0) = some (.int .i8 21)) := ((bal w2 _).cell (World.block_lt_of_cell? w2 _ C2.out)).trans C2.out
  obtain ⟨bf, hbf⟩ : ∃ bf, w2.heap.size = bf := ⟨_, rfl⟩
  obtain ⟨w3, hw3⟩ : ∃ w3, w2.alloc (.cells #[.int .i64 0, .int .i64 0, .int .i64 0] 51) = w3 := ⟨_, rfl⟩
  rw [hw3] at s2 C2' ⊢
  rw [hbf] at s2 ⊢
  have S3 : Hid (St W w3 [(bf, #[.int .i64 0, .int .i64 0, .int .i64 0], 51)]) := s2
  clear hw3 hbf s2 C2 D2
  go_wp2_with fail
  refine (one11_any _).mono ?_
  rintro e w4 ⟨g4, rfl, hL, b4⟩
  obtain ⟨wa, lw, cw, ba, lb, cb, hF⟩ := pl_found hL
  go_wp2_with fail
  refine (totals_ok 1 1 2 (-128) 127 1 (some ⟨g4, 0, none⟩) 1 1 (plO 0) plZ plB _ (hL.below (bal _ _)) _ _ pl_0 0 ⟨g4, 0, none⟩ wa lw cw ba lb cb 1 1 2 1 1 1 (hF.below (bal _ _)) _ 2 2 [100, -100] (irow_new w4 [100, -100] (by unfold I8; decide) (by decide))).mono ?_
  rintro e w5 ⟨hif, b5⟩
  rw [if_pos (by decide), fx_su] at hif
  obtain ⟨v, rfl, hO⟩ := hif
  obtain ⟨vb, vd, rfl, hrow, -⟩ := hO.row
  obtain ⟨xb, u, rfl, hu, -, huz, -⟩ := hrow.at (show 0 < [(501 : Int)].length by decide)
  simp only [List.getElem?_cons_zero, Option.some.injEq] at huz
  subst huz
  have B5 : Hid (Below w3.heap.size w3 w5) := bt b4 (bt (bal _ _) b5)
  have S5 : Hid (St W w5 [(bf, #[.int .i64 0, .int .i64 0, .int .i64 0], 51)]) := S3.out.call B5.out
  have C5 : Hid (w5.cell? (xa.add 0) = some (.int .i8 21)) := (B5.out.cell (World.block_lt_of_cell? w3 _ C2'.out)).trans C2'.out
  have E5 : Hid (w5.cell? (xb.add 0) = some (.int .i64 501)) := hu
  clear hO hrow hu b4 b5 hL hF S3 C2'
  go_wp2_with fail
  refine (one11_any _).mono ?_
  rintro e w6 ⟨g6, rfl, hL, b6⟩
  go_wp2_with fail
  refine (eval_bad 1 1 2 (-128) 127 1 (some ⟨g6, 0, none⟩) 1 1 _ _ 1 1 220 0 (by decide) (fun W' hb => tensors_in 1 1 2 (-128) 127 1 (some ⟨g6, 0, none⟩) 1 1 (plO 0) plZ plB W' ((hL.below (bal _ _)).below hb) _ 1 1 [10] ((irow_new w6 [10] (by unfold I8; decide) (by decide)).below hb) _ _ pl_0 (by decide))).mono ?_
  rintro e w7 ⟨rfl, b7⟩
  have B7 : Hid (Below w5.heap.size w5 (w7.alloc (.cells #[.int .i64 220, .int .i64 0, .int .i64 0] 51))) := bt b6 (bt (bal _ _) (bt b7 (bal _ _)))
  have s8 := (S5.out.call B7.out)
  have C8 : Hid ((w7.alloc (.cells #[.int .i64 220, .int .i64 0, .int .i64 0] 51)).cell? (xa.add 0) = some (.int .i8 21)) := (B7.out.cell (World.block_lt_of_cell? w5 _ C5.out)).trans C5.out
  have E8 : Hid ((w7.alloc (.cells #[.int .i64 220, .int .i64 0, .int .i64 0] 51)).cell? (xb.add 0) = some (.int .i64 501)) := (B7.out.cell (World.block_lt_of_cell? w5 _ E5.out)).trans E5.out
  have h8 := heap_alloc_new w7 (.cells #[.int .i64 220, .int .i64 0, .int .i64 0] 51)
  clear hL b6 b7 C5 E5 S5
  go_upto_region 4 with fail
  obtain ⟨bg, hbg⟩ : ∃ bg, w7.heap.size = bg := ⟨_, rfl⟩
  obtain ⟨w8, hw8⟩ : ∃ w8, w7.alloc (.cells #[.int .i64 220, .int .i64 0, .int .i64 0] 51) = w8 := ⟨_, rfl⟩
  rw [hw8] at s8 C8 E8 h8 ⊢
  rw [hbg] at h8 ⊢
  clear hw8 hbg B7
  obtain ⟨c1, f1, z1, -⟩ := s8.rules
  obtain ⟨c2, f2, z2⟩ := cells_at h8
  have h1 : w8.cell? xa = some (.int .i8 21) := by have := C8.out; rwa [Addr.add_zero'] at this
  have h2 : w8.cell? xb = some (.int .i64 501) := by have := E8.out; rwa [Addr.add_zero'] at this
  have D8 : Hid (Below W.heap.size W w8) := s8.below
  clear s8 h8
  go_wp2
  go_ret
  exact ⟨rfl, D8.out⟩
end Go.Proofs.Ytdknofbnhjdfjaa

/- The document's Same of layer 11, of lists that are the same; faults compared. -/
namespace Go.Proofs.Ytdknofbnhjdfjaa
open Go.ChangeShapes Go.WideShapes Go.ChangeAt Go.RowKit
set_option linter.unusedVariables false
theorem neFt (a b c d e f : Int) (v : Bool) (h : decide (a = d ∧ b = e ∧ c = f) = v) : ∀ W, (binOp .neq 51 (.agg #[.int .i64 a, .int .i64 b, .int .i64 c]) (.agg #[.int .i64 d, .int .i64 e, .int .i64 f])).run Try.prog W = .ok (.bool (!v)) W := by
  intro W; subst h; simp [go_sem]; repeat' split
  all_goals simp_all
theorem eqFt (a b c d e f : Int) (v : Bool) (h : decide (a = d ∧ b = e ∧ c = f) = v) : ∀ W, (binOp .eql 51 (.agg #[.int .i64 a, .int .i64 b, .int .i64 c]) (.agg #[.int .i64 d, .int .i64 e, .int .i64 f])).run Try.prog W = .ok (.bool v) W := by
  intro W; subst h; simp [go_sem]; repeat' split
  all_goals simp_all
set_option maxHeartbeats 1000000 in
theorem same8_any (a b : Option Addr) (n ca cb : Nat) (xs : List Int) (W : World) (ha : IRow .i8 W a n ca xs) (hb : IRow .i8 W b n cb xs) :
    Calls Try.prog 17 #[.slice a n ca, .slice b n cb] W fun e w' => e = .returned (.bool true) ∧ ∃ q, w' = W.drewN q := by
  have HA : Hid (IRow .i8 W a n ca xs) := ha
  have HB : Hid (IRow .i8 W b n cb xs) := hb
  have h1 := ha.2.1
  have h2 := ha.2.2.1
  have h3 := hb.2.1
  have h4 := hb.2.2.1
  unfold maxLen at h2 h4
  clear ha hb
  go_enter Try.func17, Try.ntmps17
  go_wp2
  go_loopw [13] (fun i wr => ∃ k q : Nat, k ≤ n ∧ i = .int .i64 k ∧ wr = W.drewN q) (fun i _ => n - (intOf i).toNat)
  case atStart => exact ⟨0, 0, Nat.zero_le _, rfl, rfl⟩
  case round =>
    obtain ⟨k, q, hk, rfl, rfl⟩ := hrel
    by_cases hlt : k < n
    · obtain ⟨x1, u, rfl, hu, hw, hz, -⟩ := HA.out.at hlt
      obtain ⟨x2, u', rfl, hu', -, hz', -⟩ := HB.out.at hlt
      obtain rfl : u = u' := by rw [hz] at hz'; exact Option.some.inj hz'
      clear hz hz' hw
      go_wp2
      go_quiet (fail)
      go_wp2
      go_roundw
      case rel => exact ⟨k + 1, _, by omega, by go_num, rfl⟩
      case measure => simp [intOf]; omega
    · go_wp2
      go_ret
      exact ⟨rfl, _, rfl⟩
theorem same8_b (a b : Option Addr) (n ca cb : Nat) (xs : List Int) (W : World) (ha : IRow .i8 W a n ca xs) (hb : IRow .i8 W b n cb xs) :
    Calls Try.prog 17 #[.slice a n ca, .slice b n cb] W fun e w' => e = .returned (.bool true) ∧ Below W.heap.size W w' :=
  (same8_any a b n ca cb xs W ha hb).mono fun e w' ⟨h, q, hq⟩ => ⟨h, by rw [hq]; exact dbel _ _⟩
end Go.Proofs.Ytdknofbnhjdfjaa

/- Fronts of tensors in plain numbers; between which ends they lie. -/
namespace Go.Proofs.Ytdknofbnhjdfjaa
open Go.ChangeShapes Go.WideShapes Go.ChangeAt Go.RowKit
set_option linter.unusedVariables false
/-- A tensor hangs on the ops ahead, and on their shapes, alone. -/
theorem tnL_front {O : Nat → Nat → Int} {Z B : Nat → List Int} {L : List (Int × Int × Int)} {x : List Int} {k : Nat} (hA : ∀ i, i < k → 0 ≤ O i 1 ∧ O i 1 ≤ (i : Int)) : ∀ n, n ≤ k → tnL O Z B (L.take (k + 1)) x n = tnL O Z B L x n
  | 0, _ => rfl
  | n + 1, hn => by
    have ih := tnL_front (L := L) (x := x) (Z := Z) (B := B) hA n (by omega)
    have e1 : (L.take (k + 1)).getD (O n 1).toNat (0, 0, 0) = L.getD (O n 1).toNat (0, 0, 0) := by
      have := hA n (by omega)
      simp only [List.getD]
      rw [List.getElem?_take, if_pos (by omega)]
    have e2 : (L.take (k + 1)).getD (n + 1) (0, 0, 0) = L.getD (n + 1) (0, 0, 0) := by
      simp only [List.getD]
      rw [List.getElem?_take, if_pos (by omega)]
    simp only [tnL]
    rw [ih, e1, e2]
theorem tnA_front {O : Nat → Nat → Int} {Z B : Nat → List Int} {h w c lo hi ot wk : Int} {on : Nat} {L : List (Int × Int × Int)} {x : List Int} (q : gtR O h w c lo hi ot on = (0, 0, L, wk)) {k : Nat} (hk : k ≤ on) : tnA O Z B (L.take (k + 1)) x k = tnA O Z B L x k := by
  unfold tnA
  rw [tnL_front (fun i hi => ?_) k (Nat.le_refl _)]
  obtain ⟨ja, jb, e1, h1, -⟩ := opd_of q (show i < on by omega)
  omega
/-- Each number lies between its op's ends. -/
theorem tnA_ends {O : Nat → Nat → Int} {Z B : Nat → List Int} {h w c lo hi ot wk : Int} {on : Nat} {L : List (Int × Int × Int)} {x : List Int} (q : gtR O h w c lo hi ot on = (0, 0, L, wk)) {n : Nat} (hn : n < on) : ∀ v ∈ tnA O Z B L x (n + 1), O n 20 ≤ v ∧ v ≤ O n 21 := by
  obtain ⟨ja, jb, e1, h1, e2, h2, hO⟩ := opd_of q hn
  obtain ⟨a1, a2, a3, hA⟩ : ∃ a1 a2 a3, L.getD ja (0, 0, 0) = (a1, a2, a3) := ⟨_, _, _, rfl⟩
  obtain ⟨b1, b2, b3, hB⟩ : ∃ b1 b2 b3, L.getD (n + 1) (0, 0, 0) = (b1, b2, b3) := ⟨_, _, _, rfl⟩
  obtain ⟨s, -⟩ := hO _ _ _ _ _ _ hA hB
  have hf := fiB_of s.rz
  rw [tnA_succ e1 e2 h1 h2]
  unfold opT teL fiL
  intro v hv
  obtain ⟨u, -, rfl⟩ := List.mem_map.1 hv
  exact fiV_in hf
theorem LRow.front {w : World} {oa : Option Addr} {on oc : Nat} {O : Nat → Nat → Int} {Z B : Nat → List Int} (h : LRow w oa on oc O Z B) {k : Nat} (hk : k ≤ on) : LRow w oa k oc O Z B := ⟨by have := h.1; omega, h.2.1, h.2.2.1, fun x hx i hi => h.2.2.2 x hx i (by omega)⟩
theorem lrow_copy {w w' : World} {x : Addr} {on oc k base : Nat} {v : Value} {O : Nat → Nat → Int} {Z B : Nat → List Int} (h : LRow w (some x) on oc O Z B) (hk : k ≤ on) (hown : w'.ownsRow base 39 22 v k (mc w x (k * 22))) (hv : v ≠ .slice none 0 0) (hZ : ∀ wa lw cw z, IRow .i16 w wa lw cw z → IRow .i16 w' wa lw cw z) (hB : ∀ ba lb cb b, IRow .i32 w ba lb cb b → IRow .i32 w' ba lb cb b) :
    ∃ g cap cur, v = .slice (some ⟨g, 0, none⟩) k cap ∧ base ≤ g ∧ w'.heap[g]? = some (.cells cur 39 (0, 0)) ∧ LRow w' (some ⟨g, 0, none⟩) k cap O Z B := by
  rcases hown.2 with ⟨h0, -⟩ | ⟨g, cap, cur, h1, h2, h3, h4, h5, h6, h7⟩
  · exact absurd h0 hv
  · refine ⟨g, cap, cur, h1, h2, h3, h4, h5, fun q => (by cases q), fun y hy i hi => ?_⟩
    cases hy
    obtain ⟨wa, lw, cw, ba, lb, cb, e1, e2, e3, e4, e5, e6, e7⟩ := h.2.2.2 x rfl i (by omega)
    refine ⟨wa, lw, cw, ba, lb, cb, e1, e2, fun j u hj => ?_, hZ _ _ _ _ e4, hB _ _ _ _ e5, e6, e7⟩
    have hj' : j < 22 := (List.getElem?_eq_some_iff.1 hj).1
    rw [Addr.add_add]
    refine hown.cells (by rw [h1]; rfl) _ _ (mc_at (by omega) ?_)
    rw [← Addr.add_add]
    exact e3 j u hj
theorem LRow.heap {w w' : World} {g k cap : Nat} {O : Nat → Nat → Int} {Z B : Nat → List Int} (h : LRow w (some ⟨g, 0, none⟩) k cap O Z B) (e : w'.heap[g]? = w.heap[g]?) (hZ : ∀ wa lw cw z, IRow .i16 w wa lw cw z → IRow .i16 w' wa lw cw z) (hB : ∀ ba lb cb b, IRow .i32 w ba lb cb b → IRow .i32 w' ba lb cb b) : LRow w' (some ⟨g, 0, none⟩) k cap O Z B :=
  ⟨h.1, h.2.1, h.2.2.1, fun x hx i hi => by
    obtain ⟨wa, lw, cw, ba, lb, cb, h1, h2, h3, h4, h5, h6, h7⟩ := h.2.2.2 x hx i hi
    exact ⟨wa, lw, cw, ba, lb, cb, h1, h2, fun j v hj => (World.cell?_of_block (by rw [add_block, add_block]; cases hx; exact e)).trans (h3 j v hj), hZ _ _ _ _ h4, hB _ _ _ _ h5, h6, h7⟩⟩
end Go.Proofs.Ytdknofbnhjdfjaa
