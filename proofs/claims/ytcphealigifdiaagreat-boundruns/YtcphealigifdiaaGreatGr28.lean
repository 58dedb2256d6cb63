/- plain and fixed of law10. one and fixed of law13. -/
import Derived.Test.YtcphealigifdiaaGreatGr20
import Derived.Test.YtcphealigifdiaaGreatGr21
import Derived.Test.YtcphealigifdiaaGreatGr23
import Derived.Test.YtcphealigifdiaaGreatGr27
/- plain and fixed of law10. -/
namespace Go.Proofs.YtcphealigifdiaaGreat
open Go.ChangeShapes Go.WideShapes Go.ChangeAt Go.RowKit
set_option linter.unusedVariables false
def plZ (_ : Nat) : List Int := [3, -2]
def plB (_ : Nat) : List Int := [1]
theorem irow_blk {k : IntKind} {w : World} {b : Nat} {T : TypeId} (zs : List Int) (h : w.heap[b]? = some (.cells (zs.map (Value.int k)).toArray T (0, 0))) (hw : ∀ z ∈ zs, (Lit.int k z).wf = true) (hm : zs.length ≤ 1000) : IRow k w (some ⟨b, 0, none⟩) zs.length zs.length zs := by
  refine ⟨rfl, Nat.le_refl _, by unfold maxLen; omega, hw, fun h => (by cases h), fun x hx i hi => ?_⟩
  cases hx
  rw [Addr.add_lit, Nat.zero_add, (cells_at h).1]
  simp [List.getD, hi]
theorem pl_lrow {w : World} {g p q : Nat} (h : w.heap[g]? = some (.cells #[Jv 1, Jv 0, Jv 0, Jv 1, Jv 0, Jv 0, Jv 0, Jv 0, Jv 0, Jv 0, Jv 0, Jv 0, .slice (some ⟨p, 0, none⟩) 2 2, .slice (some ⟨q, 0, none⟩) 1 1, Jv 1, Jv 0, Jv 0, Jv 0, Jv 0, Jv 0, Jv (-128), Jv 127] 42 (0, 0))) (hp : w.heap[p]? = some (.cells #[.int .i16 3, .int .i16 (-2)] 88 (0, 0))) (hq : w.heap[q]? = some (.cells #[.int .i32 1] 21 (0, 0))) : LRow w (some ⟨g, 0, none⟩) 1 1 (plO 0) plZ plB := by
  refine ⟨Nat.le_refl _, by unfold maxLen; omega, fun h => (by cases h), fun x hx i hi => ?_⟩
  cases hx
  obtain rfl : i = 0 := by omega
  refine ⟨some ⟨p, 0, none⟩, 2, 2, some ⟨q, 0, none⟩, 1, 1, rfl, rfl, fun j v hj => ?_, irow_blk [3, -2] hp (fun z hz => ?_) (by simp), irow_blk [1] hq (fun z hz => ?_) (by simp), by omega, by omega⟩
  · rw [Nat.zero_mul, Addr.add_lit, Addr.add_lit, (cells_at h).1, ← hj]
    simp [opl, plO]
  · simp only [List.mem_cons, List.not_mem_nil, or_false] at hz
    rcases hz with rfl | rfl <;> rfl
  · simp only [List.mem_cons, List.not_mem_nil, or_false] at hz
    subst hz; rfl
theorem pl_found {W : World} {g : Nat} (hL : LRow W (some ⟨g, 0, none⟩) 1 1 (plO 0) plZ plB) : ∃ wa lw cw ba lb cb, Fnd W (some ⟨g, 0, none⟩) 1 (plO 0) plZ plB [(1, 1, 2), (1, 1, 1)] 0 ⟨g, 0, none⟩ wa lw cw ba lb cb 1 1 2 1 1 1 := by
  obtain ⟨RL, Rw, hR, i, x, wa, lw, cw, ba, lb, cb, x0, y0, z0, H, V, C, hop, hF⟩ := found 1 1 2 (-128) 127 1 (some ⟨g, 0, none⟩) 1 1 (plO 0) plZ plB W hL 1 (fiE_0 (i := 0) (by rw [pl_0]) (by omega) (by decide))
  obtain rfl : i = 0 := by omega
  rw [pl_0] at hR
  simp only [Prod.mk.injEq, true_and] at hR
  obtain ⟨rfl, -⟩ := hR
  have h8 := hF.2.2.2.2.2.2.2.1
  have h9 := hF.2.2.2.2.2.2.2.2.1
  have h2 := hF.2.1
  simp only [plO, List.getD, List.getElem?_cons_zero, List.getElem?_cons_succ, Option.getD_some, Int.toNat_zero, Prod.mk.injEq, Nat.zero_add] at h8 h9
  obtain ⟨rfl, rfl, rfl⟩ := h8
  obtain ⟨rfl, rfl, rfl⟩ := h9
  simp only [Option.some.injEq] at h2
  subst h2
  exact ⟨wa, lw, cw, ba, lb, cb, hF⟩
theorem pl_terms : siL (plO 0 0 0) (plO 0 0 4) (plO 0 0 5) (plO 0 0 6) (plO 0 0 7) (plO 0 0 8) (plO 0 0 9) (plO 0 0 10) (plO 0 0 11) 1 1 2 1 0 (plZ 0) = [(3, 0), (-2, 1)] := by decide
end Go.Proofs.YtcphealigifdiaaGreat

/- one and fixed of law13. -/
namespace Go.Proofs.YtcphealigifdiaaGreat
open Go.ChangeShapes Go.WideShapes Go.ChangeAt Go.RowKit
set_option linter.unusedVariables false
theorem regionG {P : Program} {ops : Array Oper} {Q : Exit → Act → World → Prop} {id : Nat} {a : Act} {w : World} (C : World → Prop) (M : Act → Act → World → Prop) (hm : P.follows .mixedOrders = true) (g : wpAnyC Fence.wide 3 P .any ops C (Qm (M a)) ops.size (Array.replicate ops.size false) a w.drew) (h : ∀ a' w, M a a' w → Q .normal a' w) : (Code.region id ops true).wp P Q a w :=
  regionM C (M a) hm g h
theorem one13_any (W : World) :
    Calls Tryz.prog 24 #[] W fun e w' => ∃ g : Nat, e = .returned (.agg #[Jv 1, Jv 1, Jv 2, Jv (-128), Jv 127, .slice (some ⟨g, 0, none⟩) 1 1, Jv 1]) ∧ LRow w' (some ⟨g, 0, none⟩) 1 1 (plO 0) plZ plB ∧ Below W.heap.size W w' := by
  go_enter Tryz.func24, Tryz.ntmps24
  go_wp2
  have s1 := (((St.start W).new (c := #[Jv 1, Jv 1, Jv 2, Jv (-128), Jv 127, .slice (some ⟨W.heap.size + 1 + 1 + 1, 0, none⟩) 1 1, Jv 1]) (t := 26)).new (c := #[.int .i16 3, .int .i16 (-2)]) (t := 88)).new (c := #[.int .i32 1]) (t := 21)
  simp only [World.size_alloc] at s1
  have s2 := s1.new (c := #[Jv 1, Jv 0, Jv 0, Jv 1, Jv 0, Jv 0, Jv 0, Jv 0, Jv 0, Jv 0, Jv 0, Jv 0, .slice (some ⟨W.heap.size + 1, 0, none⟩) 2 2, .slice (some ⟨W.heap.size + 1 + 1, 0, none⟩) 1 1, Jv 1, Jv 0, Jv 0, Jv 0, Jv 0, Jv 0, Jv (-128), Jv 127]) (t := 42)
  simp only [World.size_alloc] at s2
  exact bodyPost_ret (v := .agg #[Jv 1, Jv 1, Jv 2, Jv (-128), Jv 127, .slice (some ⟨W.heap.size + 1 + 1 + 1, 0, none⟩) 1 1, Jv 1]) (by simp [results, Tryz.results24, go_sem]) rfl ⟨W.heap.size + 1 + 1 + 1, rfl, pl_lrow (p := W.heap.size + 1) (q := W.heap.size + 1 + 1) s2.h1 s2.h3 s2.h2, s2.below⟩
theorem beqS (T : TypeId) (hT : T = 28) (a1 a2 b1 b2 : Int) (v : Bool) (h : decide (a1 = b1 ∧ a2 = b2) = v) : ∀ W, (binOp .eql T (.agg #[Jv a1, Jv a2]) (.agg #[Jv b1, Jv b2])).run Tryz.prog W = .ok (.bool v) W := by
  intro W; subst h hT; simp [go_sem]; repeat' split
  all_goals simp_all
theorem pl_len : (siL (plO 0 0 0) (plO 0 0 4) (plO 0 0 5) (plO 0 0 6) (plO 0 0 7) (plO 0 0 8) (plO 0 0 9) (plO 0 0 10) (plO 0 0 11) 1 1 2 1 0 (plZ 0)).length = 2 := by decide
theorem plT : spR 0 10 (hbT (biA (plO 0 0 0) 1 (plB 0)) (fun (j : Nat) => enL 0 10 (plO 0 0 19) (siL (plO 0 0 0) (plO 0 0 4) (plO 0 0 5) (plO 0 0 6) (plO 0 0 7) (plO 0 0 8) (plO 0 0 9) (plO 0 0 10) (plO 0 0 11) 1 1 2 1 (j : Int) (plZ 0))) ((1 : Int) * 1).toNat) = (-19, 31, 0) := by decide
theorem plR : spR 0 10 (hbR (biA (plO 0 0 0) 1 (plB 0)) (fun (j : Nat) => enL 0 10 (plO 0 0 19) (siL (plO 0 0 0) (plO 0 0 4) (plO 0 0 5) (plO 0 0 6) (plO 0 0 7) (plO 0 0 8) (plO 0 0 9) (plO 0 0 10) (plO 0 0 11) 1 1 2 1 (j : Int) (plZ 0))) ((1 : Int) * 1).toNat) = (-19, 31, 0) := by decide
theorem plP : spR 0 10 (hbP (fun (j : Nat) => enL 0 10 (plO 0 0 19) (siL (plO 0 0 0) (plO 0 0 4) (plO 0 0 5) (plO 0 0 6) (plO 0 0 7) (plO 0 0 8) (plO 0 0 9) (plO 0 0 10) (plO 0 0 11) 1 1 2 1 (j : Int) (plZ 0))) ((1 : Int) * 1).toNat) = (-20, 30, 0) := by decide
theorem plD2 : spD 0 10 2 2 (hbD (2 : Int).toNat (fun (j : Nat) => enL 0 10 (plO 0 0 19) (siL (plO 0 0 0) (plO 0 0 4) (plO 0 0 5) (plO 0 0 6) (plO 0 0 7) (plO 0 0 8) (plO 0 0 9) (plO 0 0 10) (plO 0 0 11) 1 1 2 1 (j : Int) (plZ 0))) ((1 : Int) * 1).toNat) = (-20, 30, 0) := by decide
theorem plD3 : spD 0 10 3 2 (hbD (3 : Int).toNat (fun (j : Nat) => enL 0 10 (plO 0 0 19) (siL (plO 0 0 0) (plO 0 0 4) (plO 0 0 5) (plO 0 0 6) (plO 0 0 7) (plO 0 0 8) (plO 0 0 9) (plO 0 0 10) (plO 0 0 11) 1 1 2 1 (j : Int) (plZ 0))) ((1 : Int) * 1).toNat) = (0, 0, 151) := by decide
theorem fx2 (g : Nat) (W : World) (hL : LRow W (some ⟨g, 0, none⟩) 1 1 (plO 0) plZ plB) : Calls Tryz.prog 6 #[.agg #[Jv 1, Jv 1, Jv 2, Jv (-128), Jv 127, .slice (some ⟨g, 0, none⟩) 1 1, Jv 1], Jv 1, Jv 1, .agg #[Jv 0, Jv 10]] W fun e w' => e = .returned (.tuple #[.agg #[Jv (-19), Jv 31], Jv 0]) ∧ Below W.heap.size W w' := by
  obtain ⟨wa, lw, cw, ba, lb, cb, hF⟩ := pl_found hL
  have h := btot_ok 1 1 2 (-128) 127 1 (some ⟨g, 0, none⟩) 1 1 (plO 0) plZ plB W hL 1 _ _ pl_0 0 ⟨g, 0, none⟩ wa lw cw ba lb cb 1 1 2 1 1 1 hF (by omega) 0 10
  rw [plT] at h
  exact h
theorem fx3 (g : Nat) (W : World) (hL : LRow W (some ⟨g, 0, none⟩) 1 1 (plO 0) plZ plB) : Calls Tryz.prog 12 #[.agg #[Jv 1, Jv 1, Jv 2, Jv (-128), Jv 127, .slice (some ⟨g, 0, none⟩) 1 1, Jv 1], Jv 1, Jv 1, .agg #[Jv 0, Jv 10]] W fun e w' => e = .returned (.tuple #[.agg #[Jv (-19), Jv 31], Jv 0]) ∧ Below W.heap.size W w' := by
  obtain ⟨wa, lw, cw, ba, lb, cb, hF⟩ := pl_found hL
  have h := brun_ok 1 1 2 (-128) 127 1 (some ⟨g, 0, none⟩) 1 1 (plO 0) plZ plB W hL 1 _ _ pl_0 0 ⟨g, 0, none⟩ wa lw cw ba lb cb 1 1 2 1 1 1 hF (by omega) 0 10
  rw [plR] at h
  exact h
theorem fx4 (g : Nat) (W : World) (hL : LRow W (some ⟨g, 0, none⟩) 1 1 (plO 0) plZ plB) : Calls Tryz.prog 14 #[.agg #[Jv 1, Jv 1, Jv 2, Jv (-128), Jv 127, .slice (some ⟨g, 0, none⟩) 1 1, Jv 1], Jv 1, Jv 1, .agg #[Jv 0, Jv 10], Jv 2] W fun e w' => e = .returned (.tuple #[.agg #[Jv (-20), Jv 30], Jv 0]) ∧ Below W.heap.size W w' := by
  obtain ⟨wa, lw, cw, ba, lb, cb, hF⟩ := pl_found hL
  have h := bprt_ok 1 1 2 (-128) 127 1 (some ⟨g, 0, none⟩) 1 1 (plO 0) plZ plB W hL 1 _ _ pl_0 0 ⟨g, 0, none⟩ wa lw cw ba lb cb 1 1 2 1 1 1 hF (by omega) 0 10 2 2 pl_len
  rw [plD2] at h
  exact h
theorem fx5 (g : Nat) (W : World) (hL : LRow W (some ⟨g, 0, none⟩) 1 1 (plO 0) plZ plB) : Calls Tryz.prog 7 #[.agg #[Jv 1, Jv 1, Jv 2, Jv (-128), Jv 127, .slice (some ⟨g, 0, none⟩) 1 1, Jv 1], Jv 1, Jv 1, .agg #[Jv 0, Jv 10]] W fun e w' => e = .returned (.tuple #[.agg #[Jv (-20), Jv 30], Jv 0]) ∧ Below W.heap.size W w' := by
  obtain ⟨wa, lw, cw, ba, lb, cb, hF⟩ := pl_found hL
  have h := bprd_ok 1 1 2 (-128) 127 1 (some ⟨g, 0, none⟩) 1 1 (plO 0) plZ plB W hL 1 _ _ pl_0 0 ⟨g, 0, none⟩ wa lw cw ba lb cb 1 1 2 1 1 1 hF (by omega) 0 10
  rw [plP] at h
  exact h
theorem fx6 (g : Nat) (W : World) (hL : LRow W (some ⟨g, 0, none⟩) 1 1 (plO 0) plZ plB) : Calls Tryz.prog 14 #[.agg #[Jv 1, Jv 1, Jv 2, Jv (-128), Jv 127, .slice (some ⟨g, 0, none⟩) 1 1, Jv 1], Jv 1, Jv 1, .agg #[Jv 0, Jv 10], Jv 3] W fun e w' => e = .returned (.tuple #[.agg #[Jv (0), Jv 0], Jv 151]) ∧ Below W.heap.size W w' := by
  obtain ⟨wa, lw, cw, ba, lb, cb, hF⟩ := pl_found hL
  have h := bprt_ok 1 1 2 (-128) 127 1 (some ⟨g, 0, none⟩) 1 1 (plO 0) plZ plB W hL 1 _ _ pl_0 0 ⟨g, 0, none⟩ wa lw cw ba lb cb 1 1 2 1 1 1 hF (by omega) 0 10 3 2 pl_len
  rw [plD3] at h
  exact h
set_option maxHeartbeats 8000000 in
set_option maxRecDepth 100000 in
theorem fixed13_any (W : World) : Calls Tryz.prog 9 #[] W fun e w' => e = .returned (.bool true) ∧ Below W.heap.size W w' := by
  have s1 := (St.start W).new (c := #[Jv 0, Jv 10]) (t := 28)
  go_enter Tryz.func9, Tryz.ntmps9
  go_upto_region 2 with fail
  obtain ⟨w1, hw1⟩ : ∃ w1, W.alloc (.cells #[Jv 0, Jv 10] 28) = w1 := ⟨_, rfl⟩
  have S1 : Hid (St W w1 ((W.heap.size, #[Jv 0, Jv 10], 28) :: [])) := by unfold Hid; rw [← hw1]; exact s1
  rw [hw1]
  clear hw1 s1
  refine regionG (fun w' => w'.heap[W.heap.size]? = some (.cells #[Jv 0, Jv 10] 28 (0, 0))) (fun a0 a' w' => ∃ (g B2 : Nat), a' = (((((((a0.put (some 14) (.agg #[Jv 1, Jv 1, Jv 2, Jv (-128), Jv 127, .slice (some ⟨g, 0, none⟩) 1 1, Jv 1])).put (some 15) (.agg #[Jv 0, Jv 10])).put (some 16) (.tuple #[.agg #[Jv (-19), Jv 31], Jv 0])).put (some 13) (.tuple #[.agg #[Jv (-19), Jv 31], Jv 0])).put (some 17) (.agg #[Jv (-19), Jv 31])).put (some 18) (Jv 0)).put (some 2) (.pointer (some ⟨B2, 0, none⟩))).put (some 3) (Jv 0) ∧ St W w' ((W.heap.size, #[Jv 0, Jv 10], 28) :: (B2, #[Jv (-19), Jv 31], 28) :: [])) (by kernel_rfl) ?_ ?_
  rotate_left
  rotate_left
  · have s2 := S1.out.drew
    obtain ⟨w2, hw2⟩ : ∃ w2, w1.drew = w2 := ⟨_, rfl⟩
    rw [hw2] at s2 ⊢
    have hx := s2.size
    refine takeC 1 (v := .agg #[Jv 0, Jv 10]) rfl rfl (by kernel_rfl) (by kernel_rfl) (by kernel_rfl) (fun _ _ _ h => h) (fun _ => rfl) rfl (fun w' hw' => run_la 28 (.tmp 1) rfl ⟨W.heap.size, 0, none⟩ (by kernel_rfl) [Jv 0, Jv 10] _ (fun j v hj => by rw [Addr.add_lit, Nat.zero_add, (cells_at hw').1]; simpa using hj) Tryz.underlying28 rfl (by kernel_rfl)) ?_
    refine y2 0 6 s2.h1 (by kernel_rfl) ?_ ?_
    refine yC rfl rfl 24 #[] (by kernel_rfl) (one13_any _) ?_
    rintro e w3 ⟨g, rfl, hL, hb⟩
    refine ⟨_, rfl, ?_⟩
    have s3 := s2.call hb
    refine y2 2 6 s3.h1 (by kernel_rfl) ?_ ?_
    refine yC rfl rfl 6 #[.agg #[Jv 1, Jv 1, Jv 2, Jv (-128), Jv 127, .slice (some ⟨g, 0, none⟩) 1 1, Jv 1], Jv 1, Jv 1, .agg #[Jv 0, Jv 10]] (by kernel_rfl) (fx2 g _ hL) ?_
    rintro e w4 ⟨rfl, hb4⟩
    refine ⟨_, rfl, ?_⟩
    have s4 := s3.call hb4
    refine takeC 3 (v := .tuple #[.agg #[Jv (-19), Jv 31], Jv 0]) rfl rfl (by kernel_rfl) (by kernel_rfl) (by kernel_rfl) (fun _ _ _ h => h) (fun _ => rfl) rfl (fun w' hw' => by go_simp) ?_
    refine takeC 4 (v := .agg #[Jv (-19), Jv 31]) rfl rfl (by kernel_rfl) (by kernel_rfl) (by kernel_rfl) (fun _ _ _ h => h) (fun _ => rfl) rfl (fun w' hw' => by go_simp) ?_
    refine takeC 5 (v := Jv 0) rfl rfl (by kernel_rfl) (by kernel_rfl) (by kernel_rfl) (fun _ _ _ h => h) (fun _ => rfl) rfl (fun w' hw' => by go_simp) ?_
    refine yR 6 s4.h1 (by kernel_rfl) rfl rfl (.pointer (some ⟨w4.heap.size, 0, none⟩)) (w4.alloc (.cells #[Jv 0, Jv 0] 28)) (by kernel_rfl) ?_
    have hB' := lt_of_heap s4.h1
    have s5 := s4.new (c := #[Jv 0, Jv 0]) (t := 28)
    obtain ⟨B2, hB⟩ : ∃ B, w4.heap.size = B := ⟨_, rfl⟩
    obtain ⟨w5, hw5⟩ : ∃ w5, w4.alloc (.cells #[Jv 0, Jv 0] 28) = w5 := ⟨_, rfl⟩
    rw [hw5, hB] at s5 ⊢
    have hne : ∀ x ∈ ((W.heap.size, #[Jv 0, Jv 10], 28) :: [] : List (Nat × Array Value × TypeId)), x.1 < B2 := fun x hx => by rw [← hB]; exact lt_of_heap (s4.2 x hx).1
    rotate_left
    refine yO rfl rfl (.pointer (some ⟨w3.heap.size, 0, none⟩)) (w3.alloc (.cells #[Jv 0, Jv 0] 28)) (by kernel_rfl) ?_
    have s4 := s3.new (c := #[Jv 0, Jv 0]) (t := 28)
    refine yK 2 s4.h2 (by kernel_rfl) rfl rfl 6 #[.agg #[Jv 1, Jv 1, Jv 2, Jv (-128), Jv 127, .slice (some ⟨g, 0, none⟩) 1 1, Jv 1], Jv 1, Jv 1, .agg #[Jv 0, Jv 10]] (by kernel_rfl) (fx2 g _ (hL.below (bal _ _))) ?_
    rintro e w5 ⟨rfl, hb4⟩
    refine ⟨_, rfl, ?_⟩
    have s5 := s4.call hb4
    refine takeC 3 (v := .tuple #[.agg #[Jv (-19), Jv 31], Jv 0]) rfl rfl (by kernel_rfl) (by kernel_rfl) (by kernel_rfl) (fun _ _ _ h => h) (fun _ => rfl) rfl (fun w' hw' => by go_simp) ?_
    refine takeC 4 (v := .agg #[Jv (-19), Jv 31]) rfl rfl (by kernel_rfl) (by kernel_rfl) (by kernel_rfl) (fun _ _ _ h => h) (fun _ => rfl) rfl (fun w' hw' => by go_simp) ?_
    refine takeC 5 (v := Jv 0) rfl rfl (by kernel_rfl) (by kernel_rfl) (by kernel_rfl) (fun _ _ _ h => h) (fun _ => rfl) rfl (fun w' hw' => by go_simp) ?_
    obtain ⟨B2, hB⟩ : ∃ B, w3.heap.size = B := ⟨_, rfl⟩
    rw [hB] at s5 ⊢
    have hne : ∀ x ∈ ((W.heap.size, #[Jv 0, Jv 10], 28) :: [] : List (Nat × Array Value × TypeId)), x.1 < B2 := fun x hx => by rw [← hB]; exact lt_of_heap (s3.2 x hx).1
    rotate_left
    refine yO rfl rfl (.pointer (some ⟨w2.heap.size, 0, none⟩)) (w2.alloc (.cells #[Jv 0, Jv 0] 28)) (by kernel_rfl) ?_
    have s3 := s2.new (c := #[Jv 0, Jv 0]) (t := 28)
    refine yK 0 s3.h2 (by kernel_rfl) rfl rfl 24 #[] (by kernel_rfl) (one13_any _) ?_
    rintro e w3 ⟨g, rfl, hL, hb⟩
    refine ⟨_, rfl, ?_⟩
    have s4 := s3.call hb
    refine yK 2 s4.h2 (by kernel_rfl) rfl rfl 6 #[.agg #[Jv 1, Jv 1, Jv 2, Jv (-128), Jv 127, .slice (some ⟨g, 0, none⟩) 1 1, Jv 1], Jv 1, Jv 1, .agg #[Jv 0, Jv 10]] (by kernel_rfl) (fx2 g _ hL) ?_
    rintro e w5 ⟨rfl, hb4⟩
    refine ⟨_, rfl, ?_⟩
    have s5 := s4.call hb4
    refine takeC 3 (v := .tuple #[.agg #[Jv (-19), Jv 31], Jv 0]) rfl rfl (by kernel_rfl) (by kernel_rfl) (by kernel_rfl) (fun _ _ _ h => h) (fun _ => rfl) rfl (fun w' hw' => by go_simp) ?_
    refine takeC 4 (v := .agg #[Jv (-19), Jv 31]) rfl rfl (by kernel_rfl) (by kernel_rfl) (by kernel_rfl) (fun _ _ _ h => h) (fun _ => rfl) rfl (fun w' hw' => by go_simp) ?_
    refine takeC 5 (v := Jv 0) rfl rfl (by kernel_rfl) (by kernel_rfl) (by kernel_rfl) (fun _ _ _ h => h) (fun _ => rfl) rfl (fun w' hw' => by go_simp) ?_
    obtain ⟨B2, hB⟩ : ∃ B, w2.heap.size = B := ⟨_, rfl⟩
    rw [hB] at s5 ⊢
    have hne : ∀ x ∈ ((W.heap.size, #[Jv 0, Jv 10], 28) :: [] : List (Nat × Array Value × TypeId)), x.1 < B2 := fun x hx => by rw [← hB]; exact lt_of_heap (s2.2 x hx).1
    all_goals
      refine yS 7 s5.h2 (by kernel_rfl) rfl rfl 28 (.tmp 2) (.tmp 17) rfl B2 #[Jv (-19), Jv 31] (by kernel_rfl) (by kernel_rfl) 28 #[Jv 0, Jv 0] s5.h1 (by kernel_rfl) rfl (by simp [Value.oneCell']) ?_
      have s6 := (s5.rowset (c' := #[Jv (-19), Jv 31]) (fun x hx => Nat.ne_of_lt (hne x hx))).up1
      obtain ⟨w6, hw6⟩ : ∃ w6, w5.setRow B2 #[Jv (-19), Jv 31] = w6 := ⟨_, rfl⟩
      rw [hw6] at s6 ⊢
      refine yR 8 s6.h1 (by kernel_rfl) rfl rfl (Jv 0) w6 (by kernel_rfl) ?_
      exact doneM s6.h1 (by kernel_rfl) ⟨g, B2, by kernel_rfl, s6⟩ _
  rintro a' w2 ⟨g2, B2, rfl, s2⟩
  clear S1
  obtain ⟨w1, hw1⟩ : ∃ w1, w1 = w2 := ⟨_, rfl⟩
  rw [← hw1] at s2 ⊢
  have S1 : Hid (St W w1 ((W.heap.size, #[Jv 0, Jv 10], 28) :: (B2, #[Jv (-19), Jv 31], 28) :: [])) := s2
  clear s2 hw1 w2
  go_upto_region 3 with fail
  refine regionG (fun w' => w'.heap[W.heap.size]? = some (.cells #[Jv 0, Jv 10] 28 (0, 0))) (fun a0 a' w' => ∃ (g B3 : Nat), a' = (((((((a0.put (some 20) (.agg #[Jv 1, Jv 1, Jv 2, Jv (-128), Jv 127, .slice (some ⟨g, 0, none⟩) 1 1, Jv 1])).put (some 21) (.agg #[Jv 0, Jv 10])).put (some 22) (.tuple #[.agg #[Jv (-19), Jv 31], Jv 0])).put (some 19) (.tuple #[.agg #[Jv (-19), Jv 31], Jv 0])).put (some 23) (.agg #[Jv (-19), Jv 31])).put (some 24) (Jv 0)).put (some 4) (.pointer (some ⟨B3, 0, none⟩))).put (some 5) (Jv 0) ∧ St W w' ((W.heap.size, #[Jv 0, Jv 10], 28) :: (B3, #[Jv (-19), Jv 31], 28) :: (B2, #[Jv (-19), Jv 31], 28) :: [])) (by kernel_rfl) ?_ ?_
  rotate_left
  rotate_left
  · have s2 := S1.out.drew
    obtain ⟨w2, hw2⟩ : ∃ w2, w1.drew = w2 := ⟨_, rfl⟩
    rw [hw2] at s2 ⊢
    have hx := s2.size
    refine takeC 1 (v := .agg #[Jv 0, Jv 10]) rfl rfl (by kernel_rfl) (by kernel_rfl) (by kernel_rfl) (fun _ _ _ h => h) (fun _ => rfl) rfl (fun w' hw' => run_la 28 (.tmp 1) rfl ⟨W.heap.size, 0, none⟩ (by kernel_rfl) [Jv 0, Jv 10] _ (fun j v hj => by rw [Addr.add_lit, Nat.zero_add, (cells_at hw').1]; simpa using hj) Tryz.underlying28 rfl (by kernel_rfl)) ?_
    refine y2 0 6 s2.h1 (by kernel_rfl) ?_ ?_
    refine yC rfl rfl 24 #[] (by kernel_rfl) (one13_any _) ?_
    rintro e w3 ⟨g, rfl, hL, hb⟩
    refine ⟨_, rfl, ?_⟩
    have s3 := s2.call hb
    refine y2 2 6 s3.h1 (by kernel_rfl) ?_ ?_
    refine yC rfl rfl 12 #[.agg #[Jv 1, Jv 1, Jv 2, Jv (-128), Jv 127, .slice (some ⟨g, 0, none⟩) 1 1, Jv 1], Jv 1, Jv 1, .agg #[Jv 0, Jv 10]] (by kernel_rfl) (fx3 g _ hL) ?_
    rintro e w4 ⟨rfl, hb4⟩
    refine ⟨_, rfl, ?_⟩
    have s4 := s3.call hb4
    refine takeC 3 (v := .tuple #[.agg #[Jv (-19), Jv 31], Jv 0]) rfl rfl (by kernel_rfl) (by kernel_rfl) (by kernel_rfl) (fun _ _ _ h => h) (fun _ => rfl) rfl (fun w' hw' => by go_simp) ?_
    refine takeC 4 (v := .agg #[Jv (-19), Jv 31]) rfl rfl (by kernel_rfl) (by kernel_rfl) (by kernel_rfl) (fun _ _ _ h => h) (fun _ => rfl) rfl (fun w' hw' => by go_simp) ?_
    refine takeC 5 (v := Jv 0) rfl rfl (by kernel_rfl) (by kernel_rfl) (by kernel_rfl) (fun _ _ _ h => h) (fun _ => rfl) rfl (fun w' hw' => by go_simp) ?_
    refine yR 6 s4.h1 (by kernel_rfl) rfl rfl (.pointer (some ⟨w4.heap.size, 0, none⟩)) (w4.alloc (.cells #[Jv 0, Jv 0] 28)) (by kernel_rfl) ?_
    have hB' := lt_of_heap s4.h1
    have s5 := s4.new (c := #[Jv 0, Jv 0]) (t := 28)
    obtain ⟨B3, hB⟩ : ∃ B, w4.heap.size = B := ⟨_, rfl⟩
    obtain ⟨w5, hw5⟩ : ∃ w5, w4.alloc (.cells #[Jv 0, Jv 0] 28) = w5 := ⟨_, rfl⟩
    rw [hw5, hB] at s5 ⊢
    have hne : ∀ x ∈ ((W.heap.size, #[Jv 0, Jv 10], 28) :: (B2, #[Jv (-19), Jv 31], 28) :: [] : List (Nat × Array Value × TypeId)), x.1 < B3 := fun x hx => by rw [← hB]; exact lt_of_heap (s4.2 x hx).1
    rotate_left
    refine yO rfl rfl (.pointer (some ⟨w3.heap.size, 0, none⟩)) (w3.alloc (.cells #[Jv 0, Jv 0] 28)) (by kernel_rfl) ?_
    have s4 := s3.new (c := #[Jv 0, Jv 0]) (t := 28)
    refine yK 2 s4.h2 (by kernel_rfl) rfl rfl 12 #[.agg #[Jv 1, Jv 1, Jv 2, Jv (-128), Jv 127, .slice (some ⟨g, 0, none⟩) 1 1, Jv 1], Jv 1, Jv 1, .agg #[Jv 0, Jv 10]] (by kernel_rfl) (fx3 g _ (hL.below (bal _ _))) ?_
    rintro e w5 ⟨rfl, hb4⟩
    refine ⟨_, rfl, ?_⟩
    have s5 := s4.call hb4
    refine takeC 3 (v := .tuple #[.agg #[Jv (-19), Jv 31], Jv 0]) rfl rfl (by kernel_rfl) (by kernel_rfl) (by kernel_rfl) (fun _ _ _ h => h) (fun _ => rfl) rfl (fun w' hw' => by go_simp) ?_
    refine takeC 4 (v := .agg #[Jv (-19), Jv 31]) rfl rfl (by kernel_rfl) (by kernel_rfl) (by kernel_rfl) (fun _ _ _ h => h) (fun _ => rfl) rfl (fun w' hw' => by go_simp) ?_
    refine takeC 5 (v := Jv 0) rfl rfl (by kernel_rfl) (by kernel_rfl) (by kernel_rfl) (fun _ _ _ h => h) (fun _ => rfl) rfl (fun w' hw' => by go_simp) ?_
    obtain ⟨B3, hB⟩ : ∃ B, w3.heap.size = B := ⟨_, rfl⟩
    rw [hB] at s5 ⊢
    have hne : ∀ x ∈ ((W.heap.size, #[Jv 0, Jv 10], 28) :: (B2, #[Jv (-19), Jv 31], 28) :: [] : List (Nat × Array Value × TypeId)), x.1 < B3 := fun x hx => by rw [← hB]; exact lt_of_heap (s3.2 x hx).1
    rotate_left
    refine yO rfl rfl (.pointer (some ⟨w2.heap.size, 0, none⟩)) (w2.alloc (.cells #[Jv 0, Jv 0] 28)) (by kernel_rfl) ?_
    have s3 := s2.new (c := #[Jv 0, Jv 0]) (t := 28)
    refine yK 0 s3.h2 (by kernel_rfl) rfl rfl 24 #[] (by kernel_rfl) (one13_any _) ?_
    rintro e w3 ⟨g, rfl, hL, hb⟩
    refine ⟨_, rfl, ?_⟩
    have s4 := s3.call hb
    refine yK 2 s4.h2 (by kernel_rfl) rfl rfl 12 #[.agg #[Jv 1, Jv 1, Jv 2, Jv (-128), Jv 127, .slice (some ⟨g, 0, none⟩) 1 1, Jv 1], Jv 1, Jv 1, .agg #[Jv 0, Jv 10]] (by kernel_rfl) (fx3 g _ hL) ?_
    rintro e w5 ⟨rfl, hb4⟩
    refine ⟨_, rfl, ?_⟩
    have s5 := s4.call hb4
    refine takeC 3 (v := .tuple #[.agg #[Jv (-19), Jv 31], Jv 0]) rfl rfl (by kernel_rfl) (by kernel_rfl) (by kernel_rfl) (fun _ _ _ h => h) (fun _ => rfl) rfl (fun w' hw' => by go_simp) ?_
    refine takeC 4 (v := .agg #[Jv (-19), Jv 31]) rfl rfl (by kernel_rfl) (by kernel_rfl) (by kernel_rfl) (fun _ _ _ h => h) (fun _ => rfl) rfl (fun w' hw' => by go_simp) ?_
    refine takeC 5 (v := Jv 0) rfl rfl (by kernel_rfl) (by kernel_rfl) (by kernel_rfl) (fun _ _ _ h => h) (fun _ => rfl) rfl (fun w' hw' => by go_simp) ?_
    obtain ⟨B3, hB⟩ : ∃ B, w2.heap.size = B := ⟨_, rfl⟩
    rw [hB] at s5 ⊢
    have hne : ∀ x ∈ ((W.heap.size, #[Jv 0, Jv 10], 28) :: (B2, #[Jv (-19), Jv 31], 28) :: [] : List (Nat × Array Value × TypeId)), x.1 < B3 := fun x hx => by rw [← hB]; exact lt_of_heap (s2.2 x hx).1
    all_goals
      refine yS 7 s5.h2 (by kernel_rfl) rfl rfl 28 (.tmp 4) (.tmp 23) rfl B3 #[Jv (-19), Jv 31] (by kernel_rfl) (by kernel_rfl) 28 #[Jv 0, Jv 0] s5.h1 (by kernel_rfl) rfl (by simp [Value.oneCell']) ?_
      have s6 := (s5.rowset (c' := #[Jv (-19), Jv 31]) (fun x hx => Nat.ne_of_lt (hne x hx))).up1
      obtain ⟨w6, hw6⟩ : ∃ w6, w5.setRow B3 #[Jv (-19), Jv 31] = w6 := ⟨_, rfl⟩
      rw [hw6] at s6 ⊢
      refine yR 8 s6.h1 (by kernel_rfl) rfl rfl (Jv 0) w6 (by kernel_rfl) ?_
      exact doneM s6.h1 (by kernel_rfl) ⟨g, B3, by kernel_rfl, s6⟩ _
  rintro a' w2 ⟨g3, B3, rfl, s2⟩
  clear S1
  obtain ⟨w1, hw1⟩ : ∃ w1, w1 = w2 := ⟨_, rfl⟩
  rw [← hw1] at s2 ⊢
  have S1 : Hid (St W w1 ((W.heap.size, #[Jv 0, Jv 10], 28) :: (B3, #[Jv (-19), Jv 31], 28) :: (B2, #[Jv (-19), Jv 31], 28) :: [])) := s2
  clear s2 hw1 w2
  go_upto_region 4 with fail
  refine regionG (fun w' => w'.heap[W.heap.size]? = some (.cells #[Jv 0, Jv 10] 28 (0, 0))) (fun a0 a' w' => ∃ (g B4 : Nat), a' = (((((((a0.put (some 26) (.agg #[Jv 1, Jv 1, Jv 2, Jv (-128), Jv 127, .slice (some ⟨g, 0, none⟩) 1 1, Jv 1])).put (some 27) (.agg #[Jv 0, Jv 10])).put (some 28) (.tuple #[.agg #[Jv (-20), Jv 30], Jv 0])).put (some 25) (.tuple #[.agg #[Jv (-20), Jv 30], Jv 0])).put (some 29) (.agg #[Jv (-20), Jv 30])).put (some 30) (Jv 0)).put (some 6) (.pointer (some ⟨B4, 0, none⟩))).put (some 7) (Jv 0) ∧ St W w' ((W.heap.size, #[Jv 0, Jv 10], 28) :: (B4, #[Jv (-20), Jv 30], 28) :: (B3, #[Jv (-19), Jv 31], 28) :: (B2, #[Jv (-19), Jv 31], 28) :: [])) (by kernel_rfl) ?_ ?_
  rotate_left
  rotate_left
  · have s2 := S1.out.drew
    obtain ⟨w2, hw2⟩ : ∃ w2, w1.drew = w2 := ⟨_, rfl⟩
    rw [hw2] at s2 ⊢
    have hx := s2.size
    refine takeC 1 (v := .agg #[Jv 0, Jv 10]) rfl rfl (by kernel_rfl) (by kernel_rfl) (by kernel_rfl) (fun _ _ _ h => h) (fun _ => rfl) rfl (fun w' hw' => run_la 28 (.tmp 1) rfl ⟨W.heap.size, 0, none⟩ (by kernel_rfl) [Jv 0, Jv 10] _ (fun j v hj => by rw [Addr.add_lit, Nat.zero_add, (cells_at hw').1]; simpa using hj) Tryz.underlying28 rfl (by kernel_rfl)) ?_
    refine y2 0 6 s2.h1 (by kernel_rfl) ?_ ?_
    refine yC rfl rfl 24 #[] (by kernel_rfl) (one13_any _) ?_
    rintro e w3 ⟨g, rfl, hL, hb⟩
    refine ⟨_, rfl, ?_⟩
    have s3 := s2.call hb
    refine y2 2 6 s3.h1 (by kernel_rfl) ?_ ?_
    refine yC rfl rfl 14 #[.agg #[Jv 1, Jv 1, Jv 2, Jv (-128), Jv 127, .slice (some ⟨g, 0, none⟩) 1 1, Jv 1], Jv 1, Jv 1, .agg #[Jv 0, Jv 10], Jv 2] (by kernel_rfl) (fx4 g _ hL) ?_
    rintro e w4 ⟨rfl, hb4⟩
    refine ⟨_, rfl, ?_⟩
    have s4 := s3.call hb4
    refine takeC 3 (v := .tuple #[.agg #[Jv (-20), Jv 30], Jv 0]) rfl rfl (by kernel_rfl) (by kernel_rfl) (by kernel_rfl) (fun _ _ _ h => h) (fun _ => rfl) rfl (fun w' hw' => by go_simp) ?_
    refine takeC 4 (v := .agg #[Jv (-20), Jv 30]) rfl rfl (by kernel_rfl) (by kernel_rfl) (by kernel_rfl) (fun _ _ _ h => h) (fun _ => rfl) rfl (fun w' hw' => by go_simp) ?_
    refine takeC 5 (v := Jv 0) rfl rfl (by kernel_rfl) (by kernel_rfl) (by kernel_rfl) (fun _ _ _ h => h) (fun _ => rfl) rfl (fun w' hw' => by go_simp) ?_
    refine yR 6 s4.h1 (by kernel_rfl) rfl rfl (.pointer (some ⟨w4.heap.size, 0, none⟩)) (w4.alloc (.cells #[Jv 0, Jv 0] 28)) (by kernel_rfl) ?_
    have hB' := lt_of_heap s4.h1
    have s5 := s4.new (c := #[Jv 0, Jv 0]) (t := 28)
    obtain ⟨B4, hB⟩ : ∃ B, w4.heap.size = B := ⟨_, rfl⟩
    obtain ⟨w5, hw5⟩ : ∃ w5, w4.alloc (.cells #[Jv 0, Jv 0] 28) = w5 := ⟨_, rfl⟩
    rw [hw5, hB] at s5 ⊢
    have hne : ∀ x ∈ ((W.heap.size, #[Jv 0, Jv 10], 28) :: (B3, #[Jv (-19), Jv 31], 28) :: (B2, #[Jv (-19), Jv 31], 28) :: [] : List (Nat × Array Value × TypeId)), x.1 < B4 := fun x hx => by rw [← hB]; exact lt_of_heap (s4.2 x hx).1
    rotate_left
    refine yO rfl rfl (.pointer (some ⟨w3.heap.size, 0, none⟩)) (w3.alloc (.cells #[Jv 0, Jv 0] 28)) (by kernel_rfl) ?_
    have s4 := s3.new (c := #[Jv 0, Jv 0]) (t := 28)
    refine yK 2 s4.h2 (by kernel_rfl) rfl rfl 14 #[.agg #[Jv 1, Jv 1, Jv 2, Jv (-128), Jv 127, .slice (some ⟨g, 0, none⟩) 1 1, Jv 1], Jv 1, Jv 1, .agg #[Jv 0, Jv 10], Jv 2] (by kernel_rfl) (fx4 g _ (hL.below (bal _ _))) ?_
    rintro e w5 ⟨rfl, hb4⟩
    refine ⟨_, rfl, ?_⟩
    have s5 := s4.call hb4
    refine takeC 3 (v := .tuple #[.agg #[Jv (-20), Jv 30], Jv 0]) rfl rfl (by kernel_rfl) (by kernel_rfl) (by kernel_rfl) (fun _ _ _ h => h) (fun _ => rfl) rfl (fun w' hw' => by go_simp) ?_
    refine takeC 4 (v := .agg #[Jv (-20), Jv 30]) rfl rfl (by kernel_rfl) (by kernel_rfl) (by kernel_rfl) (fun _ _ _ h => h) (fun _ => rfl) rfl (fun w' hw' => by go_simp) ?_
    refine takeC 5 (v := Jv 0) rfl rfl (by kernel_rfl) (by kernel_rfl) (by kernel_rfl) (fun _ _ _ h => h) (fun _ => rfl) rfl (fun w' hw' => by go_simp) ?_
    obtain ⟨B4, hB⟩ : ∃ B, w3.heap.size = B := ⟨_, rfl⟩
    rw [hB] at s5 ⊢
    have hne : ∀ x ∈ ((W.heap.size, #[Jv 0, Jv 10], 28) :: (B3, #[Jv (-19), Jv 31], 28) :: (B2, #[Jv (-19), Jv 31], 28) :: [] : List (Nat × Array Value × TypeId)), x.1 < B4 := fun x hx => by rw [← hB]; exact lt_of_heap (s3.2 x hx).1
    rotate_left
    refine yO rfl rfl (.pointer (some ⟨w2.heap.size, 0, none⟩)) (w2.alloc (.cells #[Jv 0, Jv 0] 28)) (by kernel_rfl) ?_
    have s3 := s2.new (c := #[Jv 0, Jv 0]) (t := 28)
    refine yK 0 s3.h2 (by kernel_rfl) rfl rfl 24 #[] (by kernel_rfl) (one13_any _) ?_
    rintro e w3 ⟨g, rfl, hL, hb⟩
    refine ⟨_, rfl, ?_⟩
    have s4 := s3.call hb
    refine yK 2 s4.h2 (by kernel_rfl) rfl rfl 14 #[.agg #[Jv 1, Jv 1, Jv 2, Jv (-128), Jv 127, .slice (some ⟨g, 0, none⟩) 1 1, Jv 1], Jv 1, Jv 1, .agg #[Jv 0, Jv 10], Jv 2] (by kernel_rfl) (fx4 g _ hL) ?_
    rintro e w5 ⟨rfl, hb4⟩
    refine ⟨_, rfl, ?_⟩
    have s5 := s4.call hb4
    refine takeC 3 (v := .tuple #[.agg #[Jv (-20), Jv 30], Jv 0]) rfl rfl (by kernel_rfl) (by kernel_rfl) (by kernel_rfl) (fun _ _ _ h => h) (fun _ => rfl) rfl (fun w' hw' => by go_simp) ?_
    refine takeC 4 (v := .agg #[Jv (-20), Jv 30]) rfl rfl (by kernel_rfl) (by kernel_rfl) (by kernel_rfl) (fun _ _ _ h => h) (fun _ => rfl) rfl (fun w' hw' => by go_simp) ?_
    refine takeC 5 (v := Jv 0) rfl rfl (by kernel_rfl) (by kernel_rfl) (by kernel_rfl) (fun _ _ _ h => h) (fun _ => rfl) rfl (fun w' hw' => by go_simp) ?_
    obtain ⟨B4, hB⟩ : ∃ B, w2.heap.size = B := ⟨_, rfl⟩
    rw [hB] at s5 ⊢
    have hne : ∀ x ∈ ((W.heap.size, #[Jv 0, Jv 10], 28) :: (B3, #[Jv (-19), Jv 31], 28) :: (B2, #[Jv (-19), Jv 31], 28) :: [] : List (Nat × Array Value × TypeId)), x.1 < B4 := fun x hx => by rw [← hB]; exact lt_of_heap (s2.2 x hx).1
    all_goals
      refine yS 7 s5.h2 (by kernel_rfl) rfl rfl 28 (.tmp 6) (.tmp 29) rfl B4 #[Jv (-20), Jv 30] (by kernel_rfl) (by kernel_rfl) 28 #[Jv 0, Jv 0] s5.h1 (by kernel_rfl) rfl (by simp [Value.oneCell']) ?_
      have s6 := (s5.rowset (c' := #[Jv (-20), Jv 30]) (fun x hx => Nat.ne_of_lt (hne x hx))).up1
      obtain ⟨w6, hw6⟩ : ∃ w6, w5.setRow B4 #[Jv (-20), Jv 30] = w6 := ⟨_, rfl⟩
      rw [hw6] at s6 ⊢
      refine yR 8 s6.h1 (by kernel_rfl) rfl rfl (Jv 0) w6 (by kernel_rfl) ?_
      exact doneM s6.h1 (by kernel_rfl) ⟨g, B4, by kernel_rfl, s6⟩ _
  rintro a' w2 ⟨g4, B4, rfl, s2⟩
  clear S1
  obtain ⟨w1, hw1⟩ : ∃ w1, w1 = w2 := ⟨_, rfl⟩
  rw [← hw1] at s2 ⊢
  have S1 : Hid (St W w1 ((W.heap.size, #[Jv 0, Jv 10], 28) :: (B4, #[Jv (-20), Jv 30], 28) :: (B3, #[Jv (-19), Jv 31], 28) :: (B2, #[Jv (-19), Jv 31], 28) :: [])) := s2
  clear s2 hw1 w2
  go_upto_region 5 with fail
  refine regionG (fun w' => w'.heap[W.heap.size]? = some (.cells #[Jv 0, Jv 10] 28 (0, 0))) (fun a0 a' w' => ∃ (g B5 : Nat), a' = (((((((a0.put (some 32) (.agg #[Jv 1, Jv 1, Jv 2, Jv (-128), Jv 127, .slice (some ⟨g, 0, none⟩) 1 1, Jv 1])).put (some 33) (.agg #[Jv 0, Jv 10])).put (some 34) (.tuple #[.agg #[Jv (-20), Jv 30], Jv 0])).put (some 31) (.tuple #[.agg #[Jv (-20), Jv 30], Jv 0])).put (some 35) (.agg #[Jv (-20), Jv 30])).put (some 36) (Jv 0)).put (some 8) (.pointer (some ⟨B5, 0, none⟩))).put (some 9) (Jv 0) ∧ St W w' ((W.heap.size, #[Jv 0, Jv 10], 28) :: (B5, #[Jv (-20), Jv 30], 28) :: (B4, #[Jv (-20), Jv 30], 28) :: (B3, #[Jv (-19), Jv 31], 28) :: (B2, #[Jv (-19), Jv 31], 28) :: [])) (by kernel_rfl) ?_ ?_
  rotate_left
  rotate_left
  · have s2 := S1.out.drew
    obtain ⟨w2, hw2⟩ : ∃ w2, w1.drew = w2 := ⟨_, rfl⟩
    rw [hw2] at s2 ⊢
    have hx := s2.size
    refine takeC 1 (v := .agg #[Jv 0, Jv 10]) rfl rfl (by kernel_rfl) (by kernel_rfl) (by kernel_rfl) (fun _ _ _ h => h) (fun _ => rfl) rfl (fun w' hw' => run_la 28 (.tmp 1) rfl ⟨W.heap.size, 0, none⟩ (by kernel_rfl) [Jv 0, Jv 10] _ (fun j v hj => by rw [Addr.add_lit, Nat.zero_add, (cells_at hw').1]; simpa using hj) Tryz.underlying28 rfl (by kernel_rfl)) ?_
    refine y2 0 6 s2.h1 (by kernel_rfl) ?_ ?_
    refine yC rfl rfl 24 #[] (by kernel_rfl) (one13_any _) ?_
    rintro e w3 ⟨g, rfl, hL, hb⟩
    refine ⟨_, rfl, ?_⟩
    have s3 := s2.call hb
    refine y2 2 6 s3.h1 (by kernel_rfl) ?_ ?_
    refine yC rfl rfl 7 #[.agg #[Jv 1, Jv 1, Jv 2, Jv (-128), Jv 127, .slice (some ⟨g, 0, none⟩) 1 1, Jv 1], Jv 1, Jv 1, .agg #[Jv 0, Jv 10]] (by kernel_rfl) (fx5 g _ hL) ?_
    rintro e w4 ⟨rfl, hb4⟩
    refine ⟨_, rfl, ?_⟩
    have s4 := s3.call hb4
    refine takeC 3 (v := .tuple #[.agg #[Jv (-20), Jv 30], Jv 0]) rfl rfl (by kernel_rfl) (by kernel_rfl) (by kernel_rfl) (fun _ _ _ h => h) (fun _ => rfl) rfl (fun w' hw' => by go_simp) ?_
    refine takeC 4 (v := .agg #[Jv (-20), Jv 30]) rfl rfl (by kernel_rfl) (by kernel_rfl) (by kernel_rfl) (fun _ _ _ h => h) (fun _ => rfl) rfl (fun w' hw' => by go_simp) ?_
    refine takeC 5 (v := Jv 0) rfl rfl (by kernel_rfl) (by kernel_rfl) (by kernel_rfl) (fun _ _ _ h => h) (fun _ => rfl) rfl (fun w' hw' => by go_simp) ?_
    refine yR 6 s4.h1 (by kernel_rfl) rfl rfl (.pointer (some ⟨w4.heap.size, 0, none⟩)) (w4.alloc (.cells #[Jv 0, Jv 0] 28)) (by kernel_rfl) ?_
    have hB' := lt_of_heap s4.h1
    have s5 := s4.new (c := #[Jv 0, Jv 0]) (t := 28)
    obtain ⟨B5, hB⟩ : ∃ B, w4.heap.size = B := ⟨_, rfl⟩
    obtain ⟨w5, hw5⟩ : ∃ w5, w4.alloc (.cells #[Jv 0, Jv 0] 28) = w5 := ⟨_, rfl⟩
    rw [hw5, hB] at s5 ⊢
    have hne : ∀ x ∈ ((W.heap.size, #[Jv 0, Jv 10], 28) :: (B4, #[Jv (-20), Jv 30], 28) :: (B3, #[Jv (-19), Jv 31], 28) :: (B2, #[Jv (-19), Jv 31], 28) :: [] : List (Nat × Array Value × TypeId)), x.1 < B5 := fun x hx => by rw [← hB]; exact lt_of_heap (s4.2 x hx).1
    rotate_left
    refine yO rfl rfl (.pointer (some ⟨w3.heap.size, 0, none⟩)) (w3.alloc (.cells #[Jv 0, Jv 0] 28)) (by kernel_rfl) ?_
    have s4 := s3.new (c := #[Jv 0, Jv 0]) (t := 28)
    refine yK 2 s4.h2 (by kernel_rfl) rfl rfl 7 #[.agg #[Jv 1, Jv 1, Jv 2, Jv (-128), Jv 127, .slice (some ⟨g, 0, none⟩) 1 1, Jv 1], Jv 1, Jv 1, .agg #[Jv 0, Jv 10]] (by kernel_rfl) (fx5 g _ (hL.below (bal _ _))) ?_
    rintro e w5 ⟨rfl, hb4⟩
    refine ⟨_, rfl, ?_⟩
    have s5 := s4.call hb4
    refine takeC 3 (v := .tuple #[.agg #[Jv (-20), Jv 30], Jv 0]) rfl rfl (by kernel_rfl) (by kernel_rfl) (by kernel_rfl) (fun _ _ _ h => h) (fun _ => rfl) rfl (fun w' hw' => by go_simp) ?_
    refine takeC 4 (v := .agg #[Jv (-20), Jv 30]) rfl rfl (by kernel_rfl) (by kernel_rfl) (by kernel_rfl) (fun _ _ _ h => h) (fun _ => rfl) rfl (fun w' hw' => by go_simp) ?_
    refine takeC 5 (v := Jv 0) rfl rfl (by kernel_rfl) (by kernel_rfl) (by kernel_rfl) (fun _ _ _ h => h) (fun _ => rfl) rfl (fun w' hw' => by go_simp) ?_
    obtain ⟨B5, hB⟩ : ∃ B, w3.heap.size = B := ⟨_, rfl⟩
    rw [hB] at s5 ⊢
    have hne : ∀ x ∈ ((W.heap.size, #[Jv 0, Jv 10], 28) :: (B4, #[Jv (-20), Jv 30], 28) :: (B3, #[Jv (-19), Jv 31], 28) :: (B2, #[Jv (-19), Jv 31], 28) :: [] : List (Nat × Array Value × TypeId)), x.1 < B5 := fun x hx => by rw [← hB]; exact lt_of_heap (s3.2 x hx).1
    rotate_left
    refine yO rfl rfl (.pointer (some ⟨w2.heap.size, 0, none⟩)) (w2.alloc (.cells #[Jv 0, Jv 0] 28)) (by kernel_rfl) ?_
    have s3 := s2.new (c := #[Jv 0, Jv 0]) (t := 28)
    refine yK 0 s3.h2 (by kernel_rfl) rfl rfl 24 #[] (by kernel_rfl) (one13_any _) ?_
    rintro e w3 ⟨g, rfl, hL, hb⟩
    refine ⟨_, rfl, ?_⟩
    have s4 := s3.call hb
    refine yK 2 s4.h2 (by kernel_rfl) rfl rfl 7 #[.agg #[Jv 1, Jv 1, Jv 2, Jv (-128), Jv 127, .slice (some ⟨g, 0, none⟩) 1 1, Jv 1], Jv 1, Jv 1, .agg #[Jv 0, Jv 10]] (by kernel_rfl) (fx5 g _ hL) ?_
    rintro e w5 ⟨rfl, hb4⟩
    refine ⟨_, rfl, ?_⟩
    have s5 := s4.call hb4
    refine takeC 3 (v := .tuple #[.agg #[Jv (-20), Jv 30], Jv 0]) rfl rfl (by kernel_rfl) (by kernel_rfl) (by kernel_rfl) (fun _ _ _ h => h) (fun _ => rfl) rfl (fun w' hw' => by go_simp) ?_
    refine takeC 4 (v := .agg #[Jv (-20), Jv 30]) rfl rfl (by kernel_rfl) (by kernel_rfl) (by kernel_rfl) (fun _ _ _ h => h) (fun _ => rfl) rfl (fun w' hw' => by go_simp) ?_
    refine takeC 5 (v := Jv 0) rfl rfl (by kernel_rfl) (by kernel_rfl) (by kernel_rfl) (fun _ _ _ h => h) (fun _ => rfl) rfl (fun w' hw' => by go_simp) ?_
    obtain ⟨B5, hB⟩ : ∃ B, w2.heap.size = B := ⟨_, rfl⟩
    rw [hB] at s5 ⊢
    have hne : ∀ x ∈ ((W.heap.size, #[Jv 0, Jv 10], 28) :: (B4, #[Jv (-20), Jv 30], 28) :: (B3, #[Jv (-19), Jv 31], 28) :: (B2, #[Jv (-19), Jv 31], 28) :: [] : List (Nat × Array Value × TypeId)), x.1 < B5 := fun x hx => by rw [← hB]; exact lt_of_heap (s2.2 x hx).1
    all_goals
      refine yS 7 s5.h2 (by kernel_rfl) rfl rfl 28 (.tmp 8) (.tmp 35) rfl B5 #[Jv (-20), Jv 30] (by kernel_rfl) (by kernel_rfl) 28 #[Jv 0, Jv 0] s5.h1 (by kernel_rfl) rfl (by simp [Value.oneCell']) ?_
      have s6 := (s5.rowset (c' := #[Jv (-20), Jv 30]) (fun x hx => Nat.ne_of_lt (hne x hx))).up1
      obtain ⟨w6, hw6⟩ : ∃ w6, w5.setRow B5 #[Jv (-20), Jv 30] = w6 := ⟨_, rfl⟩
      rw [hw6] at s6 ⊢
      refine yR 8 s6.h1 (by kernel_rfl) rfl rfl (Jv 0) w6 (by kernel_rfl) ?_
      exact doneM s6.h1 (by kernel_rfl) ⟨g, B5, by kernel_rfl, s6⟩ _
  rintro a' w2 ⟨g5, B5, rfl, s2⟩
  clear S1
  obtain ⟨w1, hw1⟩ : ∃ w1, w1 = w2 := ⟨_, rfl⟩
  rw [← hw1] at s2 ⊢
  have S1 : Hid (St W w1 ((W.heap.size, #[Jv 0, Jv 10], 28) :: (B5, #[Jv (-20), Jv 30], 28) :: (B4, #[Jv (-20), Jv 30], 28) :: (B3, #[Jv (-19), Jv 31], 28) :: (B2, #[Jv (-19), Jv 31], 28) :: [])) := s2
  clear s2 hw1 w2
  go_upto_region 6 with fail
  refine regionG (fun w' => w'.heap[W.heap.size]? = some (.cells #[Jv 0, Jv 10] 28 (0, 0))) (fun a0 a' w' => ∃ (g B6 : Nat), a' = (((((((a0.put (some 38) (.agg #[Jv 1, Jv 1, Jv 2, Jv (-128), Jv 127, .slice (some ⟨g, 0, none⟩) 1 1, Jv 1])).put (some 39) (.agg #[Jv 0, Jv 10])).put (some 40) (.tuple #[.agg #[Jv (0), Jv 0], Jv 151])).put (some 37) (.tuple #[.agg #[Jv (0), Jv 0], Jv 151])).put (some 41) (.agg #[Jv (0), Jv 0])).put (some 42) (Jv 151)).put (some 10) (.pointer (some ⟨B6, 0, none⟩))).put (some 11) (Jv 151) ∧ St W w' ((W.heap.size, #[Jv 0, Jv 10], 28) :: (B6, #[Jv (0), Jv 0], 28) :: (B5, #[Jv (-20), Jv 30], 28) :: (B4, #[Jv (-20), Jv 30], 28) :: (B3, #[Jv (-19), Jv 31], 28) :: (B2, #[Jv (-19), Jv 31], 28) :: [])) (by kernel_rfl) ?_ ?_
  rotate_left
  rotate_left
  · have s2 := S1.out.drew
    obtain ⟨w2, hw2⟩ : ∃ w2, w1.drew = w2 := ⟨_, rfl⟩
    rw [hw2] at s2 ⊢
    have hx := s2.size
    refine takeC 1 (v := .agg #[Jv 0, Jv 10]) rfl rfl (by kernel_rfl) (by kernel_rfl) (by kernel_rfl) (fun _ _ _ h => h) (fun _ => rfl) rfl (fun w' hw' => run_la 28 (.tmp 1) rfl ⟨W.heap.size, 0, none⟩ (by kernel_rfl) [Jv 0, Jv 10] _ (fun j v hj => by rw [Addr.add_lit, Nat.zero_add, (cells_at hw').1]; simpa using hj) Tryz.underlying28 rfl (by kernel_rfl)) ?_
    refine y2 0 6 s2.h1 (by kernel_rfl) ?_ ?_
    refine yC rfl rfl 24 #[] (by kernel_rfl) (one13_any _) ?_
    rintro e w3 ⟨g, rfl, hL, hb⟩
    refine ⟨_, rfl, ?_⟩
    have s3 := s2.call hb
    refine y2 2 6 s3.h1 (by kernel_rfl) ?_ ?_
    refine yC rfl rfl 14 #[.agg #[Jv 1, Jv 1, Jv 2, Jv (-128), Jv 127, .slice (some ⟨g, 0, none⟩) 1 1, Jv 1], Jv 1, Jv 1, .agg #[Jv 0, Jv 10], Jv 3] (by kernel_rfl) (fx6 g _ hL) ?_
    rintro e w4 ⟨rfl, hb4⟩
    refine ⟨_, rfl, ?_⟩
    have s4 := s3.call hb4
    refine takeC 3 (v := .tuple #[.agg #[Jv (0), Jv 0], Jv 151]) rfl rfl (by kernel_rfl) (by kernel_rfl) (by kernel_rfl) (fun _ _ _ h => h) (fun _ => rfl) rfl (fun w' hw' => by go_simp) ?_
    refine takeC 4 (v := .agg #[Jv (0), Jv 0]) rfl rfl (by kernel_rfl) (by kernel_rfl) (by kernel_rfl) (fun _ _ _ h => h) (fun _ => rfl) rfl (fun w' hw' => by go_simp) ?_
    refine takeC 5 (v := Jv 151) rfl rfl (by kernel_rfl) (by kernel_rfl) (by kernel_rfl) (fun _ _ _ h => h) (fun _ => rfl) rfl (fun w' hw' => by go_simp) ?_
    refine yR 6 s4.h1 (by kernel_rfl) rfl rfl (.pointer (some ⟨w4.heap.size, 0, none⟩)) (w4.alloc (.cells #[Jv 0, Jv 0] 28)) (by kernel_rfl) ?_
    have hB' := lt_of_heap s4.h1
    have s5 := s4.new (c := #[Jv 0, Jv 0]) (t := 28)
    obtain ⟨B6, hB⟩ : ∃ B, w4.heap.size = B := ⟨_, rfl⟩
    obtain ⟨w5, hw5⟩ : ∃ w5, w4.alloc (.cells #[Jv 0, Jv 0] 28) = w5 := ⟨_, rfl⟩
    rw [hw5, hB] at s5 ⊢
    have hne : ∀ x ∈ ((W.heap.size, #[Jv 0, Jv 10], 28) :: (B5, #[Jv (-20), Jv 30], 28) :: (B4, #[Jv (-20), Jv 30], 28) :: (B3, #[Jv (-19), Jv 31], 28) :: (B2, #[Jv (-19), Jv 31], 28) :: [] : List (Nat × Array Value × TypeId)), x.1 < B6 := fun x hx => by rw [← hB]; exact lt_of_heap (s4.2 x hx).1
    rotate_left
    refine yO rfl rfl (.pointer (some ⟨w3.heap.size, 0, none⟩)) (w3.alloc (.cells #[Jv 0, Jv 0] 28)) (by kernel_rfl) ?_
    have s4 := s3.new (c := #[Jv 0, Jv 0]) (t := 28)
    refine yK 2 s4.h2 (by kernel_rfl) rfl rfl 14 #[.agg #[Jv 1, Jv 1, Jv 2, Jv (-128), Jv 127, .slice (some ⟨g, 0, none⟩) 1 1, Jv 1], Jv 1, Jv 1, .agg #[Jv 0, Jv 10], Jv 3] (by kernel_rfl) (fx6 g _ (hL.below (bal _ _))) ?_
    rintro e w5 ⟨rfl, hb4⟩
    refine ⟨_, rfl, ?_⟩
    have s5 := s4.call hb4
    refine takeC 3 (v := .tuple #[.agg #[Jv (0), Jv 0], Jv 151]) rfl rfl (by kernel_rfl) (by kernel_rfl) (by kernel_rfl) (fun _ _ _ h => h) (fun _ => rfl) rfl (fun w' hw' => by go_simp) ?_
    refine takeC 4 (v := .agg #[Jv (0), Jv 0]) rfl rfl (by kernel_rfl) (by kernel_rfl) (by kernel_rfl) (fun _ _ _ h => h) (fun _ => rfl) rfl (fun w' hw' => by go_simp) ?_
    refine takeC 5 (v := Jv 151) rfl rfl (by kernel_rfl) (by kernel_rfl) (by kernel_rfl) (fun _ _ _ h => h) (fun _ => rfl) rfl (fun w' hw' => by go_simp) ?_
    obtain ⟨B6, hB⟩ : ∃ B, w3.heap.size = B := ⟨_, rfl⟩
    rw [hB] at s5 ⊢
    have hne : ∀ x ∈ ((W.heap.size, #[Jv 0, Jv 10], 28) :: (B5, #[Jv (-20), Jv 30], 28) :: (B4, #[Jv (-20), Jv 30], 28) :: (B3, #[Jv (-19), Jv 31], 28) :: (B2, #[Jv (-19), Jv 31], 28) :: [] : List (Nat × Array Value × TypeId)), x.1 < B6 := fun x hx => by rw [← hB]; exact lt_of_heap (s3.2 x hx).1
    rotate_left
    refine yO rfl rfl (.pointer (some ⟨w2.heap.size, 0, none⟩)) (w2.alloc (.cells #[Jv 0, Jv 0] 28)) (by kernel_rfl) ?_
    have s3 := s2.new (c := #[Jv 0, Jv 0]) (t := 28)
    refine yK 0 s3.h2 (by kernel_rfl) rfl rfl 24 #[] (by kernel_rfl) (one13_any _) ?_
    rintro e w3 ⟨g, rfl, hL, hb⟩
    refine ⟨_, rfl, ?_⟩
    have s4 := s3.call hb
    refine yK 2 s4.h2 (by kernel_rfl) rfl rfl 14 #[.agg #[Jv 1, Jv 1, Jv 2, Jv (-128), Jv 127, .slice (some ⟨g, 0, none⟩) 1 1, Jv 1], Jv 1, Jv 1, .agg #[Jv 0, Jv 10], Jv 3] (by kernel_rfl) (fx6 g _ hL) ?_
    rintro e w5 ⟨rfl, hb4⟩
    refine ⟨_, rfl, ?_⟩
    have s5 := s4.call hb4
    refine takeC 3 (v := .tuple #[.agg #[Jv (0), Jv 0], Jv 151]) rfl rfl (by kernel_rfl) (by kernel_rfl) (by kernel_rfl) (fun _ _ _ h => h) (fun _ => rfl) rfl (fun w' hw' => by go_simp) ?_
    refine takeC 4 (v := .agg #[Jv (0), Jv 0]) rfl rfl (by kernel_rfl) (by kernel_rfl) (by kernel_rfl) (fun _ _ _ h => h) (fun _ => rfl) rfl (fun w' hw' => by go_simp) ?_
    refine takeC 5 (v := Jv 151) rfl rfl (by kernel_rfl) (by kernel_rfl) (by kernel_rfl) (fun _ _ _ h => h) (fun _ => rfl) rfl (fun w' hw' => by go_simp) ?_
    obtain ⟨B6, hB⟩ : ∃ B, w2.heap.size = B := ⟨_, rfl⟩
    rw [hB] at s5 ⊢
    have hne : ∀ x ∈ ((W.heap.size, #[Jv 0, Jv 10], 28) :: (B5, #[Jv (-20), Jv 30], 28) :: (B4, #[Jv (-20), Jv 30], 28) :: (B3, #[Jv (-19), Jv 31], 28) :: (B2, #[Jv (-19), Jv 31], 28) :: [] : List (Nat × Array Value × TypeId)), x.1 < B6 := fun x hx => by rw [← hB]; exact lt_of_heap (s2.2 x hx).1
    all_goals
      refine yS 7 s5.h2 (by kernel_rfl) rfl rfl 28 (.tmp 10) (.tmp 41) rfl B6 #[Jv (0), Jv 0] (by kernel_rfl) (by kernel_rfl) 28 #[Jv 0, Jv 0] s5.h1 (by kernel_rfl) rfl (by simp [Value.oneCell']) ?_
      have s6 := (s5.rowset (c' := #[Jv (0), Jv 0]) (fun x hx => Nat.ne_of_lt (hne x hx))).up1
      obtain ⟨w6, hw6⟩ : ∃ w6, w5.setRow B6 #[Jv (0), Jv 0] = w6 := ⟨_, rfl⟩
      rw [hw6] at s6 ⊢
      refine yR 8 s6.h1 (by kernel_rfl) rfl rfl (Jv 151) w6 (by kernel_rfl) ?_
      exact doneM s6.h1 (by kernel_rfl) ⟨g, B6, by kernel_rfl, s6⟩ _
  rintro a' w2 ⟨g6, B6, rfl, s2⟩
  clear S1
  obtain ⟨w1, hw1⟩ : ∃ w1, w1 = w2 := ⟨_, rfl⟩
  rw [← hw1] at s2 ⊢
  have S1 : Hid (St W w1 ((W.heap.size, #[Jv 0, Jv 10], 28) :: (B6, #[Jv (0), Jv 0], 28) :: (B5, #[Jv (-20), Jv 30], 28) :: (B4, #[Jv (-20), Jv 30], 28) :: (B3, #[Jv (-19), Jv 31], 28) :: (B2, #[Jv (-19), Jv 31], 28) :: [])) := s2
  clear s2 hw1 w2
  obtain ⟨-, -, -, c6, f6, z6, c5, f5, z5, c4, f4, z4, c3, f3, z3, c2, f2, z2, -⟩ := S1.out.rules
  have q1 := beqS 28 rfl (-19) 31 (-19) 31 true (by decide)
  have q2 := beqS 28 rfl (-20) 30 (-20) 30 true (by decide)
  go_wp2
  go_ret
  exact ⟨rfl, S1.out.below⟩
end Go.Proofs.YtcphealigifdiaaGreat
