/- Ops in plain numbers: what they make, their errors, their work; small laws of memory. -/
import Derived.Test.YthagdpiocmcbmaaMdlA
import Derived.Deep.DeepCutAuto
namespace Go.Proofs.Ythagdpiocmcbmaa
open Go.ChangeShapes Go.WideShapes Go.ChangeAt Go.RowKit
/-! ### In plain numbers -/
def fmE (k a b n : Int) (oz : Bool) : Int := if ¬ (1 ≤ k ∧ k ≤ 8) then 81 else if ¬ (0 ≤ a ∧ a < n) then 82 else if k = 6 ∧ ¬ (0 ≤ b ∧ b < n) then 82 else if oz = false then 83 else 0
theorem fmE_0 {k a b n : Int} {oz : Bool} (h : fmE k a b n oz = 0) : (1 ≤ k ∧ k ≤ 8) ∧ (0 ≤ a ∧ a < n) ∧ (k = 6 → 0 ≤ b ∧ b < n) ∧ oz = true := by
  unfold fmE at h
  by_cases h1 : 1 ≤ k ∧ k ≤ 8
  · by_cases h2 : 0 ≤ a ∧ a < n
    · by_cases h3 : k = 6 ∧ ¬ (0 ≤ b ∧ b < n)
      · rw [if_neg (by simp [h1]), if_neg (by simp [h2]), if_pos h3] at h; cases h
      · cases oz with
        | false => rw [if_neg (by simp [h1]), if_neg (by simp [h2]), if_neg h3, if_pos rfl] at h; cases h
        | true => exact ⟨h1, h2, fun e => by omega, rfl⟩
    · rw [if_neg (by simp [h1]), if_pos h2] at h; cases h
  · rw [if_pos h1] at h; cases h
theorem fm_81 {k a b n : Int} {oz : Bool} (h : ¬ (1 ≤ k ∧ k ≤ 8)) : 81 = fmE k a b n oz := by unfold fmE; rw [if_pos h]
theorem fm_82 {k a b n : Int} {oz : Bool} (h1 : 1 ≤ k ∧ k ≤ 8) (h : ¬ (0 ≤ a ∧ a < n)) : 82 = fmE k a b n oz := by unfold fmE; rw [if_neg (by simp [h1]), if_pos h]
theorem fm_83 {k a b n : Int} {oz : Bool} (h1 : 1 ≤ k ∧ k ≤ 8) (h2 : 0 ≤ a ∧ a < n) (h : k = 6 ∧ ¬ (0 ≤ b ∧ b < n)) : 82 = fmE k a b n oz := by unfold fmE; rw [if_neg (by simp [h1]), if_neg (by simp [h2]), if_pos h]
/-- The shape that an op makes; the error of its window. -/
def mkS (k m kh kw sh sw tp lf bt rt h w c : Int) : Int × Int × Int :=
  if k = 1 then (1, 1, m) else if k = 2 then ((ouR h w c kh kw sh sw tp lf bt rt).1, (ouR h w c kh kw sh sw tp lf bt rt).2.1, m) else if k ≤ 5 then ((ouR h w c kh kw sh sw tp lf bt rt).1, (ouR h w c kh kw sh sw tp lf bt rt).2.1, c) else (h, w, c)
def mkW (k kh kw sh sw tp lf bt rt h w c : Int) : Int := if 2 ≤ k ∧ k ≤ 5 then (ouR h w c kh kw sh sw tp lf bt rt).2.2 else 0
def mkM (k m : Int) : Bool := decide (k ≤ 2 → 1 ≤ m ∧ m ≤ 1024)
def vS3 (s : Int × Int × Int) : Bool := vS s.1 s.2.1 s.2.2
def mkE (k m kh kw sh sw tp lf bt rt h w c : Int) : Int :=
  if mkM k m = false then 2 else if mkW k kh kw sh sw tp lf bt rt h w c ≠ 0 then mkW k kh kw sh sw tp lf bt rt h w c else if vS3 (mkS k m kh kw sh sw tp lf bt rt h w c) = false then 50 else 0
def mkO (k m kh kw sh sw tp lf bt rt h w c : Int) : Int × Int × Int := if mkE k m kh kw sh sw tp lf bt rt h w c = 0 then mkS k m kh kw sh sw tp lf bt rt h w c else (0, 0, 0)
/-- The work of one number. -/
def stR (k kh kw h w c : Int) : Int := if k = 1 then h * w * c else if k = 2 then kh * kw * c else if k ≤ 5 then kh * kw else 1
/-- Lists, scales, ranges. -/
def leB (k ch n : Int) (lw lb : Nat) : Bool := decide (k ≤ 3 → (lw : Int) = ch * n ∧ (lb : Int) = ch)
def ssB (k sm ss um us : Int) : Bool := (!scK k || scB sm ss) && (!(k == 6) || scB um us)
def rzB (z p lo hi : Int) : Bool := rgB lo hi && vlB z && vlB p
def nuE (k ch n : Int) (lw lb : Nat) (sm ss um us z p lo hi : Int) : Int := if leB k ch n lw lb = false then 70 else if ssB k sm ss um us = false then 20 else if rzB z p lo hi = false then 85 else 0
/-! ### The walks -/
theorem St.h1 {w0 w : World} {B : Nat} {c : Array Value} {T : TypeId} {l : List (Nat × Array Value × TypeId)} (h : St w0 w ((B, c, T) :: l)) : w.heap[B]? = some (.cells c T (0, 0)) := (h.2 _ List.mem_cons_self).1
theorem St.h2 {w0 w : World} {B : Nat} {c : Array Value} {T : TypeId} {x : Nat × Array Value × TypeId} {l : List (Nat × Array Value × TypeId)} (h : St w0 w (x :: (B, c, T) :: l)) : w.heap[B]? = some (.cells c T (0, 0)) := h.tail.h1
theorem St.h3 {w0 w : World} {B : Nat} {c : Array Value} {T : TypeId} {x y : Nat × Array Value × TypeId} {l : List (Nat × Array Value × TypeId)} (h : St w0 w (x :: y :: (B, c, T) :: l)) : w.heap[B]? = some (.cells c T (0, 0)) := h.tail.tail.h1
theorem St.h4 {w0 w : World} {B : Nat} {c : Array Value} {T : TypeId} {x y z : Nat × Array Value × TypeId} {l : List (Nat × Array Value × TypeId)} (h : St w0 w (x :: y :: z :: (B, c, T) :: l)) : w.heap[B]? = some (.cells c T (0, 0)) := h.tail.tail.tail.h1
/-- Its two answers in one. -/
theorem ret4 {h w c e h' w' c' e' : Int} (h1 : h = h') (h2 : w = w') (h3 : c = c') (h4 : e = e') : Ending.returned (.tuple #[.agg #[.int .i64 h, .int .i64 w, .int .i64 c], .int .i64 e]) = .returned (.tuple #[.agg #[.int .i64 h', .int .i64 w', .int .i64 c'], .int .i64 e']) := by rw [h1, h2, h3, h4]
theorem set3b {w0 w : World} {B N : Nat} {a b c : Value} (h : Below B w0 w) (hN : B ≤ N) : Below B w0 (((w.setCell ⟨N, 0, none⟩ a).setCell ⟨N, 1, none⟩ b).setCell ⟨N, 2, none⟩ c) :=
  ((h.setCell (p := ⟨N, 0, none⟩) hN a).setCell (p := ⟨N, 1, none⟩) hN b).setCell (p := ⟨N, 2, none⟩) hN c
theorem St.set01 {w0 w : World} {B : Nat} {a b c u v : Value} {t : TypeId} {l : List (Nat × Array Value × TypeId)} (h : St w0 w ((B, #[a, b, c], t) :: l)) (hl : ∀ x ∈ l, x.1 ≠ B) :
    St w0 ((w.setCell ⟨B, 0, none⟩ u).setCell ⟨B, 1, none⟩ v) ((B, #[u, v, c], t) :: l) := (h.set hl (i := 0) (v := u)).set hl (i := 1) (v := v)
theorem St.set012 {w0 w : World} {B : Nat} {a b c u v x : Value} {t : TypeId} {l : List (Nat × Array Value × TypeId)} (h : St w0 w ((B, #[a, b, c], t) :: l)) (hl : ∀ x ∈ l, x.1 ≠ B) :
    St w0 (((w.setCell ⟨B, 0, none⟩ u).setCell ⟨B, 1, none⟩ v).setCell ⟨B, 2, none⟩ x) ((B, #[u, v, x], t) :: l) := (h.set01 hl).set hl (i := 2) (v := x)
theorem mkE_M {k m kh kw sh sw tp lf bt rt h w c : Int} (g : mkM k m = false) : mkE k m kh kw sh sw tp lf bt rt h w c = 2 := by unfold mkE; rw [if_pos g]
theorem mkE_W {k m kh kw sh sw tp lf bt rt h w c e : Int} (g : mkM k m = true) (hw : mkW k kh kw sh sw tp lf bt rt h w c = e) (he : e ≠ 0) : mkE k m kh kw sh sw tp lf bt rt h w c = e := by unfold mkE; rw [if_neg (by rw [g]; decide), hw, if_pos he]
theorem mkE_V {k m kh kw sh sw tp lf bt rt h w c : Int} (g : mkM k m = true) (hw : mkW k kh kw sh sw tp lf bt rt h w c = 0) (hv : vS3 (mkS k m kh kw sh sw tp lf bt rt h w c) = false) : mkE k m kh kw sh sw tp lf bt rt h w c = 50 := by unfold mkE; rw [if_neg (by rw [g]; decide), hw, if_neg (by decide), if_pos hv]
theorem mkE_0 {k m kh kw sh sw tp lf bt rt h w c : Int} (g : mkM k m = true) (hw : mkW k kh kw sh sw tp lf bt rt h w c = 0) (hv : vS3 (mkS k m kh kw sh sw tp lf bt rt h w c) = true) : mkE k m kh kw sh sw tp lf bt rt h w c = 0 := by unfold mkE; rw [if_neg (by rw [g]; decide), hw, if_neg (by decide), if_neg (by rw [hv]; decide)]
theorem mkO_no {k m kh kw sh sw tp lf bt rt h w c e : Int} (g : mkE k m kh kw sh sw tp lf bt rt h w c = e) (he : e ≠ 0) : mkO k m kh kw sh sw tp lf bt rt h w c = (0, 0, 0) := by unfold mkO; rw [if_neg (by rw [g]; exact he)]
theorem mkO_ok {k m kh kw sh sw tp lf bt rt h w c : Int} (g : mkE k m kh kw sh sw tp lf bt rt h w c = 0) : mkO k m kh kw sh sw tp lf bt rt h w c = mkS k m kh kw sh sw tp lf bt rt h w c := by unfold mkO; rw [if_pos g]
end Go.Proofs.Ythagdpiocmcbmaa
