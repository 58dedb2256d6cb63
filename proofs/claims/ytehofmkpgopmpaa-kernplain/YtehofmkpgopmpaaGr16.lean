/- The document's one of layer 8: the error of an op, the shape that it makes. -/
import Derived.Test.YtehofmkpgopmpaaGr11
import Derived.Test.YtehofmkpgopmpaaGr14
import Derived.Test.YtehofmkpgopmpaaGr15
/- The document's one of layer 8: the error of an op, the shape that it makes. -/
namespace Go.Proofs.Ytehofmkpgopmpaa
open Go.ChangeShapes Go.WideShapes Go.ChangeAt Go.RowKit
set_option linter.unusedVariables false
/-! ### The error, exit by exit -/
theorem op_1 {k a b m kh kw sh sw tp lf bt rt : Int} {lw lb : Nat} {sm ss um us z p lo hi : Int} {L : List (Int × Int × Int)} {x : Int} (hf : fmE k a b L.length (ozB k b m kh kw sh sw tp lf bt rt lw lb sm ss um us z p) = x) (hx : x ≠ 0) : opE k a b m kh kw sh sw tp lf bt rt lw lb sm ss um us z p lo hi L = x := by unfold opE; rw [hf, if_pos hx]
theorem op_2 {k a b m kh kw sh sw tp lf bt rt : Int} {lw lb : Nat} {sm ss um us z p lo hi : Int} {L : List (Int × Int × Int)} {h w c x : Int} (hf : Hid (fmE k a b L.length (ozB k b m kh kw sh sw tp lf bt rt lw lb sm ss um us z p) = 0)) (hA : ShA L a = (h, w, c)) (hx : mkE k m kh kw sh sw tp lf bt rt h w c = x) (h0 : x ≠ 0) : opE k a b m kh kw sh sw tp lf bt rt lw lb sm ss um us z p lo hi L = x := by
  unfold opE; rw [hf.out, if_neg (by decide), hA]; simp only; rw [hx, if_pos h0]
theorem op_3 {k a b m kh kw sh sw tp lf bt rt : Int} {lw lb : Nat} {sm ss um us z p lo hi : Int} {L : List (Int × Int × Int)} {h w c : Int} (hf : Hid (fmE k a b L.length (ozB k b m kh kw sh sw tp lf bt rt lw lb sm ss um us z p) = 0)) (hA : ShA L a = (h, w, c)) (hx : mkE k m kh kw sh sw tp lf bt rt h w c = 0) (hn : k = 6 ∧ ShA L a ≠ ShA L b) : opE k a b m kh kw sh sw tp lf bt rt lw lb sm ss um us z p lo hi L = 50 := by
  unfold opE
  rw [if_neg (by rw [hf.out]; decide), if_neg (by rw [hA]; simp only; rw [hx]; decide), if_pos hn]
theorem op_4 {k a b m kh kw sh sw tp lf bt rt : Int} {lw lb : Nat} {sm ss um us z p lo hi : Int} {L : List (Int × Int × Int)} {h w c st : Int} (hf : Hid (fmE k a b L.length (ozB k b m kh kw sh sw tp lf bt rt lw lb sm ss um us z p) = 0)) (hA : ShA L a = (h, w, c)) (hx : mkE k m kh kw sh sw tp lf bt rt h w c = 0) (hn : ¬ (k = 6 ∧ ShA L a ≠ ShA L b)) (hst : stR k kh kw h w c = st) (hr : rdB k = true ∧ 512 < st) : opE k a b m kh kw sh sw tp lf bt rt lw lb sm ss um us z p lo hi L = 84 := by
  unfold opE
  rw [if_neg (by rw [hf.out]; decide), if_neg (by rw [hA]; simp only; rw [hx]; decide), if_neg hn, if_pos (by unfold st3; rw [hA]; simp only; rw [hst]; exact hr)]
theorem op_n {k a b m kh kw sh sw tp lf bt rt : Int} {lw lb : Nat} {sm ss um us z p lo hi : Int} {L : List (Int × Int × Int)} {h w c st C : Int} (hf : Hid (fmE k a b L.length (ozB k b m kh kw sh sw tp lf bt rt lw lb sm ss um us z p) = 0)) (hA : ShA L a = (h, w, c)) (hx : mkE k m kh kw sh sw tp lf bt rt h w c = 0) (hC : (mkS k m kh kw sh sw tp lf bt rt h w c).2.2 = C) (hn : ¬ (k = 6 ∧ ShA L a ≠ ShA L b)) (hst : stR k kh kw h w c = st) (hr : ¬ (rdB k = true ∧ 512 < st)) : opE k a b m kh kw sh sw tp lf bt rt lw lb sm ss um us z p lo hi L = nuE k C st lw lb sm ss um us z p lo hi := by
  unfold opE
  rw [if_neg (by rw [hf.out]; decide), if_neg (by rw [hA]; simp only; rw [hx]; decide), if_neg hn, if_neg (by unfold st3; rw [hA]; simp only; rw [hst]; exact hr)]
  unfold st3 mk3
  rw [hA]
  simp only
  rw [hC, hst]
/-- What it answers: the shape. -/
def onS (k m kh kw sh sw tp lf bt rt e : Int) (s : Int × Int × Int) : Int × Int × Int := if e = 0 then mk3 k m kh kw sh sw tp lf bt rt s else (0, 0, 0)
theorem onS_no {k m kh kw sh sw tp lf bt rt e : Int} {s : Int × Int × Int} (h : e ≠ 0) : onS k m kh kw sh sw tp lf bt rt e s = (0, 0, 0) := if_neg h
theorem St.out3 {w0 w : World} {l l0 : List (Nat × Array Value × TypeId)} {R : Nat} {a b c : Value} (h : St w0 w l0) (hs : ∀ x ∈ l, x ∈ l0) (hR : w0.heap.size ≤ R) (hl : ∀ x ∈ l, x.1 ≠ R) :
    St w0 (((w.setCell ⟨R, 0, none⟩ a).setCell ⟨R, 1, none⟩ b).setCell ⟨R, 2, none⟩ c) l :=
  ⟨set3b h.1 hR, fun x hx => ⟨by rw [Below.heap_setCell _ _ _ _ (hl x hx), Below.heap_setCell _ _ _ _ (hl x hx), Below.heap_setCell _ _ _ _ (hl x hx)]; exact (h.2 x (hs x hx)).1, (h.2 x (hs x hx)).2⟩⟩
theorem St.lt {w0 w : World} {l : List (Nat × Array Value × TypeId)} (h : St w0 w l) : ∀ x ∈ l, x.1 < w.heap.size := fun x hx => lt_of_heap (h.2 x hx).1
/-! ### Ahead of the shapes -/
end Go.Proofs.Ytehofmkpgopmpaa
