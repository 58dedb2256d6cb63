/- The document's Makes, Length, Lists and Labour of layer 8: what each returns. -/
import Derived.Test.YtehofmkpgopmpaaGr10
import Derived.Test.YtehofmkpgopmpaaGr11
/- The document's Makes, Length, Lists and Labour of layer 8: what each returns. -/
namespace Go.Proofs.Ytehofmkpgopmpaa
open Go.ChangeShapes Go.WideShapes Go.ChangeAt Go.RowKit
set_option linter.unusedVariables false
/-! ### Length -/
/-! ### Makes -/
theorem set33b {w0 w : World} {B N M : Nat} {a b x c d e : Value} (h : Below B w0 w) (hN : B ≤ N) (hM : B ≤ M) : Below B w0 ((((((w.setCell ⟨N, 0, none⟩ a).setCell ⟨N, 1, none⟩ b).setCell ⟨N, 2, none⟩ x).setCell ⟨M, 0, none⟩ c).setCell ⟨M, 1, none⟩ d).setCell ⟨M, 2, none⟩ e) :=
  set3b (set3b h hN) hM
theorem set23b {w0 w : World} {B N M : Nat} {a b c d e : Value} (h : Below B w0 w) (hN : B ≤ N) (hM : B ≤ M) : Below B w0 (((((w.setCell ⟨N, 0, none⟩ a).setCell ⟨N, 1, none⟩ b).setCell ⟨M, 0, none⟩ c).setCell ⟨M, 1, none⟩ d).setCell ⟨M, 2, none⟩ e) :=
  set3b ((h.setCell (p := ⟨N, 0, none⟩) hN a).setCell (p := ⟨N, 1, none⟩) hN b) hM
def rmO (k m kh kw sh sw tp lf bt rt h w c : Int) : Int × Int × Int := if mkW k kh kw sh sw tp lf bt rt h w c = 0 then mkS k m kh kw sh sw tp lf bt rt h w c else (0, 0, 0)
/-! ### Lists -/
def liW (k m c st : Int) : Int := if k ≤ 2 then m * st else if k = 3 then c * st else 0
def liB (k m c : Int) : Int := if k ≤ 2 then m else if k = 3 then c else 0
/-! ### Labour -/
end Go.Proofs.Ytehofmkpgopmpaa
