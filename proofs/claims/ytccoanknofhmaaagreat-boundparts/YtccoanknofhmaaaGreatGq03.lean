/- The small functions of package model, and the document's: kinds, what they use, values. -/
import Derived.Test.YtccoanknofhmaaaGreatGq01
import Derived.Test.YtccoanknofhmaaaGreatGq02
namespace Go.Proofs.YtccoanknofhmaaaGreat
open Go.Value renaming int → U, slice → Sl
open Go.IntKind renaming i64 → i6
set_option maxRecDepth 100000
set_option maxHeartbeats 16000000
open Go.ChangeShapes Go.WideShapes Go.ChangeAt Go.RowKit
def rdB (k:Int):Bool:=decide (1≤k∧k≤4)
def slB (k:Int):Bool:=decide (2≤k∧k≤5)
def weB (k:Int):Bool:=decide (1≤k∧k≤3)
def scK (k:Int):Bool:=decide ((1≤k∧k≤3)∨k=6∨k=7)
def vlB (n:Int):Bool:=decide (-128≤n∧n≤127)
def rgB (lo hi:Int):Bool:=vlB lo && vlB hi && decide (lo≤hi)
theorem eight {k:Int} (h:1≤k∧k≤8):k=1∨k=2∨k=3∨k=4∨k=5∨k=6∨k=7∨k=8:=by omega
theorem uses_1 (w:World) :
  Calls Tryz.prog 101 #[U i6 1] w fun e w'=>e=.returned (.agg #[.bool false,.bool true,.bool false,.bool false,.bool true,.bool true,.bool false,.bool true,.bool false])∧Below w.heap.size w w':=by
 go_enter Tryz.func101,Tryz.ntmps101
 go_wp2
 exact bodyPost_ret (v:=.agg #[.bool false,.bool true,.bool false,.bool false,.bool true,.bool true,.bool false,.bool true,.bool false]) (by simp [results,Tryz.results101,go_sem]) rfl ⟨rfl,(St.start w).new.below⟩
theorem uses_2 (w:World) :
  Calls Tryz.prog 101 #[U i6 2] w fun e w'=>e=.returned (.agg #[.bool false,.bool true,.bool true,.bool true,.bool true,.bool true,.bool false,.bool true,.bool true])∧Below w.heap.size w w':=by
 go_enter Tryz.func101,Tryz.ntmps101
 go_wp2
 exact bodyPost_ret (v:=.agg #[.bool false,.bool true,.bool true,.bool true,.bool true,.bool true,.bool false,.bool true,.bool true]) (by simp [results,Tryz.results101,go_sem]) rfl ⟨rfl,(St.start w).new.below⟩
theorem uses_3 (w:World) :
  Calls Tryz.prog 101 #[U i6 3] w fun e w'=>e=.returned (.agg #[.bool false,.bool false,.bool true,.bool true,.bool true,.bool true,.bool false,.bool true,.bool true])∧Below w.heap.size w w':=by
 go_enter Tryz.func101,Tryz.ntmps101
 go_wp2
 exact bodyPost_ret (v:=.agg #[.bool false,.bool false,.bool true,.bool true,.bool true,.bool true,.bool false,.bool true,.bool true]) (by simp [results,Tryz.results101,go_sem]) rfl ⟨rfl,(St.start w).new.below⟩
theorem uses_4 (w:World) :
  Calls Tryz.prog 101 #[U i6 4] w fun e w'=>e=.returned (.agg #[.bool false,.bool false,.bool true,.bool false,.bool false,.bool false,.bool false,.bool false,.bool false])∧Below w.heap.size w w':=by
 go_enter Tryz.func101,Tryz.ntmps101
 go_wp2
 exact bodyPost_ret (v:=.agg #[.bool false,.bool false,.bool true,.bool false,.bool false,.bool false,.bool false,.bool false,.bool false]) (by simp [results,Tryz.results101,go_sem]) rfl ⟨rfl,(St.start w).new.below⟩
theorem uses_5 (w:World) :
  Calls Tryz.prog 101 #[U i6 5] w fun e w'=>e=.returned (.agg #[.bool false,.bool false,.bool true,.bool false,.bool false,.bool false,.bool false,.bool false,.bool false])∧Below w.heap.size w w':=by
 go_enter Tryz.func101,Tryz.ntmps101
 go_wp2
 exact bodyPost_ret (v:=.agg #[.bool false,.bool false,.bool true,.bool false,.bool false,.bool false,.bool false,.bool false,.bool false]) (by simp [results,Tryz.results101,go_sem]) rfl ⟨rfl,(St.start w).new.below⟩
theorem uses_6 (w:World) :
  Calls Tryz.prog 101 #[U i6 6] w fun e w'=>e=.returned (.agg #[.bool true,.bool false,.bool false,.bool false,.bool false,.bool true,.bool true,.bool true,.bool false])∧Below w.heap.size w w':=by
 go_enter Tryz.func101,Tryz.ntmps101
 go_wp2
 exact bodyPost_ret (v:=.agg #[.bool true,.bool false,.bool false,.bool false,.bool false,.bool true,.bool true,.bool true,.bool false]) (by simp [results,Tryz.results101,go_sem]) rfl ⟨rfl,(St.start w).new.below⟩
theorem uses_7 (w:World) :
  Calls Tryz.prog 101 #[U i6 7] w fun e w'=>e=.returned (.agg #[.bool false,.bool false,.bool false,.bool false,.bool false,.bool true,.bool false,.bool true,.bool false])∧Below w.heap.size w w':=by
 go_enter Tryz.func101,Tryz.ntmps101
 go_wp2
 exact bodyPost_ret (v:=.agg #[.bool false,.bool false,.bool false,.bool false,.bool false,.bool true,.bool false,.bool true,.bool false]) (by simp [results,Tryz.results101,go_sem]) rfl ⟨rfl,(St.start w).new.below⟩
theorem uses_8 (w:World) :
  Calls Tryz.prog 101 #[U i6 8] w fun e w'=>e=.returned (.agg #[.bool false,.bool false,.bool false,.bool false,.bool false,.bool false,.bool false,.bool false,.bool false])∧Below w.heap.size w w':=by
 go_enter Tryz.func101,Tryz.ntmps101
 go_wp2
 exact bodyPost_ret (v:=.agg #[.bool false,.bool false,.bool false,.bool false,.bool false,.bool false,.bool false,.bool false,.bool false]) (by simp [results,Tryz.results101,go_sem]) rfl ⟨rfl,(St.start w).new.below⟩
theorem red_any (k:Int) (w:World) :
  Calls Tryz.prog 67 #[U i6 k] w fun e w'=>e=.returned (.bool (rdB k))∧w'=w:=by
 by_cases e1:k=1
 ·subst e1
  go_enter Tryz.func67,Tryz.ntmps67
  go_wp2
  go_ret
  exact⟨rfl,rfl⟩
 by_cases e2:k=2
 ·subst e2
  go_enter Tryz.func67,Tryz.ntmps67
  go_wp2
  go_ret
  exact⟨rfl,rfl⟩
 by_cases e3:k=3
 ·subst e3
  go_enter Tryz.func67,Tryz.ntmps67
  go_wp2
  go_ret
  exact⟨rfl,rfl⟩
 by_cases e4:k=4
 ·subst e4
  go_enter Tryz.func67,Tryz.ntmps67
  go_wp2
  go_ret
  exact⟨rfl,rfl⟩
 by_cases e5:k=5
 ·subst e5
  go_enter Tryz.func67,Tryz.ntmps67
  go_wp2
  go_ret
  exact⟨rfl,rfl⟩
 by_cases e6:k=6
 ·subst e6
  go_enter Tryz.func67,Tryz.ntmps67
  go_wp2
  go_ret
  exact⟨rfl,rfl⟩
 by_cases e7:k=7
 ·subst e7
  go_enter Tryz.func67,Tryz.ntmps67
  go_wp2
  go_ret
  exact⟨rfl,rfl⟩
 have HR:Hid (false=rdB k):=by unfold Hid rdB;symm;exact decide_eq_false (by omega)
 by_cases l1:1≤k
 ·have l2:8≤k:=by omega
  clear e1 e2 e3 e4 e5 e6 e7
  go_enter Tryz.func67,Tryz.ntmps67
  go_wp2
  go_ret
  exact⟨retB (by first | exact HR.out | (rw [← HR.out];simp;omega)),rfl⟩
 ·clear e1 e2 e3 e4 e5 e6 e7
  go_enter Tryz.func67,Tryz.ntmps67
  go_wp2
  go_ret
  exact⟨retB (by first | exact HR.out | (rw [← HR.out];simp;omega)),rfl⟩
theorem rred_any (k:Int) (w:World) :
  Calls Tryz.prog 62 #[U i6 k] w fun e w'=>e=.returned (.bool (rdB k))∧w'=w:=by
 by_cases e1:k=1
 ·subst e1
  go_enter Tryz.func62,Tryz.ntmps62
  go_wp2
  go_ret
  exact⟨rfl,rfl⟩
 by_cases e2:k=2
 ·subst e2
  go_enter Tryz.func62,Tryz.ntmps62
  go_wp2
  go_ret
  exact⟨rfl,rfl⟩
 by_cases e3:k=3
 ·subst e3
  go_enter Tryz.func62,Tryz.ntmps62
  go_wp2
  go_ret
  exact⟨rfl,rfl⟩
 by_cases e4:k=4
 ·subst e4
  go_enter Tryz.func62,Tryz.ntmps62
  go_wp2
  go_ret
  exact⟨rfl,rfl⟩
 by_cases e5:k=5
 ·subst e5
  go_enter Tryz.func62,Tryz.ntmps62
  go_wp2
  go_ret
  exact⟨rfl,rfl⟩
 by_cases e6:k=6
 ·subst e6
  go_enter Tryz.func62,Tryz.ntmps62
  go_wp2
  go_ret
  exact⟨rfl,rfl⟩
 by_cases e7:k=7
 ·subst e7
  go_enter Tryz.func62,Tryz.ntmps62
  go_wp2
  go_ret
  exact⟨rfl,rfl⟩
 have HR:Hid (false=rdB k):=by unfold Hid rdB;symm;exact decide_eq_false (by omega)
 by_cases l1:1≤k
 ·have l2:8≤k:=by omega
  clear e1 e2 e3 e4 e5 e6 e7
  go_enter Tryz.func62,Tryz.ntmps62
  go_wp2
  go_ret
  exact⟨retB (by first | exact HR.out | (rw [← HR.out];simp;omega)),rfl⟩
 ·clear e1 e2 e3 e4 e5 e6 e7
  go_enter Tryz.func62,Tryz.ntmps62
  go_wp2
  go_ret
  exact⟨retB (by first | exact HR.out | (rw [← HR.out];simp;omega)),rfl⟩
theorem slid_any (k:Int) (w:World) :
  Calls Tryz.prog 106 #[U i6 k] w fun e w'=>e=.returned (.bool (slB k))∧w'=w:=by
 by_cases e1:k=1
 ·subst e1
  go_enter Tryz.func106,Tryz.ntmps106
  go_wp2
  go_ret
  exact⟨rfl,rfl⟩
 by_cases e2:k=2
 ·subst e2
  go_enter Tryz.func106,Tryz.ntmps106
  go_wp2
  go_ret
  exact⟨rfl,rfl⟩
 by_cases e3:k=3
 ·subst e3
  go_enter Tryz.func106,Tryz.ntmps106
  go_wp2
  go_ret
  exact⟨rfl,rfl⟩
 by_cases e4:k=4
 ·subst e4
  go_enter Tryz.func106,Tryz.ntmps106
  go_wp2
  go_ret
  exact⟨rfl,rfl⟩
 by_cases e5:k=5
 ·subst e5
  go_enter Tryz.func106,Tryz.ntmps106
  go_wp2
  go_ret
  exact⟨rfl,rfl⟩
 by_cases e6:k=6
 ·subst e6
  go_enter Tryz.func106,Tryz.ntmps106
  go_wp2
  go_ret
  exact⟨rfl,rfl⟩
 by_cases e7:k=7
 ·subst e7
  go_enter Tryz.func106,Tryz.ntmps106
  go_wp2
  go_ret
  exact⟨rfl,rfl⟩
 have HR:Hid (false=slB k):=by unfold Hid slB;symm;exact decide_eq_false (by omega)
 by_cases l1:1≤k
 ·have l2:8≤k:=by omega
  clear e1 e2 e3 e4 e5 e6 e7
  go_enter Tryz.func106,Tryz.ntmps106
  go_wp2
  go_ret
  exact⟨retB (by first | exact HR.out | (rw [← HR.out];simp;omega)),rfl⟩
 ·clear e1 e2 e3 e4 e5 e6 e7
  go_enter Tryz.func106,Tryz.ntmps106
  go_wp2
  go_ret
  exact⟨retB (by first | exact HR.out | (rw [← HR.out];simp;omega)),rfl⟩
theorem weig_any (k:Int) (w:World) :
  Calls Tryz.prog 105 #[U i6 k] w fun e w'=>e=.returned (.bool (weB k))∧w'=w:=by
 by_cases e1:k=1
 ·subst e1
  go_enter Tryz.func105,Tryz.ntmps105
  go_wp2
  go_ret
  exact⟨rfl,rfl⟩
 by_cases e2:k=2
 ·subst e2
  go_enter Tryz.func105,Tryz.ntmps105
  go_wp2
  go_ret
  exact⟨rfl,rfl⟩
 by_cases e3:k=3
 ·subst e3
  go_enter Tryz.func105,Tryz.ntmps105
  go_wp2
  go_ret
  exact⟨rfl,rfl⟩
 by_cases e4:k=4
 ·subst e4
  go_enter Tryz.func105,Tryz.ntmps105
  go_wp2
  go_ret
  exact⟨rfl,rfl⟩
 by_cases e5:k=5
 ·subst e5
  go_enter Tryz.func105,Tryz.ntmps105
  go_wp2
  go_ret
  exact⟨rfl,rfl⟩
 by_cases e6:k=6
 ·subst e6
  go_enter Tryz.func105,Tryz.ntmps105
  go_wp2
  go_ret
  exact⟨rfl,rfl⟩
 by_cases e7:k=7
 ·subst e7
  go_enter Tryz.func105,Tryz.ntmps105
  go_wp2
  go_ret
  exact⟨rfl,rfl⟩
 have HR:Hid (false=weB k):=by unfold Hid weB;symm;exact decide_eq_false (by omega)
 by_cases l1:1≤k
 ·have l2:8≤k:=by omega
  clear e1 e2 e3 e4 e5 e6 e7
  go_enter Tryz.func105,Tryz.ntmps105
  go_wp2
  go_ret
  exact⟨retB (by first | exact HR.out | (rw [← HR.out];simp;omega)),rfl⟩
 ·clear e1 e2 e3 e4 e5 e6 e7
  go_enter Tryz.func105,Tryz.ntmps105
  go_wp2
  go_ret
  exact⟨retB (by first | exact HR.out | (rw [← HR.out];simp;omega)),rfl⟩
theorem scal_any (k:Int) (w:World) :
  Calls Tryz.prog 94 #[U i6 k] w fun e w'=>e=.returned (.bool (scK k))∧w'=w:=by
 by_cases e1:k=1
 ·subst e1
  go_enter Tryz.func94,Tryz.ntmps94
  go_wp2
  go_ret
  exact⟨rfl,rfl⟩
 by_cases e2:k=2
 ·subst e2
  go_enter Tryz.func94,Tryz.ntmps94
  go_wp2
  go_ret
  exact⟨rfl,rfl⟩
 by_cases e3:k=3
 ·subst e3
  go_enter Tryz.func94,Tryz.ntmps94
  go_wp2
  go_ret
  exact⟨rfl,rfl⟩
 by_cases e4:k=4
 ·subst e4
  go_enter Tryz.func94,Tryz.ntmps94
  go_wp2
  go_ret
  exact⟨rfl,rfl⟩
 by_cases e5:k=5
 ·subst e5
  go_enter Tryz.func94,Tryz.ntmps94
  go_wp2
  go_ret
  exact⟨rfl,rfl⟩
 by_cases e6:k=6
 ·subst e6
  go_enter Tryz.func94,Tryz.ntmps94
  go_wp2
  go_ret
  exact⟨rfl,rfl⟩
 by_cases e7:k=7
 ·subst e7
  go_enter Tryz.func94,Tryz.ntmps94
  go_wp2
  go_ret
  exact⟨rfl,rfl⟩
 have HR:Hid (false=scK k):=by unfold Hid scK;symm;exact decide_eq_false (by omega)
 by_cases l1:1≤k
 ·have l2:8≤k:=by omega
  clear e1 e2 e3 e4 e5 e6 e7
  go_enter Tryz.func94,Tryz.ntmps94
  go_wp2
  go_ret
  exact⟨retB (by first | exact HR.out | (rw [← HR.out];simp;omega)),rfl⟩
 ·clear e1 e2 e3 e4 e5 e6 e7
  go_enter Tryz.func94,Tryz.ntmps94
  go_wp2
  go_ret
  exact⟨retB (by first | exact HR.out | (rw [← HR.out];simp;omega)),rfl⟩
theorem isval_any (n:Int) (W:World) :
  Calls Tryz.prog 99 #[U i6 n] W fun e w'=>e=.returned (.bool (vlB n))∧w'=W:=by
 by_cases k1:-128≤n
 ·have HR:Hid (decide (n≤127)=vlB n):=by unfold Hid vlB;simp [k1]
  go_enter Tryz.func99,Tryz.ntmps99
  go_wp2
  go_ret
  exact⟨retB HR.out,rfl⟩
 ·have HR:Hid (false=vlB n):=by unfold Hid vlB;simp [k1]
  go_enter Tryz.func99,Tryz.ntmps99
  go_wp2
  go_ret
  exact⟨retB HR.out,rfl⟩
theorem rval_any (n:Int) (W:World) :
  Calls Tryz.prog 76 #[U i6 n] W fun e w'=>e=.returned (.bool (vlB n))∧w'=W:=by
 by_cases k1:-128≤n
 ·have HR:Hid (decide (n≤127)=vlB n):=by unfold Hid vlB;simp [k1]
  go_enter Tryz.func76,Tryz.ntmps76
  go_wp2
  go_ret
  exact⟨retB HR.out,rfl⟩
 ·have HR:Hid (false=vlB n):=by unfold Hid vlB;simp [k1]
  go_enter Tryz.func76,Tryz.ntmps76
  go_wp2
  go_ret
  exact⟨retB HR.out,rfl⟩
theorem isrange_any (lo hi:Int) (W:World) :
  Calls Tryz.prog 81 #[U i6 lo,U i6 hi] W fun e w'=>e=.returned (.bool (rgB lo hi))∧w'=W:=by
 cases k1:vlB lo with
 | false =>
  have HR:Hid (false=rgB lo hi):=by unfold Hid rgB;simp [k1]
  go_enter Tryz.func81,Tryz.ntmps81
  go_wp2_with fail
  refine (isval_any _ _).mono ?_
  rintro e w' ⟨rfl,rfl⟩
  go_wp2
  go_ret
  exact⟨retB HR.out,rfl⟩
 | true =>
  cases k2:vlB hi with
  | false =>
   have HR:Hid (false=rgB lo hi):=by unfold Hid rgB;simp [k2]
   go_enter Tryz.func81,Tryz.ntmps81
   go_wp2_with fail
   refine (isval_any _ _).mono ?_
   rintro e w' ⟨rfl,rfl⟩
   go_wp2_with fail
   refine (isval_any _ _).mono ?_
   rintro e w' ⟨rfl,rfl⟩
   go_wp2
   go_ret
   exact⟨retB HR.out,rfl⟩
  | true =>
   have HR:Hid (decide (lo≤hi)=rgB lo hi):=by unfold Hid rgB;simp [k1,k2]
   go_enter Tryz.func81,Tryz.ntmps81
   go_wp2_with fail
   refine (isval_any _ _).mono ?_
   rintro e w' ⟨rfl,rfl⟩
   go_wp2_with fail
   refine (isval_any _ _).mono ?_
   rintro e w' ⟨rfl,rfl⟩
   go_wp2
   go_ret
   exact⟨retB HR.out,rfl⟩
theorem nopad_any (kh kw sh sw tp lf bt rt:Int) (W:World) :
  Calls Tryz.prog 108 #[.agg #[U i6 kh,U i6 kw,U i6 sh,U i6 sw,U i6 tp,U i6 lf,U i6 bt,U i6 rt]] W fun e w'=>e=.returned (.agg #[U i6 kh,U i6 kw,U i6 sh,U i6 sw,U i6 0,U i6 0,U i6 0,U i6 0])∧Below W.heap.size W w':=by
 go_enter Tryz.func108,Tryz.ntmps108
 go_wp2
 exact bodyPost_ret (v:=.agg #[U i6 kh,U i6 kw,U i6 sh,U i6 sw,U i6 0,U i6 0,U i6 0,U i6 0]) (by simp [results,Tryz.results108,go_sem]) rfl ⟨rfl,(St.start W).new.new.below⟩
def shB (s:Int):Bool:=decide (0≤s∧s≤62)
def scB (m s:Int):Bool:=decide (1≤m∧m≤2147483647∧0≤s∧s≤62)
theorem reach_any (s:Int) (w:World) :
  Calls Tryz.prog 111 #[U i6 s] w fun e w'=>e=.returned (.bool (shB s))∧w'=w:=by
 by_cases k1:0≤s
 ·have HR:Hid (decide (s≤62)=shB s):=by unfold Hid shB;simp [k1]
  go_enter Tryz.func111,Tryz.ntmps111
  go_wp2
  go_ret
  exact⟨retB HR.out,rfl⟩
 ·have HR:Hid (false=shB s):=by unfold Hid shB;simp [k1]
  go_enter Tryz.func111,Tryz.ntmps111
  go_wp2
  go_ret
  exact⟨retB HR.out,rfl⟩
theorem valid_any (m s:Int) (w:World) :
  Calls Tryz.prog 103 #[.agg #[U i6 m,U i6 s]] w fun e w'=>e=.returned (.bool (scB m s))∧Below w.heap.size w w':=by
 by_cases c1:1≤m
 ·by_cases c2:m≤2147483647
  ·have HR:Hid (shB s=scB m s):=by unfold Hid shB scB;simp [c1,c2]
   go_enter Tryz.func103,Tryz.ntmps103
   go_wp2_with fail
   refine (reach_any _ _).mono ?_
   rintro e w' ⟨rfl,rfl⟩
   go_wp2
   go_ret
   exact⟨retB HR.out,(Below.refl _ _).alloc (Nat.le_refl _) _⟩
  ·have HR:Hid (false=scB m s):=by unfold Hid scB;simp [c2]
   go_enter Tryz.func103,Tryz.ntmps103
   go_wp2
   go_ret
   exact⟨retB HR.out,(Below.refl _ _).alloc (Nat.le_refl _) _⟩
 ·have HR:Hid (false=scB m s):=by unfold Hid scB;simp [c1]
  go_enter Tryz.func103,Tryz.ntmps103
  go_wp2
  go_ret
  exact⟨retB HR.out,(Below.refl _ _).alloc (Nat.le_refl _) _⟩
theorem refvalid_any (m s:Int) (w:World) :
  Calls Tryz.prog 95 #[U i6 m,U i6 s] w fun e w'=>e=.returned (.bool (scB m s))∧w'=w:=by
 by_cases c1:1≤m
 ·by_cases c2:m≤2147483647
  ·by_cases c3:0≤s
   ·have HR:Hid (decide (s≤62)=scB m s):=by unfold Hid scB;simp [c1,c2,c3]
    go_enter Tryz.func95,Tryz.ntmps95
    go_wp2
    go_ret
    exact⟨retB HR.out,rfl⟩
   ·have HR:Hid (false=scB m s):=by unfold Hid scB;simp [c3]
    go_enter Tryz.func95,Tryz.ntmps95
    go_wp2
    go_ret
    exact⟨retB HR.out,rfl⟩
  ·have HR:Hid (false=scB m s):=by unfold Hid scB;simp [c2]
   go_enter Tryz.func95,Tryz.ntmps95
   go_wp2
   go_ret
   exact⟨retB HR.out,rfl⟩
 ·have HR:Hid (false=scB m s):=by unfold Hid scB;simp [c1]
  go_enter Tryz.func95,Tryz.ntmps95
  go_wp2
  go_ret
  exact⟨retB HR.out,rfl⟩
end Go.Proofs.YtccoanknofhmaaaGreat
