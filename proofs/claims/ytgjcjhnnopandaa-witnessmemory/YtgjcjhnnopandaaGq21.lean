/- plain and fixed of law08. fixed of law08. The document's Look of layer 8: what it returns. -/
import Derived.Test.YtgjcjhnnopandaaGq13
import Derived.Test.YtgjcjhnnopandaaGq20
namespace Go.Proofs.Ytgjcjhnnopandaa
open Go.Value renaming int → U, slice → Sl
open Go.IntKind renaming i64 → i6
set_option maxRecDepth 100000
set_option maxHeartbeats 16000000
open Go.ChangeShapes Go.WideShapes Go.ChangeAt Go.RowKit
set_option linter.unusedVariables false
def plO (aa:Int) (_:Nat) (j:Nat):Int:=[1,aa,0,1,0,0,0,0,0,0,0,0,2,1,1,0,0,0,0,0,-128,127].getD j 0
theorem pl_0:gtR (plO 0) 1 1 2 (-128) 127 1 1=(0,0,[(1,1,2),(1,1,1)],2):=by decide
theorem St.add {w0 w:World} {B:Nat} {c:Array Value} {t:TypeId} {l:List (Nat×Array Value×TypeId)} (h:St w0 w l) (hb:w.heap[B]? = some (.cells c t (0,0))) (hB:w0.heap.size≤B):St w0 w ((B,c,t) :: l) :=
 ⟨h.1,fun x hx=>by
  rcases List.mem_cons.1 hx with rfl | hx
  ·exact⟨hb,hB⟩
  ·exact h.2 x hx⟩
def OSh (w:World) (base:Nat) (v:Value) (L:List (Int×Int×Int)):Prop:=w.ownsRow base 23 3 v L.length (s3 L)
theorem OSh.cu {w:World} {base:Nat} {v:Value} {L:List (Int×Int×Int)} (h:OSh w base v L) (h0:0<L.length):∃ g cap cur,v=.slice (some ⟨g,0,none⟩) L.length cap∧base≤g∧w.heap[g]? = some (.cells cur 23 (0,0))∧Cu cur cap L∧cap≤maxLen:=by
 rcases h.2 with ⟨-,q⟩ | ⟨g,cap,cur,h1,h2,h3,h4,h5,h6,h7⟩
 ·omega
 ·exact⟨g,cap,cur,h1,h2,h3,⟨h6,h4,h7⟩,h5⟩
theorem OSh.nil (w:World) (base:Nat):OSh w base (.slice none 0 0) []:=World.ownsRow_nil _ _ _ _
theorem OSh.below {w w':World} {base:Nat} {v:Value} {L:List (Int×Int×Int)} (h:OSh w base v L) (g:Below w.heap.size w w'):OSh w' base v L:=by
 refine World.ownsRow.kept h (row:=none) ⟨g.os,g.tape,g.output,g.size,fun i hi _=>g.block i hi⟩ ?_
 cases e:v.ownBlock with
 | none=>exact .inl rfl
 | some b=>exact .inr (by simp)
theorem OSh.slice {w:World} {base:Nat} {v:Value} {L:List (Int×Int×Int)} (h:OSh w base v L):∃ a cap,v=.slice a L.length cap:=by
 rcases h.2 with ⟨rfl,q⟩ | ⟨g,cap,cur,rfl,-⟩
 ·exact⟨_,_,by rw [q]⟩
 ·exact⟨_,_,rfl⟩
theorem OSh.lt {w:World} {base:Nat} {v:Value} {L:List (Int×Int×Int)} (h:OSh w base v L):∀ b,v.ownBlock=some b→base≤b:=fun b e=>(World.ownsRow.lt h b e).1
theorem OSh.sv {w:World} {base:Nat} {v:Value} {L:List (Int×Int×Int)} (h:OSh w base v L):SV w v L:=by
 rcases h.2 with ⟨rfl,q⟩ | ⟨g,cap,cur,rfl,h2,h3,h4,h5,h6,h7⟩
 ·obtain rfl:=List.eq_nil_of_length_eq_zero q
  exact⟨none,0,rfl,Nat.le_refl _,by unfold maxLen;omega,fun h=>by cases h⟩
 ·exact sv_cu h3 ⟨h6,h4,h7⟩ h5 L.length (Nat.le_refl _) (by simp)
end Go.Proofs.Ytgjcjhnnopandaa
