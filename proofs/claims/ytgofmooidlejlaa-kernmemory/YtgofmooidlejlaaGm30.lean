/- What Op answers wherever its list A lies (for KernMemory). The walk of KernMemory, in the form of the frame. -/
import Derived.Test.YtgofmooidlejlaaGm26
import Derived.Test.YtgofmooidlejlaaGm27
import Derived.Test.YtgofmooidlejlaaGm29
/- What Op answers wherever its list A lies (for KernMemory). -/
namespace Go.Proofs.Ytgofmooidlejlaa.Kr
open Go.ChangeShapes Go.WideShapes Go.ChangeAt Go.RowKit
set_option linter.unusedVariables false
theorem oNm_len {o : Nat → Int} {A Q : Int × Int × Int} {lw lb : Nat} {zs bs xs ys : List Int} {PS : List Pl} (s : Opd (o 0) (o 2) (o 3) (o 4) (o 5) (o 6) (o 7) (o 8) (o 9) (o 10) (o 11) lw lb (o 14) (o 15) (o 16) (o 17) (o 18) (o 19) (o 20) (o 21) A.1 A.2.1 A.2.2 Q.1 Q.2.1 Q.2.2) (hx : (xs.length : Int) = A.1 * A.2.1 * A.2.2) : (oNm o A Q zs bs xs ys PS).length ≤ 16384 := by
  have h1 := vaK_len (len := stR (o 0) (o 4) (o 5) A.1 A.2.1 A.2.2) (y := ys) s (dsL_len (o 0) (o 4) (o 5) (o 6) (o 7) (o 8) (o 9) (o 10) (o 11) A.1 A.2.1 A.2.2 Q.2.2 (o 19) zs bs xs PS (Q.1 * Q.2.1 * Q.2.2).toNat) hx
  have h2 := (vS_bd s.hB).2
  unfold oNm fiL
  rw [List.length_map]
  omega
theorem op_mem (h w c lo hi ot : Int) (oa : Option Addr) (on oc : Nat) (O : Nat → Nat → Int) (Z B : Nat → List Int) (W : World) (hL : LRow W oa on oc O Z B) (op : Int) (pa : Option Addr) (pl pc : Nat) (PS : List Pl) (hE : ERow 6 pcs W pa pl pc PS) (n : Nat) (xs : List Int) (hxn : xs.length = n) (bd : Option Addr) (nb capb : Nat) (ys : List Int) (hY : IRow .i8 W bd nb capb ys) :
    ∃ (T : Tr) (L : List Int) (F1 F2 F3 : Int), (F1 ≠ 0 → L = []) ∧ L.length ≤ 16384 ∧ ∀ (W' : World), Below W.heap.size W W' → ∀ (ad : Option Addr) (cap : Nat), IRow .i8 W' ad n cap xs →
      Calls Try.prog 8 #[.agg #[.int .i64 h, .int .i64 w, .int .i64 c, .int .i64 lo, .int .i64 hi, .slice oa on oc, .int .i64 ot], .int .i64 op, .slice pa pl pc, .slice ad n cap, .slice bd nb capb] W' fun e w' => (∃ v, e = .returned (.tuple #[v, .agg T.cs, .agg #[.int .i64 F1, .int .i64 F2, .int .i64 F3]]) ∧ Own .i8 63 w' W'.heap.size v L) ∧ Below W'.heap.size W' w' := by
  obtain ⟨Re, Ra, RL, Rw, hR⟩ : ∃ Re Ra RL Rw, gtR O h w c lo hi ot on = (Re, Ra, RL, Rw) := ⟨_, _, _, _, rfl⟩
  by_cases he : Re = 0
  · subst he
    obtain ⟨rfl, -⟩ := gtR_ok hR
    by_cases ho : op < 1 ∨ (on : Int) < op
    · refine ⟨Tr.z, [], 3, 0, 0, fun _ => rfl, Nat.zero_le _, fun W' hb ad cap hX => (op_p h w c lo hi ot oa on oc O Z B W' (hL.below hb) op pa pl pc PS ad n cap xs bd nb capb ys Rw RL hR ho).mono ?_⟩
      rintro e w' ⟨rfl, hb'⟩
      exact ⟨⟨_, rfl, own_none _ _ _ _⟩, hb'⟩
    · obtain ⟨i, hi0⟩ : ∃ i : Nat, op = (i : Int) + 1 := ⟨(op - 1).toNat, by omega⟩
      have hi2 : i < on := by omega
      obtain ⟨E1, E2, E3, hE0⟩ : ∃ E1 E2 E3, oLn O RL i n pl nb PS = (E1, E2, E3) := ⟨_, _, _, rfl⟩
      by_cases h0 : E1 = 0
      · subst h0
        refine ⟨oTk (O i) (RL.getD (O i 1).toNat (0, 0, 0)) (RL.getD (i + 1) (0, 0, 0)) (Z i) (B i) xs PS, oNm (O i) (RL.getD (O i 1).toNat (0, 0, 0)) (RL.getD (i + 1) (0, 0, 0)) (Z i) (B i) xs ys PS, 0, E2, E3, fun q => absurd rfl q, ?_, fun W' hb ad cap hX => ?_⟩
        · obtain ⟨ja, jb, ea, la, eb, lb', hO⟩ := opd_of hR hi2
          obtain ⟨x0, y0, v0, hA⟩ : ∃ x y v, RL.getD ja (0, 0, 0) = (x, y, v) := ⟨_, _, _, rfl⟩
          obtain ⟨H, V, C, hB⟩ : ∃ H V C, RL.getD (i + 1) (0, 0, 0) = (H, V, C) := ⟨_, _, _, rfl⟩
          obtain ⟨s, -⟩ := hO _ _ _ _ _ _ hA hB
          have eja : (O i 1).toNat = ja := by omega
          refine oNm_len (by rw [eja, hA, hB]; exact s) ?_
          unfold oLn lnE at hE0
          by_cases hq : (n : Int) = (RL.getD (O i 1).toNat (0, 0, 0)).1 * (RL.getD (O i 1).toNat (0, 0, 0)).2.1 * (RL.getD (O i 1).toNat (0, 0, 0)).2.2
          · rw [hxn]; exact hq
          · rw [if_pos (.inl hq)] at hE0
            simp only [Prod.mk.injEq] at hE0
            omega
        · refine (op_i h w c lo hi ot oa on oc O Z B W' (hL.below hb) op pa pl pc PS ad n cap xs bd nb capb ys (hE.below hb) hX (hY.below hb) Rw RL hR i hi2 hi0 0 E2 E3 hE0).mono ?_
          rintro e w' ⟨⟨v, T, rfl, hq⟩, hb'⟩
          rcases hq with ⟨q0, -⟩ | ⟨-, hO, rfl⟩
          · exact absurd rfl q0
          · exact ⟨⟨v, rfl, hO⟩, hb'⟩
      · refine ⟨Tr.z, [], E1, E2, E3, fun _ => rfl, Nat.zero_le _, fun W' hb ad cap hX => ?_⟩
        refine (op_i h w c lo hi ot oa on oc O Z B W' (hL.below hb) op pa pl pc PS ad n cap xs bd nb capb ys (hE.below hb) hX (hY.below hb) Rw RL hR i hi2 hi0 E1 E2 E3 hE0).mono ?_
        rintro e w' ⟨⟨v, T, rfl, hq⟩, hb'⟩
        rcases hq with ⟨-, rfl, rfl⟩ | ⟨q0, -⟩
        · exact ⟨⟨_, rfl, own_none _ _ _ _⟩, hb'⟩
        · exact absurd q0 h0
  · refine ⟨Tr.z, [], Re, Ra, 0, fun _ => rfl, Nat.zero_le _, fun W' hb ad cap hX => (op_m h w c lo hi ot oa on oc O Z B W' (hL.below hb) op pa pl pc PS ad n cap xs bd nb capb ys Re Ra Rw RL hR he).mono ?_⟩
    rintro e w' ⟨rfl, hb'⟩
    exact ⟨⟨_, rfl, own_none _ _ _ _⟩, hb'⟩
end Go.Proofs.Ytgofmooidlejlaa.Kr

/- The walk of KernMemory, in the form of the frame. -/
namespace Go.Proofs.Ytgofmooidlejlaa
open Go.ChangeShapes Go.WideShapes Go.ChangeAt Go.RowKit
set_option linter.unusedVariables false
theorem kernMemory_walk (h w c lo hi : Int) (oa : Option Addr) (on oc : Nat) (ot op : Int) (pa : Option Addr) (pl pc : Nat) (ad : Option Addr) (n cap : Nat) (xs : List Int) (bd : Option Addr) (nb capb : Nat) (ys : List Int) (W : World)
    (_ : (Lit.int .i64 h).wf = true) (_ : (Lit.int .i64 w).wf = true) (_ : (Lit.int .i64 c).wf = true) (_ : (Lit.int .i64 lo).wf = true) (_ : (Lit.int .i64 hi).wf = true) (wo : ORow 22 (OpIn W) W oa on oc) (_ : on * 208 ≤ 140737488351232) (_ : (Lit.int .i64 ot).wf = true) (_ : (Lit.int .i64 op).wf = true)
    (wp : ORow 6 Kr.PlIn W pa pl pc) (hrp : pl * 48 ≤ 140737488351232) (hX : IRow .i8 W ad n cap xs) (hrx : n * 1 ≤ 140737488351232) (hY : IRow .i8 W bd nb capb ys) (_ : nb * 1 ≤ 140737488351232) :
    Calls Try.prog 5 #[.agg #[.int .i64 h, .int .i64 w, .int .i64 c, .int .i64 lo, .int .i64 hi, .slice oa on oc, .int .i64 ot, .int .i64 op, .slice pa pl pc, .slice ad n cap, .slice bd nb capb]] W fun e w' => e = .returned (.bool true) ∧ Below W.heap.size W w' := by
  obtain ⟨O, Z, B, hL⟩ := lrow_of wo
  obtain ⟨PS, hPS⟩ := Kr.chans_of wp
  obtain ⟨T, L, F1, F2, F3, h0, hb, hOp⟩ := Kr.op_mem h w c lo hi ot oa on oc O Z B W hL op pa pl pc PS hPS n xs hX.1 bd nb capb ys hY
  exact Kr.mem_w h w c lo hi ot oa on oc op pa pl pc PS ad n cap xs bd nb capb W hX hrx hPS hrp T L F1 F2 F3 h0 hb hOp
end Go.Proofs.Ytgofmooidlejlaa
