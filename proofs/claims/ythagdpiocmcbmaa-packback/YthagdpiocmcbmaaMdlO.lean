/- outsideOps of package model; laws of memory for goThrough and Look. -/
import Derived.Test.YthagdpiocmcbmaaMdlP
namespace Go.Proofs.Ythagdpiocmcbmaa
open Go.ChangeShapes Go.WideShapes Go.ChangeAt Go.RowKit
set_option linter.unusedVariables false
/-- The error of a model whatever its ops are. -/
def ouE (h w c lo hi ot : Int) (on : Nat) : Int := if vS h w c = false then 50 else if rgB lo hi = false then 85 else if 64 < (on : Int) then 80 else if ¬ (0 ≤ ot ∧ ot ≤ (on : Int)) then 3 else 0
theorem ouE_0 {h w c lo hi ot : Int} {on : Nat} (q : ouE h w c lo hi ot on = 0) : vS h w c = true ∧ rgB lo hi = true ∧ on ≤ 64 ∧ 0 ≤ ot ∧ ot ≤ (on : Int) := by
  unfold ouE at q
  cases h1 : vS h w c with
  | false => rw [h1, if_pos rfl] at q; cases q
  | true =>
    cases h2 : rgB lo hi with
    | false => rw [h1, h2, if_neg (by decide), if_pos rfl] at q; cases q
    | true =>
      rw [h1, h2, if_neg (by decide), if_neg (by decide)] at q
      by_cases h3 : 64 < (on : Int)
      · rw [if_pos h3] at q; cases q
      · rw [if_neg h3] at q
        by_cases h4 : 0 ≤ ot ∧ ot ≤ (on : Int)
        · exact ⟨rfl, rfl, by omega, h4⟩
        · rw [if_pos h4] at q; cases q
theorem ou_80 {h w c lo hi ot : Int} {on : Nat} (g : vS h w c = true) (r : rgB lo hi = true) (l : 64 < (on : Int)) : ouE h w c lo hi ot on = 80 := by unfold ouE; rw [if_neg (by rw [g]; decide), if_neg (by rw [r]; decide), if_pos l]
theorem ou_3 {h w c lo hi ot : Int} {on : Nat} (g : vS h w c = true) (r : rgB lo hi = true) (l : ¬ 64 < (on : Int)) (q : ¬ (0 ≤ ot ∧ ot ≤ (on : Int))) : ouE h w c lo hi ot on = 3 := by unfold ouE; rw [if_neg (by rw [g]; decide), if_neg (by rw [r]; decide), if_neg l, if_pos q]
set_option maxHeartbeats 1000000 in
theorem outside_any (h w c lo hi ot : Int) (oa : Option Addr) (on oc : Nat) (W : World) :
    Calls Try.prog 36 #[.agg #[.int .i64 h, .int .i64 w, .int .i64 c, .int .i64 lo, .int .i64 hi, .slice oa on oc, .int .i64 ot]] W fun e w' => e = .returned (.int .i64 (ouE h w c lo hi ot on)) ∧ Below W.heap.size W w' := by
  cases g : vS h w c with
  | false =>
    have HE : Hid (elR h w c = (0, 50)) := elR_no g
    rw [show ouE h w c lo hi ot on = 50 by unfold ouE; rw [if_pos g]]
    clear g
    go_enter Try.func36, Try.ntmps36
    go_wp2_with fail
    refine (selems_any _ _ _ _).mono ?_
    rintro e w1 ⟨rfl, hb'⟩
    have s1 := (St.start W).new.call hb'
    clear hb'
    try simp only [World.size_setCell] at s1
    try simp only [World.size_alloc] at s1
    obtain ⟨c1, f1, zw1_1, -⟩ := s1.rules
    rw [HE.out]
    go_wp2
    go_ret
    exact ⟨rfl, s1.below⟩
  | true =>
    have HE : Hid (elR h w c = (h * w * c, 0)) := elR_ok g
    obtain ⟨q, hq⟩ : ∃ q, h * w * c = q := ⟨_, rfl⟩
    rw [hq] at HE
    clear hq
    cases r : rgB lo hi with
    | false =>
      rw [show ouE h w c lo hi ot on = 85 by unfold ouE; rw [if_neg (by rw [g]; decide), if_pos r]]
      clear g
      go_enter Try.func36, Try.ntmps36
      go_wp2_with fail
      refine (selems_any _ _ _ _).mono ?_
      rintro e w1 ⟨rfl, hb'⟩
      have s1 := (St.start W).new.call hb'
      clear hb'
      try simp only [World.size_setCell] at s1
      try simp only [World.size_alloc] at s1
      obtain ⟨c1, f1, zw1_1, -⟩ := s1.rules
      rw [HE.out]
      go_wp2_with fail
      refine (isrange_any _ _ _).mono ?_
      rintro e w' ⟨rfl, rfl⟩
      go_wp2
      go_ret
      exact ⟨rfl, s1.below⟩
    | true =>
      by_cases l1 : 64 < (on : Int)
      · rw [ou_80 g r l1]
        clear g
        go_enter Try.func36, Try.ntmps36
        go_wp2_with fail
        refine (selems_any _ _ _ _).mono ?_
        rintro e w1 ⟨rfl, hb'⟩
        have s1 := (St.start W).new.call hb'
        clear hb'
        try simp only [World.size_setCell] at s1
        try simp only [World.size_alloc] at s1
        obtain ⟨c1, f1, zw1_1, -⟩ := s1.rules
        rw [HE.out]
        go_wp2_with fail
        refine (isrange_any _ _ _).mono ?_
        rintro e w' ⟨rfl, rfl⟩
        go_wp2
        go_ret
        exact ⟨rfl, s1.below⟩
      by_cases l2 : ot < 0
      · rw [ou_3 g r l1 (by omega)]
        clear g
        go_enter Try.func36, Try.ntmps36
        go_wp2_with fail
        refine (selems_any _ _ _ _).mono ?_
        rintro e w1 ⟨rfl, hb'⟩
        have s1 := (St.start W).new.call hb'
        clear hb'
        try simp only [World.size_setCell] at s1
        try simp only [World.size_alloc] at s1
        obtain ⟨c1, f1, zw1_1, -⟩ := s1.rules
        rw [HE.out]
        go_wp2_with fail
        refine (isrange_any _ _ _).mono ?_
        rintro e w' ⟨rfl, rfl⟩
        go_wp2
        go_ret
        exact ⟨rfl, s1.below⟩
      by_cases l3 : (on : Int) < ot
      · rw [ou_3 g r l1 (by omega)]
        clear g
        go_enter Try.func36, Try.ntmps36
        go_wp2_with fail
        refine (selems_any _ _ _ _).mono ?_
        rintro e w1 ⟨rfl, hb'⟩
        have s1 := (St.start W).new.call hb'
        clear hb'
        try simp only [World.size_setCell] at s1
        try simp only [World.size_alloc] at s1
        obtain ⟨c1, f1, zw1_1, -⟩ := s1.rules
        rw [HE.out]
        go_wp2_with fail
        refine (isrange_any _ _ _).mono ?_
        rintro e w' ⟨rfl, rfl⟩
        go_wp2
        go_ret
        exact ⟨rfl, s1.below⟩
      rw [show ouE h w c lo hi ot on = 0 by unfold ouE; rw [if_neg (by rw [g]; decide), if_neg (by rw [r]; decide), if_neg l1, if_neg (by omega)]]
      clear g
      go_enter Try.func36, Try.ntmps36
      go_wp2_with fail
      refine (selems_any _ _ _ _).mono ?_
      rintro e w1 ⟨rfl, hb'⟩
      have s1 := (St.start W).new.call hb'
      clear hb'
      try simp only [World.size_setCell] at s1
      try simp only [World.size_alloc] at s1
      obtain ⟨c1, f1, zw1_1, -⟩ := s1.rules
      rw [HE.out]
      go_wp2_with fail
      refine (isrange_any _ _ _).mono ?_
      rintro e w' ⟨rfl, rfl⟩
      go_wp2
      go_ret
      exact ⟨rfl, s1.below⟩
/-! ### A struct of a slice, loaded whole -/
theorem wpList_load_any {P : Program} {ops : Array Oper} {rest : List Oper} {op : Oper} {a : Act} {w : World} {Q : Exit → Act → World → Prop} (hgd : op.guard = none) (ty : TypeId) (x : Operand) (ho : op.op = .load ty x)
    (y : Addr) (hx : a.eval x = .pointer (some y)) (cs : List Value) (d : TypeDesc) (hc : ∀ j v, cs[j]? = some v → w.cell? (y.add j) = some v)
    (hu : P.underlying ty = some d) (hd : (match d with | .struct _ | .array _ _ => true | _ => false) = true) (hi : (P.info? ty).map (·.size) = some cs.length)
    (h : wpList P ops Q rest (a.put op.dst (.agg cs.toArray)) w) : wpList P ops Q (op :: rest) a w := by
  have hl : (loadCells y cs.length).run P w = .ok cs.toArray w := run_loadCells_list (P := P) w y cs hc
  have hv : (loadVar ty y).run P w = .ok (.agg cs.toArray) w := by
    cases hq : P.info? ty with
    | none => simp [hq] at hi
    | some i =>
      have hs : i.size = cs.length := by simpa [hq] using hi
      have hagg : (isAgg ty).run P w = .ok true w := by
        unfold isAgg
        rw [Sem.run_bind, run_underlying hu w]
        cases d <;> simp_all
      simp [loadVar, Sem.run_bind, hagg, sizeOf, typeInfo, hq, hs, hl]
  refine wpList_plain hgd fun _ hK => ?_
  unfold Oper.wp execOp
  simp only [ho, hx, Instr.loadAt, Instr.sureAddr, Sem.run_bind, Sem.run_pure, Result.andThen_ok, hv]
  exact hK _ _ h
end Go.Proofs.Ythagdpiocmcbmaa
