/- The walk of ModelChecks. -/
import Derived.Test.YtfgbolekenlheaaMdmC
import Derived.Test.YtfgbolekenlheaaMdmD
namespace Go.Proofs.Ytfgbolekenlheaa
open Go.ChangeShapes Go.WideShapes Go.ChangeAt Go.RowKit
set_option linter.unusedVariables false
theorem eqf2 (T : TypeId) (hT : T = 31) (a b c d e f : Int) (v : Bool) (h : decide (a = d ∧ b = e ∧ c = f) = v) : ∀ W, (binOp .eql T (.agg #[.int .i64 a, .int .i64 b, .int .i64 c]) (.agg #[.int .i64 d, .int .i64 e, .int .i64 f])).run Try.prog W = .ok (.bool v) W := by
  intro W; subst h hT; simp [go_sem]; repeat' split
  all_goals simp_all
/-- What the blocks hold, in each world that keeps what lies here. -/
def RulesB (w : World) : List (Nat × Array Value × TypeId) → Prop
  | [] => True
  | (B, c, _) :: l => (∀ (n : Wd w []) i, n.w.cell? ⟨B, i, none⟩ = c[i]?) ∧ (∀ (n : Wd w []), B < n.w.heap.size) ∧ RulesB w l
theorem rulesB_of {w : World} : ∀ (l : List (Nat × Array Value × TypeId)), (∀ x ∈ l, w.heap[x.1]? = some (.cells x.2.1 x.2.2)) → RulesB w l
  | [], _ => trivial
  | (B, c, t) :: l, h => by
    have h0 : w.heap[B]? = some (.cells c t) := h _ List.mem_cons_self
    refine ⟨fun n i => ?_, fun n => ?_, rulesB_of l fun x hx => h x (List.mem_cons_of_mem _ hx)⟩
    · have h1 : n.w.heap[B]? = some (.cells c t) := by rw [n.h.below.block _ (lt_of_heap h0)]; exact h0
      simp [World.cell?, h1]
    · exact Nat.lt_of_lt_of_le (lt_of_heap h0) n.h.below.size
theorem St.rulesB {w0 w : World} {l : List (Nat × Array Value × TypeId)} (h : St w0 w l) : RulesB w l := rulesB_of l fun x hx => (h.2 x hx).1
set_option maxHeartbeats 8000000 in
set_option maxRecDepth 100000 in
theorem modelChecks_walk (h w c lo hi : Int) (oa : Option Addr) (on oc : Nat) (ot : Int) (W : World) (_ : (Lit.int .i64 h).wf = true) (_ : (Lit.int .i64 w).wf = true) (_ : (Lit.int .i64 c).wf = true) (_ : (Lit.int .i64 lo).wf = true) (_ : (Lit.int .i64 hi).wf = true)
    (wo : ORow 22 (OpIn W) W oa on oc) (hr : on * 208 ≤ 140737488351232) (_ : (Lit.int .i64 ot).wf = true) :
    Calls Try.prog 3 #[.agg #[.int .i64 h, .int .i64 w, .int .i64 c, .int .i64 lo, .int .i64 hi, .slice oa on oc, .int .i64 ot]] W fun e w' => e = .returned (.bool true) ∧ Below W.heap.size W w' := by
  rename_i x1 x2 x3 x4 x5 x6
  clear x1 x2 x3 x4 x5 x6
  obtain ⟨O, Z, B, hL⟩ := lrow_of wo
  have HL : Hid (LRow W oa on oc O Z B) := hL
  obtain ⟨e, t, L, wk, hG⟩ : ∃ e t L wk, gtR O h w c lo hi ot on = (e, t, L, wk) := ⟨_, _, _, _, rfl⟩
  have hCk : Hid (∀ w', MRow w' oa on oc O → _) := fun w' hw => check_any h w c lo hi ot oa on oc O w' hw
  have hSh : Hid (∀ w', MRow w' oa on oc O → _) := fun w' hw => shapes_any h w c lo hi ot oa on oc O w' hw
  have hWk : Hid (∀ w', MRow w' oa on oc O → _) := fun w' hw => work_any h w c lo hi ot oa on oc O w' hw
  have hLk : Hid (∀ w' oa' oc', LRow w' oa' on oc' O Z B → _) := fun w' oa' oc' hw => look_any h w c lo hi ot oa' on oc' O Z B w' hw (by omega)
  have hCp : Hid (∀ w', LRow w' oa on oc O Z B → _) := fun w' hw => copy_any h w c lo hi ot oa on oc O Z B w' hw hr
  simp only [hG] at hCk hSh hWk hLk
  have q1 := eqf2 31 rfl e t 0 e t 0 true (by simp)
  clear hG hL wo
  go_enter Try.func3, Try.ntmps3
  have s0 := (St.start W).new (c := #[.int .i64 h, .int .i64 w, .int .i64 c, .int .i64 lo, .int .i64 hi, .slice oa on oc, .int .i64 ot]) (t := 26)
  go_wp2_with fail
  refine Calls.mono (hCp.out _ (HL.out.below s0.below)) ?_
  rintro e' w1 ⟨oa', oc', rfl, hL', hb⟩
  have s1 := (s0.call hb).new (c := #[.int .i64 h, .int .i64 w, .int .i64 c, .int .i64 lo, .int .i64 hi, .slice oa' on oc', .int .i64 ot]) (t := 26)
  have HL' : Hid (LRow _ oa' on oc' O Z B) := hL'.below (bal w1 (.cells #[.int .i64 h, .int .i64 w, .int .i64 c, .int .i64 lo, .int .i64 hi, .slice oa' on oc', .int .i64 ot] 26))
  clear hb hL' s0 hCp
  go_wp2_with fail
  refine Calls.mono (hLk.out _ _ _ HL'.out) ?_
  rintro e' w2 ⟨v, rfl, hO, hb⟩
  obtain ⟨va, vc, rfl⟩ := hO.slice
  have s2 := (s1.call hb).new (c := #[.int .i64 e, .int .i64 t, .int .i64 0]) (t := 31)
  have D2 := bt hb (bal w2 (.cells #[.int .i64 e, .int .i64 t, .int .i64 0] 31))
  have HS1 : Hid (SV _ _ L) := hO.sv.below (bal w2 (.cells #[.int .i64 e, .int .i64 t, .int .i64 0] 31))
  obtain ⟨c1, f1, z1, c2, f2, z2, -⟩ := (s1.call hb).rules
  clear hb hO s1 hLk
  go_wp2_with fail
  refine Calls.mono (hSh.out _ ((HL.out.m).below s2.below)) ?_
  rintro e' w3 ⟨u, rfl, hS, hb⟩
  obtain ⟨ua, uc, rfl⟩ := hS.slice
  have s3 := (s2.call hb).new (c := #[.int .i64 e, .int .i64 t, .int .i64 0]) (t := 31)
  have D3 := bt D2 (bt hb (bal w3 (.cells #[.int .i64 e, .int .i64 t, .int .i64 0] 31)))
  have HS2 : Hid (SV _ _ L) := hS.sv.below (bal w3 (.cells #[.int .i64 e, .int .i64 t, .int .i64 0] 31))
  have HS1' : Hid (SV _ _ L) := HS1.out.below (bt hb (bal w3 (.cells #[.int .i64 e, .int .i64 t, .int .i64 0] 31)))
  clear c1 f1 c2 f2
  obtain ⟨c1, f1, y1, c2, f2, y2, c3, f3, y3, -⟩ := (s2.call hb).rules
  clear hb hS s2 D2 HS1 hSh
  go_wp2_with fail
  refine Calls.mono (hWk.out _ ((HL.out.m).below s3.below)) ?_
  rintro e' w4 ⟨rfl, hb⟩
  have s4 := (s3.call hb).new (c := #[.int .i64 e, .int .i64 t, .int .i64 0]) (t := 31)
  have D4 := bt D3 (bt hb (bal w4 (.cells #[.int .i64 e, .int .i64 t, .int .i64 0] 31)))
  have S2 : Hid (SV _ _ L) := HS2.out.below (bt hb (bal w4 (.cells #[.int .i64 e, .int .i64 t, .int .i64 0] 31)))
  have S1 : Hid (SV _ _ L) := HS1'.out.below (bt hb (bal w4 (.cells #[.int .i64 e, .int .i64 t, .int .i64 0] 31)))
  clear hb s3 D3 HS2 HS1' hWk c1 f1 c2 f2 c3 f3
  go_upto_region 5 with fail
  obtain ⟨w5, hw5⟩ : ∃ w5, w4.alloc (.cells #[.int .i64 e, .int .i64 t, .int .i64 0] 31) = w5 := ⟨_, rfl⟩
  rw [hw5] at s4 D4 S2 S1 ⊢
  clear hw5
  have h5 : St w5 w5 [] := St.start w5
  have hFx : Hid (∀ n : Wd w5 [], Calls Try.prog 11 #[] n.w fun e w' => e = .returned (.bool true) ∧ Below n.w.heap.size n.w w') := fun n => fixed_any n.w
  have hC2 : Hid (∀ n : Wd w5 [], Calls Try.prog 12 #[.agg #[.int .i64 h, .int .i64 w, .int .i64 c, .int .i64 lo, .int .i64 hi, .slice oa on oc, .int .i64 ot]] n.w fun e' w' => e' = .returned (.agg #[.int .i64 e, .int .i64 t, .int .i64 0]) ∧ Below n.w.heap.size n.w w') := fun n => hCk.out _ ((HL.out.m).below (bt s4.below n.h.below))
  have hSa : Hid (∀ n : Wd w5 [], Calls Try.prog 13 #[.slice ua L.length uc, .slice va L.length vc] n.w fun e w' => e = .returned (.bool true) ∧ Below n.w.heap.size n.w w') := fun n => by
    have := same_any _ _ _ _ n.w (S2.out.below n.h.below) (S1.out.below n.h.below)
    simpa using this
  have hSm : Hid (∀ n : Wd w5 [], Calls Try.prog 14 #[.agg #[.int .i64 h, .int .i64 w, .int .i64 c, .int .i64 lo, .int .i64 hi, .slice oa on oc, .int .i64 ot], .agg #[.int .i64 h, .int .i64 w, .int .i64 c, .int .i64 lo, .int .i64 hi, .slice oa' on oc', .int .i64 ot]] n.w fun e w' => e = .returned (.bool true) ∧ Below n.w.heap.size n.w w') := fun n => samem_any h w c lo hi ot oa oa' on oc oc' O Z B n.w (HL.out.below (bt s4.below n.h.below)) (HL'.out.below (bt D4 n.h.below))
  have Hbel : Hid (Below W.heap.size W w5) := s4.below
  obtain ⟨q1', y1', q2', y2', q3', y3', q4', y4', q5', y5', -⟩ := s4.rulesB
  have hne := Nonempty.intro (Wd.mk _ h5)
  clear s4 D4 S1 S2 HL HL' hCk
  refine region_held h5 (by kernel_rfl) (by kernel_rfl) ?_
  repeat (go_big_quiet_step ((first
    | (go_at_call 11; exact held_of (hFx.out _))
    | (go_at_call 12; exact held_of (hC2.out _))
    | (go_at_call 13; exact held_of (hSa.out _))
    | (go_at_call 14; exact held_of (hSm.out _)))))
  refine wpQuiet_nil ?_
  intro _ hw'
  obtain ⟨nq, rfl⟩ := hw'
  go_wp2
  go_ret
  exact ⟨rfl, bt Hbel.out nq.h.below⟩
end Go.Proofs.Ytfgbolekenlheaa
