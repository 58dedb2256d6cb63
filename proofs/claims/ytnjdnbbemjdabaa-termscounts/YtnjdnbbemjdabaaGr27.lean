/- The walk of TermsCounts. The walk of TermsOf. The walk of TermsMemory. What Padded of package window returns, for every argument. The places of a sum's terms, in plain numbers: where they lie, that none comes twice, how many are padding. -/
import Derived.Test.YtnjdnbbemjdabaaGr14
import Derived.Test.YtnjdnbbemjdabaaGr15
import Derived.Test.YtnjdnbbemjdabaaGr24
import Derived.Test.YtnjdnbbemjdabaaGr26
import Derived.Maps.AppendAt
/- The walk of TermsCounts. -/
namespace Go.Proofs.Ytnjdnbbemjdabaa
open Go.ChangeShapes Go.WideShapes Go.ChangeAt Go.RowKit
set_option linter.unusedVariables false
set_option maxHeartbeats 8000000 in
set_option maxRecDepth 100000 in
theorem termsCounts_walk (h w c lo hi : Int) (oa : Option Addr) (on oc : Nat) (ot op : Int) (W : World) (_ : (Lit.int .i64 h).wf = true) (_ : (Lit.int .i64 w).wf = true) (_ : (Lit.int .i64 c).wf = true) (_ : (Lit.int .i64 lo).wf = true) (_ : (Lit.int .i64 hi).wf = true)
    (wo : ORow 22 (OpIn W) W oa on oc) (hr : on * 208 ≤ 140737488351232) (_ : (Lit.int .i64 ot).wf = true) (_ : (Lit.int .i64 op).wf = true) :
    Calls Try.prog 3 #[.agg #[.int .i64 h, .int .i64 w, .int .i64 c, .int .i64 lo, .int .i64 hi, .slice oa on oc, .int .i64 ot], .int .i64 op] W fun e w' => e = .returned (.bool true) ∧ Below W.heap.size W w' := by
  rename_i x1 x2 x3 x4 x5 x6 x7
  clear x1 x2 x3 x4 x5 x6 x7
  obtain ⟨O, Z, B, hL⟩ := lrow_of wo
  have HL : Hid (LRow W oa on oc O Z B) := hL
  have hon : on ≤ 1000000000000 := by omega
  have s0 := (St.start W).new (c := #[.int .i64 h, .int .i64 w, .int .i64 c, .int .i64 lo, .int .i64 hi, .slice oa on oc, .int .i64 ot]) (t := 26)
  obtain ⟨E, hf⟩ : ∃ E, fiE O h w c lo hi ot on op = E := ⟨_, rfl⟩
  by_cases hE : E = 0
  · subst hE
    obtain ⟨RL, Rw, hR, i, x, wa, lw, cw, ba, lb, cb, x0, y0, z0, H, V, C, rfl, hF⟩ := found h w c lo hi ot oa on oc O Z B W hL op hf
    have hSit := hF.2.2.2.2.2.2.2.2.2.1
    have hCb := (vS_yes hSit.2.2.1).2.2.1
    have hFi : Hid (∀ W', Below W.heap.size W W' → _) := fun W' hb => rfind_ok h w c lo hi ot oa on oc O Z B W' (hL.below hb) hon 0 RL Rw hR i x wa lw cw ba lb cb x0 y0 z0 H V C (hF.below hb) (by omega)
    have hLe : Hid (∀ W', Below W.heap.size W W' → _) := fun W' hb => lenT_ok h w c lo hi ot oa on oc O Z B W' (hL.below hb) RL Rw hR i x wa lw cw ba lb cb x0 y0 z0 H V C (hF.below hb)
    have hCh : Hid (∀ W', Below W.heap.size W W' → _) := fun W' hb => chaT_ok h w c lo hi ot oa on oc O Z B W' (hL.below hb) RL Rw hR i x wa lw cw ba lb cb x0 y0 z0 H V C (hF.below hb)
    have hPo : Hid (∀ W', Below W.heap.size W W' → _) := fun W' hb => posT_ok h w c lo hi ot oa on oc O Z B W' (hL.below hb) RL Rw hR i x wa lw cw ba lb cb x0 y0 z0 H V C (hF.below hb)
    have hRl : Hid (∀ W', _) := fun W' => rlen_any (O i 0) (O i 1) (O i 2) (O i 3) (O i 4) (O i 5) (O i 6) (O i 7) (O i 8) (O i 9) (O i 10) (O i 11) wa lw cw ba lb cb (O i 14) (O i 15) (O i 16) (O i 17) (O i 18) (O i 19) (O i 20) (O i 21) x0 y0 z0 H V C W' hSit
    have hRp : Hid (∀ W', _) := fun W' => rpos_any (O i 0) (O i 1) (O i 2) (O i 3) (O i 4) (O i 5) (O i 6) (O i 7) (O i 8) (O i 9) (O i 10) (O i 11) wa lw cw ba lb cb (O i 14) (O i 15) (O i 16) (O i 17) (O i 18) (O i 19) (O i 20) (O i 21) x0 y0 z0 H V C W' hSit.2.2.1
    obtain ⟨st, hst⟩ : ∃ st, stR (O i 0) (O i 4) (O i 5) x0 y0 z0 = st := ⟨_, rfl⟩
    obtain ⟨hv, hhv⟩ : ∃ hv, H * V = hv := ⟨_, rfl⟩
    rw [hst] at hLe hRl
    rw [hhv] at hPo hRp
    clear hst hhv hF hR hf hL wo hSit
    go_enter Try.func3, Try.ntmps3
    go_wp2_with fail
    refine (hFi.out _ s0.below).mono ?_
    rintro e w1 ⟨rfl, hb⟩
    have s1 := (s0.call hb).new (c := #[.int .i64 (O i 0), .int .i64 (O i 1), .int .i64 (O i 2), .int .i64 (O i 3), .int .i64 (O i 4), .int .i64 (O i 5), .int .i64 (O i 6), .int .i64 (O i 7), .int .i64 (O i 8), .int .i64 (O i 9), .int .i64 (O i 10), .int .i64 (O i 11), .slice wa lw cw, .slice ba lb cb, .int .i64 (O i 14), .int .i64 (O i 15), .int .i64 (O i 16), .int .i64 (O i 17), .int .i64 (O i 18), .int .i64 (O i 19), .int .i64 (O i 20), .int .i64 (O i 21), .int .i64 x0, .int .i64 y0, .int .i64 z0, .int .i64 H, .int .i64 V, .int .i64 C]) (t := 36)
    have hM1 := s1.h2
    obtain ⟨-, -, -, c2, f2, z2, -⟩ := s1.rules
    clear hb
    go_wp2_with (first
      | (refine wpList_st_new rfl 36 (.tmp 5) (.tmp 17) rfl w1 _ #[.int .i64 (O i 0), .int .i64 (O i 1), .int .i64 (O i 2), .int .i64 (O i 3), .int .i64 (O i 4), .int .i64 (O i 5), .int .i64 (O i 6), .int .i64 (O i 7), .int .i64 (O i 8), .int .i64 (O i 9), .int .i64 (O i 10), .int .i64 (O i 11), .slice wa lw cw, .slice ba lb cb, .int .i64 (O i 14), .int .i64 (O i 15), .int .i64 (O i 16), .int .i64 (O i 17), .int .i64 (O i 18), .int .i64 (O i 19), .int .i64 (O i 20), .int .i64 (O i 21), .int .i64 x0, .int .i64 y0, .int .i64 z0, .int .i64 H, .int .i64 V, .int .i64 C] rfl rfl (by kernel_rfl) rfl (by simp [Value.oneCell']) ?_))
    refine (hLe.out _ s1.below).mono ?_
    rintro e w2 ⟨rfl, hb⟩
    have s2 := s1.call hb
    clear hb s1 c2 f2 z2
    obtain ⟨-, -, -, c2, f2, z2, -⟩ := s2.rules
    go_wp2_with fail
    refine (hCh.out _ s2.below).mono ?_
    rintro e w3 ⟨rfl, hb⟩
    have s3 := s2.call hb
    clear hb s2 c2 f2 z2
    obtain ⟨-, -, -, c2, f2, z2, -⟩ := s3.rules
    go_wp2_with fail
    refine (hPo.out _ s3.below).mono ?_
    rintro e w4 ⟨rfl, hb⟩
    have s4 := s3.call hb
    clear hb s3 c2 f2 z2
    go_wp2_with fail
    refine (fixed10_any _).mono ?_
    rintro e w5 ⟨rfl, hb⟩
    have s5 := s4.call hb
    clear hb s4
    have h5 := s5.h1
    go_wp2_with (refine wpList_load_row rfl 36 (.tmp 5) rfl w1.heap.size rfl 36 _ (0, 0) _ h5 Try.underlying36 rfl (by kernel_rfl) ?_)
    refine (hRl.out _).mono ?_
    rintro e w6 ⟨rfl, hb⟩
    have s6 := s5.call hb
    clear hb s5 h5
    have h6 := s6.h1
    obtain ⟨c1, f1, z1, -⟩ := s6.rules
    go_wp2_with (refine wpList_load_row_g (by rfl) 36 (.tmp 5) rfl _ rfl 36 _ (0, 0) _ h6 Try.underlying36 rfl (by kernel_rfl) ?_)
    refine (hRp.out _).mono ?_
    rintro e w7 ⟨rfl, hb⟩
    have s7 := s6.call hb
    clear hb s6 h6 c1 f1 z1
    go_wp2
    go_ret
    exact ⟨rfl, s7.below⟩
  · have hFi : Hid (∀ W', Below W.heap.size W W' → _) := fun W' hb => rfind_bad h w c lo hi ot oa on oc O Z B W' (hL.below hb) hon op 0 E hf hE
    have hLe : Hid (∀ W', Below W.heap.size W W' → _) := fun W' hb => lenT_bad h w c lo hi ot oa on oc O Z B W' (hL.below hb) op E hf hE
    have hCh : Hid (∀ W', Below W.heap.size W W' → _) := fun W' hb => chaT_bad h w c lo hi ot oa on oc O Z B W' (hL.below hb) op E hf hE
    have hPo : Hid (∀ W', Below W.heap.size W W' → _) := fun W' hb => posT_bad h w c lo hi ot oa on oc O Z B W' (hL.below hb) op E hf hE
    have hE' : (E == 0) = false := by simp [hE]
    clear hf hL wo
    go_enter Try.func3, Try.ntmps3
    go_wp2_with fail
    refine (hFi.out _ s0.below).mono ?_
    rintro e w1 ⟨rfl, hb⟩
    have s1 := (s0.call hb).new (c := #[.int .i64 0, .int .i64 0, .int .i64 0, .int .i64 0, .int .i64 0, .int .i64 0, .int .i64 0, .int .i64 0, .int .i64 0, .int .i64 0, .int .i64 0, .int .i64 0, .slice none 0 0, .slice none 0 0, .int .i64 0, .int .i64 0, .int .i64 0, .int .i64 0, .int .i64 0, .int .i64 0, .int .i64 0, .int .i64 0, .int .i64 0, .int .i64 0, .int .i64 0, .int .i64 0, .int .i64 0, .int .i64 0]) (t := 36)
    obtain ⟨-, -, -, c2, f2, z2, -⟩ := s1.rules
    clear hb
    go_wp2_with (first
      | (refine wpList_st_new rfl 36 (.tmp 5) (.tmp 17) rfl w1 _ #[.int .i64 0, .int .i64 0, .int .i64 0, .int .i64 0, .int .i64 0, .int .i64 0, .int .i64 0, .int .i64 0, .int .i64 0, .int .i64 0, .int .i64 0, .int .i64 0, .slice none 0 0, .slice none 0 0, .int .i64 0, .int .i64 0, .int .i64 0, .int .i64 0, .int .i64 0, .int .i64 0, .int .i64 0, .int .i64 0, .int .i64 0, .int .i64 0, .int .i64 0, .int .i64 0, .int .i64 0, .int .i64 0] rfl rfl (by kernel_rfl) rfl (by simp [Value.oneCell']) ?_))
    refine (hLe.out _ s1.below).mono ?_
    rintro e w2 ⟨rfl, hb⟩
    have s2 := s1.call hb
    clear hb s1 c2 f2 z2
    obtain ⟨-, -, -, c2, f2, z2, -⟩ := s2.rules
    go_wp2_with fail
    refine (hCh.out _ s2.below).mono ?_
    rintro e w3 ⟨rfl, hb⟩
    have s3 := s2.call hb
    clear hb s2 c2 f2 z2
    obtain ⟨-, -, -, c2, f2, z2, -⟩ := s3.rules
    go_wp2_with fail
    refine (hPo.out _ s3.below).mono ?_
    rintro e w4 ⟨rfl, hb⟩
    have s4 := s3.call hb
    clear hb s3 c2 f2 z2
    go_wp2_with fail
    refine (fixed10_any _).mono ?_
    rintro e w5 ⟨rfl, hb⟩
    have s5 := s4.call hb
    clear hb s4
    go_wp2
    go_ret
    exact ⟨rfl, s5.below⟩
end Go.Proofs.Ytnjdnbbemjdabaa

/- The walk of TermsOf. -/
namespace Go.Proofs.Ytnjdnbbemjdabaa
open Go.ChangeShapes Go.WideShapes Go.ChangeAt Go.RowKit
set_option linter.unusedVariables false
/-- What the blocks hold, in each world that keeps what lies here. -/
def RulesN (w : World) : List (Nat × Array Value × TypeId) → Prop
  | [] => True
  | (B, c, _) :: l => (∀ (n : Wd w []) i, n.w.cell? ⟨B, i, none⟩ = c[i]?) ∧ (∀ (n : Wd w []), B < n.w.heap.size) ∧ RulesN w l
theorem rulesN_of {w : World} : ∀ (l : List (Nat × Array Value × TypeId)), (∀ x ∈ l, w.heap[x.1]? = some (.cells x.2.1 x.2.2)) → RulesN w l
  | [], _ => trivial
  | (B, c, t) :: l, h => by
    have h0 : w.heap[B]? = some (.cells c t) := h _ List.mem_cons_self
    refine ⟨fun n i => ?_, fun n => ?_, rulesN_of l fun x hx => h x (List.mem_cons_of_mem _ hx)⟩
    · have h1 : n.w.heap[B]? = some (.cells c t) := by rw [n.h.below.block _ (lt_of_heap h0)]; exact h0
      simp [World.cell?, h1]
    · exact Nat.lt_of_lt_of_le (lt_of_heap h0) n.h.below.size
theorem St.rulesN {w0 w : World} {l : List (Nat × Array Value × TypeId)} (h : St w0 w l) : RulesN w l := rulesN_of l fun x hx => (h.2 x hx).1
theorem hp_old {w : World} {B : Nat} {c : Array Value} {t : TypeId} (h0 : w.heap[B]? = some (.cells c t (0, 0))) : ∀ w', (∃ n : Wd w [], w' = n.w) → w'.heap[B]? = some (.cells c t (0, 0)) := by
  rintro w' ⟨n, rfl⟩
  rw [n.h.below.block _ (lt_of_heap h0)]; exact h0
set_option maxHeartbeats 8000000 in
set_option maxRecDepth 100000 in
theorem termsOf_e (h w c lo hi : Int) (oa : Option Addr) (on oc : Nat) (ot op ch at' : Int) (O : Nat → Nat → Int) (Z B : Nat → List Int) (W : World) (hL : LRow W oa on oc O Z B) (hon : on ≤ 1000000000000) (E : Int) (hE : E ≠ 0)
    (hO : ∀ W', Below W.heap.size W W' → Calls Try.prog 14 #[.agg #[.int .i64 h, .int .i64 w, .int .i64 c, .int .i64 lo, .int .i64 hi, .slice oa on oc, .int .i64 ot], .int .i64 op, .int .i64 ch, .int .i64 at'] W' fun e w' => e = .returned (.tuple #[.slice none 0 0, .int .i64 0, .int .i64 E]) ∧ Below W'.heap.size W' w')
    (hF : ∀ W', Below W.heap.size W W' → Calls Try.prog 15 #[.agg #[.int .i64 h, .int .i64 w, .int .i64 c, .int .i64 lo, .int .i64 hi, .slice oa on oc, .int .i64 ot], .int .i64 op, .int .i64 ch] W' fun e w' => e = .returned (.tuple #[.agg #[.int .i64 0, .int .i64 0, .int .i64 0, .int .i64 0, .int .i64 0, .int .i64 0, .int .i64 0, .int .i64 0, .int .i64 0, .int .i64 0, .int .i64 0, .int .i64 0, .slice none 0 0, .slice none 0 0, .int .i64 0, .int .i64 0, .int .i64 0, .int .i64 0, .int .i64 0, .int .i64 0, .int .i64 0, .int .i64 0, .int .i64 0, .int .i64 0, .int .i64 0, .int .i64 0, .int .i64 0, .int .i64 0], .int .i64 E]) ∧ Below W'.heap.size W' w') :
    Calls Try.prog 4 #[.agg #[.int .i64 h, .int .i64 w, .int .i64 c, .int .i64 lo, .int .i64 hi, .slice oa on oc, .int .i64 ot, .int .i64 op, .int .i64 ch, .int .i64 at']] W fun e w' => e = .returned (.bool true) ∧ Below W.heap.size W w' := by
  have HO : Hid (∀ W', _) := hO
  have HF : Hid (∀ W', _) := hF
  have hE' : (E == 0) = false := by simp [hE]
  have s0 := (St.start W).new (c := #[.int .i64 h, .int .i64 w, .int .i64 c, .int .i64 lo, .int .i64 hi, .slice oa on oc, .int .i64 ot, .int .i64 op, .int .i64 ch, .int .i64 at']) (t := 46)
  clear hO hF hL hE
  go_enter Try.func4, Try.ntmps4
  go_wp2_with fail
  refine (HO.out _ s0.below).mono ?_
  rintro e w1 ⟨rfl, hb⟩
  have s1 := s0.call hb
  obtain ⟨c1, f1, z1, -⟩ := s1.rules
  clear hb s0
  go_wp2_with fail
  refine (HF.out _ s1.below).mono ?_
  rintro e w2 ⟨rfl, hb⟩
  have s2 := (s1.call hb).new (c := #[.int .i64 0, .int .i64 0, .int .i64 0, .int .i64 0, .int .i64 0, .int .i64 0, .int .i64 0, .int .i64 0, .int .i64 0, .int .i64 0, .int .i64 0, .int .i64 0, .slice none 0 0, .slice none 0 0, .int .i64 0, .int .i64 0, .int .i64 0, .int .i64 0, .int .i64 0, .int .i64 0, .int .i64 0, .int .i64 0, .int .i64 0, .int .i64 0, .int .i64 0, .int .i64 0, .int .i64 0, .int .i64 0]) (t := 36)
  clear hb s1 c1 f1 z1
  go_wp2_with (first
    | (refine wpList_st_new rfl 36 (.tmp 6) (.tmp 29) rfl w2 _ #[.int .i64 0, .int .i64 0, .int .i64 0, .int .i64 0, .int .i64 0, .int .i64 0, .int .i64 0, .int .i64 0, .int .i64 0, .int .i64 0, .int .i64 0, .int .i64 0, .slice none 0 0, .slice none 0 0, .int .i64 0, .int .i64 0, .int .i64 0, .int .i64 0, .int .i64 0, .int .i64 0, .int .i64 0, .int .i64 0, .int .i64 0, .int .i64 0, .int .i64 0, .int .i64 0, .int .i64 0, .int .i64 0] rfl rfl (by kernel_rfl) rfl (by simp [Value.oneCell']) ?_))
  go_quiet (fail)
  have s3 := s2.call (dbel _ nq)
  clear s2
  go_wp2_with fail
  refine (fixed10_any _).mono ?_
  rintro e w4 ⟨rfl, hb⟩
  have s4 := s3.call hb
  clear hb s3
  go_wp2
  go_ret
  exact ⟨rfl, s4.below⟩
set_option maxHeartbeats 8000000 in
set_option maxRecDepth 100000 in
theorem termsOf_p (h w c lo hi : Int) (oa : Option Addr) (on oc : Nat) (ot ch at' : Int) (O : Nat → Nat → Int) (Z B : Nat → List Int) (W : World) (hL : LRow W oa on oc O Z B) (hon : on ≤ 1000000000000) (RL : List (Int × Int × Int)) (Rw : Int) (hR : gtR O h w c lo hi ot on = (0, 0, RL, Rw)) (i : Nat) (x : Addr) (wa : Option Addr) (lw cw : Nat) (ba : Option Addr) (lb cb : Nat) (x0 y0 z0 H V C : Int) (hF : Fnd W oa on O Z B RL i x wa lw cw ba lb cb x0 y0 z0 H V C) (hch : 1 ≤ ch ∧ ch ≤ C) (hp : ¬ (0 ≤ at' ∧ at' < H * V)) :
    Calls Try.prog 4 #[.agg #[.int .i64 h, .int .i64 w, .int .i64 c, .int .i64 lo, .int .i64 hi, .slice oa on oc, .int .i64 ot, .int .i64 ((i : Int) + 1), .int .i64 ch, .int .i64 at']] W fun e w' => e = .returned (.bool true) ∧ Below W.heap.size W w' := by
  have hSit := hF.2.2.2.2.2.2.2.2.2.1
  have HO : Hid (∀ W', Below W.heap.size W W' → _) := fun W' hb => of_place h w c lo hi ot oa on oc O Z B W' (hL.below hb) ch at' RL Rw hR i x wa lw cw ba lb cb x0 y0 z0 H V C (hF.below hb) (fun q => hp q.2)
  have HF : Hid (∀ W', Below W.heap.size W W' → _) := fun W' hb => fch_r (O := O) (i := i) (x := x) (wa := wa) (lw := lw) (cw := cw) (ba := ba) (lb := lb) (cb := cb) (x0 := x0) (y0 := y0) (z0 := z0) (H := H) (V := V) (C := C) h w c lo hi ot oa on oc W' ((i : Int) + 1) ch 0 (by omega) (fun W'' hb' => rfind_ok h w c lo hi ot oa on oc O Z B W'' (hL.below (hb.trans (hb'.mono hb.size))) hon ch RL Rw hR i x wa lw cw ba lb cb x0 y0 z0 H V C (hF.below (hb.trans (hb'.mono hb.size))) (by omega))
  have hRp : Hid (∀ W', _) := fun W' => rpos_any (O i 0) (O i 1) (O i 2) (O i 3) (O i 4) (O i 5) (O i 6) (O i 7) (O i 8) (O i 9) (O i 10) (O i 11) wa lw cw ba lb cb (O i 14) (O i 15) (O i 16) (O i 17) (O i 18) (O i 19) (O i 20) (O i 21) x0 y0 z0 H V C W' hSit.2.2.1
  obtain ⟨hv, hhv⟩ : ∃ hv, H * V = hv := ⟨_, rfl⟩
  rw [hhv] at hp hRp
  have s0 := (St.start W).new (c := #[.int .i64 h, .int .i64 w, .int .i64 c, .int .i64 lo, .int .i64 hi, .slice oa on oc, .int .i64 ot, .int .i64 ((i : Int) + 1), .int .i64 ch, .int .i64 at']) (t := 46)
  clear hhv hF hR hL hSit
  by_cases hneg : at' < 0
  · have hge : True := trivial
    go_enter Try.func4, Try.ntmps4
    go_wp2_with fail
    refine (HO.out _ s0.below).mono ?_
    rintro e w1 ⟨rfl, hb⟩
    have s1 := s0.call hb
    obtain ⟨c1, f1, z1, -⟩ := s1.rules
    clear hb s0
    go_wp2_with fail
    refine (HF.out _ s1.below).mono ?_
    rintro e w2 ⟨rfl, hb⟩
    have s2 := (s1.call hb).new (c := #[.int .i64 (O i 0), .int .i64 (O i 1), .int .i64 (O i 2), .int .i64 (O i 3), .int .i64 (O i 4), .int .i64 (O i 5), .int .i64 (O i 6), .int .i64 (O i 7), .int .i64 (O i 8), .int .i64 (O i 9), .int .i64 (O i 10), .int .i64 (O i 11), .slice wa lw cw, .slice ba lb cb, .int .i64 (O i 14), .int .i64 (O i 15), .int .i64 (O i 16), .int .i64 (O i 17), .int .i64 (O i 18), .int .i64 (O i 19), .int .i64 (O i 20), .int .i64 (O i 21), .int .i64 x0, .int .i64 y0, .int .i64 z0, .int .i64 H, .int .i64 V, .int .i64 C]) (t := 36)
    clear hb s1 c1 f1 z1
    go_wp2_with (first
      | (refine wpList_st_new rfl 36 (.tmp 6) (.tmp 29) rfl w2 _ #[.int .i64 (O i 0), .int .i64 (O i 1), .int .i64 (O i 2), .int .i64 (O i 3), .int .i64 (O i 4), .int .i64 (O i 5), .int .i64 (O i 6), .int .i64 (O i 7), .int .i64 (O i 8), .int .i64 (O i 9), .int .i64 (O i 10), .int .i64 (O i 11), .slice wa lw cw, .slice ba lb cb, .int .i64 (O i 14), .int .i64 (O i 15), .int .i64 (O i 16), .int .i64 (O i 17), .int .i64 (O i 18), .int .i64 (O i 19), .int .i64 (O i 20), .int .i64 (O i 21), .int .i64 x0, .int .i64 y0, .int .i64 z0, .int .i64 H, .int .i64 V, .int .i64 C] rfl rfl (by kernel_rfl) rfl (by simp [Value.oneCell']) ?_))
    obtain ⟨c1, g1, c2, g2, -⟩ := rulesQ_st s2
    have hne := Nonempty.intro (Wd.mk _ s2)
    refine region_held s2 (by kernel_rfl) (by kernel_rfl) ?_
    repeat (first
      | (go_big_quiet_want; refine quiet_ld 36 (.tmp 6) rfl _ rfl 36 _ _ (Wd.hp List.mem_cons_self) Try.underlying36 rfl (by kernel_rfl) rfl ?_; go_simp; go_big_quiet_on)
      | (go_big_quiet_step ((go_at_call 13; exact held_of (hRp.out _)))))
    refine wpQuiet_nil ?_
    intro _ hw'
    obtain ⟨nq, rfl⟩ := hw'
    clear c1 g1 c2 g2 hne s2
    have s3 := nq.h
    obtain ⟨w3, hw3⟩ : ∃ w3, nq.w = w3 := ⟨_, rfl⟩
    rw [hw3] at s3 ⊢
    clear hw3
    go_wp2_with fail
    refine (fixed10_any _).mono ?_
    rintro e w4 ⟨rfl, hb⟩
    have s4 := s3.call hb
    clear hb s3
    go_wp2
    go_ret
    exact ⟨rfl, s4.below⟩
  · have hge : hv ≤ at' := (by omega); have hdn : decide (at' < 0) = false := decide_eq_false hneg
    go_enter Try.func4, Try.ntmps4
    go_wp2_with fail
    refine (HO.out _ s0.below).mono ?_
    rintro e w1 ⟨rfl, hb⟩
    have s1 := s0.call hb
    obtain ⟨c1, f1, z1, -⟩ := s1.rules
    clear hb s0
    go_wp2_with fail
    refine (HF.out _ s1.below).mono ?_
    rintro e w2 ⟨rfl, hb⟩
    have s2 := (s1.call hb).new (c := #[.int .i64 (O i 0), .int .i64 (O i 1), .int .i64 (O i 2), .int .i64 (O i 3), .int .i64 (O i 4), .int .i64 (O i 5), .int .i64 (O i 6), .int .i64 (O i 7), .int .i64 (O i 8), .int .i64 (O i 9), .int .i64 (O i 10), .int .i64 (O i 11), .slice wa lw cw, .slice ba lb cb, .int .i64 (O i 14), .int .i64 (O i 15), .int .i64 (O i 16), .int .i64 (O i 17), .int .i64 (O i 18), .int .i64 (O i 19), .int .i64 (O i 20), .int .i64 (O i 21), .int .i64 x0, .int .i64 y0, .int .i64 z0, .int .i64 H, .int .i64 V, .int .i64 C]) (t := 36)
    clear hb s1 c1 f1 z1
    go_wp2_with (first
      | (refine wpList_st_new rfl 36 (.tmp 6) (.tmp 29) rfl w2 _ #[.int .i64 (O i 0), .int .i64 (O i 1), .int .i64 (O i 2), .int .i64 (O i 3), .int .i64 (O i 4), .int .i64 (O i 5), .int .i64 (O i 6), .int .i64 (O i 7), .int .i64 (O i 8), .int .i64 (O i 9), .int .i64 (O i 10), .int .i64 (O i 11), .slice wa lw cw, .slice ba lb cb, .int .i64 (O i 14), .int .i64 (O i 15), .int .i64 (O i 16), .int .i64 (O i 17), .int .i64 (O i 18), .int .i64 (O i 19), .int .i64 (O i 20), .int .i64 (O i 21), .int .i64 x0, .int .i64 y0, .int .i64 z0, .int .i64 H, .int .i64 V, .int .i64 C] rfl rfl (by kernel_rfl) rfl (by simp [Value.oneCell']) ?_))
    obtain ⟨c1, g1, c2, g2, -⟩ := rulesQ_st s2
    have hne := Nonempty.intro (Wd.mk _ s2)
    refine region_held s2 (by kernel_rfl) (by kernel_rfl) ?_
    repeat (first
      | (go_big_quiet_want; refine quiet_ld 36 (.tmp 6) rfl _ rfl 36 _ _ (Wd.hp List.mem_cons_self) Try.underlying36 rfl (by kernel_rfl) rfl ?_; go_simp; go_big_quiet_on)
      | (go_big_quiet_step ((go_at_call 13; exact held_of (hRp.out _)))))
    refine wpQuiet_nil ?_
    intro _ hw'
    obtain ⟨nq, rfl⟩ := hw'
    clear c1 g1 c2 g2 hne s2
    have s3 := nq.h
    obtain ⟨w3, hw3⟩ : ∃ w3, nq.w = w3 := ⟨_, rfl⟩
    rw [hw3] at s3 ⊢
    clear hw3
    go_wp2_with fail
    refine (fixed10_any _).mono ?_
    rintro e w4 ⟨rfl, hb⟩
    have s4 := s3.call hb
    clear hb s3
    go_wp2
    go_ret
    exact ⟨rfl, s4.below⟩
set_option maxHeartbeats 8000000 in
set_option maxRecDepth 100000 in
theorem termsOf_ok (h w c lo hi : Int) (oa : Option Addr) (on oc : Nat) (ot ch at' : Int) (O : Nat → Nat → Int) (Z B : Nat → List Int) (W : World) (hL : LRow W oa on oc O Z B) (hon : on ≤ 1000000000000) (RL : List (Int × Int × Int)) (Rw : Int) (hR : gtR O h w c lo hi ot on = (0, 0, RL, Rw)) (i : Nat) (x : Addr) (wa : Option Addr) (lw cw : Nat) (ba : Option Addr) (lb cb : Nat) (x0 y0 z0 H V C : Int) (hF : Fnd W oa on O Z B RL i x wa lw cw ba lb cb x0 y0 z0 H V C) (hch : 1 ≤ ch ∧ ch ≤ C) (hp : 0 ≤ at' ∧ at' < H * V) :
    Calls Try.prog 4 #[.agg #[.int .i64 h, .int .i64 w, .int .i64 c, .int .i64 lo, .int .i64 hi, .slice oa on oc, .int .i64 ot, .int .i64 ((i : Int) + 1), .int .i64 ch, .int .i64 at']] W fun e w' => e = .returned (.bool true) ∧ Below W.heap.size W w' := by
  have hSit := hF.2.2.2.2.2.2.2.2.2.1
  have hrZ := hF.2.2.2.2.2.1
  have hrB := hF.2.2.2.2.2.2.1
  have HO : Hid (∀ W', Below W.heap.size W W' → _) := fun W' hb => of_ok h w c lo hi ot oa on oc O Z B W' (hL.below hb) ch at' RL Rw hR i x wa lw cw ba lb cb x0 y0 z0 H V C (hF.below hb) hch hp
  have HF : Hid (∀ W', Below W.heap.size W W' → _) := fun W' hb => fch_r (O := O) (i := i) (x := x) (wa := wa) (lw := lw) (cw := cw) (ba := ba) (lb := lb) (cb := cb) (x0 := x0) (y0 := y0) (z0 := z0) (H := H) (V := V) (C := C) h w c lo hi ot oa on oc W' ((i : Int) + 1) ch 0 (by omega) (fun W'' hb' => rfind_ok h w c lo hi ot oa on oc O Z B W'' (hL.below (hb.trans (hb'.mono hb.size))) hon ch RL Rw hR i x wa lw cw ba lb cb x0 y0 z0 H V C (hF.below (hb.trans (hb'.mono hb.size))) (by omega))
  have hRp : Hid (∀ W', _) := fun W' => rpos_any (O i 0) (O i 1) (O i 2) (O i 3) (O i 4) (O i 5) (O i 6) (O i 7) (O i 8) (O i 9) (O i 10) (O i 11) wa lw cw ba lb cb (O i 14) (O i 15) (O i 16) (O i 17) (O i 18) (O i 19) (O i 20) (O i 21) x0 y0 z0 H V C W' hSit.2.2.1
  have hRt : Hid (∀ W', Below W.heap.size W W' → _) := fun W' hb => rterms_any (O i 0) (O i 1) (O i 2) (O i 3) (O i 4) (O i 5) (O i 6) (O i 7) (O i 8) (O i 9) (O i 10) (O i 11) wa lw cw ba lb cb (O i 14) (O i 15) (O i 16) (O i 17) (O i 18) (O i 19) (O i 20) (O i 21) x0 y0 z0 H V C W' (Z i) (hrZ.below hb) hSit ch at' hch hp
  have hRb : Hid (∀ W', Below W.heap.size W W' → _) := fun W' hb => rbias_any (O i 0) (O i 1) (O i 2) (O i 3) (O i 4) (O i 5) (O i 6) (O i 7) (O i 8) (O i 9) (O i 10) (O i 11) wa lw cw ba lb cb (O i 14) (O i 15) (O i 16) (O i 17) (O i 18) (O i 19) (O i 20) (O i 21) x0 y0 z0 H V C W' (B i) (hrB.below hb) hSit ch hch
  obtain ⟨TL, hTL⟩ : ∃ TL, siL (O i 0) (O i 4) (O i 5) (O i 6) (O i 7) (O i 8) (O i 9) (O i 10) (O i 11) x0 y0 z0 ch at' (Z i) = TL := ⟨_, rfl⟩
  obtain ⟨bi, hbi⟩ : ∃ bi, biA (O i 0) ch (B i) = bi := ⟨_, rfl⟩
  rw [hTL] at HO hRt
  rw [hbi] at HO hRb
  obtain ⟨hv, hhv⟩ : ∃ hv, H * V = hv := ⟨_, rfl⟩
  rw [hhv] at hp hRp
  have s0 := (St.start W).new (c := #[.int .i64 h, .int .i64 w, .int .i64 c, .int .i64 lo, .int .i64 hi, .slice oa on oc, .int .i64 ot, .int .i64 ((i : Int) + 1), .int .i64 ch, .int .i64 at']) (t := 46)
  clear hhv hF hR hL hSit hrZ hrB hTL hbi
  have hp1 : ¬ at' < 0 := by omega
  have hp2 : ¬ hv ≤ at' := by omega
  have hdn : decide (at' < 0) = false := decide_eq_false hp1
  have hdm : decide (hv ≤ at') = false := decide_eq_false hp2
  go_enter Try.func4, Try.ntmps4
  go_wp2_with fail
  refine (HO.out _ s0.below).mono ?_
  rintro e w1 ⟨⟨v, rfl, hOv⟩, hb⟩
  obtain ⟨va, vc, rfl⟩ := hOv.slice
  have T1 : Hid (TV w1 _ TL) := hOv.tv
  have s1 := s0.call hb
  obtain ⟨c1, f1, z1, -⟩ := s1.rules
  clear hb s0 hOv
  go_wp2_with fail
  refine (HF.out _ s1.below).mono ?_
  rintro e w2 ⟨rfl, hb⟩
  have s2 := (s1.call hb).new (c := #[.int .i64 (O i 0), .int .i64 (O i 1), .int .i64 (O i 2), .int .i64 (O i 3), .int .i64 (O i 4), .int .i64 (O i 5), .int .i64 (O i 6), .int .i64 (O i 7), .int .i64 (O i 8), .int .i64 (O i 9), .int .i64 (O i 10), .int .i64 (O i 11), .slice wa lw cw, .slice ba lb cb, .int .i64 (O i 14), .int .i64 (O i 15), .int .i64 (O i 16), .int .i64 (O i 17), .int .i64 (O i 18), .int .i64 (O i 19), .int .i64 (O i 20), .int .i64 (O i 21), .int .i64 x0, .int .i64 y0, .int .i64 z0, .int .i64 H, .int .i64 V, .int .i64 C]) (t := 36)
  have T2 : Hid (TV (w2.alloc (.cells #[.int .i64 (O i 0), .int .i64 (O i 1), .int .i64 (O i 2), .int .i64 (O i 3), .int .i64 (O i 4), .int .i64 (O i 5), .int .i64 (O i 6), .int .i64 (O i 7), .int .i64 (O i 8), .int .i64 (O i 9), .int .i64 (O i 10), .int .i64 (O i 11), .slice wa lw cw, .slice ba lb cb, .int .i64 (O i 14), .int .i64 (O i 15), .int .i64 (O i 16), .int .i64 (O i 17), .int .i64 (O i 18), .int .i64 (O i 19), .int .i64 (O i 20), .int .i64 (O i 21), .int .i64 x0, .int .i64 y0, .int .i64 z0, .int .i64 H, .int .i64 V, .int .i64 C] 36)) _ TL) := T1.out.below (bt hb (bal w2 _))
  clear hb s1 c1 f1 z1 T1
  go_wp2_with (first
    | (refine wpList_st_new rfl 36 (.tmp 6) (.tmp 29) rfl w2 _ #[.int .i64 (O i 0), .int .i64 (O i 1), .int .i64 (O i 2), .int .i64 (O i 3), .int .i64 (O i 4), .int .i64 (O i 5), .int .i64 (O i 6), .int .i64 (O i 7), .int .i64 (O i 8), .int .i64 (O i 9), .int .i64 (O i 10), .int .i64 (O i 11), .slice wa lw cw, .slice ba lb cb, .int .i64 (O i 14), .int .i64 (O i 15), .int .i64 (O i 16), .int .i64 (O i 17), .int .i64 (O i 18), .int .i64 (O i 19), .int .i64 (O i 20), .int .i64 (O i 21), .int .i64 x0, .int .i64 y0, .int .i64 z0, .int .i64 H, .int .i64 V, .int .i64 C] rfl rfl (by kernel_rfl) rfl (by simp [Value.oneCell']) ?_))
  obtain ⟨wv, hwv⟩ : ∃ wv, w2.alloc (.cells #[.int .i64 (O i 0), .int .i64 (O i 1), .int .i64 (O i 2), .int .i64 (O i 3), .int .i64 (O i 4), .int .i64 (O i 5), .int .i64 (O i 6), .int .i64 (O i 7), .int .i64 (O i 8), .int .i64 (O i 9), .int .i64 (O i 10), .int .i64 (O i 11), .slice wa lw cw, .slice ba lb cb, .int .i64 (O i 14), .int .i64 (O i 15), .int .i64 (O i 16), .int .i64 (O i 17), .int .i64 (O i 18), .int .i64 (O i 19), .int .i64 (O i 20), .int .i64 (O i 21), .int .i64 x0, .int .i64 y0, .int .i64 z0, .int .i64 H, .int .i64 V, .int .i64 C] 36) = wv := ⟨_, rfl⟩
  rw [hwv] at s2 T2 ⊢
  clear hwv
  have hbv : Hid (Below W.heap.size W wv) := s2.below
  have h5 : St wv wv [] := St.start wv
  have hR6 := s2.h1
  obtain ⟨c1, g1, c2, g2, -⟩ := s2.rulesN
  have S2 : Hid (St W wv _) := s2
  have hne := Nonempty.intro (Wd.mk _ h5)
  clear s2
  refine region_held h5 (by kernel_rfl) (by kernel_rfl) ?_
  repeat (first
    | (go_big_quiet_want; refine quiet_ld 36 (.tmp 6) rfl _ rfl 36 _ _ (hp_old hR6) Try.underlying36 rfl (by kernel_rfl) rfl ?_; go_simp; go_big_quiet_on)
    | (go_big_quiet_step ((go_at_call 13; exact held_of (hRp.out _)))))
  refine wpQuiet_nil ?_
  intro _ hw'
  obtain ⟨nq, rfl⟩ := hw'
  clear c1 g1 c2 g2 hne h5
  have b3 := nq.h.below
  obtain ⟨w3, hw3⟩ : ∃ w3, nq.w = w3 := ⟨_, rfl⟩
  rw [hw3] at b3 ⊢
  have s3 := S2.out.call b3
  have T3 : Hid (TV w3 _ TL) := T2.out.below b3
  clear hw3 b3 S2 T2 hR6
  go_wp2_with fail
  refine (fixed10_any _).mono ?_
  rintro e w4 ⟨rfl, hb⟩
  have s4 := s3.call hb
  have T4 : Hid (TV w4 _ TL) := T3.out.below hb
  obtain ⟨-, -, -, c2, f2, z2, -⟩ := s4.rules
  have hR4 := s4.h1
  clear hb s3 T3
  go_wp2_with (refine wpList_load_row rfl 36 (.tmp 6) rfl _ rfl 36 _ (0, 0) _ hR4 Try.underlying36 rfl (by kernel_rfl) ?_)
  refine (hRt.out _ s4.below).mono ?_
  rintro e w5 ⟨⟨v5, rfl, hO5⟩, hb⟩
  obtain ⟨va5, vc5, rfl⟩ := hO5.slice
  have T5 : Hid (TV w5 (.slice va TL.length vc) TL) := T4.out.below hb
  have U5 : Hid (TV w5 (.slice va5 TL.length vc5) TL) := hO5.tv
  have s5 := s4.call hb
  clear hb s4 T4 c2 f2 z2 hR4 hO5
  go_wp2_with fail
  refine (sameT_any _ _ _ _ _ T5.out U5.out).mono ?_
  rintro e w6 ⟨rfl, n6, hw6⟩
  rw [show decide (TL = TL) = true from decide_eq_true rfl]
  have s6 := s5.call (w1 := w6) (by rw [hw6]; exact dbel _ _)
  have hR7 := s6.h1
  obtain ⟨-, -, -, c2, f2, z2, -⟩ := s6.rules
  clear hw6 s5 T5 U5
  go_wp2_with (refine wpList_load_row_g (by rfl) 36 (.tmp 6) rfl _ rfl 36 _ (0, 0) _ hR7 Try.underlying36 rfl (by kernel_rfl) ?_)
  refine (hRb.out _ s6.below).mono ?_
  rintro e w7 ⟨rfl, hb⟩
  have s7 := s6.call hb
  clear hb s6 hR7 c2 f2 z2
  go_wp2
  go_ret
  exact ⟨rfl, s7.below⟩
theorem termsOf_walk (h w c lo hi : Int) (oa : Option Addr) (on oc : Nat) (ot op ch at' : Int) (W : World) (_ : (Lit.int .i64 h).wf = true) (_ : (Lit.int .i64 w).wf = true) (_ : (Lit.int .i64 c).wf = true) (_ : (Lit.int .i64 lo).wf = true) (_ : (Lit.int .i64 hi).wf = true)
    (wo : ORow 22 (OpIn W) W oa on oc) (hr : on * 208 ≤ 140737488351232) (_ : (Lit.int .i64 ot).wf = true) (_ : (Lit.int .i64 op).wf = true) (_ : (Lit.int .i64 ch).wf = true) (_ : (Lit.int .i64 at').wf = true) :
    Calls Try.prog 4 #[.agg #[.int .i64 h, .int .i64 w, .int .i64 c, .int .i64 lo, .int .i64 hi, .slice oa on oc, .int .i64 ot, .int .i64 op, .int .i64 ch, .int .i64 at']] W fun e w' => e = .returned (.bool true) ∧ Below W.heap.size W w' := by
  obtain ⟨O, Z, B, hL⟩ := lrow_of wo
  have hon : on ≤ 1000000000000 := by omega
  obtain ⟨E, hf⟩ : ∃ E, fiE O h w c lo hi ot on op = E := ⟨_, rfl⟩
  by_cases hE : E = 0
  · subst hE
    obtain ⟨RL, Rw, hR, i, x, wa, lw, cw, ba, lb, cb, x0, y0, z0, H, V, C, rfl, hF⟩ := found h w c lo hi ot oa on oc O Z B W hL op hf
    by_cases hch : 1 ≤ ch ∧ ch ≤ C
    · by_cases hp : 0 ≤ at' ∧ at' < H * V
      · exact termsOf_ok h w c lo hi oa on oc ot ch at' O Z B W hL hon RL Rw hR i x wa lw cw ba lb cb x0 y0 z0 H V C hF hch hp
      · exact termsOf_p h w c lo hi oa on oc ot ch at' O Z B W hL hon RL Rw hR i x wa lw cw ba lb cb x0 y0 z0 H V C hF hch hp
    · refine termsOf_e h w c lo hi oa on oc ot ((i : Int) + 1) ch at' O Z B W hL hon 3 (by omega) (fun W' hb => of_place h w c lo hi ot oa on oc O Z B W' (hL.below hb) ch at' RL Rw hR i x wa lw cw ba lb cb x0 y0 z0 H V C (hF.below hb) (fun q => hch q.1)) (fun W' hb => ?_)
      by_cases h0 : 0 ≤ ch ∧ ch ≤ C
      · obtain rfl : ch = 0 := by omega
        exact fch_0 (O := O) (i := i) (x := x) (wa := wa) (lw := lw) (cw := cw) (ba := ba) (lb := lb) (cb := cb) (x0 := x0) (y0 := y0) (z0 := z0) (H := H) (V := V) (C := C) h w c lo hi ot oa on oc W' ((i : Int) + 1) (fun W'' hb' => rfind_ok h w c lo hi ot oa on oc O Z B W'' (hL.below (hb.trans (hb'.mono hb.size))) hon 0 RL Rw hR i x wa lw cw ba lb cb x0 y0 z0 H V C (hF.below (hb.trans (hb'.mono hb.size))) h0)
      · exact fch_z (x9 := 0) h w c lo hi ot oa on oc W' ((i : Int) + 1) ch 3 (by omega) (fun W'' hb' => rfind_no h w c lo hi ot oa on oc O Z B W'' (hL.below (hb.trans (hb'.mono hb.size))) hon ch RL Rw hR i x wa lw cw ba lb cb x0 y0 z0 H V C (hF.below (hb.trans (hb'.mono hb.size))) h0)
  · exact termsOf_e h w c lo hi oa on oc ot op ch at' O Z B W hL hon E hE (fun W' hb => of_bad h w c lo hi ot oa on oc O Z B W' (hL.below hb) op ch at' E hf hE) (fun W' hb => fch_z (x9 := 0) h w c lo hi ot oa on oc W' op ch E (by omega) (fun W'' hb' => rfind_bad h w c lo hi ot oa on oc O Z B W'' (hL.below (hb.trans (hb'.mono hb.size))) hon op ch E hf hE))
end Go.Proofs.Ytnjdnbbemjdabaa

/- The walk of TermsMemory. -/
namespace Go.Proofs.Ytnjdnbbemjdabaa
open Go.ChangeShapes Go.WideShapes Go.ChangeAt Go.RowKit
set_option linter.unusedVariables false
/-- What lay in w0 lies, but for one block. -/
theorem gb_trans {w0 w w' : World} {g : Nat} {row : Option Nat} (h : w0.grownBy w (some g)) (k : w.grownBy w' row) (hr : ∀ b, row = some b → b = g ∨ w0.heap.size ≤ b) : w0.grownBy w' (some g) := by
  refine ⟨k.os.trans h.os, k.tape.trans h.tape, k.output.trans h.output, Nat.le_trans h.size k.size, fun i hi hne => ?_⟩
  rw [k.block i (Nat.lt_of_lt_of_le hi h.size) (fun e => ?_)]
  · exact h.block i hi hne
  · rcases hr i e.symm with q | q
    · exact hne (by rw [q])
    · omega
theorem grown_setX (w : World) (N i : Nat) (v : Value) : w.grownBy (w.setCell ⟨N, i, none⟩ v) (some N) := ⟨rfl, rfl, rfl, by simp, fun k _ hk => Below.heap_setCell w ⟨N, i, none⟩ v k (fun e => hk (by rw [e]))⟩
theorem gb_refl (w : World) (g : Nat) : w.grownBy w (some g) := ⟨rfl, rfl, rfl, Nat.le_refl _, fun _ _ _ => rfl⟩
theorem gb_below {w0 w w' : World} {g : Nat} (h : w0.grownBy w (some g)) (k : Below w.heap.size w w') : w0.grownBy w' (some g) := gb_trans h (row := none) ⟨k.os, k.tape, k.output, k.size, fun i hi _ => k.block i hi⟩ (fun b e => by cases e)
theorem Cu2.set {cur : Array Value} {cap : Nat} {L : List (Int × Int)} (h : Cu2 cur cap L) {y : Nat} (hy : y < L.length) (a b : Int) : Cu2 ((cur.setIfInBounds (y * 2) (.int .i64 a)).setIfInBounds (y * 2 + 1) (.int .i64 b)) cap (L.set y (a, b)) := by
  obtain ⟨h1, h2, h3⟩ := h
  have hp : ∀ (L : List (Int × Int)) (y : Nat), y < L.length → p2 (L.set y (a, b)) = ((p2 L).set (y * 2) (.int .i64 a)).set (y * 2 + 1) (.int .i64 b) := by
    intro L
    induction L with
    | nil => intro y hy; simp at hy
    | cons s l ih =>
      intro y hy
      cases y with
      | zero => rfl
      | succ y =>
        have := ih y (by simpa using hy)
        rw [show (y + 1) * 2 = y * 2 + 1 + 1 by omega]
        simp only [List.set_cons_succ, p2, this]
  refine ⟨by simp [h1], by simpa using h2, ?_⟩
  rw [hp L y hy, ← h3]
  simp only [Array.toList_setIfInBounds, List.length_set]
  rw [List.take_set, List.take_set]
/-- 'append' of terms to what the call owns, and where the answer lies. -/
theorem wpList_apTa {w : World} {ops : Array Oper} {rest : List Oper} {o : Oper} {a : Act} {Q : Exit → Act → World → Prop} (hgd : o.guard = none) (s x : Operand)
    (ho : o.op = .call { callee := .builtin .append, args := #[s, x], argTypes := #[47, 47] })
    (base : Nat) (v : Value) (L M : List (Int × Int)) (hs : a.eval s = v) (hown : OTm w base v L) (g m c : Nat) (hx : a.eval x = .slice (some ⟨g, 0, none⟩) m c) (hm : M.length = m) (hy : ∀ j u, (p2 M)[j]? = some u → w.cell? ⟨g, j, none⟩ = some u)
    (hlen : L.length + M.length ≤ 1000000) (hbase : base ≤ w.heap.size)
    (h : ∀ v' w', OTm w' base v' (L ++ M) → w.grownBy w' v.ownBlock → (v'.ownBlock = v.ownBlock ∨ v'.ownBlock = some w.heap.size) → wpList Try.prog ops Q rest (a.put o.dst v') w') : wpList Try.prog ops Q (o :: rest) a w := by
  obtain ⟨i0, hi, hz0, hz1, hz2⟩ := info_parts Try.infoT
  refine wpList_plain hgd fun K hK' => ?_
  obtain ⟨v', w', hrun, r1, r2, -, r4⟩ := run_append_own_at (P := Try.prog) w base 47 o.type 56 i0 (.agg #[.int .i64 0, .int .i64 0]) 2 16 Try.underlying47 hi hz0 hz1 hz2 rfl (by decide) v L.length _ hown ⟨g, 0, none⟩ m c (p2 M) (by rw [p2_len, hm]) (fun j u hj => by rw [Addr.add_lit, Nat.zero_add]; exact hy j u hj) (p2_one M) (by unfold maxLen; omega) (by omega) hbase
  unfold Oper.wp
  simp [execOp, ho, resolve, invoke, builtin, hs, hx, hrun, Result.andThen]
  exact hK' _ _ (h v' w' (by unfold OTm; rw [List.length_append, hm, p2_app]; exact r1) r2 r4)
theorem otm_lit0 (w : World) (base : Nat) (hb : base ≤ w.heap.size) : OTm (w.alloc (.cells #[] 56)) base (.slice (some ⟨w.heap.size, 0, none⟩) 0 0) [] :=
  OTm.of (heap_alloc_new w _) hb ⟨rfl, Nat.le_refl _, rfl⟩ (by unfold maxLen; omega)
set_option maxHeartbeats 8000000 in
set_option maxRecDepth 100000 in
theorem termsMemory_e (h w c lo hi : Int) (oa : Option Addr) (on oc : Nat) (ot op ch at' : Int) (W : World) (E : Int) (hE : E ≠ 0)
    (hO : ∀ W', Below W.heap.size W W' → Calls Try.prog 14 #[.agg #[.int .i64 h, .int .i64 w, .int .i64 c, .int .i64 lo, .int .i64 hi, .slice oa on oc, .int .i64 ot], .int .i64 op, .int .i64 ch, .int .i64 at'] W' fun e w' => e = .returned (.tuple #[.slice none 0 0, .int .i64 0, .int .i64 E]) ∧ Below W'.heap.size W' w') :
    Calls Try.prog 6 #[.agg #[.int .i64 h, .int .i64 w, .int .i64 c, .int .i64 lo, .int .i64 hi, .slice oa on oc, .int .i64 ot, .int .i64 op, .int .i64 ch, .int .i64 at']] W fun e w' => e = .returned (.bool true) ∧ Below W.heap.size W w' := by
  have HO : Hid (∀ W', _) := hO
  have hE' : (E == 0) = false := by simp [hE]
  have s0 := (St.start W).new (c := #[.int .i64 h, .int .i64 w, .int .i64 c, .int .i64 lo, .int .i64 hi, .slice oa on oc, .int .i64 ot, .int .i64 op, .int .i64 ch, .int .i64 at']) (t := 46)
  clear hO hE
  go_enter Try.func6, Try.ntmps6
  go_wp2_with fail
  refine (fixed10_any _).mono ?_
  rintro e w1 ⟨rfl, hb⟩
  have s1 := s0.call hb
  obtain ⟨c1, f1, z1, -⟩ := s1.rules
  clear hb s0
  go_wp2_with fail
  refine (HO.out _ s1.below).mono ?_
  rintro e w2 ⟨rfl, hb⟩
  have s2 := s1.call hb
  clear hb s1 c1 f1 z1
  obtain ⟨c1, f1, z1, -⟩ := s2.rules
  go_wp2_with fail
  refine (HO.out _ s2.below).mono ?_
  rintro e w3 ⟨rfl, hb⟩
  have s3 := s2.call hb
  clear hb s2 c1 f1 z1
  go_wp2
  go_ret
  exact ⟨rfl, s3.below⟩
theorem otm_grow {w w' w0 : World} {base : Nat} {v : Value} {L : List (Int × Int)} (h : OTm w base v L) (hb : Below base w0 w) (k : w.grownBy w' v.ownBlock) (hB : base ≤ w.heap.size) : Below base w0 w' := hb.grown k hB fun b e => h.lt b e
theorem siL_len (k kh kw sh sw tp lf bt rt h w c ch at' : Int) (z : List Int) : (siL k kh kw sh sw tp lf bt rt h w c ch at' z).length = (stR k kh kw h w c).toNat := by unfold siL; rw [tmL_len]
theorem below_gb {B : Nat} {W w w' : World} {g : Nat} (h : Below B W w) (k : w.grownBy w' (some g)) (hg : B ≤ g) (hB : B ≤ w.heap.size) : Below B W w' := h.grown k hB fun b e => by cases e; exact hg
theorem OTm.gb {w w' : World} {base : Nat} {v : Value} {L : List (Int × Int)} {g : Nat} (h : OTm w base v L) (k : w.grownBy w' (some g)) (hn : g < base) : OTm w' base v L := by
  refine World.ownsRow.kept h k ?_
  cases e : v.ownBlock with
  | none => exact .inl rfl
  | some b => exact .inr fun q => by have := h.lt b e; cases q; omega
set_option maxHeartbeats 8000000 in
set_option maxRecDepth 100000 in
theorem termsMemory_ok (h w c lo hi : Int) (oa : Option Addr) (on oc : Nat) (ot ch at' : Int) (O : Nat → Nat → Int) (Z B : Nat → List Int) (W : World) (hL : LRow W oa on oc O Z B) (RL : List (Int × Int × Int)) (Rw : Int) (hR : gtR O h w c lo hi ot on = (0, 0, RL, Rw)) (i : Nat) (x : Addr) (wa : Option Addr) (lw cw : Nat) (ba : Option Addr) (lb cb : Nat) (x0 y0 z0 H V C : Int) (hF : Fnd W oa on O Z B RL i x wa lw cw ba lb cb x0 y0 z0 H V C) (hch : 1 ≤ ch ∧ ch ≤ C) (hp : 0 ≤ at' ∧ at' < H * V) :
    Calls Try.prog 6 #[.agg #[.int .i64 h, .int .i64 w, .int .i64 c, .int .i64 lo, .int .i64 hi, .slice oa on oc, .int .i64 ot, .int .i64 ((i : Int) + 1), .int .i64 ch, .int .i64 at']] W fun e w' => e = .returned (.bool true) ∧ Below W.heap.size W w' := by
  have hSit := hF.2.2.2.2.2.2.2.2.2.1
  have HO : Hid (∀ W', Below W.heap.size W W' → _) := fun W' hb => of_ok h w c lo hi ot oa on oc O Z B W' (hL.below hb) ch at' RL Rw hR i x wa lw cw ba lb cb x0 y0 z0 H V C (hF.below hb) hch hp
  obtain ⟨TL, hTL⟩ : ∃ TL, siL (O i 0) (O i 4) (O i 5) (O i 6) (O i 7) (O i 8) (O i 9) (O i 10) (O i 11) x0 y0 z0 ch at' (Z i) = TL := ⟨_, rfl⟩
  obtain ⟨bi, hbi⟩ : ∃ bi, biA (O i 0) ch (B i) = bi := ⟨_, rfl⟩
  obtain ⟨n, hn⟩ : ∃ n, TL.length = n := ⟨_, rfl⟩
  have hn1 : 1 ≤ n ∧ n ≤ 512 := by
    rw [← hn, ← hTL, siL_len]
    have := hSit.2.2.2.2.2.2.2.2
    omega
  have HN : Hid (TL.length = n) := hn
  rw [hTL, hbi] at HO
  have s0 := (St.start W).new (c := #[.int .i64 h, .int .i64 w, .int .i64 c, .int .i64 lo, .int .i64 hi, .slice oa on oc, .int .i64 ot, .int .i64 ((i : Int) + 1), .int .i64 ch, .int .i64 at']) (t := 46)
  clear hF hR hL hSit hTL hbi hn
  go_enter Try.func6, Try.ntmps6
  go_wp2_with fail
  refine (fixed10_any _).mono ?_
  rintro e w1 ⟨rfl, hb⟩
  have s1 := s0.call hb
  obtain ⟨c1, f1, z1, -⟩ := s1.rules
  clear hb s0
  go_wp2_with fail
  refine (HO.out _ s1.below).mono ?_
  rintro e w2 ⟨⟨va, rfl, hOa⟩, hb⟩
  obtain ⟨ga, ca, cura, rfl, hga, hGa, hCa, hcam⟩ := hOa.cu (by rw [HN.out]; omega)
  rw [HN.out]
  have hgaz := lt_of_heap hGa
  have hcap := hCa.2.1
  rw [HN.out] at hcap
  have HGa : Hid (w2.heap[ga]? = some (.cells cura 56 (0, 0))) := hGa
  have HCa : Hid (Cu2 cura ca TL) := hCa
  have s2 := s1.call hb
  clear hb s1 c1 f1 hOa hGa hCa
  obtain ⟨c1, f1, -, -⟩ := s2.rules
  go_wp2_with fail
  refine (HO.out _ s2.below).mono ?_
  rintro e w3 ⟨⟨vb, rfl, hOb⟩, hb⟩
  obtain ⟨vba, vbc, hve⟩ := hOb.slice
  rw [HN.out] at hve
  subst hve
  have HOb : Hid (OTm w3 w2.heap.size _ TL) := hOb
  have s3 := s2.call hb
  have hz3 := hb.size
  have HG3 : Hid (w3.heap[ga]? = some (.cells cura 56 (0, 0))) := (hb.block ga hgaz).trans HGa.out
  clear hb s2 c1 f1 hOb HGa
  unfold maxLen at hcam
  have hM : Hid (∀ j u, (p2 TL)[j]? = some u → (w3.alloc (.cells #[] 56)).cell? ⟨ga, j, none⟩ = some u) := fun j u hj => by
    rw [(cells_at ((heap_alloc_old w3 (.cells #[] 56) (lt_of_heap HG3.out)).trans HG3.out)).1]
    exact HCa.out.get hj
  have hO0 : Hid (OTm (w3.alloc (.cells #[] 56)) w3.heap.size (.slice (some ⟨w3.heap.size, 0, none⟩) 0 0) []) := otm_lit0 w3 w3.heap.size (Nat.le_refl _)
  go_wp2_with (at_builtin; refine wpList_apT rfl (.tmp 53) (.tmp 54) rfl w3.heap.size _ [] TL rfl hO0.out ga n ca rfl HN.out hM.out (by rw [HN.out]; simp; omega) (by simp) ?_; intro vk w4 ownk grk; rw [List.nil_append] at ownk; have b4 : Below w3.heap.size w3 w4 := otm_grow hO0.out (bal w3 _) grk (by simp); obtain ⟨vka, vkc, hvk⟩ := ownk.slice; rw [HN.out] at hvk; subst hvk)
  have HOk : Hid (OTm w4 w3.heap.size _ TL) := ownk
  have HOb4 : Hid (OTm w4 w2.heap.size _ TL) := HOb.out.below b4
  have HG4 : Hid (w4.heap[ga]? = some (.cells cura 56 (0, 0))) := (b4.block ga (lt_of_heap HG3.out)).trans HG3.out
  have s4 := s3.call b4
  have hz4 := b4.size
  clear b4 ownk grk s3 HOb HG3 hM hO0
  refine (sameT_any _ _ _ _ _ HOb4.out.tv HOk.out.tv).mono ?_
  rintro e w5 ⟨rfl, n5, hw5⟩
  rw [show decide (TL = TL) = true from decide_eq_true rfl]
  have b5 : Below w4.heap.size w4 w5 := by rw [hw5]; exact dbel _ _
  have Ok5 : Hid (OTm w5 w3.heap.size (.slice vka n vkc) TL) := HOk.out.below b5
  have Ob5 : Hid (OTm w5 w2.heap.size (.slice vba n vbc) TL) := HOb4.out.below b5
  have HG5 : Hid (w5.heap[ga]? = some (.cells cura 56 (0, 0))) := (b5.block ga (lt_of_heap HG4.out)).trans HG4.out
  have S5 : Hid (St W w5 _) := s4.call b5
  have hz5 := b5.size
  clear hw5 b5 s4 HOk HOb4 HG4
  go_wp2
  go_loopw [62] (fun q wr => ∃ (y : Nat) (cur : Array Value) (L' : List (Int × Int)), y ≤ n ∧ q = .int .i64 y ∧ L'.length = n ∧ wr.heap[ga]? = some (.cells cur 56 (0, 0)) ∧ Cu2 cur ca L' ∧ w5.grownBy wr (some ga)) (fun q _ => n - (intOf q).toNat)
  case atStart => exact ⟨0, cura, TL, Nat.zero_le _, rfl, HN.out, HG5.out, HCa.out, gb_refl _ _⟩
  case round =>
    obtain ⟨y, cur, L', hy, rfl, hL', hG, hC, hg⟩ := hrel
    have HL' : Hid (L'.length = n) := hL'
    have HC : Hid (Cu2 cur ca L') := hC
    have hsz := hC.1
    have Hg : Hid (w5.grownBy wr (some ga)) := hg
    clear hL' hC hg HG5 HCa
    by_cases hlt : y < n
    · obtain ⟨u1, hu1⟩ : ∃ v, wr.cell? ⟨ga, y * 2, none⟩ = some v := ⟨cur[y * 2]'(by omega), by rw [(cells_at hG).1]; exact Array.getElem?_eq_getElem _⟩
      obtain ⟨u2, hu2⟩ : ∃ v, wr.cell? ⟨ga, y * 2 + 1, none⟩ = some v := ⟨cur[y * 2 + 1]'(by omega), by rw [(cells_at hG).1]; exact Array.getElem?_eq_getElem _⟩
      have hf3 := (cells_at hG).2.1
      have HG : Hid (wr.heap[ga]? = some (.cells cur 56 (0, 0))) := hG
      clear hG
      go_wp2
      go_roundw
      case rel => exact ⟨y + 1, _, _, by omega, by go_num, by rw [List.length_set]; exact HL'.out, heap_setCell_at (heap_setCell_at HG.out), HC.out.set (by rw [HL'.out]; exact hlt) 9 9, gb_trans (gb_trans Hg.out (grown_setX _ ga _ _) (fun b e => by cases e; exact .inl rfl)) (grown_setX _ ga _ _) (fun b e => by cases e; exact .inl rfl)⟩
      case measure => simp [intOf]; omega
    · obtain ⟨w6, rfl⟩ : ∃ w6, w6 = wr := ⟨_, rfl⟩
      have O6 : Hid (OTm w6 w1.heap.size (.slice (some ⟨ga, 0, none⟩) n ca) L') := by
        have := OTm.of (base := w1.heap.size) hG hga HC.out (by unfold maxLen; omega)
        rw [HL'.out] at this
        exact this
      clear hG
      go_wp2
      go_loopw [3, 11] (fun v q wr => ∃ (z : Nat), z ≤ 40 ∧ q = .int .i64 z ∧ OTm wr w1.heap.size v (L' ++ List.replicate z (8, 0)) ∧ (∀ b, v.ownBlock = some b → b = ga ∨ w5.heap.size ≤ b) ∧ w5.grownBy wr (some ga)) (fun _ q _ => 40 - (intOf q).toNat)
      case atStart => exact ⟨0, Nat.zero_le _, rfl, by simpa using O6.out, fun b e => .inl (by simpa [Value.ownBlock] using e.symm), Hg.out⟩
      case round =>
        obtain ⟨z, hz, rfl, hO, hv, hg2⟩ := hrel
        obtain ⟨va2, vc2, hve⟩ := hO.slice
        rw [List.length_append, HL'.out, List.length_replicate] at hve
        subst hve
        have HO2 : Hid (OTm wr w1.heap.size (.slice va2 (n + z) vc2) (L' ++ List.replicate z (8, 0))) := hO
        have Hv : Hid (∀ b, _ → _) := hv
        have Hg2 : Hid (w5.grownBy wr (some ga)) := hg2
        have hgz := hg2.size
        clear hO hv hg2 O6
        by_cases hlt2 : z < 40
        · have HO3 : Hid (OTm (wr.alloc (.cells #[.int .i64 8, .int .i64 0] 56)) w1.heap.size (.slice va2 (n + z) vc2) (L' ++ List.replicate z (8, 0))) := HO2.out.below (bal wr _)
          have HLn : Hid ((L' ++ List.replicate z ((8 : Int), (0 : Int))).length + 1 ≤ 1000000) := by unfold Hid; rw [List.length_append, HL'.out, List.length_replicate]; omega
          have hzw : w1.heap.size ≤ wr.heap.size := by omega
          go_wp2_with (at_builtin; refine wpList_apTa rfl (.tmp 74) (.tmp 76) rfl w1.heap.size (.slice va2 (n + z) vc2) _ [(8, 0)] rfl HO3.out wr.heap.size 1 1 rfl rfl (term_one wr _ _) HLn.out (by simp; omega) ?_; intro v7 w7 own7 gr7 hat7; have g7 : Hid (w5.grownBy w7 (some ga)) := gb_trans (gb_below Hg2.out (bal wr _)) gr7 Hv.out; have hv7 : Hid (∀ b, v7.ownBlock = some b → b = ga ∨ w5.heap.size ≤ b) := (fun b e => (by rcases hat7 with q | q; exact Hv.out b (q.symm.trans e); (have e2 := q.symm.trans e); simp at e2; omega)))
          go_roundw
          case rel => exact ⟨z + 1, by omega, by go_num, by rw [List.replicate_succ', ← List.append_assoc]; exact own7, hv7.out, g7.out⟩
          case measure => simp [intOf]; omega
        · obtain rfl : z = 40 := by omega
          obtain ⟨w7, rfl⟩ : ∃ w7, w7 = wr := ⟨_, rfl⟩
          have b7 : Hid (Below W.heap.size W w7) := below_gb S5.out.below Hg2.out (by omega) S5.out.below.size
          have hA7 : w7.heap[W.heap.size]? = some (.cells #[.int .i64 h, .int .i64 w, .int .i64 c, .int .i64 lo, .int .i64 hi, .slice oa on oc, .int .i64 ot, .int .i64 ((i : Int) + 1), .int .i64 ch, .int .i64 at'] 46 (0, 0)) := (Hg2.out.block _ (lt_of_heap S5.out.h1) (fun e => by cases e; omega)).trans S5.out.h1
          have Ok7 : Hid (OTm w7 w3.heap.size (.slice vka n vkc) TL) := Ok5.out.gb Hg2.out (by omega)
          have Ob7 : Hid (OTm w7 w2.heap.size (.slice vba n vbc) TL) := Ob5.out.gb Hg2.out (by omega)
          obtain ⟨g8, c8, cur8, hv8, -, hG8, hC8, hc8⟩ := HO2.out.cu (by rw [List.length_append, HL'.out]; omega)
          rw [List.length_append, HL'.out, List.length_replicate] at hv8
          simp only [Value.slice.injEq, true_and] at hv8
          obtain ⟨rfl, rfl⟩ := hv8
          have hcell : Hid (cur8[n * 2]? = some (.int .i64 8)) := by
            refine hC8.get ?_
            rw [(p2_at _ n (by rw [List.length_append, HL'.out, List.length_replicate]; omega)).1]
            rw [List.getD_eq_getElem?_getD, List.getElem?_append_right (by rw [HL'.out]; omega), HL'.out, Nat.sub_self]
            rfl
          have HG8 : Hid (w7.heap[g8]? = some (.cells cur8 56 (0, 0))) := hG8
          have hcl8 := hC8.2.1
          rw [List.length_append, HL'.out, List.length_replicate] at hcl8
          unfold maxLen at hc8
          obtain ⟨c1, f1, z1⟩ := cells_at hA7
          clear hA7 hG8 hC8 HO2 Hv HC
          go_wp2_with fail
          refine (HO.out _ b7.out).mono ?_
          rintro e w8 ⟨⟨vc, rfl, hOc⟩, hb⟩
          obtain ⟨vca, vcc, hve⟩ := hOc.slice
          rw [HN.out] at hve
          subst hve
          have Tc8 : Hid (TV w8 (.slice vca n vcc) TL) := hOc.tv
          have Tk8 : Hid (TV w8 (.slice vka n vkc) TL) := Ok7.out.tv.below hb
          have Tb8 : Hid (TV w8 (.slice vba n vbc) TL) := Ob7.out.tv.below hb
          have hG9 : Hid (w8.heap[g8]? = some (.cells cur8 56 (0, 0))) := (hb.block _ (lt_of_heap HG8.out)).trans HG8.out
          have b8 : Hid (Below W.heap.size W w8) := bt b7.out hb
          clear hb hOc c1 f1 z1 HG8 b7 Ok7 Ob7
          go_wp2_with fail
          refine (sameT_any _ _ _ _ _ Tb8.out Tk8.out).mono ?_
          rintro e w9 ⟨rfl, n9, hw9⟩
          rw [show decide (TL = TL) = true from decide_eq_true rfl]
          have b9 : Below w8.heap.size w8 w9 := by rw [hw9]; exact dbel _ _
          have Tc9 : Hid (TV w9 (.slice vca n vcc) TL) := Tc8.out.below b9
          have Tk9 : Hid (TV w9 (.slice vka n vkc) TL) := Tk8.out.below b9
          have hG10 : Hid (w9.heap[g8]? = some (.cells cur8 56 (0, 0))) := (b9.block _ (lt_of_heap hG9.out)).trans hG9.out
          have B9 : Hid (Below W.heap.size W w9) := bt b8.out b9
          clear hw9 b9 Tc8 Tk8 Tb8 hG9 b8
          go_wp2_with fail
          refine (sameT_any _ _ _ _ _ Tc9.out Tk9.out).mono ?_
          rintro e w10 ⟨rfl, n10, hw10⟩
          rw [show decide (TL = TL) = true from decide_eq_true rfl]
          have hcf : w10.cell? ⟨g8, n * 2, none⟩ = some (.int .i64 8) := by rw [hw10]; exact ((cells_at hG10.out).1 _).trans hcell.out
          have B10 : Hid (Below W.heap.size W w10) := by rw [hw10]; exact bt B9.out (dbel _ _)
          clear hw10 Tc9 Tk9 hG10 B9
          go_wp2
          go_ret
          exact ⟨rfl, B10.out⟩
theorem termsMemory_walk (h w c lo hi : Int) (oa : Option Addr) (on oc : Nat) (ot op ch at' : Int) (W : World) (_ : (Lit.int .i64 h).wf = true) (_ : (Lit.int .i64 w).wf = true) (_ : (Lit.int .i64 c).wf = true) (_ : (Lit.int .i64 lo).wf = true) (_ : (Lit.int .i64 hi).wf = true)
    (wo : ORow 22 (OpIn W) W oa on oc) (hr : on * 208 ≤ 140737488351232) (_ : (Lit.int .i64 ot).wf = true) (_ : (Lit.int .i64 op).wf = true) (_ : (Lit.int .i64 ch).wf = true) (_ : (Lit.int .i64 at').wf = true) :
    Calls Try.prog 6 #[.agg #[.int .i64 h, .int .i64 w, .int .i64 c, .int .i64 lo, .int .i64 hi, .slice oa on oc, .int .i64 ot, .int .i64 op, .int .i64 ch, .int .i64 at']] W fun e w' => e = .returned (.bool true) ∧ Below W.heap.size W w' := by
  obtain ⟨O, Z, B, hL⟩ := lrow_of wo
  obtain ⟨E, hf⟩ : ∃ E, fiE O h w c lo hi ot on op = E := ⟨_, rfl⟩
  by_cases hE : E = 0
  · subst hE
    obtain ⟨RL, Rw, hR, i, x, wa, lw, cw, ba, lb, cb, x0, y0, z0, H, V, C, rfl, hF⟩ := found h w c lo hi ot oa on oc O Z B W hL op hf
    by_cases hq : (1 ≤ ch ∧ ch ≤ C) ∧ (0 ≤ at' ∧ at' < H * V)
    · exact termsMemory_ok h w c lo hi oa on oc ot ch at' O Z B W hL RL Rw hR i x wa lw cw ba lb cb x0 y0 z0 H V C hF hq.1 hq.2
    · exact termsMemory_e h w c lo hi oa on oc ot ((i : Int) + 1) ch at' W 3 (by omega) (fun W' hb => of_place h w c lo hi ot oa on oc O Z B W' (hL.below hb) ch at' RL Rw hR i x wa lw cw ba lb cb x0 y0 z0 H V C (hF.below hb) hq)
  · exact termsMemory_e h w c lo hi oa on oc ot op ch at' W E hE (fun W' hb => of_bad h w c lo hi ot oa on oc O Z B W' (hL.below hb) op ch at' E hf hE)
end Go.Proofs.Ytnjdnbbemjdabaa

/- What Padded of package window returns, for every argument. -/
namespace Go.Proofs.Ytnjdnbbemjdabaa.Nx
open Go.ChangeShapes Go.WideShapes Go.ChangeAt Go.RowKit Go.Shelf
attribute [local go_sem] Oper.semAt_some
/-- How many are padding. -/
def padN (l : List (Int × Int)) : Nat := (l.filter fun p => decide (p.2 = -1)).length
theorem padN_hit (l : List (Int × Int)) {x : Int × Int} (h : x.2 = -1) : padN (l ++ [x]) = padN l + 1 := by simp [padN, h]
theorem padN_miss (l : List (Int × Int)) {x : Int × Int} (h : ¬ x.2 = -1) : padN (l ++ [x]) = padN l := by simp [padN, h]
theorem padN_le (l : List (Int × Int)) : padN l ≤ l.length := List.length_filter_le _ _
set_option maxRecDepth 100000 in
set_option maxHeartbeats 4000000 in
theorem padded_any (h w c kh kw sh sw tp lf bt rt n : Int) (W : World) :
    Calls Try.prog 19 #[.agg #[.int .i64 h, .int .i64 w, .int .i64 c], .agg #[.int .i64 kh, .int .i64 kw, .int .i64 sh, .int .i64 sw, .int .i64 tp, .int .i64 lf, .int .i64 bt, .int .i64 rt], .int .i64 n] W fun e w' => e = .returned (.tuple #[.int .i64 (padN (tapsOf h w c kh kw sh sw tp lf bt rt n)), .int .i64 (coR h w c kh kw sh sw tp lf bt rt n).2.2]) ∧ Below W.heap.size W w' := by
  rcases coR_cases h w c kh kw sh sw tp lf bt rt n with ⟨e, he, h2⟩ | ⟨r, q, he, hf, hn, hc⟩
  · rw [tapsOf_no he (by omega), he]
    have HC : Hid (coR h w c kh kw sh sw tp lf bt rt n = (0, 0, e)) := he
    have z1 : (e != 0) = true := by simp; omega
    clear he
    refine (callsIn_wide (n := 3)).1 ?_
    refine callsIn_of_wp_marks Try.func19 rfl trivial ?_ rfl
    simp only [Try.ntmps19, List.size_toArray, List.length_cons, List.length_nil, Nat.reduceAdd, Nat.reduceSub, Array.replicate_succ, Array.replicate_zero, List.push_toArray, List.append_toArray, List.nil_append, List.cons_append]
    refine wpIn_wide.2 ?_
    go_wp2_with fail
    refine (corner_any _ _ _ _ _ _ _ _ _ _ _ _ _).mono ?_
    rintro e w1 ⟨rfl, hb'⟩
    have s1 := (St.start W).new.new.call hb'
    clear hb'
    try simp only [World.size_setCell] at s1
    try simp only [World.size_alloc] at s1
    obtain ⟨c1, f1, zw1_1, c2, f2, zw1_2, -⟩ := s1.rules
    rw [HC.out]
    go_wp2
    exact ⟨.tuple #[.int .i64 0, .int .i64 e], by simp [results, Try.f19, go_sem], rfl, s1.below⟩
  · obtain ⟨ys, hys⟩ : ∃ ys, tapsOf h w c kh kw sh sw tp lf bt rt n = ys := ⟨_, rfl⟩
    have HY : Hid (tapsOf h w c kh kw sh sw tp lf bt rt n = ys) := hys
    have hyl : ys.length ≤ 1024 := by have := tapsOf_len h w c kh kw sh sw tp lf bt rt n; rw [hys] at this; exact this
    rw [hys, hc]
    obtain ⟨t, ht⟩ : ∃ t, n / q * sh - tp = t := ⟨_, rfl⟩
    obtain ⟨u, hu⟩ : ∃ u, n % q * sw - lf = u := ⟨_, rfl⟩
    have HC : Hid (coR h w c kh kw sh sw tp lf bt rt n = (t, u, 0)) := by rw [← ht, ← hu]; exact hc
    clear hys he hf hn hc ht hu
    have hfn : ∀ f, Fence.wide.fn f := fun _ => trivial
    have hdp : Fence.wide.depth = none := rfl
    refine (callsIn_wide (n := 3)).1 ?_
    refine callsIn_of_wp_marks Try.func19 rfl trivial ?_ rfl
    simp only [Try.ntmps19, List.size_toArray, List.length_cons, List.length_nil, Nat.reduceAdd, Nat.reduceSub, Array.replicate_succ, Array.replicate_zero, List.push_toArray, List.append_toArray, List.nil_append, List.cons_append]
    refine wpIn_wide.2 ?_
    go_wp2_with fail
    refine (corner_any _ _ _ _ _ _ _ _ _ _ _ _ _).mono ?_
    rintro e w1 ⟨rfl, hb'⟩
    have s1 := (St.start W).new.new.call hb'
    clear hb'
    try simp only [World.size_setCell] at s1
    try simp only [World.size_alloc] at s1
    obtain ⟨c1, f1, zw1_1, c2, f2, zw1_2, -⟩ := s1.rules
    rw [HC.out]
    go_wp2_with fail
    refine (taps_any _ _ _ _ _ _ _ _ _ _ _ _ _).mono ?_
    rintro e w5 ⟨⟨g, lb, rfl, hit⟩, hb5⟩
    rw [HY.out] at hit
    have s5 := (s1.new (c := #[.int .i64 0]) (t := 3)).call (by simpa using hb5)
    simp only [World.size_alloc] at s5 hit hb5
    obtain ⟨a1, -⟩ := s5.heaps
    have hB5 := s5.below
    have hz1 := s1.size
    clear c1 f1 c2 f2
    go_wp2
    obtain ⟨lo, hlo⟩ : ∃ lo, w1.heap.size + 1 = lo := ⟨_, rfl⟩
    obtain ⟨hi, hhi⟩ : ∃ hi, w5.heap.size = hi := ⟨_, rfl⟩
    have hlh : lo ≤ hi := by rw [← hlo, ← hhi]; simpa using hb5.size
    rw [hlo, hhi] at hit
    obtain ⟨g', lb', hv, heg, hseq⟩ := hit
    obtain ⟨rfl, rfl⟩ : g = g' ∧ lb = lb' := by simpa using hv
    refine (wpIn_wide (n := 3)).1 ?_
    refine wpIn_rangeFunc_ownG (F := Fence.wide) rfl (by omega) (gf := g) (lb := lb) rfl trivial heg (hseq w5 _ (Mid.refl _ _ _)) (fun h k => Mid.trans h k) (fun W l o o' _ h1 h2 _ => Mid.put W l o o' h1 h2) (Below.refl _ _) (fun _ => rfl)
      (fun (pre : List (Int × Int)) W' => Boxed W' w1.heap.size 3 (.int .i64 (padN pre)) ∧ Mid lo hi w5 W' ∧ Below W.heap.size W W')
      (fun _ _ _ => False)
      (by rw [hhi]; exact OwnFrom.and (Own.from (boxed_own _ _ _) _) (OwnFrom.and ownFrom_mid (ownFrom_below (Nat.le_refl _) (by omega))))
      (fun _ _ _ _ _ hs _ _ => hs)
      ⟨a1, Mid.refl _ _ _, hB5⟩ ?a₁ ?assign ?body ?done ?stop
    case assign =>
      intro l x W' K hK
      gi_wp2
      exact hK
    case body =>
      rintro l pre x W' ⟨hv, hmid, hB⟩ hlt
      have hc := hv.cell
      have hf := hv.frozen
      have hp := padN_le pre
      by_cases hx : x.2 = -1
      · have hx' : (x.2 == -1) = true := by simp [hx]
        have HP := padN_hit pre hx
        clear hx
        gi_wp2
        exact ⟨(KeepsOthers.setCell _ _ _).from _, Mid.set _ (.inl (by omega)), by rw [HP]; exact hv.set _, hmid.trans (Mid.set _ (.inl (by omega))), hB.setCell (p := ⟨w1.heap.size, 0, none⟩) (by show W.heap.size ≤ w1.heap.size; omega) _⟩
      · have hx' : (x.2 == -1) = false := by simp [hx]
        have HP := padN_miss pre hx
        clear hx
        gi_wp2
        exact ⟨KeepsFrom.refl _ _, Mid.refl _ _ _, by rw [HP]; exact hv, hmid, hB⟩
    case done =>
      rintro D zs W' hD rfl ⟨hv, hmid, hB⟩ hK
      have hc := hv.cell
      go_wp2
      refine ⟨by simp, .inl ⟨_, _, rfl, run_takeDeferred hK, ?_⟩⟩
      exact ⟨.tuple #[.int .i64 (padN zs), .int .i64 0], by simp [results, Try.f19, go_sem], rfl, hB.trans (belowK_b (w := W) (Nat.le_refl _) W' D _ _ (by omega) hK rfl rfl)⟩
    case stop =>
      rintro D c pre W' _ _ h _
      exact h.elim
end Go.Proofs.Ytnjdnbbemjdabaa.Nx

/- The places of a sum's terms, in plain numbers: where they lie, that none comes twice, how many are padding. -/
namespace Go.Proofs.Ytnjdnbbemjdabaa
set_option linter.unusedVariables false
theorem mul_inj {c a b a' b' : Int} (h1 : 0 ≤ b ∧ b < c) (h2 : 0 ≤ b' ∧ b' < c) (h : a * c + b = a' * c + b') : a = a' ∧ b = b' := by
  have e : ∀ x y : Int, 0 ≤ y ∧ y < c → (x * c + y) / c = x := fun x y hy => by
    rw [Int.add_comm, Int.add_mul_ediv_right _ _ (by omega), Int.ediv_eq_zero_of_lt hy.1 hy.2, Int.zero_add]
  have q1 := e a b h1
  have q2 := e a' b' h2
  rw [h] at q1
  have : a = a' := by omega
  subst this
  exact ⟨rfl, by omega⟩
theorem tpc_cases {h w kw t u : Int} (q : Int) : tpc h w kw t u q = -1 ∨ ((0 ≤ t + q / kw ∧ t + q / kw < h) ∧ (0 ≤ u + q % kw ∧ u + q % kw < w) ∧ tpc h w kw t u q = (t + q / kw) * w + (u + q % kw)) := by
  unfold tpc
  by_cases g : (0 ≤ t + q / kw ∧ t + q / kw < h) ∧ (0 ≤ u + q % kw ∧ u + q % kw < w)
  · right; exact ⟨g.1, g.2, plc_in g⟩
  · left; exact plc_out g
theorem tpc_bd {h w kw t u : Int} (q : Int) (g : tpc h w kw t u q ≠ -1) : 0 ≤ tpc h w kw t u q ∧ tpc h w kw t u q < h * w := by
  rcases tpc_cases (h := h) (w := w) (kw := kw) (t := t) (u := u) q with e | ⟨g1, g2, e⟩
  · exact absurd e g
  · rw [e]
    have := rowbd g1.2 g1.1 g2.1 g2.2
    omega
theorem tpc_inj {h w kw t u q r : Int} (hk : 1 ≤ kw) (hq : tpc h w kw t u q ≠ -1) (he : tpc h w kw t u q = tpc h w kw t u r) : q = r := by
  rcases tpc_cases (h := h) (w := w) (kw := kw) (t := t) (u := u) q with e | ⟨g1, g2, e⟩
  · exact absurd e hq
  rcases tpc_cases (h := h) (w := w) (kw := kw) (t := t) (u := u) r with e' | ⟨g1', g2', e'⟩
  · rw [he, e'] at hq; exact absurd rfl hq
  rw [e, e'] at he
  obtain ⟨a1, a2⟩ := mul_inj (by omega) (by omega) he
  have b1 := Int.mul_ediv_add_emod q kw
  have b2 := Int.mul_ediv_add_emod r kw
  have c1 : q / kw = r / kw := by omega
  have c2 : q % kw = r % kw := by omega
  rw [← b1, ← b2, c1, c2]
/-- What is known of the numbers of an op with a window. -/
structure Wn4 (k c ch h w kw t u : Int) (nC N : Nat) : Prop where
  k1 : k ≠ 1
  kk : 2 ≤ k ∧ k ≤ 4
  hn : (nC : Int) = chB k c ch - chF k ch
  n1 : 1 ≤ nC
  hF : 0 ≤ chF k ch
  hB : chB k c ch ≤ c
  hc : 1 ≤ c ∧ c ≤ 1024
  hh : 1 ≤ h ∧ h ≤ 1024
  hw : 1 ≤ w ∧ w ≤ 1024
  hm : h * w ≤ 16384
  hkw : 1 ≤ kw
  hC : (chF k ch : Int) = if k = 2 then 0 else ch - 1
theorem div_mod_nat (i nC : Nat) (h : 1 ≤ nC) : i = i / nC * nC + i % nC := by
  have := Nat.div_add_mod i nC
  rw [Nat.mul_comm] at this
  exact this.symm
theorem Wn4.at {k c ch h w kw t u : Int} {nC N : Nat} (g : Wn4 k c ch h w kw t u nC N) (i : Nat) : plA k c ch h w kw t u (i : Int) = cov c (tpc h w kw t u ((i / nC : Nat) : Int)) (chF k ch + ((i % nC : Nat) : Int)) := by
  have := plA_at (h := h) (w := w) (kw := kw) (t := t) (u := u) (q := i / nC) (j := i % nC) g.k1 g.hn (Nat.mod_lt _ g.n1)
  rw [← div_mod_nat i nC g.n1] at this
  exact this
theorem cov_cases {C p d : Int} (hC : 1 ≤ C) (hp : p = -1 ∨ 0 ≤ p) (hd : 0 ≤ d) : (cov C p d = -1 ∧ p = -1) ∨ (0 ≤ cov C p d ∧ p ≠ -1 ∧ cov C p d = p * C + d) := by
  unfold cov
  by_cases q : p = -1
  · left; exact ⟨if_pos q, q⟩
  · right
    rw [if_neg q]
    have := Int.mul_nonneg (show 0 ≤ p by omega) (show 0 ≤ C by omega)
    exact ⟨by omega, q, rfl⟩
theorem tpc_sgn {h w kw t u : Int} (q : Int) : tpc h w kw t u q = -1 ∨ 0 ≤ tpc h w kw t u q := by
  by_cases g : tpc h w kw t u q = -1
  · exact .inl g
  · exact .inr (tpc_bd q g).1
theorem Wn4.dd {k c ch h w kw t u : Int} {nC N : Nat} (g : Wn4 k c ch h w kw t u nC N) (i : Nat) : 0 ≤ chF k ch + ((i % nC : Nat) : Int) ∧ chF k ch + ((i % nC : Nat) : Int) < c := by
  have h1 := Nat.mod_lt i g.n1
  have h2 := g.hn
  have h3 := g.hF
  have h4 := g.hB
  omega
/-- Where a term lies. -/
theorem Wn4.bd {k c ch h w kw t u : Int} {nC N : Nat} (g : Wn4 k c ch h w kw t u nC N) (i : Nat) : plA k c ch h w kw t u (i : Int) = -1 ∨ (0 ≤ plA k c ch h w kw t u (i : Int) ∧ plA k c ch h w kw t u (i : Int) < h * w * c) := by
  rw [g.at i]
  rcases cov_cases g.hc.1 (tpc_sgn ((i / nC : Nat) : Int)) (g.dd i).1 with ⟨e, -⟩ | ⟨e1, e2, e3⟩
  · exact .inl e
  · right
    refine ⟨e1, ?_⟩
    rw [e3]
    have b := tpc_bd _ e2
    have d := g.dd i
    have m := Int.mul_le_mul_of_nonneg_right (show tpc h w kw t u ((i / nC : Nat) : Int) + 1 ≤ h * w by omega) (show 0 ≤ c by have := g.hc; omega)
    rw [Int.add_mul, Int.one_mul] at m
    omega
/-- No place comes twice. -/
theorem Wn4.inj {k c ch h w kw t u : Int} {nC N : Nat} (g : Wn4 k c ch h w kw t u nC N) {i j : Nat} (hi : plA k c ch h w kw t u (i : Int) ≠ -1) (he : plA k c ch h w kw t u (i : Int) = plA k c ch h w kw t u (j : Int)) : i = j := by
  rw [g.at i] at hi he
  rw [g.at j] at he
  rcases cov_cases g.hc.1 (tpc_sgn ((i / nC : Nat) : Int)) (g.dd i).1 with ⟨e, -⟩ | ⟨e1, e2, e3⟩
  · exact absurd e hi
  rcases cov_cases g.hc.1 (tpc_sgn ((j / nC : Nat) : Int)) (g.dd j).1 with ⟨e', -⟩ | ⟨e1', e2', e3'⟩
  · rw [he] at hi; exact absurd e' hi
  rw [e3, e3'] at he
  obtain ⟨a1, a2⟩ := mul_inj (g.dd i) (g.dd j) he
  have q := tpc_inj g.hkw e2 a1
  have q1 : i / nC = j / nC := by exact_mod_cast q
  have q2 : i % nC = j % nC := by omega
  rw [div_mod_nat i nC g.n1, div_mod_nat j nC g.n1, q1, q2]
/-- The channel of a place. -/
theorem Wn4.chn {k c ch h w kw t u : Int} {nC N : Nat} (g : Wn4 k c ch h w kw t u nC N) (k2 : k ≠ 2) {i : Nat} (hi : plA k c ch h w kw t u (i : Int) ≠ -1) : Int.tmod (plA k c ch h w kw t u (i : Int)) c = ch - 1 := by
  have hb := g.bd i
  rw [g.at i] at hi hb ⊢
  rcases cov_cases g.hc.1 (tpc_sgn ((i / nC : Nat) : Int)) (g.dd i).1 with ⟨e, -⟩ | ⟨e1, e2, e3⟩
  · exact absurd e hi
  have hF := g.hC
  rw [if_neg k2] at hF
  have hn := g.hn
  have hB : chB k c ch = ch := if_neg k2
  have hm : i % nC = 0 := by have := Nat.mod_lt i g.n1; omega
  rw [e3, Int.tmod_eq_emod_of_nonneg (by omega), hm, hF]
  rw [Int.add_comm, Int.add_mul_emod_self_right]
  have d := g.dd i
  rw [hm, hF] at d
  rw [Int.emod_eq_of_lt (by omega) (by omega)]
  omega
/-! ### How many are padding -/
theorem count_pfl {nC : Nat} {c F : Int} (hc : 1 ≤ c ∧ c ≤ 1024) (hF : 0 ≤ F) (hB : F + (nC : Int) ≤ 1024) : ∀ l : List (Int × Int), (∀ p ∈ l, -1 ≤ p.2 ∧ p.2 ≤ 16384) → List.count (-1) (pfl nC c F l) = Nx.padN l * nC
  | [], _ => by simp [pfl, Nx.padN]
  | p :: l, hl => by
    have ih := count_pfl hc hF hB l (fun q hq => hl q (List.mem_cons_of_mem _ hq))
    have hp := hl p List.mem_cons_self
    have e : pfl nC c F (p :: l) = ((List.range nC).map fun (j : Nat) => covW c p.2 (F + j)) ++ pfl nC c F l := by simp [pfl]
    rw [e, List.count_append, ih]
    have hcv : ∀ j : Nat, j < nC → covW c p.2 (F + j) = cov c p.2 (F + j) := fun j hj => covW_eq hp (by omega) hc
    by_cases q : p.2 = -1
    · have e1 : ((List.range nC).map fun (j : Nat) => covW c p.2 (F + j)) = List.replicate nC (-1) := by
        apply List.ext_getElem
        · simp
        · intro i h1 h2
          simp only [List.getElem_map, List.getElem_range, List.getElem_replicate]
          rw [hcv i (by simpa using h1)]
          exact if_pos q
      rw [e1, List.count_replicate_self]
      have : Nx.padN (p :: l) = Nx.padN l + 1 := by simp [Nx.padN, q]
      rw [this, Nat.add_mul]
      omega
    · have e1 : List.count (-1) ((List.range nC).map fun (j : Nat) => covW c p.2 (F + j)) = 0 := by
        rw [List.count_eq_zero]
        intro hmem
        obtain ⟨j, hj, hje⟩ := List.mem_map.1 hmem
        rw [hcv j (List.mem_range.1 hj)] at hje
        rcases cov_cases hc.1 (show p.2 = -1 ∨ 0 ≤ p.2 by omega) (show 0 ≤ F + (j : Int) by omega) with ⟨-, e⟩ | ⟨e, -⟩
        · exact q e
        · omega
      rw [e1]
      have : Nx.padN (p :: l) = Nx.padN l := by simp [Nx.padN, q]
      rw [this, Nat.zero_add]
theorem Wn4.count {k c ch h w kw t u : Int} {nC N : Nat} (g : Wn4 k c ch h w kw t u nC N) : List.count (-1) (plL k c ch h w kw t u (N * nC)) = Nx.padN (tapL h w kw t u N) * nC := by
  have hB := g.hB
  have hc := g.hc
  have hn := g.hn
  rw [← pfl_tap g.k1 g.hn g.hF (by omega) g.hc g.hh g.hw g.hm N]
  refine count_pfl g.hc g.hF (by omega) _ (fun p hp => ?_)
  obtain ⟨j, -, rfl⟩ := List.mem_map.1 hp
  exact plc_bd g.hh g.hw g.hm
/-- Some tap lies in the plane. -/
theorem pad_lt {h w kh kw t u : Int} {N : Nat} (hc : Cor h w kh kw t u) (hN : kh * kw = (N : Int)) : Nx.padN (tapL h w kw t u N) < N := by
  obtain ⟨h1, w1, -, k1, k2, t1, u1⟩ := hc
  obtain ⟨y, hy⟩ : ∃ y : Nat, (y : Int) = if t < 0 then -t else 0 := ⟨(if t < 0 then -t else 0).toNat, by split <;> omega⟩
  obtain ⟨x, hx⟩ : ∃ x : Nat, (x : Int) = if u < 0 then -u else 0 := ⟨(if u < 0 then -u else 0).toNat, by split <;> omega⟩
  have hy1 : (y : Int) < kh := by rw [hy]; split <;> omega
  have hx1 : (x : Int) < kw := by rw [hx]; split <;> omega
  have hy2 : 0 ≤ t + y ∧ t + y < h := by rw [hy]; split <;> omega
  have hx2 : 0 ≤ u + x ∧ u + x < w := by rw [hx]; split <;> omega
  obtain ⟨KW, hKW⟩ : ∃ K : Nat, kw = K := ⟨kw.toNat, by omega⟩
  subst hKW
  have hs := spot_at (y := y) (q := KW) (x := x) (by omega)
  simp only [Prod.mk.injEq] at hs
  have hlt : y * KW + x < N := by
    have a := Int.mul_le_mul_of_nonneg_right (show (y : Int) + 1 ≤ kh by omega) (show 0 ≤ (KW : Int) by omega)
    rw [Int.add_mul, Int.one_mul, hN] at a
    have : ((y * KW + x : Nat) : Int) < (N : Int) := by push_cast; omega
    exact_mod_cast this
  have hlen := tapL_len h w (KW : Int) t u N
  have key : Nx.padN (tapL h w (KW : Int) t u N) < (tapL h w (KW : Int) t u N).length := by
    unfold Nx.padN
    refine List.length_filter_lt_length_iff_exists.2 ⟨tap h w KW t u (y * KW + x), List.mem_map.2 ⟨_, List.mem_range.2 hlt, rfl⟩, ?_⟩
    intro hd
    have hd' := of_decide_eq_true hd
    have he : (tap h w KW t u (y * KW + x)).2 = (t + y) * w + (u + x) := by
      unfold tap
      simp only
      rw [hs.1, hs.2, plc_in ⟨hy2, hx2⟩]
    rw [he] at hd'
    have := rowbd hy2.2 hy2.1 hx2.1 hx2.2
    omega
  rw [hlen] at key
  exact key
end Go.Proofs.Ytnjdnbbemjdabaa
