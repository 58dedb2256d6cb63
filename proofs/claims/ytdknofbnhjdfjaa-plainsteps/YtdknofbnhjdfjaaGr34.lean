/- The walk of PlainSteps. -/
import Derived.Test.YtdknofbnhjdfjaaGr33
/- The walk of PlainSteps. -/
namespace Go.Proofs.Ytdknofbnhjdfjaa
open Go.ChangeShapes Go.WideShapes Go.ChangeAt Go.RowKit
set_option linter.unusedVariables false
set_option maxHeartbeats 8000000 in
set_option maxRecDepth 100000 in
theorem steps_w (h w c lo hi ot : Int) (oa : Option Addr) (on oc : Nat) (O : Nat → Nat → Int) (Z B : Nat → List Int) (W : World) (hL : LRow W oa on oc O Z B) (hon : on ≤ 1000000000000) (ad : Option Addr) (n cap : Nat) (xs : List Int) (hX : IRow .i8 W ad n cap xs) (op pick : Int) (E A : Int) (Ts : List (List Int))
    (hok : E = 0 → Ts.length = on + 1) (Rw : Int) (RL : List (Int × Int × Int)) (hok2 : E = 0 → gtR O h w c lo hi ot on = (0, 0, RL, Rw) ∧ Ts = tnL O Z B RL xs on ∧ (xs.length : Int) = h * w * c) (hbad : E ≠ 0 → Ts = [])
    (hPT : Hid (∀ W', Below W.heap.size W W' → Calls Try.prog 10 #[.agg #[.int .i64 h, .int .i64 w, .int .i64 c, .int .i64 lo, .int .i64 hi, .slice oa on oc, .int .i64 ot], .slice ad n cap] W' fun e w' => (∃ v, e = .returned (.tuple #[v, .agg #[.int .i64 E, .int .i64 A, .int .i64 0]]) ∧ (E = 0 → LLs w' W'.heap.size v Ts) ∧ (E ≠ 0 → v = .slice none 0 0)) ∧ Below W'.heap.size W' w')) :
    Calls Try.prog 4 #[.agg #[.int .i64 h, .int .i64 w, .int .i64 c, .int .i64 lo, .int .i64 hi, .slice oa on oc, .int .i64 ot, .slice ad n cap, .int .i64 op, .int .i64 pick]] W fun e w' => e = .returned (.bool true) ∧ Below W.heap.size W w' := by
  have HL : Hid (LRow W oa on oc O Z B) := hL
  have HX : Hid (IRow .i8 W ad n cap xs) := hX
  have HOk : Hid (E = 0 → Ts.length = on + 1) := hok
  have HOk2 : Hid (E = 0 → gtR O h w c lo hi ot on = (0, 0, RL, Rw) ∧ Ts = tnL O Z B RL xs on ∧ (xs.length : Int) = h * w * c) := hok2
  have HBad : Hid (E ≠ 0 → Ts = []) := hbad
  have hocc := hL.1
  have hocm := hL.2.1
  unfold maxLen at hocm
  have s0 := (St.start W).new (c := #[.int .i64 h, .int .i64 w, .int .i64 c, .int .i64 lo, .int .i64 hi, .slice oa on oc, .int .i64 ot, .slice ad n cap, .int .i64 op, .int .i64 pick]) (t := 48)
  have hG := s0.h1
  clear hL hX hok hok2 hbad
  go_enter Try.func4, Try.ntmps4
  go_upto_region 1 with fail
  obtain ⟨w0, hw0⟩ : ∃ w0, W.alloc (.cells #[.int .i64 h, .int .i64 w, .int .i64 c, .int .i64 lo, .int .i64 hi, .slice oa on oc, .int .i64 ot, .slice ad n cap, .int .i64 op, .int .i64 pick] 48) = w0 := ⟨_, rfl⟩
  rw [hw0] at s0 hG ⊢
  have S0 : Hid (St W w0 [(W.heap.size, #[.int .i64 h, .int .i64 w, .int .i64 c, .int .i64 lo, .int .i64 hi, .slice oa on oc, .int .i64 ot, .slice ad n cap, .int .i64 op, .int .i64 pick], 48)]) := s0
  clear hw0 s0
  refine regionC (fun w' => Below w0.heap.size w0 w') (by kernel_rfl) ?_
  obtain ⟨wd, hwd⟩ : ∃ wd, w0.drew = wd := ⟨_, rfl⟩
  have HD : Hid (Below w0.heap.size w0 wd) := by unfold Hid; rw [← hwd]; exact (Below.refl _ _).drew
  rw [hwd]
  clear hwd
  have HC0 : Hid (∀ w', Below w0.heap.size w0 w' → ∀ q v, [.int .i64 h, .int .i64 w, .int .i64 c, .int .i64 lo, .int .i64 hi, .slice oa on oc, .int .i64 ot][q]? = some v → w'.cell? ((⟨W.heap.size, 0, none⟩ : Addr).add q) = some v) := fun w' hw' => lcells ((hw'.block _ (lt_of_heap hG)).trans hG) (fget [.int .i64 h, .int .i64 w, .int .i64 c, .int .i64 lo, .int .i64 hi, .slice oa on oc, .int .i64 ot] [.slice ad n cap, .int .i64 op, .int .i64 pick])
  have HC7 : Hid (∀ w', Below w0.heap.size w0 w' → w'.cell? ⟨W.heap.size, 7, none⟩ = some (.slice ad n cap)) := fun w' hw' => (cells_at ((hw'.block _ (lt_of_heap hG)).trans hG)).1 7
  have HC8 : Hid (∀ w', Below w0.heap.size w0 w' → w'.cell? ⟨W.heap.size, 8, none⟩ = some (.int .i64 op)) := fun w' hw' => (cells_at ((hw'.block _ (lt_of_heap hG)).trans hG)).1 8
  have HC9 : Hid (∀ w', Below w0.heap.size w0 w' → w'.cell? ⟨W.heap.size, 9, none⟩ = some (.int .i64 pick)) := fun w' hw' => (cells_at ((hw'.block _ (lt_of_heap hG)).trans hG)).1 9
  clear hG
  refine takeC 0 (v := .pointer (some ⟨W.heap.size, 0, none⟩)) rfl rfl (by kernel_rfl) (by kernel_rfl) (by kernel_rfl) (fun _ _ _ h => h) (fun _ => rfl) rfl (fun w' hw' => by go_simp) ?_
  refine takeC 1 (v := .agg #[.int .i64 h, .int .i64 w, .int .i64 c, .int .i64 lo, .int .i64 hi, .slice oa on oc, .int .i64 ot]) rfl rfl (by kernel_rfl) (by kernel_rfl) (by kernel_rfl) (fun _ _ _ h => h) (fun _ => rfl) rfl (fun w' hw' => run_la 26 (.tmp 26) rfl ⟨W.heap.size, 0, none⟩ (by kernel_rfl) [.int .i64 h, .int .i64 w, .int .i64 c, .int .i64 lo, .int .i64 hi, .slice oa on oc, .int .i64 ot] _ (HC0.out w' hw') Try.underlying26 rfl (by kernel_rfl)) ?_
  refine takeC 2 (v := .pointer (some ⟨W.heap.size, 7, none⟩)) rfl rfl (by kernel_rfl) (by kernel_rfl) (by kernel_rfl) (fun _ _ _ h => h) (fun _ => rfl) rfl (fun w' hw' => by go_simp) ?_
  refine takeC 3 (v := .slice ad n cap) rfl rfl (by kernel_rfl) (by kernel_rfl) (by kernel_rfl) (fun _ _ _ h => h) (fun _ => rfl) rfl (fun w' hw' => by have hc := HC7.out w' hw'; go_simp) ?_
  refine takeC 4 (v := .pointer (some ⟨W.heap.size, 8, none⟩)) rfl rfl (by kernel_rfl) (by kernel_rfl) (by kernel_rfl) (fun _ _ _ h => h) (fun _ => rfl) rfl (fun w' hw' => by go_simp) ?_
  refine takeC 5 (v := .int .i64 op) rfl rfl (by kernel_rfl) (by kernel_rfl) (by kernel_rfl) (fun _ _ _ h => h) (fun _ => rfl) rfl (fun w' hw' => by have hc := HC8.out w' hw'; go_simp) ?_
  refine takeC 6 (v := .pointer (some ⟨W.heap.size, 9, none⟩)) rfl rfl (by kernel_rfl) (by kernel_rfl) (by kernel_rfl) (fun _ _ _ h => h) (fun _ => rfl) rfl (fun w' hw' => by go_simp) ?_
  refine takeC 7 (v := .int .i64 pick) rfl rfl (by kernel_rfl) (by kernel_rfl) (by kernel_rfl) (fun _ _ _ h => h) (fun _ => rfl) rfl (fun w' hw' => by have hc := HC9.out w' hw'; go_simp) ?_
  refine stepR 8 HD.out (by kernel_rfl) rfl rfl (.pointer (some ⟨wd.heap.size, 0, none⟩)) (wd.alloc (.cells #[.int .i64 0, .int .i64 0, .int .i64 0, .int .i64 0, .int .i64 0, .slice none 0 0, .int .i64 0] 26)) (by kernel_rfl) ?_
  refine stepS 9 (HD.out.alloc HD.out.size _) (by kernel_rfl) rfl rfl 26 (.tmp 3) (.tmp 27) rfl wd.heap.size #[.int .i64 h, .int .i64 w, .int .i64 c, .int .i64 lo, .int .i64 hi, .slice oa on oc, .int .i64 ot] (by kernel_rfl) (by kernel_rfl) 26 #[.int .i64 0, .int .i64 0, .int .i64 0, .int .i64 0, .int .i64 0, .slice none 0 0, .int .i64 0] (heap_alloc_new wd _) (by kernel_rfl) rfl (by simp [Value.oneCell']) ?_
  rw [World.setRow_alloc_new]
  have HD1 : Hid (Below w0.heap.size w0 (wd.alloc (.cells #[.int .i64 h, .int .i64 w, .int .i64 c, .int .i64 lo, .int .i64 hi, .slice oa on oc, .int .i64 ot] 26))) := HD.out.alloc HD.out.size _
  refine stepR 10 HD1.out (by kernel_rfl) rfl rfl (.slice ad n cap) (wd.alloc (.cells #[.int .i64 h, .int .i64 w, .int .i64 c, .int .i64 lo, .int .i64 hi, .slice oa on oc, .int .i64 ot] 26)) (by kernel_rfl) ?_
  refine stepR 11 HD1.out (by kernel_rfl) rfl rfl (.int .i64 op) (wd.alloc (.cells #[.int .i64 h, .int .i64 w, .int .i64 c, .int .i64 lo, .int .i64 hi, .slice oa on oc, .int .i64 ot] 26)) (by kernel_rfl) ?_
  refine stepR 12 HD1.out (by kernel_rfl) rfl rfl (.int .i64 pick) (wd.alloc (.cells #[.int .i64 h, .int .i64 w, .int .i64 c, .int .i64 lo, .int .i64 hi, .slice oa on oc, .int .i64 ot] 26)) (by kernel_rfl) ?_
  refine doneC HD1.out (by kernel_rfl) ?_ _
  have s1 := (S0.out.call HD.out).new (c := #[.int .i64 h, .int .i64 w, .int .i64 c, .int .i64 lo, .int .i64 hi, .slice oa on oc, .int .i64 ot]) (t := 26)
  obtain ⟨w1, hw1⟩ : ∃ w1, wd.alloc (.cells #[.int .i64 h, .int .i64 w, .int .i64 c, .int .i64 lo, .int .i64 hi, .slice oa on oc, .int .i64 ot] 26) = w1 := ⟨_, rfl⟩
  rw [hw1] at s1 ⊢
  obtain ⟨mb, hmb⟩ : ∃ mb, wd.heap.size = mb := ⟨_, rfl⟩
  rw [hmb] at s1 ⊢
  have S1 : Hid (St W w1 [(mb, #[.int .i64 h, .int .i64 w, .int .i64 c, .int .i64 lo, .int .i64 hi, .slice oa on oc, .int .i64 ot], 26), (W.heap.size, #[.int .i64 h, .int .i64 w, .int .i64 c, .int .i64 lo, .int .i64 hi, .slice oa on oc, .int .i64 ot, .slice ad n cap, .int .i64 op, .int .i64 pick], 48)]) := s1
  clear hw1 hmb s1 HD HD1 HC0 HC7 HC8 HC9 S0
  go_wp2_with fail
  refine (fixed11_any _).mono ?_
  rintro e w2 ⟨rfl, hb⟩
  have S2 : Hid (St W w2 [(mb, #[.int .i64 h, .int .i64 w, .int .i64 c, .int .i64 lo, .int .i64 hi, .slice oa on oc, .int .i64 ot], 26), (W.heap.size, #[.int .i64 h, .int .i64 w, .int .i64 c, .int .i64 lo, .int .i64 hi, .slice oa on oc, .int .i64 ot, .slice ad n cap, .int .i64 op, .int .i64 pick], 48)]) := S1.out.call hb
  obtain ⟨c1, f1, z1, -⟩ := S2.out.rules
  clear hb S1
  go_wp2_with fail
  refine Calls.mono (hPT.out _ S2.out.below) ?_
  rintro e w3 ⟨⟨v3, rfl, hl3, hn3⟩, hb3⟩
  have HT3 : TRd w3 v3 Ts := by
    by_cases q : E = 0
    · exact (hl3 q).rd
    · rw [hn3 q, HBad.out q]; exact ⟨none, 0, rfl, Nat.le_refl _, by unfold maxLen; omega, fun h => by cases h⟩
  obtain ⟨a3, c3, rfl, -⟩ := id HT3
  have HT4 : Hid (TRd (w3.alloc (.cells #[.int .i64 E, .int .i64 A, .int .i64 0] 51)) (.slice a3 Ts.length c3) Ts) := HT3.below (bal _ _)
  have s4 := (S2.out.call hb3).new (c := #[.int .i64 E, .int .i64 A, .int .i64 0]) (t := 51)
  clear hb3 hl3 hn3 HT3 S2 c1 f1 z1 hPT
  go_upto_region 5 with fail
  obtain ⟨w4, hw4⟩ : ∃ w4, w3.alloc (.cells #[.int .i64 E, .int .i64 A, .int .i64 0] 51) = w4 := ⟨_, rfl⟩
  rw [hw4] at s4 HT4 ⊢
  obtain ⟨b8, hb8⟩ : ∃ b8, w3.heap.size = b8 := ⟨_, rfl⟩
  rw [hb8] at s4 ⊢
  have S4 : Hid (St W w4 [(b8, #[.int .i64 E, .int .i64 A, .int .i64 0], 51), (mb, #[.int .i64 h, .int .i64 w, .int .i64 c, .int .i64 lo, .int .i64 hi, .slice oa on oc, .int .i64 ot], 26), (W.heap.size, #[.int .i64 h, .int .i64 w, .int .i64 c, .int .i64 lo, .int .i64 hi, .slice oa on oc, .int .i64 ot, .slice ad n cap, .int .i64 op, .int .i64 pick], 48)]) := s4
  clear hw4 hb8 s4
  obtain ⟨c1, f1, z1, c2, f2, z2, -⟩ := S4.out.rules
  by_cases he : E = 0
  rotate_left
  · have he' : (E == 0) = false := by simp [he]
    rw [HBad.out he]
    have HB : Hid (Below W.heap.size W w4) := S4.out.below
    clear S4 HT4
    go_wp2
    go_ret
    exact ⟨rfl, HB.out⟩
  subst he
  rw [HOk.out rfl] at HT4 ⊢
  by_cases hop : 1 ≤ op ∧ op ≤ (on : Int)
  rotate_left
  · have HB : Hid (Below W.heap.size W w4) := S4.out.below
    clear S4 HT4
    by_cases q1 : op < 1
    · have HB' := HB
      go_wp2
      go_ret
      exact ⟨rfl, HB.out⟩
    · have q2 : (on : Int) < op := by omega
      go_wp2
      go_ret
      exact ⟨rfl, HB.out⟩
  obtain ⟨i, rfl⟩ : ∃ i : Nat, op = (i : Int) + 1 := ⟨(op - 1).toNat, by omega⟩
  have hlt : i < on := by omega
  have n1 : ¬ (i : Int) + 1 < 1 := by omega
  have n2 : ¬ (on : Int) < (i : Int) + 1 := by omega
  have HS4 : Hid (Below W.heap.size W w4) := S4.out.below
  obtain ⟨x, rfl, wa, lw, cw, ba, lb, cb, e12, e13, hcell, hz, hb, hlw, hlb⟩ := HL.out.at hlt
  have hopl : Hid (∀ q v, [.int .i64 (O i 0), .int .i64 (O i 1), .int .i64 (O i 2), .int .i64 (O i 3), .int .i64 (O i 4), .int .i64 (O i 5), .int .i64 (O i 6), .int .i64 (O i 7), .int .i64 (O i 8), .int .i64 (O i 9), .int .i64 (O i 10), .int .i64 (O i 11), .slice wa lw cw, .slice ba lb cb, .int .i64 (O i 14), .int .i64 (O i 15), .int .i64 (O i 16), .int .i64 (O i 17), .int .i64 (O i 18), .int .i64 (O i 19), .int .i64 (O i 20), .int .i64 (O i 21)][q]? = some v → w4.cell? ((x.add (i * 22)).add q) = some v) := fun q v hq => (HS4.out.cell (World.block_lt_of_cell? W _ (hcell q v hq))).trans (hcell q v hq)
  have HFn : Hid (O i 12 = (lw : Int) ∧ O i 13 = (lb : Int) ∧ (∀ q v, [.int .i64 (O i 0), .int .i64 (O i 1), .int .i64 (O i 2), .int .i64 (O i 3), .int .i64 (O i 4), .int .i64 (O i 5), .int .i64 (O i 6), .int .i64 (O i 7), .int .i64 (O i 8), .int .i64 (O i 9), .int .i64 (O i 10), .int .i64 (O i 11), .slice wa lw cw, .slice ba lb cb, .int .i64 (O i 14), .int .i64 (O i 15), .int .i64 (O i 16), .int .i64 (O i 17), .int .i64 (O i 18), .int .i64 (O i 19), .int .i64 (O i 20), .int .i64 (O i 21)][q]? = some v → W.cell? ((x.add (i * 22)).add q) = some v) ∧ IRow .i16 W wa lw cw (Z i) ∧ IRow .i32 W ba lb cb (B i)) := ⟨e12, e13, hcell, hz, hb⟩
  have s5 := S4.out.new (c := #[.int .i64 (O i 0), .int .i64 (O i 1), .int .i64 (O i 2), .int .i64 (O i 3), .int .i64 (O i 4), .int .i64 (O i 5), .int .i64 (O i 6), .int .i64 (O i 7), .int .i64 (O i 8), .int .i64 (O i 9), .int .i64 (O i 10), .int .i64 (O i 11), .slice wa lw cw, .slice ba lb cb, .int .i64 (O i 14), .int .i64 (O i 15), .int .i64 (O i 16), .int .i64 (O i 17), .int .i64 (O i 18), .int .i64 (O i 19), .int .i64 (O i 20), .int .i64 (O i 21)]) (t := 39)
  obtain ⟨vo, hvo⟩ : ∃ vo, Value.agg #[.int .i64 (O i 0), .int .i64 (O i 1), .int .i64 (O i 2), .int .i64 (O i 3), .int .i64 (O i 4), .int .i64 (O i 5), .int .i64 (O i 6), .int .i64 (O i 7), .int .i64 (O i 8), .int .i64 (O i 9), .int .i64 (O i 10), .int .i64 (O i 11), .slice wa lw cw, .slice ba lb cb, .int .i64 (O i 14), .int .i64 (O i 15), .int .i64 (O i 16), .int .i64 (O i 17), .int .i64 (O i 18), .int .i64 (O i 19), .int .i64 (O i 20), .int .i64 (O i 21)] = vo := ⟨_, rfl⟩
  have HVO : Hid (Value.agg #[.int .i64 (O i 0), .int .i64 (O i 1), .int .i64 (O i 2), .int .i64 (O i 3), .int .i64 (O i 4), .int .i64 (O i 5), .int .i64 (O i 6), .int .i64 (O i 7), .int .i64 (O i 8), .int .i64 (O i 9), .int .i64 (O i 10), .int .i64 (O i 11), .slice wa lw cw, .slice ba lb cb, .int .i64 (O i 14), .int .i64 (O i 15), .int .i64 (O i 16), .int .i64 (O i 17), .int .i64 (O i 18), .int .i64 (O i 19), .int .i64 (O i 20), .int .i64 (O i 21)] = vo) := hvo
  clear hcell hz hb e12 e13 hlw hlb hop
  go_upto_region 10 with ((refine wpList_load_any rfl 39 (.tmp 77) rfl _ rfl [.int .i64 (O i 0), .int .i64 (O i 1), .int .i64 (O i 2), .int .i64 (O i 3), .int .i64 (O i 4), .int .i64 (O i 5), .int .i64 (O i 6), .int .i64 (O i 7), .int .i64 (O i 8), .int .i64 (O i 9), .int .i64 (O i 10), .int .i64 (O i 11), .slice wa lw cw, .slice ba lb cb, .int .i64 (O i 14), .int .i64 (O i 15), .int .i64 (O i 16), .int .i64 (O i 17), .int .i64 (O i 18), .int .i64 (O i 19), .int .i64 (O i 20), .int .i64 (O i 21)] _ hopl.out Try.underlying39 rfl (by kernel_rfl) ?_; (show wpList _ _ _ _ (Act.put _ _ (Value.agg #[.int .i64 (O i 0), .int .i64 (O i 1), .int .i64 (O i 2), .int .i64 (O i 3), .int .i64 (O i 4), .int .i64 (O i 5), .int .i64 (O i 6), .int .i64 (O i 7), .int .i64 (O i 8), .int .i64 (O i 9), .int .i64 (O i 10), .int .i64 (O i 11), .slice wa lw cw, .slice ba lb cb, .int .i64 (O i 14), .int .i64 (O i 15), .int .i64 (O i 16), .int .i64 (O i 17), .int .i64 (O i 18), .int .i64 (O i 19), .int .i64 (O i 20), .int .i64 (O i 21)])) _); rw [hvo]; clear hvo; refine wpList_run1 rfl (some 9) rfl (.pointer (some ⟨w4.heap.size, 0, none⟩)) (w4.alloc (.cells #[.int .i64 0, .int .i64 0, .int .i64 0, .int .i64 0, .int .i64 0, .int .i64 0, .int .i64 0, .int .i64 0, .int .i64 0, .int .i64 0, .int .i64 0, .int .i64 0, .slice none 0 0, .slice none 0 0, .int .i64 0, .int .i64 0, .int .i64 0, .int .i64 0, .int .i64 0, .int .i64 0, .int .i64 0, .int .i64 0] 39)) (by kernel_rfl) ?_; refine wpList_st_new rfl 39 (.tmp 9) (.tmp 78) rfl w4 #[.int .i64 0, .int .i64 0, .int .i64 0, .int .i64 0, .int .i64 0, .int .i64 0, .int .i64 0, .int .i64 0, .int .i64 0, .int .i64 0, .int .i64 0, .int .i64 0, .slice none 0 0, .slice none 0 0, .int .i64 0, .int .i64 0, .int .i64 0, .int .i64 0, .int .i64 0, .int .i64 0, .int .i64 0, .int .i64 0] #[.int .i64 (O i 0), .int .i64 (O i 1), .int .i64 (O i 2), .int .i64 (O i 3), .int .i64 (O i 4), .int .i64 (O i 5), .int .i64 (O i 6), .int .i64 (O i 7), .int .i64 (O i 8), .int .i64 (O i 9), .int .i64 (O i 10), .int .i64 (O i 11), .slice wa lw cw, .slice ba lb cb, .int .i64 (O i 14), .int .i64 (O i 15), .int .i64 (O i 16), .int .i64 (O i 17), .int .i64 (O i 18), .int .i64 (O i 19), .int .i64 (O i 20), .int .i64 (O i 21)] (by kernel_rfl) (Eq.trans (by kernel_rfl : _ = vo) HVO.out.symm) (by kernel_rfl) rfl (by simp [Value.oneCell']) ?_))
  obtain ⟨w5, hw5⟩ : ∃ w5, w4.alloc (.cells #[.int .i64 (O i 0), .int .i64 (O i 1), .int .i64 (O i 2), .int .i64 (O i 3), .int .i64 (O i 4), .int .i64 (O i 5), .int .i64 (O i 6), .int .i64 (O i 7), .int .i64 (O i 8), .int .i64 (O i 9), .int .i64 (O i 10), .int .i64 (O i 11), .slice wa lw cw, .slice ba lb cb, .int .i64 (O i 14), .int .i64 (O i 15), .int .i64 (O i 16), .int .i64 (O i 17), .int .i64 (O i 18), .int .i64 (O i 19), .int .i64 (O i 20), .int .i64 (O i 21)] 39) = w5 := ⟨_, rfl⟩
  have HT5 : Hid (TRd w5 (.slice a3 (on + 1) c3) Ts) := by unfold Hid; rw [← hw5]; exact HT4.out.below (bal _ _)
  rw [hw5] at s5 ⊢
  obtain ⟨ob, hob⟩ : ∃ ob, w4.heap.size = ob := ⟨_, rfl⟩
  rw [hob] at s5 ⊢
  have S5 : Hid (St W w5 [(ob, #[.int .i64 (O i 0), .int .i64 (O i 1), .int .i64 (O i 2), .int .i64 (O i 3), .int .i64 (O i 4), .int .i64 (O i 5), .int .i64 (O i 6), .int .i64 (O i 7), .int .i64 (O i 8), .int .i64 (O i 9), .int .i64 (O i 10), .int .i64 (O i 11), .slice wa lw cw, .slice ba lb cb, .int .i64 (O i 14), .int .i64 (O i 15), .int .i64 (O i 16), .int .i64 (O i 17), .int .i64 (O i 18), .int .i64 (O i 19), .int .i64 (O i 20), .int .i64 (O i 21)], 39), (b8, #[.int .i64 0, .int .i64 A, .int .i64 0], 51), (mb, #[.int .i64 h, .int .i64 w, .int .i64 c, .int .i64 lo, .int .i64 hi, .slice (some x) on oc, .int .i64 ot], 26), (W.heap.size, #[.int .i64 h, .int .i64 w, .int .i64 c, .int .i64 lo, .int .i64 hi, .slice (some x) on oc, .int .i64 ot, .slice ad n cap, .int .i64 ((i : Int) + 1), .int .i64 pick], 48)]) := s5
  clear hw5 hob s5 HVO hopl S4 HT4 HS4 c1 f1 z1 c2 f2 z2
  have d0 : w5.cell? ⟨ob, 0, none⟩ = some (.int .i64 (O i 0)) := (cells_at S5.out.h1).1 0
  by_cases hk4 : O i 0 ≤ 4
  rotate_left
  · have HB : Hid (Below W.heap.size W w5) := S5.out.below
    have hk5 : 4 < O i 0 := by omega
    clear S5 HT5
    go_wp2
    go_ret
    exact ⟨rfl, HB.out⟩
  have hk5 : ¬ 4 < O i 0 := by omega
  go_upto_region 12 with fail
  obtain ⟨hR, hTs, hxn⟩ := HOk2.out rfl
  subst hTs
  obtain ⟨ja, jb, e1, hja, e3, hjb, hO⟩ := opd_of hR hlt
  obtain ⟨x0, y0, z0, hA⟩ : ∃ x0 y0 z0, RL.getD ja (0, 0, 0) = (x0, y0, z0) := ⟨_, _, _, rfl⟩
  obtain ⟨H, V, C, hB⟩ : ∃ H V C, RL.getD (i + 1) (0, 0, 0) = (H, V, C) := ⟨_, _, _, rfl⟩
  obtain ⟨hOpd, -⟩ := hO _ _ _ _ _ _ hA hB
  obtain ⟨q12, q13, qc, qz, qb⟩ := HFn.out
  rw [q12, q13, Int.toNat_natCast, Int.toNat_natCast] at hOpd
  obtain ⟨sa, sa8, sb, hvB, hp19, hfiE, hme, hnum⟩ := step_facts hR hxn HX.out.i8 hlt hk4 qz.2.2.2.1 qb.2.2.2.1 e1 hA hB
  have HF : Hid (Fnd W (some x) on O Z B RL i x wa lw cw ba lb cb x0 y0 z0 H V C) := ⟨hlt, rfl, q12, q13, qc, qz, qb, by rw [e1, Int.toNat_natCast]; exact hA, hB, hOpd.si hk4, ⟨by omega, by omega⟩, decide_eq_true ⟨hOpd.hk.1, hk4⟩⟩
  have HR : Hid (gtR O h w c lo hi ot on = (0, 0, RL, Rw)) := hR
  have hst : 1 ≤ stR (O i 0) (O i 4) (O i 5) x0 y0 z0 ∧ stR (O i 0) (O i 4) (O i 5) x0 y0 z0 ≤ 512 := (hOpd.si hk4).2.2.2.2.2.2.2.2
  obtain ⟨g3, aa, ca, rfl, pA, rA⟩ := HT5.out.at (show ja < on + 1 by omega)
  obtain ⟨g3', ab, cb', eg, pB, rB⟩ := HT5.out.at (show i + 1 < on + 1 by omega)
  cases eg
  rw [tnL_get _ _ _ _ _ (show ja ≤ on by omega)] at pA rA
  rw [tnL_get _ _ _ _ _ (show i + 1 ≤ on by omega)] at pB rB
  obtain ⟨TA, hTA⟩ : ∃ TA, tnA O Z B RL xs ja = TA := ⟨_, rfl⟩
  obtain ⟨TB, hTB⟩ : ∃ TB, tnA O Z B RL xs (i + 1) = TB := ⟨_, rfl⟩
  rw [hTA] at pA rA sa sa8 hnum
  rw [hTB] at pB rB sb hnum
  have hC1 := (vS_yes hvB).2.2.1
  have hVb := vS_bd hvB
  obtain ⟨NA, hNA⟩ : ∃ NA, TA.length = NA := ⟨_, rfl⟩
  obtain ⟨NB, hNB⟩ : ∃ NB, TB.length = NB := ⟨_, rfl⟩
  rw [hNA] at pA rA sa
  rw [hNB] at pB rB sb
  have hNB1 : 1 ≤ NB := by omega
  have hNB2 : NB ≤ 1000000 := by omega
  have hNBt : (H * V * C).toNat = NB := by omega
  rw [hNBt] at hnum
  obtain ⟨SU, hSU⟩ : ∃ SU, suL (O i 0) (O i 4) (O i 5) (O i 6) (O i 7) (O i 8) (O i 9) (O i 10) (O i 11) x0 y0 z0 C (O i 19) (Z i) (B i) TA NB = SU := ⟨_, rfl⟩
  have HSUl : Hid (SU.length = NB) := by unfold Hid; rw [← hSU]; exact suL_len _ _ _ _ _ _ _ _ _ _ _ _ _ _ _ _ _ _
  have HSU : Hid (∀ j, j < NB → SU.getD j 0 = suA (O i 0) (O i 4) (O i 5) (O i 6) (O i 7) (O i 8) (O i 9) (O i 10) (O i 11) x0 y0 z0 (O i 19) (Z i) (B i) TA ((j : Int) % C + 1) ((j : Int) / C)) := fun j hj => by rw [← hSU]; exact suL_at _ _ _ _ _ _ _ _ _ _ _ _ _ _ _ _ _ _ _ hj
  have HTo : Hid (∀ w', Below w5.heap.size w5 w' → Calls Try.prog 6 #[.agg #[.int .i64 h, .int .i64 w, .int .i64 c, .int .i64 lo, .int .i64 hi, .slice (some x) on oc, .int .i64 ot], .int .i64 ((i : Int) + 1), .slice aa NA ca] w' fun e w'' => (∃ v, e = .returned (.tuple #[v, .int .i64 0]) ∧ Own .i64 2 w'' w'.heap.size v SU) ∧ Below w'.heap.size w' w'') := fun w' hb => (totals_ok h w c lo hi ot (some x) on oc O Z B w' (HL.out.below (btr S5.out.below hb)) RL Rw hR i x wa lw cw ba lb cb x0 y0 z0 H V C (HF.out.below (btr S5.out.below hb)) aa NA ca TA (rA.below hb)).mono fun e w'' ⟨q1, q2⟩ => ⟨by rw [if_pos sa, hNBt, hSU] at q1; exact q1, q2⟩
  have HNA3 : Hid ((NA : Int) = x0 * y0 * z0) := sa
  have HNB3 : Hid ((NB : Int) = H * V * C) := sb
  have HVb : Hid _ := hVb
  clear hNBt sb hVb
  have HNum : Hid (∀ j, j < NB → ∀ S, S = suA (O i 0) (O i 4) (O i 5) (O i 6) (O i 7) (O i 8) (O i 9) (O i 10) (O i 11) x0 y0 z0 (O i 19) (Z i) (B i) TA ((j : Int) % C + 1) ((j : Int) / C) → _) := hnum
  have HME : Hid (O i 0 = 4 → _) := hme
  have HA8 : Hid (∀ v ∈ TA, I8 v) := sa8
  have RA : Hid (IRow .i8 w5 aa NA ca TA) := rA
  have RB : Hid (IRow .i8 w5 ab NB cb' TB) := rB
  have HNA : Hid (TA.length = NA) := hNA
  have HNB : Hid (TB.length = NB) := hNB
  have hG1 := S5.out.h1
  have hG3 := S5.out.tail.tail.h1
  have K0 : Hid (∀ w', Below w5.heap.size w5 w' → ∀ q v, [.int .i64 h, .int .i64 w, .int .i64 c, .int .i64 lo, .int .i64 hi, .slice (some x) on oc, .int .i64 ot][q]? = some v → w'.cell? ((⟨mb, 0, none⟩ : Addr).add q) = some v) := fun w' hw' => lcells ((hw'.block _ (lt_of_heap hG3)).trans hG3) (fget [.int .i64 h, .int .i64 w, .int .i64 c, .int .i64 lo, .int .i64 hi, .slice (some x) on oc, .int .i64 ot] [])
  have K1 : Hid (∀ w', Below w5.heap.size w5 w' → w'.cell? ⟨ob, 1, none⟩ = some (.int .i64 (ja : Int))) := fun w' hw' => by rw [← e1]; exact ((cells_at ((hw'.block _ (lt_of_heap hG1)).trans hG1)).1 1).trans rfl
  have K2 : Hid (∀ w', Below w5.heap.size w5 w' → w'.cell? ⟨g3, ja, none⟩ = some (.slice aa NA ca)) := fun w' hw' => (hw'.cell (World.block_lt_of_cell? w5 _ pA)).trans pA
  have K3 : Hid (∀ w', Below w5.heap.size w5 w' → w'.cell? ⟨g3, i + 1, none⟩ = some (.slice ab NB cb')) := fun w' hw' => (hw'.cell (World.block_lt_of_cell? w5 _ pB)).trans pB
  have tl := HT5.out.len
  unfold maxLen at tl
  have tl1 := tl.2.1
  have tl2 := tl.2.2
  clear hR hO hOpd hA hB q12 q13 qc qz qb sa8 hnum hme pA pB rA rB hTA hTB hNA hNB hSU hG1 hG3 e3 hxn HFn HT5 e1 sa tl n1 n2 hk5 d0
  refine regionC (fun w' => Below w5.heap.size w5 w') (by kernel_rfl) ?_
  obtain ⟨wd, hwd⟩ : ∃ wd, w5.drew = wd := ⟨_, rfl⟩
  have HD : Hid (Below w5.heap.size w5 wd) := by unfold Hid; rw [← hwd]; exact (Below.refl _ _).drew
  rw [hwd]
  clear hwd
  refine takeC 0 (v := .agg #[.int .i64 h, .int .i64 w, .int .i64 c, .int .i64 lo, .int .i64 hi, .slice (some x) on oc, .int .i64 ot]) rfl rfl (by kernel_rfl) (by kernel_rfl) (by kernel_rfl) (fun _ _ _ h => h) (fun _ => rfl) rfl (fun w' hw' => run_la 26 (.tmp 3) rfl ⟨mb, 0, none⟩ (by kernel_rfl) [.int .i64 h, .int .i64 w, .int .i64 c, .int .i64 lo, .int .i64 hi, .slice (some x) on oc, .int .i64 ot] _ (K0.out w' hw') Try.underlying26 rfl (by kernel_rfl)) ?_
  refine takeC 1 (v := .int .i64 ((i : Int) + 1)) rfl rfl (by kernel_rfl) (by kernel_rfl) (by kernel_rfl) (fun _ _ _ h => h) (fun _ => rfl) rfl (fun w' hw' => by go_simp) ?_
  refine takeC 2 (v := .slice (some ⟨g3, 0, none⟩) (on + 1) c3) rfl rfl (by kernel_rfl) (by kernel_rfl) (by kernel_rfl) (fun _ _ _ h => h) (fun _ => rfl) rfl (fun w' hw' => by go_simp) ?_
  refine takeC 3 (v := .pointer (some ⟨ob, 1, none⟩)) rfl rfl (by kernel_rfl) (by kernel_rfl) (by kernel_rfl) (fun _ _ _ h => h) (fun _ => rfl) rfl (fun w' hw' => by go_simp) ?_
  refine takeC 4 (v := .int .i64 (ja : Int)) rfl rfl (by kernel_rfl) (by kernel_rfl) (by kernel_rfl) (fun _ _ _ h => h) (fun _ => rfl) rfl (fun w' hw' => by have hc := K1.out w' hw'; go_simp) ?_
  refine takeC 5 (v := .pointer (some ⟨g3, ja, none⟩)) rfl rfl (by kernel_rfl) (by kernel_rfl) (by kernel_rfl) (fun _ _ _ h => h) (fun _ => rfl) rfl (fun w' hw' => by go_simp; try (intro q; omega)) ?_
  refine takeC 6 (v := .slice aa NA ca) rfl rfl (by kernel_rfl) (by kernel_rfl) (by kernel_rfl) (fun _ _ _ h => h) (fun _ => rfl) rfl (fun w' hw' => by have hc := K2.out w' hw'; go_simp) ?_
  refine stepK 7 HD.out (by kernel_rfl) rfl rfl 6 #[.agg #[.int .i64 h, .int .i64 w, .int .i64 c, .int .i64 lo, .int .i64 hi, .slice (some x) on oc, .int .i64 ot], .int .i64 ((i : Int) + 1), .slice aa NA ca] (by kernel_rfl) (HTo.out wd HD.out) ?_
  rintro e w6 ⟨⟨v6, rfl, hO6⟩, hb6⟩
  obtain ⟨va, vc, rfl, hrow, -⟩ := hO6.row
  rw [HSUl.out] at hrow ⊢
  have HB6 : Hid (Below w5.heap.size w5 w6) := btr HD.out hb6
  have RS : Hid (IRow .i64 w6 va NB vc SU) := hrow
  refine ⟨_, rfl, ?_⟩
  clear hO6 hb6 hrow HTo HD
  refine stepR 8 HB6.out (by kernel_rfl) rfl rfl (.tuple #[.slice va NB vc, .int .i64 0]) w6 (by kernel_rfl) ?_
  refine takeC 9 (v := .slice va NB vc) rfl rfl (by kernel_rfl) (by kernel_rfl) (by kernel_rfl) (fun _ _ _ h => h) (fun _ => rfl) rfl (fun w' hw' => by kernel_rfl) ?_
  refine takeC 10 (v := .int .i64 0) rfl rfl (by kernel_rfl) (by kernel_rfl) (by kernel_rfl) (fun _ _ _ h => h) (fun _ => rfl) rfl (fun w' hw' => by kernel_rfl) ?_
  refine stepR 11 HB6.out (by kernel_rfl) rfl rfl (.slice va NB vc) w6 (by kernel_rfl) ?_
  refine stepR 12 HB6.out (by kernel_rfl) rfl rfl (.int .i64 0) w6 (by kernel_rfl) ?_
  refine doneC HB6.out (by kernel_rfl) ?_ _
  have S6 : Hid (St W w6 [(ob, #[.int .i64 (O i 0), .int .i64 (O i 1), .int .i64 (O i 2), .int .i64 (O i 3), .int .i64 (O i 4), .int .i64 (O i 5), .int .i64 (O i 6), .int .i64 (O i 7), .int .i64 (O i 8), .int .i64 (O i 9), .int .i64 (O i 10), .int .i64 (O i 11), .slice wa lw cw, .slice ba lb cb, .int .i64 (O i 14), .int .i64 (O i 15), .int .i64 (O i 16), .int .i64 (O i 17), .int .i64 (O i 18), .int .i64 (O i 19), .int .i64 (O i 20), .int .i64 (O i 21)], 39), (b8, #[.int .i64 0, .int .i64 A, .int .i64 0], 51), (mb, #[.int .i64 h, .int .i64 w, .int .i64 c, .int .i64 lo, .int .i64 hi, .slice (some x) on oc, .int .i64 ot], 26), (W.heap.size, #[.int .i64 h, .int .i64 w, .int .i64 c, .int .i64 lo, .int .i64 hi, .slice (some x) on oc, .int .i64 ot, .slice ad n cap, .int .i64 ((i : Int) + 1), .int .i64 pick], 48)]) := S5.out.call HB6.out
  obtain ⟨-, -, -, -, -, -, c1, f1, z1, -⟩ := S6.out.rules
  have hv64 : NB ≤ vc ∧ vc ≤ 9223372036854775807 := ⟨RS.out.2.1, by have := RS.out.2.2.1; unfold maxLen at this; omega⟩
  have hv65 := hv64.1
  have hv66 := hv64.2
  clear hv64
  go_wp2_with fail
  refine Calls.mono (lenT_ok h w c lo hi ot (some x) on oc O Z B w6 (HL.out.below S6.out.below) RL Rw HR.out i x wa lw cw ba lb cb x0 y0 z0 H V C (HF.out.below S6.out.below)) ?_
  rintro e w7 ⟨rfl, hb⟩
  have HB7 : Hid (Below w5.heap.size w5 w7) := btr HB6.out hb
  have RS7 : Hid (IRow .i64 w7 va NB vc SU) := RS.out.below hb
  have S7 : Hid (St W w7 [(ob, #[.int .i64 (O i 0), .int .i64 (O i 1), .int .i64 (O i 2), .int .i64 (O i 3), .int .i64 (O i 4), .int .i64 (O i 5), .int .i64 (O i 6), .int .i64 (O i 7), .int .i64 (O i 8), .int .i64 (O i 9), .int .i64 (O i 10), .int .i64 (O i 11), .slice wa lw cw, .slice ba lb cb, .int .i64 (O i 14), .int .i64 (O i 15), .int .i64 (O i 16), .int .i64 (O i 17), .int .i64 (O i 18), .int .i64 (O i 19), .int .i64 (O i 20), .int .i64 (O i 21)], 39), (b8, #[.int .i64 0, .int .i64 A, .int .i64 0], 51), (mb, #[.int .i64 h, .int .i64 w, .int .i64 c, .int .i64 lo, .int .i64 hi, .slice (some x) on oc, .int .i64 ot], 26), (W.heap.size, #[.int .i64 h, .int .i64 w, .int .i64 c, .int .i64 lo, .int .i64 hi, .slice (some x) on oc, .int .i64 ot, .slice ad n cap, .int .i64 ((i : Int) + 1), .int .i64 pick], 48)]) := S6.out.call hb
  clear hb c1 f1 z1 S6 HB6 RS
  obtain ⟨-, -, -, -, -, -, c1, f1, z1, -⟩ := S7.out.rules
  obtain ⟨SR, hSR⟩ : ∃ SR, stR (O i 0) (O i 4) (O i 5) x0 y0 z0 = SR := ⟨_, rfl⟩
  rw [hSR] at hst ⊢
  have HSR : Hid (stR (O i 0) (O i 4) (O i 5) x0 y0 z0 = SR) := hSR
  clear hSR
  go_wp2_with fail
  refine Calls.mono (chaT_ok h w c lo hi ot (some x) on oc O Z B w7 (HL.out.below S7.out.below) RL Rw HR.out i x wa lw cw ba lb cb x0 y0 z0 H V C (HF.out.below S7.out.below)) ?_
  rintro e w8 ⟨rfl, hb⟩
  have HB8 : Hid (Below w5.heap.size w5 w8) := btr HB7.out hb
  have RS8 : Hid (IRow .i64 w8 va NB vc SU) := RS7.out.below hb
  have S8 : Hid (St W w8 [(ob, #[.int .i64 (O i 0), .int .i64 (O i 1), .int .i64 (O i 2), .int .i64 (O i 3), .int .i64 (O i 4), .int .i64 (O i 5), .int .i64 (O i 6), .int .i64 (O i 7), .int .i64 (O i 8), .int .i64 (O i 9), .int .i64 (O i 10), .int .i64 (O i 11), .slice wa lw cw, .slice ba lb cb, .int .i64 (O i 14), .int .i64 (O i 15), .int .i64 (O i 16), .int .i64 (O i 17), .int .i64 (O i 18), .int .i64 (O i 19), .int .i64 (O i 20), .int .i64 (O i 21)], 39), (b8, #[.int .i64 0, .int .i64 A, .int .i64 0], 51), (mb, #[.int .i64 h, .int .i64 w, .int .i64 c, .int .i64 lo, .int .i64 hi, .slice (some x) on oc, .int .i64 ot], 26), (W.heap.size, #[.int .i64 h, .int .i64 w, .int .i64 c, .int .i64 lo, .int .i64 hi, .slice (some x) on oc, .int .i64 ot, .slice ad n cap, .int .i64 ((i : Int) + 1), .int .i64 pick], 48)]) := S7.out.call hb
  clear hb c1 f1 z1 S7 HB7 RS7
  have p8 := K3.out w8 HB8.out
  have n0 : ((NB : Int) == 0) = false := by simp; omega
  have n1 : ¬ C < 1 := by omega
  have n2 : (i : Int) + 1 < (on : Int) + 1 := by omega
  go_upto_region 18 with fail
  obtain ⟨k, hk, hkn⟩ : ∃ k : Nat, wrap64 ((IntKind.u64.wrap pick).tmod (NB : Int)) = (k : Int) ∧ k < NB := by
    have u0 : 0 ≤ IntKind.u64.wrap pick := by simp [IntKind.wrap, IntKind.bits, IntKind.signed]; omega
    have m0 : 0 ≤ (IntKind.u64.wrap pick).tmod (NB : Int) := Int.tmod_nonneg _ u0
    have m1 : (IntKind.u64.wrap pick).tmod (NB : Int) < (NB : Int) := Int.tmod_lt_of_pos _ (by omega)
    refine ⟨((IntKind.u64.wrap pick).tmod (NB : Int)).toNat, ?_, by omega⟩
    rw [IntWalk.wrap64_in _ ⟨by omega, by omega⟩]
    omega
  rw [hk]
  obtain ⟨hSb, hSap, hSv, hch, hat⟩ := HNum.out k hkn _ rfl
  have hSk := HSU.out k hkn
  have eq1 : (k : Int).tmod C = (k : Int) % C := Int.tmod_eq_emod_of_nonneg (by omega)
  have eq2 : (k : Int).tdiv C = (k : Int) / C := Int.tdiv_eq_ediv_of_nonneg (by omega)
  obtain ⟨ch, hche⟩ : ∃ ch, (k : Int) % C + 1 = ch := ⟨_, rfl⟩
  obtain ⟨at', hate⟩ : ∃ at', (k : Int) / C = at' := ⟨_, rfl⟩
  rw [hche] at hSb hSap hSv hch hSk
  rw [hate] at hSb hSap hSv hat hSk
  have E1 : Hid ((k : Int).tmod C + 1 = ch) := by unfold Hid; rw [eq1]; exact hche
  have E2 : Hid ((k : Int).tdiv C = at') := by unfold Hid; rw [eq2]; exact hate
  have e0 := Int.emod_nonneg (k : Int) (show C ≠ 0 by omega)
  have HOf : Hid (∀ w', Below W.heap.size W w' → _) := fun w' hb => of_ok h w c lo hi ot (some x) on oc O Z B w' (HL.out.below hb) ch at' RL Rw HR.out i x wa lw cw ba lb cb x0 y0 z0 H V C (HF.out.below hb) hch hat
  obtain ⟨LT, hLT⟩ : ∃ LT, siL (O i 0) (O i 4) (O i 5) (O i 6) (O i 7) (O i 8) (O i 9) (O i 10) (O i 11) x0 y0 z0 ch at' (Z i) = LT := ⟨_, rfl⟩
  obtain ⟨bi, hbi⟩ : ∃ bi, biA (O i 0) ch (B i) = bi := ⟨_, rfl⟩
  have hsuE : suA (O i 0) (O i 4) (O i 5) (O i 6) (O i 7) (O i 8) (O i 9) (O i 10) (O i 11) x0 y0 z0 (O i 19) (Z i) (B i) TA ch at' = bi + smV (O i 19) TA LT := by unfold suA; rw [hLT, hbi]
  rw [hsuE] at hSb hSap hSv hSk
  rw [hLT, hbi] at HOf
  have hLf := siL_facts HF.out.2.2.2.2.2.2.2.2.2.1 HF.out.2.2.2.2.2.1.2.2.2.1 hch at'
  have hbb := biA_bd (k := O i 0) (ch := ch) HF.out.2.2.2.2.2.2.1.2.2.2.1
  rw [hLT] at hLf
  rw [hbi] at hbb
  have HLf : Hid _ := hLf
  have HSb : Hid _ := hSb
  have HSap : Hid _ := hSap
  have HSv : Hid _ := hSv
  have HSk : Hid _ := hSk
  have HW1 : Hid (IntKind.i64.wrap ((k : Int).tmod C + 1) = ch) := by unfold Hid; rw [E1.out]; exact w64 ⟨by omega, by omega⟩
  have HW2 : Hid (IntKind.i64.wrap ((k : Int) / C) = at') := by unfold Hid; rw [hate]; have := HVb.out; exact w64 ⟨by omega, by omega⟩
  have HW3 : Hid (IntKind.i64.wrap ((k : Int).tmod C) = (k : Int).tmod C) := by unfold Hid; rw [eq1]; exact w64 ⟨by omega, by omega⟩
  clear hk hSb hSap hSv hSk hche hate eq1 eq2 e0 hLT hbi hsuE hLf hch hat n0 n1 p8
  refine regionC (fun w' => Below w8.heap.size w8 w') (by kernel_rfl) ?_
  obtain ⟨wd, hwd⟩ : ∃ wd, w8.drew = wd := ⟨_, rfl⟩
  have HD : Hid (Below w8.heap.size w8 wd) := by unfold Hid; rw [← hwd]; exact (Below.refl _ _).drew
  rw [hwd]
  clear hwd
  have hC0 : ¬ C = 0 := by omega
  refine takeC 0 (v := .agg #[.int .i64 h, .int .i64 w, .int .i64 c, .int .i64 lo, .int .i64 hi, .slice (some x) on oc, .int .i64 ot]) rfl rfl (by kernel_rfl) (by kernel_rfl) (by kernel_rfl) (fun _ _ _ h => h) (fun _ => rfl) rfl (fun w' hw' => run_la 26 (.tmp 3) rfl ⟨mb, 0, none⟩ (by kernel_rfl) [.int .i64 h, .int .i64 w, .int .i64 c, .int .i64 lo, .int .i64 hi, .slice (some x) on oc, .int .i64 ot] _ (K0.out w' (btr HB8.out hw')) Try.underlying26 rfl (by kernel_rfl)) ?_
  refine takeC 1 (v := .int .i64 ((i : Int) + 1)) rfl rfl (by kernel_rfl) (by kernel_rfl) (by kernel_rfl) (fun _ _ _ h => h) (fun _ => rfl) rfl (fun w' hw' => by go_simp) ?_
  refine takeC 2 (v := .int .i64 (k : Int)) rfl rfl (by kernel_rfl) (by kernel_rfl) (by kernel_rfl) (fun _ _ _ h => h) (fun _ => rfl) rfl (fun w' hw' => by go_simp) ?_
  refine takeC 3 (v := .int .i64 C) rfl rfl (by kernel_rfl) (by kernel_rfl) (by kernel_rfl) (fun _ _ _ h => h) (fun _ => rfl) rfl (fun w' hw' => by go_simp) ?_
  refine takeC 4 (v := .int .i64 ((k : Int).tmod C)) rfl rfl (by kernel_rfl) (by kernel_rfl) (by kernel_rfl) (fun _ _ _ h => h) (fun _ => rfl) rfl (fun w' hw' => by have h3 := HW3.out; go_simp) ?_
  refine takeC 5 (v := .int .i64 ch) rfl rfl (by kernel_rfl) (by kernel_rfl) (by kernel_rfl) (fun _ _ _ h => h) (fun _ => rfl) rfl (fun w' hw' => by have h3 := HW1.out; go_simp) ?_
  refine takeC 6 (v := .int .i64 (k : Int)) rfl rfl (by kernel_rfl) (by kernel_rfl) (by kernel_rfl) (fun _ _ _ h => h) (fun _ => rfl) rfl (fun w' hw' => by go_simp) ?_
  refine takeC 7 (v := .int .i64 C) rfl rfl (by kernel_rfl) (by kernel_rfl) (by kernel_rfl) (fun _ _ _ h => h) (fun _ => rfl) rfl (fun w' hw' => by go_simp) ?_
  refine takeC 8 (v := .int .i64 at') rfl rfl (by kernel_rfl) (by kernel_rfl) (by kernel_rfl) (fun _ _ _ h => h) (fun _ => rfl) rfl (fun w' hw' => by have h3 := HW2.out; go_simp) ?_
  refine stepK 9 HD.out (by kernel_rfl) rfl rfl 13 #[.agg #[.int .i64 h, .int .i64 w, .int .i64 c, .int .i64 lo, .int .i64 hi, .slice (some x) on oc, .int .i64 ot], .int .i64 ((i : Int) + 1), .int .i64 ch, .int .i64 at'] (by kernel_rfl) (HOf.out wd (btr S8.out.below HD.out)) ?_
  rintro e w9 ⟨⟨v9, rfl, hO9⟩, hb9⟩
  have hT9 := hO9.tv
  obtain ⟨al, cl, rfl, hcl1, hcl2, hcl3⟩ := id hT9
  have HB9 : Hid (Below w8.heap.size w8 w9) := btr HD.out hb9
  have HT9 : Hid (TV w9 (.slice al LT.length cl) LT) := hT9
  refine ⟨_, rfl, ?_⟩
  clear hO9 hb9 hT9 HOf HD hcl3
  refine stepR 10 HB9.out (by kernel_rfl) rfl rfl (.tuple #[.slice al LT.length cl, .int .i64 bi, .int .i64 0]) w9 (by kernel_rfl) ?_
  refine takeC 11 (v := .slice al LT.length cl) rfl rfl (by kernel_rfl) (by kernel_rfl) (by kernel_rfl) (fun _ _ _ h => h) (fun _ => rfl) rfl (fun w' hw' => by kernel_rfl) ?_
  refine takeC 12 (v := .int .i64 bi) rfl rfl (by kernel_rfl) (by kernel_rfl) (by kernel_rfl) (fun _ _ _ h => h) (fun _ => rfl) rfl (fun w' hw' => by kernel_rfl) ?_
  refine takeC 13 (v := .int .i64 0) rfl rfl (by kernel_rfl) (by kernel_rfl) (by kernel_rfl) (fun _ _ _ h => h) (fun _ => rfl) rfl (fun w' hw' => by kernel_rfl) ?_
  refine stepR 14 HB9.out (by kernel_rfl) rfl rfl (.slice al LT.length cl) w9 (by kernel_rfl) ?_
  refine stepR 15 HB9.out (by kernel_rfl) rfl rfl (.int .i64 bi) w9 (by kernel_rfl) ?_
  refine stepR 16 HB9.out (by kernel_rfl) rfl rfl (.int .i64 0) w9 (by kernel_rfl) ?_
  refine doneC HB9.out (by kernel_rfl) ?_ _
  obtain ⟨NL, hNL⟩ : ∃ NL, LT.length = NL := ⟨_, rfl⟩
  have HNL : Hid (LT.length = NL) := hNL
  have hNL5 : NL ≤ 512 := by rw [← hNL]; exact HLf.out.1
  rw [hNL] at hcl1 ⊢
  unfold maxLen at hcl2
  clear hNL
  have HB95 : Hid (Below w5.heap.size w5 w9) := btr HB8.out HB9.out
  have S9 : Hid (St W w9 [(ob, #[.int .i64 (O i 0), .int .i64 (O i 1), .int .i64 (O i 2), .int .i64 (O i 3), .int .i64 (O i 4), .int .i64 (O i 5), .int .i64 (O i 6), .int .i64 (O i 7), .int .i64 (O i 8), .int .i64 (O i 9), .int .i64 (O i 10), .int .i64 (O i 11), .slice wa lw cw, .slice ba lb cb, .int .i64 (O i 14), .int .i64 (O i 15), .int .i64 (O i 16), .int .i64 (O i 17), .int .i64 (O i 18), .int .i64 (O i 19), .int .i64 (O i 20), .int .i64 (O i 21)], 39), (b8, #[.int .i64 0, .int .i64 A, .int .i64 0], 51), (mb, #[.int .i64 h, .int .i64 w, .int .i64 c, .int .i64 lo, .int .i64 hi, .slice (some x) on oc, .int .i64 ot], 26), (W.heap.size, #[.int .i64 h, .int .i64 w, .int .i64 c, .int .i64 lo, .int .i64 hi, .slice (some x) on oc, .int .i64 ot, .slice ad n cap, .int .i64 ((i : Int) + 1), .int .i64 pick], 48)]) := S8.out.call HB9.out
  have RS9 : Hid (IRow .i64 w9 va NB vc SU) := RS8.out.below HB9.out
  clear HB9 HB8 S8 RS8
  go_wp2
  go_loopw [18, 157] (fun sm iv wr => ∃ y : Nat, y ≤ NL ∧ iv = .int .i64 y ∧ sm = .int .i64 (bi + smV (O i 19) TA (LT.take y)) ∧ Below w9.heap.size w9 wr) (fun _ iv _ => NL - (intOf iv).toNat)
  case atStart => exact ⟨0, Nat.zero_le _, rfl, by simp [smV], Below.refl _ _⟩
  case round =>
    obtain ⟨y, hy, rfl, rfl, hb⟩ := hrel
    have SR9 : Hid (St W wr [(ob, #[.int .i64 (O i 0), .int .i64 (O i 1), .int .i64 (O i 2), .int .i64 (O i 3), .int .i64 (O i 4), .int .i64 (O i 5), .int .i64 (O i 6), .int .i64 (O i 7), .int .i64 (O i 8), .int .i64 (O i 9), .int .i64 (O i 10), .int .i64 (O i 11), .slice wa lw cw, .slice ba lb cb, .int .i64 (O i 14), .int .i64 (O i 15), .int .i64 (O i 16), .int .i64 (O i 17), .int .i64 (O i 18), .int .i64 (O i 19), .int .i64 (O i 20), .int .i64 (O i 21)], 39), (b8, #[.int .i64 0, .int .i64 A, .int .i64 0], 51), (mb, #[.int .i64 h, .int .i64 w, .int .i64 c, .int .i64 lo, .int .i64 hi, .slice (some x) on oc, .int .i64 ot], 26), (W.heap.size, #[.int .i64 h, .int .i64 w, .int .i64 c, .int .i64 lo, .int .i64 hi, .slice (some x) on oc, .int .i64 ot, .slice ad n cap, .int .i64 ((i : Int) + 1), .int .i64 pick], 48)]) := S9.out.call hb
    have HBr : Hid (Below w9.heap.size w9 wr) := hb
    have HB5r : Hid (Below w5.heap.size w5 wr) := btr HB95.out hb
    by_cases hly : y < NL
    · obtain ⟨al', cl', eal, -, -, hc0⟩ := HT9.out.below hb
      cases eal
      obtain ⟨g, rfl, hc⟩ := hc0 (by rw [HNL.out]; omega)
      obtain ⟨q1, q2⟩ := TV.at hc (show y < LT.length by rw [HNL.out]; exact hly)
      obtain ⟨A1, A2, hA⟩ : ∃ A1 A2, LT.getD y (0, 0) = (A1, A2) := ⟨_, _, rfl⟩
      rw [hA] at q1 q2
      simp only at q1 q2
      have hmem : (A1, A2) ∈ LT := by
        rw [← hA, List.getD_eq_getElem?_getD, List.getElem?_eq_getElem (by rw [HNL.out]; exact hly)]
        exact List.getElem_mem _
      obtain ⟨⟨w1', w2'⟩, hat⟩ := HLf.out.2 _ hmem
      have hS := smV_take (p := O i 19) (x := TA) (show y < LT.length by rw [HNL.out]; exact hly) hA
      have b1 := smV_bd hp19 HA8.out (LT.take y) (take_mem (fun t ht => (HLf.out.2 t ht).1) y)
      have b2 := smT_bd hp19 HA8.out (t := (A1, A2)) ⟨w1', w2'⟩
      have hty : (LT.take y).length ≤ 512 := by rw [List.length_take]; omega
      simp only at w1' w2' hat
      have p2 := K2.out wr HB5r.out
      have d1 := K1.out wr HB5r.out
      obtain ⟨cc, -, zo, -⟩ := SR9.out.rules
      have d19 : wr.cell? ⟨ob, 19, none⟩ = some (.int .i64 (O i 19)) := cc 19
      clear cc
      obtain ⟨tv, htv⟩ : ∃ tv, smT (O i 19) TA (A1, A2) = tv := ⟨_, rfl⟩
      rw [htv] at b2 hS
      have hS2 : bi + smV (O i 19) TA (LT.take (y + 1)) = (bi + smV (O i 19) TA (LT.take y)) + tv := by rw [hS]; omega
      obtain ⟨sv, hsv⟩ : ∃ sv, bi + smV (O i 19) TA (LT.take y) = sv := ⟨_, rfl⟩
      rw [hsv] at hS2 ⊢
      have b1' : -4294967296 ≤ sv ∧ sv ≤ 4294967296 := by omega
      have HS : Hid (bi + smV (O i 19) TA (LT.take (y + 1)) = sv + tv) := hS2
      have hNA0 := HNA3.out
      clear hS hS2 b1 hsv hmem hc hA hc0 hty S9 RS9 HB95 HNum HSU HSb HSap HSv HSk HF HR HL HX HOk HOk2 HBad hb
      go_upto_region 22 with fail
      obtain ⟨wq, hwq⟩ : ∃ wq, wr.alloc (.cells #[.int .i64 A1, .int .i64 A2] 61) = wq := ⟨_, rfl⟩
      have HBq : Hid (Below wr.heap.size wr wq) := by unfold Hid; rw [← hwq]; exact bal _ _
      have hyb := heap_alloc_new wr (.cells #[.int .i64 A1, .int .i64 A2] 61)
      rw [hwq] at hyb ⊢
      obtain ⟨yb, hybe⟩ : ∃ yb, wr.heap.size = yb := ⟨_, rfl⟩
      rw [hybe] at hyb ⊢
      have y0' : wq.cell? ⟨yb, 0, none⟩ = some (.int .i64 A1) := (cells_at hyb).1 0
      have y1' : wq.cell? ⟨yb, 1, none⟩ = some (.int .i64 A2) := (cells_at hyb).1 1
      have D1 := (HBq.out.cell (World.block_lt_of_cell? wr _ d1)).trans d1
      have D19 := (HBq.out.cell (World.block_lt_of_cell? wr _ d19)).trans d19
      have P2 := (HBq.out.cell (World.block_lt_of_cell? wr _ p2)).trans p2
      have HBw : Hid (Below w9.heap.size w9 wq) := btr HBr.out HBq.out
      clear hwq hybe hyb d1 d19 p2 q1 q2 zo SR9 HBr
      by_cases neg : A2 < 0
      · have e2 : tv = A1 * O i 19 := by rw [← htv]; unfold smT; rw [if_pos neg]
        clear htv hat
        subst e2
        obtain ⟨pp, hpp⟩ : ∃ pp, A1 * O i 19 = pp := ⟨_, rfl⟩
        rw [hpp] at b2 HS
        go_wp2
        go_roundw
        case rel => exact ⟨y + 1, by omega, by go_num, by rw [HS.out], HBw.out⟩
        case measure => simp [intOf]; omega
      · obtain ⟨j, rfl⟩ : ∃ j : Nat, A2 = (j : Int) := ⟨A2.toNat, by omega⟩
        have hj : j < NA := by omega
        obtain ⟨xx, u, rfl, hu, hw8, hz, -⟩ := (RA.out.below (btr HB5r.out HBq.out)).at hj
        obtain ⟨u1, u2⟩ := wf_i8 hw8
        have e2 : tv = A1 * u := by rw [← htv]; unfold smT; simp only; rw [if_neg (by omega), Int.toNat_natCast, List.getD_eq_getElem?_getD, hz]; rfl
        have hj' : (j : Int) < (NA : Int) := by omega
        have wu : IntKind.i64.wrap u = u := w64 ⟨by omega, by omega⟩
        have wp : IntKind.i64.wrap (A1 * u) = A1 * u := by rw [← e2]; exact w64 ⟨by omega, by omega⟩
        have ws : IntKind.i64.wrap (sv + A1 * u) = sv + A1 * u := by rw [← e2]; exact w64 ⟨by omega, by omega⟩
        have qa := RA.out.2.1
        have qb := RA.out.2.2.1
        unfold maxLen at qb
        clear htv hat hz hw8 b2 HB5r
        go_wp2
        go_quiet (fail)
        go_wp2
        go_quiet (fail)
        go_wp2
        go_roundw
        case rel => exact ⟨y + 1, by omega, by go_num, by rw [HS.out, e2], btr HBw.out (dbel _ _)⟩
        case measure => simp [intOf]; omega
    · obtain rfl : y = NL := by omega
      have hfull : LT.take y = LT := List.take_of_length_le (by rw [HNL.out]; exact Nat.le_refl _)
      rw [hfull]
      obtain ⟨S, hS⟩ : ∃ S, bi + smV (O i 19) TA LT = S := ⟨_, rfl⟩
      rw [hS] at HSb HSap HSv HSk ⊢
      have hSb := HSb.out
      have RSr : Hid (IRow .i64 wr va NB vc SU) := RS9.out.below hb
      clear hfull hS hb S9 RS9 HB95 HNum HSU
      obtain ⟨c1, f1, z1, -⟩ := SR9.out.rules
      go_wp2_with fail
      refine Calls.mono (Fx.apply_any S (O i 14) (O i 15) wr) ?_
      rintro e w10 ⟨rfl, hb⟩
      have S10 : Hid (St W w10 [(ob, #[.int .i64 (O i 0), .int .i64 (O i 1), .int .i64 (O i 2), .int .i64 (O i 3), .int .i64 (O i 4), .int .i64 (O i 5), .int .i64 (O i 6), .int .i64 (O i 7), .int .i64 (O i 8), .int .i64 (O i 9), .int .i64 (O i 10), .int .i64 (O i 11), .slice wa lw cw, .slice ba lb cb, .int .i64 (O i 14), .int .i64 (O i 15), .int .i64 (O i 16), .int .i64 (O i 17), .int .i64 (O i 18), .int .i64 (O i 19), .int .i64 (O i 20), .int .i64 (O i 21)], 39), (b8, #[.int .i64 0, .int .i64 A, .int .i64 0], 51), (mb, #[.int .i64 h, .int .i64 w, .int .i64 c, .int .i64 lo, .int .i64 hi, .slice (some x) on oc, .int .i64 ot], 26), (W.heap.size, #[.int .i64 h, .int .i64 w, .int .i64 c, .int .i64 lo, .int .i64 hi, .slice (some x) on oc, .int .i64 ot, .slice ad n cap, .int .i64 ((i : Int) + 1), .int .i64 pick], 48)]) := SR9.out.call hb
      have HB10 : Hid (Below w5.heap.size w5 w10) := btr HB5r.out hb
      have RS10 : Hid (IRow .i64 w10 va NB vc SU) := RSr.out.below hb
      clear hb c1 f1 z1 SR9 HBr HB5r RSr
      have hFin : ∀ v, Calls Try.prog 16 #[.int .i64 v, .int .i64 (O i 18), .int .i64 (O i 20), .int .i64 (O i 21)] w10 fun e w' => e = .returned (.tuple #[.int .i64 (Fx.fiV v (O i 18) (O i 20) (O i 21)), .int .i64 0]) ∧ w' = w10 := fun v => by
        have := Fx.finish_any v (O i 18) (O i 20) (O i 21) w10
        rw [hfiE] at this
        exact this
      have HFin : Hid (∀ v, Calls _ _ _ _ _) := hFin
      have HFE : Hid (Fx.fiE (O i 18) (O i 20) (O i 21) = 0) := hfiE
      clear hFin hfiE
      obtain ⟨c1, f1, z1, -⟩ := S10.out.rules
      have pB := K3.out w10 HB10.out
      obtain ⟨x1, u1, rfl, hu1, -, hz1, -⟩ := RS10.out.at hkn
      obtain ⟨x2, u2, rfl, hu2, hw2, hz2, -⟩ := (RB.out.below HB10.out).at hkn
      have es : u1 = S := by
        have := HSk.out
        rw [List.getD_eq_getElem?_getD, hz1] at this
        exact this
      subst es
      have hsv := HSv.out
      rw [List.getD_eq_getElem?_getD, hz2] at hsv
      simp only [Option.getD_some] at hsv
      have hu8 := wf_i8 hw2
      have wu : IntKind.i64.wrap u2 = u2 := w64 ⟨by have := hu8.1; omega, by have := hu8.2; omega⟩
      have HBe : Hid (Below W.heap.size W w10) := S10.out.below
      clear hz1 hz2 hw2 hu8 RS10 HSk HSv
      by_cases h4 : O i 0 = 4
      · have h4' : (O i 0 == 4) = true := by simp [h4]
        rw [if_pos h4] at hsv
        obtain ⟨hm1, hm2⟩ := HME.out h4
        rw [HSR.out] at hm1
        rw [← hm1] at hsv hm2
        obtain ⟨AV, hAV⟩ : ∃ AV, Fx.apV u1 (O i 14) (O i 15) = AV := ⟨_, rfl⟩
        obtain ⟨AE, hAE⟩ : ∃ AE, Fx.apE u1 (O i 14) (O i 15) = AE := ⟨_, rfl⟩
        rw [hAV, hAE]
        have hMn := Fx.mean_any u1 SR w10 ⟨by omega, by omega⟩ ⟨by omega, by omega⟩
        rw [hm2] at hMn
        obtain ⟨MV, hMV⟩ : ∃ MV, Fx.meV u1 SR = MV := ⟨_, rfl⟩
        rw [hMV] at hsv hMn
        have HMn : Hid (Calls _ _ _ _ _) := hMn
        obtain ⟨FV, hFV⟩ : ∃ FV, Fx.fiV MV (O i 18) (O i 20) (O i 21) = FV := ⟨_, rfl⟩
        have hF2 : ∀ w', Calls Try.prog 16 #[.int .i64 MV, .int .i64 (O i 18), .int .i64 (O i 20), .int .i64 (O i 21)] w' fun e w'' => e = .returned (.tuple #[.int .i64 FV, .int .i64 0]) ∧ w'' = w' := fun w' => by
          have := Fx.finish_any MV (O i 18) (O i 20) (O i 21) w'
          rw [HFE.out, hFV] at this
          exact this
        rw [hFV] at hsv
        have HF2 : Hid (∀ w' : World, Calls _ _ _ _ _) := hF2
        subst hsv
        clear hAV hAE hMV hFV hF2 hMn HFin hm1 hm2 h4
        go_wp2_with fail
        refine Calls.mono HMn.out ?_
        rintro e w11 ⟨rfl, hb⟩
        have HB11 : Hid (Below W.heap.size W w11) := btr HBe.out hb
        have S11 : Hid (St W w11 [(ob, #[.int .i64 (O i 0), .int .i64 (O i 1), .int .i64 (O i 2), .int .i64 (O i 3), .int .i64 (O i 4), .int .i64 (O i 5), .int .i64 (O i 6), .int .i64 (O i 7), .int .i64 (O i 8), .int .i64 (O i 9), .int .i64 (O i 10), .int .i64 (O i 11), .slice wa lw cw, .slice ba lb cb, .int .i64 (O i 14), .int .i64 (O i 15), .int .i64 (O i 16), .int .i64 (O i 17), .int .i64 (O i 18), .int .i64 (O i 19), .int .i64 (O i 20), .int .i64 (O i 21)], 39), (b8, #[.int .i64 0, .int .i64 A, .int .i64 0], 51), (mb, #[.int .i64 h, .int .i64 w, .int .i64 c, .int .i64 lo, .int .i64 hi, .slice (some x) on oc, .int .i64 ot], 26), (W.heap.size, #[.int .i64 h, .int .i64 w, .int .i64 c, .int .i64 lo, .int .i64 hi, .slice (some x) on oc, .int .i64 ot, .slice ad n cap, .int .i64 ((i : Int) + 1), .int .i64 pick], 48)]) := S10.out.call hb
        have pB11 := K3.out w11 (btr HB10.out hb)
        have hu1' := (hb.cell (World.block_lt_of_cell? w10 _ hu1)).trans hu1
        have hu2' := (hb.cell (World.block_lt_of_cell? w10 _ hu2)).trans hu2
        clear hb c1 f1 z1 pB hu1 hu2
        obtain ⟨c1, f1, z1, -⟩ := S11.out.rules
        clear S11 S10
        go_wp2_with fail
        refine Calls.mono (HF2.out w11) ?_
        rintro e w12 ⟨rfl, rfl⟩
        go_wp2
        go_ret
        exact ⟨rfl, HB11.out⟩
      · clear S10 HB10
        have h4' : (O i 0 == 4) = false := by simp [h4]
        rw [if_neg h4] at hsv
        rw [HSap.out h4]
        obtain ⟨AV, hAV⟩ : ∃ AV, Fx.apV u1 (O i 14) (O i 15) = AV := ⟨_, rfl⟩
        rw [hAV] at hsv ⊢
        obtain ⟨FV, hFV⟩ : ∃ FV, Fx.fiV AV (O i 18) (O i 20) (O i 21) = FV := ⟨_, rfl⟩
        have hF2 := HFin.out AV
        rw [hFV] at hsv hF2
        have HF2 : Hid (Calls _ _ _ _ _) := hF2
        subst hsv
        clear hAV hFV hF2 HFin
        go_wp2_with fail
        refine Calls.mono HF2.out ?_
        rintro e w11 ⟨rfl, rfl⟩
        go_wp2
        go_ret
        exact ⟨rfl, HBe.out⟩
theorem plainSteps_walk (h w c lo hi : Int) (oa : Option Addr) (on oc : Nat) (ot : Int) (ad : Option Addr) (n cap : Nat) (xs : List Int) (op pick : Int) (W : World) (_ : (Lit.int .i64 h).wf = true) (_ : (Lit.int .i64 w).wf = true) (_ : (Lit.int .i64 c).wf = true) (_ : (Lit.int .i64 lo).wf = true) (_ : (Lit.int .i64 hi).wf = true)
    (wo : ORow 22 (OpIn W) W oa on oc) (hr : on * 208 ≤ 140737488351232) (_ : (Lit.int .i64 ot).wf = true) (hX : IRow .i8 W ad n cap xs) (hrx : n * 1 ≤ 140737488351232) (_ : (Lit.int .i64 op).wf = true) (_ : (Lit.int .i64 pick).wf = true) :
    Calls Try.prog 4 #[.agg #[.int .i64 h, .int .i64 w, .int .i64 c, .int .i64 lo, .int .i64 hi, .slice oa on oc, .int .i64 ot, .slice ad n cap, .int .i64 op, .int .i64 pick]] W fun e w' => e = .returned (.bool true) ∧ Below W.heap.size W w' := by
  obtain ⟨O, Z, B, hL⟩ := lrow_of wo
  have hon : on ≤ 1000000000000 := by omega
  obtain ⟨Re, Ra, RL, Rw, hR⟩ : ∃ Re Ra RL Rw, gtR O h w c lo hi ot on = (Re, Ra, RL, Rw) := ⟨_, _, _, _, rfl⟩
  by_cases he : Re = 0
  · subst he
    obtain ⟨rfl, -, h64, -, -, -⟩ := gtR_ok hR
    cases hin : inB h w c lo hi xs with
    | false => exact steps_w h w c lo hi ot oa on oc O Z B W hL hon ad n cap xs hX op pick 220 0 [] (fun q => by cases q) Rw RL (fun q => by cases q) (fun _ => rfl) (fun W' hb => (tensors_in h w c lo hi ot oa on oc O Z B W' (hL.below hb) ad n cap xs (hX.below hb) Rw RL hR hin).mono fun e w' ⟨q1, q2⟩ => ⟨⟨_, q1, (fun q => by cases q), (fun _ => rfl)⟩, q2⟩)
    | true => exact steps_w h w c lo hi ot oa on oc O Z B W hL hon ad n cap xs hX op pick 0 0 (tnL O Z B RL xs on) (fun _ => tnL_len _ _ _ _ _ _) Rw RL (fun _ => ⟨hR, rfl, (inB_yes hin).1⟩) (fun q => absurd rfl q) (fun W' hb => (tensors_ok h w c lo hi ot oa on oc O Z B W' (hL.below hb) ad n cap xs (hX.below hb) Rw RL hR hin).mono fun e w' ⟨⟨v, q1, q3⟩, q2⟩ => ⟨⟨v, q1, fun _ => q3, fun q => absurd rfl q⟩, q2⟩)
  · exact steps_w h w c lo hi ot oa on oc O Z B W hL hon ad n cap xs hX op pick Re Ra [] (fun q => absurd q he) Rw RL (fun q => absurd q he) (fun _ => rfl) (fun W' hb => (tensors_bad h w c lo hi ot oa on oc O Z B W' (hL.below hb) ad n cap xs (hX.below hb) Re Ra Rw RL hR he).mono fun e w' ⟨q1, q2⟩ => ⟨⟨_, q1, fun q => absurd q he, fun _ => rfl⟩, q2⟩)
end Go.Proofs.Ytdknofbnhjdfjaa
