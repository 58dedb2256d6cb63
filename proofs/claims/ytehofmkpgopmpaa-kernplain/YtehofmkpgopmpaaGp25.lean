/- What values and tensor of package plain return. What tensor of package plain returns. Rows of lists of int8 in memory; slices.Clone. What Tensors of package plain returns. What Eval of package plain returns. What Totals of package plain returns. plain and fixed of law10. The law's own model and fixed answers of layer 11. The document's Same of layer 11, of lists that are the same; faults compared. What Op of package kern returns. -/
import Derived.Test.YtehofmkpgopmpaaGp18
import Derived.Test.YtehofmkpgopmpaaGp19
import Derived.Test.YtehofmkpgopmpaaGp21
import Derived.Test.YtehofmkpgopmpaaGp22
import Derived.Test.YtehofmkpgopmpaaGp23
import Derived.Test.YtehofmkpgopmpaaGp24
import Derived.Lib.SliceRun
/- What values and tensor of package plain return. -/
namespace Go.Proofs.Ytehofmkpgopmpaa
open Go.ChangeShapes Go.WideShapes Go.ChangeAt Go.RowKit
set_option linter.unusedVariables false
theorem two_at {w : World} {g n : Nat} {cur : Array Value} {T : TypeId} {x y : Value} (h : w.heap[g]? = some (.cells cur T (0, 0))) (h0 : cur[n]? = some x) (h1 : cur[n + 1]? = some y) : ∀ q v, [x, y][q]? = some v → w.cell? ((⟨g, n, none⟩ : Addr).add q) = some v := by
  intro q v hq
  rw [Addr.add_lit, (cells_at h).1]
  match q, hq with
  | 0, hq => rw [Nat.add_zero, h0]; exact hq
  | 1, hq => rw [h1]; exact hq
  | q + 2, hq => simp at hq
/-! ### Sums, scaled -/
set_option maxRecDepth 100000 in
set_option maxHeartbeats 4000000 in
theorem values_s (k a b m kh kw sh sw tp lf bt rt : Int) (wa : Option Addr) (lw wc : Nat) (ba : Option Addr) (lb bc : Nat) (sm ss um us z p lo hi h w c H V C : Int) (r : Nat) (W : World) (hr : W.heap[r]? = some (.cells #[.int .i64 k, .int .i64 a, .int .i64 b, .int .i64 m, .int .i64 kh, .int .i64 kw, .int .i64 sh, .int .i64 sw, .int .i64 tp, .int .i64 lf, .int .i64 bt, .int .i64 rt, .slice wa lw wc, .slice ba lb bc, .int .i64 sm, .int .i64 ss, .int .i64 um, .int .i64 us, .int .i64 z, .int .i64 p, .int .i64 lo, .int .i64 hi, .int .i64 h, .int .i64 w, .int .i64 c, .int .i64 H, .int .i64 V, .int .i64 C] 73 (0, 0))) (hk : 1 ≤ k ∧ k ≤ 3) (ad : Option Addr) (n cap : Nat) (bd : Option Addr) (nb capb : Nat) (SS : List Int) (hS : Hid (∀ (w' : World), Below W.heap.size W w' → Calls Try.prog 37 #[.pointer (some ⟨r, 0, none⟩), .slice ad n cap] w' fun e w'' => (∃ v, e = .returned v ∧ Own .i64 2 w'' w'.heap.size v SS) ∧ Below w'.heap.size w' w'')) (hl : SS.length ≤ 1000000) (hbd : ∀ v ∈ SS, -4294967296 ≤ v ∧ v ≤ 4294967296) :
    Calls Try.prog 22 #[.pointer (some ⟨r, 0, none⟩), .slice ad n cap, .slice bd nb capb] W fun e w' => (∃ v, e = .returned v ∧ Own .i64 2 w' W.heap.size v (apL SS sm ss)) ∧ Below W.heap.size W w' := by
  have hrz := lt_of_heap hr
  obtain ⟨c1, f1, z1⟩ := cells_at hr
  have HR : Hid (W.heap[r]? = some (.cells #[.int .i64 k, .int .i64 a, .int .i64 b, .int .i64 m, .int .i64 kh, .int .i64 kw, .int .i64 sh, .int .i64 sw, .int .i64 tp, .int .i64 lf, .int .i64 bt, .int .i64 rt, .slice wa lw wc, .slice ba lb bc, .int .i64 sm, .int .i64 ss, .int .i64 um, .int .i64 us, .int .i64 z, .int .i64 p, .int .i64 lo, .int .i64 hi, .int .i64 h, .int .i64 w, .int .i64 c, .int .i64 H, .int .i64 V, .int .i64 C] 73 (0, 0))) := hr
  have HB : Hid (∀ v ∈ SS, -4294967296 ≤ v ∧ v ≤ 4294967296) := hbd
  have HL : Hid (SS.length ≤ 1000000) := hl
  clear hr hbd hl
  rcases (show k = 1 ∨ k = 2 ∨ k = 3 by omega) with rfl | rfl | rfl
  all_goals
    clear hk
    go_enter Try.func22, Try.ntmps22
    go_wp2
    refine regionC (fun w' => Below W.heap.size W w') (by kernel_rfl) ?_
    obtain ⟨wd, hwd⟩ : ∃ wd, W.drew = wd := ⟨_, rfl⟩
    have HD : Hid (Below W.heap.size W wd) := by unfold Hid; rw [← hwd]; exact (Below.refl _ _).drew
    rw [hwd]
    clear hwd c1 f1
    refine takeC 0 (v := .pointer (some ⟨r, 0, none⟩)) rfl rfl (by kernel_rfl) (by kernel_rfl) (by kernel_rfl) (fun _ _ _ h => h) (fun _ => rfl) rfl (fun w' hw' => by go_simp) ?_
    refine takeC 1 (v := .slice ad n cap) rfl rfl (by kernel_rfl) (by kernel_rfl) (by kernel_rfl) (fun _ _ _ h => h) (fun _ => rfl) rfl (fun w' hw' => by go_simp) ?_
    refine takeC 3 (v := .pointer (some ⟨r, 0, none⟩)) rfl rfl (by kernel_rfl) (by kernel_rfl) (by kernel_rfl) (fun _ _ _ h => h) (fun _ => rfl) rfl (fun w' hw' => by go_simp) ?_
    refine takeC 4 (v := .pointer (some ⟨r, 0, none⟩)) rfl rfl (by kernel_rfl) (by kernel_rfl) (by kernel_rfl) (fun _ _ _ h => h) (fun _ => rfl) rfl (fun w' hw' => by go_simp) ?_
    refine takeC 5 (v := .pointer (some ⟨r, 0, none⟩)) rfl rfl (by kernel_rfl) (by kernel_rfl) (by kernel_rfl) (fun _ _ _ h => h) (fun _ => rfl) rfl (fun w' hw' => by go_simp) ?_
    refine takeC 6 (v := .pointer (some ⟨r, 14, none⟩)) rfl rfl (by kernel_rfl) (by kernel_rfl) (by kernel_rfl) (fun _ _ _ h => h) (fun _ => rfl) rfl (fun w' hw' => by go_simp) ?_
    refine takeC 7 (v := .agg #[.int .i64 sm, .int .i64 ss]) rfl rfl (by kernel_rfl) (by kernel_rfl) (by kernel_rfl) (fun _ _ _ h => h) (fun _ => rfl) rfl (fun w' hw' => run_la 46 (.tmp 22) rfl ⟨r, 14, none⟩ (by kernel_rfl) [.int .i64 sm, .int .i64 ss] _ (two_at ((hw'.block _ hrz).trans HR.out) rfl rfl) Try.underlying46 rfl (by kernel_rfl)) ?_
    refine stepK 2 HD.out (by kernel_rfl) rfl rfl 37 #[.pointer (some ⟨r, 0, none⟩), .slice ad n cap] (by kernel_rfl) (hS.out _ HD.out) ?_
    rintro e w1 ⟨⟨v, rfl, hO⟩, hb1⟩
    obtain ⟨va, vc, rfl, hrow, -⟩ := hO.row
    have HB1 : Hid (Below W.heap.size W w1) := btr HD.out hb1
    have HRw : Hid (IRow .i64 w1 va SS.length vc SS) := hrow
    clear hO hrow hb1
    refine ⟨_, rfl, ?_⟩
    refine stepK 8 HB1.out (by kernel_rfl) rfl rfl 36 #[.slice va SS.length vc, .agg #[.int .i64 sm, .int .i64 ss]] (by kernel_rfl) (scaled_any sm ss va SS.length vc SS w1 HRw.out HL.out HB.out) ?_
    rintro e w2 ⟨⟨v, rfl, hO2⟩, hb2⟩
    have HB2 : Hid (Below W.heap.size W w2) := btr HB1.out hb2
    have HO : Hid (Own .i64 2 w2 W.heap.size v (apL SS sm ss)) := hO2.base HB1.out.size
    clear hO2 hb2
    refine ⟨_, rfl, ?_⟩
    refine stepR 9 HB2.out (by kernel_rfl) rfl rfl v w2 (by kernel_rfl) ?_
    refine doneC HB2.out (by kernel_rfl) ?_ _
    go_wp2
    exact bodyPost_ret (v := v) (by simp [results, Try.results22, go_sem]) rfl ⟨⟨_, rfl, HO.out⟩, HB2.out⟩
/-! ### Means -/
set_option maxRecDepth 100000 in
set_option maxHeartbeats 4000000 in
theorem values_m (a b m kh kw sh sw tp lf bt rt : Int) (wa : Option Addr) (lw wc : Nat) (ba : Option Addr) (lb bc : Nat) (sm ss um us z p lo hi h w c H V C : Int) (r : Nat) (W : World) (hr : W.heap[r]? = some (.cells #[.int .i64 4, .int .i64 a, .int .i64 b, .int .i64 m, .int .i64 kh, .int .i64 kw, .int .i64 sh, .int .i64 sw, .int .i64 tp, .int .i64 lf, .int .i64 bt, .int .i64 rt, .slice wa lw wc, .slice ba lb bc, .int .i64 sm, .int .i64 ss, .int .i64 um, .int .i64 us, .int .i64 z, .int .i64 p, .int .i64 lo, .int .i64 hi, .int .i64 h, .int .i64 w, .int .i64 c, .int .i64 H, .int .i64 V, .int .i64 C] 73 (0, 0))) (ad : Option Addr) (n cap : Nat) (bd : Option Addr) (nb capb : Nat) (SS : List Int) (hS : Hid (∀ (w' : World), Below W.heap.size W w' → Calls Try.prog 37 #[.pointer (some ⟨r, 0, none⟩), .slice ad n cap] w' fun e w'' => (∃ v, e = .returned v ∧ Own .i64 2 w'' w'.heap.size v SS) ∧ Below w'.heap.size w' w'')) (hl : SS.length ≤ 1000000) (hbd : ∀ v ∈ SS, -4294967296 ≤ v ∧ v ≤ 4294967296) (hkh : 1 ≤ kh ∧ kh ≤ 32) (hkw : 1 ≤ kw ∧ kw ≤ 32) :
    Calls Try.prog 22 #[.pointer (some ⟨r, 0, none⟩), .slice ad n cap, .slice bd nb capb] W fun e w' => (∃ v, e = .returned v ∧ Own .i64 2 w' W.heap.size v (meL SS (kh * kw))) ∧ Below W.heap.size W w' := by
  have hrz := lt_of_heap hr
  obtain ⟨c1, f1, z1⟩ := cells_at hr
  have HR : Hid (W.heap[r]? = some (.cells #[.int .i64 4, .int .i64 a, .int .i64 b, .int .i64 m, .int .i64 kh, .int .i64 kw, .int .i64 sh, .int .i64 sw, .int .i64 tp, .int .i64 lf, .int .i64 bt, .int .i64 rt, .slice wa lw wc, .slice ba lb bc, .int .i64 sm, .int .i64 ss, .int .i64 um, .int .i64 us, .int .i64 z, .int .i64 p, .int .i64 lo, .int .i64 hi, .int .i64 h, .int .i64 w, .int .i64 c, .int .i64 H, .int .i64 V, .int .i64 C] 73 (0, 0))) := hr
  have HB : Hid (∀ v ∈ SS, -4294967296 ≤ v ∧ v ≤ 4294967296) := hbd
  have HL : Hid (SS.length ≤ 1000000) := hl
  obtain ⟨q1, q2⟩ := mul_bd hkh.1 hkh.2 hkw.1 hkw.2
  obtain ⟨KK, hKK⟩ : ∃ KK, kh * kw = KK := ⟨_, rfl⟩
  rw [hKK] at q1 q2 ⊢
  have hwK : IntKind.i64.wrap KK = KK := w64 (by omega)
  clear hr hbd hl
  go_enter Try.func22, Try.ntmps22
  go_wp2
  refine regionC (fun w' => Below W.heap.size W w') (by kernel_rfl) ?_
  obtain ⟨wd, hwd⟩ : ∃ wd, W.drew = wd := ⟨_, rfl⟩
  have HD : Hid (Below W.heap.size W wd) := by unfold Hid; rw [← hwd]; exact (Below.refl _ _).drew
  rw [hwd]
  clear hwd c1 f1
  refine takeC 0 (v := .pointer (some ⟨r, 0, none⟩)) rfl rfl (by kernel_rfl) (by kernel_rfl) (by kernel_rfl) (fun _ _ _ h => h) (fun _ => rfl) rfl (fun w' hw' => by go_simp) ?_
  refine takeC 1 (v := .slice ad n cap) rfl rfl (by kernel_rfl) (by kernel_rfl) (by kernel_rfl) (fun _ _ _ h => h) (fun _ => rfl) rfl (fun w' hw' => by go_simp) ?_
  refine takeC 3 (v := .pointer (some ⟨r, 0, none⟩)) rfl rfl (by kernel_rfl) (by kernel_rfl) (by kernel_rfl) (fun _ _ _ h => h) (fun _ => rfl) rfl (fun w' hw' => by go_simp) ?_
  refine takeC 4 (v := .pointer (some ⟨r, 0, none⟩)) rfl rfl (by kernel_rfl) (by kernel_rfl) (by kernel_rfl) (fun _ _ _ h => h) (fun _ => rfl) rfl (fun w' hw' => by go_simp) ?_
  refine takeC 5 (v := .pointer (some ⟨r, 0, none⟩)) rfl rfl (by kernel_rfl) (by kernel_rfl) (by kernel_rfl) (fun _ _ _ h => h) (fun _ => rfl) rfl (fun w' hw' => by go_simp) ?_
  refine takeC 6 (v := .pointer (some ⟨r, 4, none⟩)) rfl rfl (by kernel_rfl) (by kernel_rfl) (by kernel_rfl) (fun _ _ _ h => h) (fun _ => rfl) rfl (fun w' hw' => by go_simp) ?_
  refine takeC 7 (v := .pointer (some ⟨r, 4, none⟩)) rfl rfl (by kernel_rfl) (by kernel_rfl) (by kernel_rfl) (fun _ _ _ h => h) (fun _ => rfl) rfl (fun w' hw' => by go_simp) ?_
  refine takeC 8 (v := .int .i64 kh) rfl rfl (by kernel_rfl) (by kernel_rfl) (by kernel_rfl) (fun _ _ _ h => h) (fun _ => rfl) rfl (fun w' hw' => by have hc := (cells_at ((hw'.block _ hrz).trans HR.out)).1 4; go_simp) ?_
  refine takeC 9 (v := .pointer (some ⟨r, 0, none⟩)) rfl rfl (by kernel_rfl) (by kernel_rfl) (by kernel_rfl) (fun _ _ _ h => h) (fun _ => rfl) rfl (fun w' hw' => by go_simp) ?_
  refine takeC 10 (v := .pointer (some ⟨r, 0, none⟩)) rfl rfl (by kernel_rfl) (by kernel_rfl) (by kernel_rfl) (fun _ _ _ h => h) (fun _ => rfl) rfl (fun w' hw' => by go_simp) ?_
  refine takeC 11 (v := .pointer (some ⟨r, 0, none⟩)) rfl rfl (by kernel_rfl) (by kernel_rfl) (by kernel_rfl) (fun _ _ _ h => h) (fun _ => rfl) rfl (fun w' hw' => by go_simp) ?_
  refine takeC 12 (v := .pointer (some ⟨r, 4, none⟩)) rfl rfl (by kernel_rfl) (by kernel_rfl) (by kernel_rfl) (fun _ _ _ h => h) (fun _ => rfl) rfl (fun w' hw' => by go_simp) ?_
  refine takeC 13 (v := .pointer (some ⟨r, 5, none⟩)) rfl rfl (by kernel_rfl) (by kernel_rfl) (by kernel_rfl) (fun _ _ _ h => h) (fun _ => rfl) rfl (fun w' hw' => by go_simp) ?_
  refine takeC 14 (v := .int .i64 kw) rfl rfl (by kernel_rfl) (by kernel_rfl) (by kernel_rfl) (fun _ _ _ h => h) (fun _ => rfl) rfl (fun w' hw' => by have hc := (cells_at ((hw'.block _ hrz).trans HR.out)).1 5; go_simp) ?_
  refine takeC 15 (v := .int .i64 KK) rfl rfl (by kernel_rfl) (by kernel_rfl) (by kernel_rfl) (fun _ _ _ h => h) (fun _ => rfl) rfl (fun w' hw' => by go_simp) ?_
  refine stepK 2 HD.out (by kernel_rfl) rfl rfl 37 #[.pointer (some ⟨r, 0, none⟩), .slice ad n cap] (by kernel_rfl) (hS.out _ HD.out) ?_
  rintro e w1 ⟨⟨v, rfl, hO⟩, hb1⟩
  obtain ⟨va, vc, rfl, hrow, -⟩ := hO.row
  have HB1 : Hid (Below W.heap.size W w1) := btr HD.out hb1
  have HRw : Hid (IRow .i64 w1 va SS.length vc SS) := hrow
  clear hO hrow hb1
  refine ⟨_, rfl, ?_⟩
  refine stepK 16 HB1.out (by kernel_rfl) rfl rfl 38 #[.slice va SS.length vc, .int .i64 KK] (by kernel_rfl) (means_any KK ⟨q1, by omega⟩ va SS.length vc SS w1 HRw.out HL.out HB.out) ?_
  rintro e w2 ⟨⟨v, rfl, hO2⟩, hb2⟩
  have HB2 : Hid (Below W.heap.size W w2) := btr HB1.out hb2
  have HO : Hid (Own .i64 2 w2 W.heap.size v (meL SS KK)) := hO2.base HB1.out.size
  clear hO2 hb2
  refine ⟨_, rfl, ?_⟩
  refine stepR 17 HB2.out (by kernel_rfl) rfl rfl v w2 (by kernel_rfl) ?_
  refine doneC HB2.out (by kernel_rfl) ?_ _
  go_wp2
  exact bodyPost_ret (v := v) (by simp [results, Try.results22, go_sem]) rfl ⟨⟨_, rfl, HO.out⟩, HB2.out⟩
/-! ### The greatest -/
set_option maxRecDepth 100000 in
set_option maxHeartbeats 4000000 in
theorem values_g (a b m kh kw sh sw tp lf bt rt : Int) (wa : Option Addr) (lw wc : Nat) (ba : Option Addr) (lb bc : Nat) (sm ss um us z p lo hi h w c H V C : Int) (r : Nat) (W : World) (hr : W.heap[r]? = some (.cells #[.int .i64 5, .int .i64 a, .int .i64 b, .int .i64 m, .int .i64 kh, .int .i64 kw, .int .i64 sh, .int .i64 sw, .int .i64 tp, .int .i64 lf, .int .i64 bt, .int .i64 rt, .slice wa lw wc, .slice ba lb bc, .int .i64 sm, .int .i64 ss, .int .i64 um, .int .i64 us, .int .i64 z, .int .i64 p, .int .i64 lo, .int .i64 hi, .int .i64 h, .int .i64 w, .int .i64 c, .int .i64 H, .int .i64 V, .int .i64 C] 73 (0, 0))) (ad : Option Addr) (n cap : Nat) (bd : Option Addr) (nb capb : Nat) (SS : List Int) (hS : Hid (∀ (w' : World), Below W.heap.size W w' → Calls Try.prog 39 #[.pointer (some ⟨r, 0, none⟩), .slice ad n cap] w' fun e w'' => (∃ v, e = .returned v ∧ Own .i64 2 w'' w'.heap.size v SS) ∧ Below w'.heap.size w' w'')) :
    Calls Try.prog 22 #[.pointer (some ⟨r, 0, none⟩), .slice ad n cap, .slice bd nb capb] W fun e w' => (∃ v, e = .returned v ∧ Own .i64 2 w' W.heap.size v SS) ∧ Below W.heap.size W w' := by
  have hrz := lt_of_heap hr
  obtain ⟨c1, f1, z1⟩ := cells_at hr
  have HR : Hid (W.heap[r]? = some (.cells #[.int .i64 5, .int .i64 a, .int .i64 b, .int .i64 m, .int .i64 kh, .int .i64 kw, .int .i64 sh, .int .i64 sw, .int .i64 tp, .int .i64 lf, .int .i64 bt, .int .i64 rt, .slice wa lw wc, .slice ba lb bc, .int .i64 sm, .int .i64 ss, .int .i64 um, .int .i64 us, .int .i64 z, .int .i64 p, .int .i64 lo, .int .i64 hi, .int .i64 h, .int .i64 w, .int .i64 c, .int .i64 H, .int .i64 V, .int .i64 C] 73 (0, 0))) := hr
  clear hr
  go_enter Try.func22, Try.ntmps22
  go_wp2_with fail
  refine (hS.out _ (Below.refl _ _)).mono ?_
  rintro e w1 ⟨⟨v, rfl, hO⟩, hb1⟩
  have HO : Hid (Own .i64 2 w1 W.heap.size v SS) := hO
  clear hO
  go_wp2
  go_ret
  exact ⟨⟨_, rfl, HO.out⟩, hb1⟩
/-! ### Both tensors -/
set_option maxRecDepth 100000 in
set_option maxHeartbeats 4000000 in
theorem values_a (a b m kh kw sh sw tp lf bt rt : Int) (wa : Option Addr) (lw wc : Nat) (ba : Option Addr) (lb bc : Nat) (sm ss um us z p lo hi h w c H V C : Int) (r : Nat) (W : World) (hr : W.heap[r]? = some (.cells #[.int .i64 6, .int .i64 a, .int .i64 b, .int .i64 m, .int .i64 kh, .int .i64 kw, .int .i64 sh, .int .i64 sw, .int .i64 tp, .int .i64 lf, .int .i64 bt, .int .i64 rt, .slice wa lw wc, .slice ba lb bc, .int .i64 sm, .int .i64 ss, .int .i64 um, .int .i64 us, .int .i64 z, .int .i64 p, .int .i64 lo, .int .i64 hi, .int .i64 h, .int .i64 w, .int .i64 c, .int .i64 H, .int .i64 V, .int .i64 C] 73 (0, 0))) (ad : Option Addr) (n cap : Nat) (xs : List Int) (hX : IRow .i8 W ad n cap xs) (hn : n ≤ 1000000) (bd : Option Addr) (capb : Nat) (ys : List Int) (hY : IRow .i8 W bd n capb ys) :
    Calls Try.prog 22 #[.pointer (some ⟨r, 0, none⟩), .slice ad n cap, .slice bd n capb] W fun e w' => (∃ v, e = .returned v ∧ Own .i64 2 w' W.heap.size v (adL (apL xs sm ss) (apL ys um us))) ∧ Below W.heap.size W w' := by
  have hrz := lt_of_heap hr
  obtain ⟨c1, f1, z1⟩ := cells_at hr
  have HR : Hid (W.heap[r]? = some (.cells #[.int .i64 6, .int .i64 a, .int .i64 b, .int .i64 m, .int .i64 kh, .int .i64 kw, .int .i64 sh, .int .i64 sw, .int .i64 tp, .int .i64 lf, .int .i64 bt, .int .i64 rt, .slice wa lw wc, .slice ba lb bc, .int .i64 sm, .int .i64 ss, .int .i64 um, .int .i64 us, .int .i64 z, .int .i64 p, .int .i64 lo, .int .i64 hi, .int .i64 h, .int .i64 w, .int .i64 c, .int .i64 H, .int .i64 V, .int .i64 C] 73 (0, 0))) := hr
  have HX : Hid (IRow .i8 W ad n cap xs) := hX
  have HY : Hid (IRow .i8 W bd n capb ys) := hY
  have hx8 := hX.i8
  have hy8 := hY.i8
  have HX8 : Hid (∀ v ∈ xs, I8 v) := hx8
  have HY8 : Hid (∀ v ∈ ys, I8 v) := hy8
  have hlx := hX.1
  have hly := hY.1
  have HLX : Hid (xs.length = n) := hlx
  have HLY : Hid (ys.length = n) := hly
  clear hr hX hY hx8 hy8 hlx hly
  go_enter Try.func22, Try.ntmps22
  go_wp2
  refine regionC (fun w' => Below W.heap.size W w') (by kernel_rfl) ?_
  obtain ⟨wd, hwd⟩ : ∃ wd, W.drew = wd := ⟨_, rfl⟩
  have HD : Hid (Below W.heap.size W wd) := by unfold Hid; rw [← hwd]; exact (Below.refl _ _).drew
  rw [hwd]
  clear hwd c1 f1
  refine takeC 0 (v := .slice ad n cap) rfl rfl (by kernel_rfl) (by kernel_rfl) (by kernel_rfl) (fun _ _ _ h => h) (fun _ => rfl) rfl (fun w' hw' => by go_simp) ?_
  refine takeC 2 (v := .pointer (some ⟨r, 0, none⟩)) rfl rfl (by kernel_rfl) (by kernel_rfl) (by kernel_rfl) (fun _ _ _ h => h) (fun _ => rfl) rfl (fun w' hw' => by go_simp) ?_
  refine takeC 3 (v := .pointer (some ⟨r, 0, none⟩)) rfl rfl (by kernel_rfl) (by kernel_rfl) (by kernel_rfl) (fun _ _ _ h => h) (fun _ => rfl) rfl (fun w' hw' => by go_simp) ?_
  refine takeC 4 (v := .pointer (some ⟨r, 0, none⟩)) rfl rfl (by kernel_rfl) (by kernel_rfl) (by kernel_rfl) (fun _ _ _ h => h) (fun _ => rfl) rfl (fun w' hw' => by go_simp) ?_
  refine takeC 5 (v := .pointer (some ⟨r, 14, none⟩)) rfl rfl (by kernel_rfl) (by kernel_rfl) (by kernel_rfl) (fun _ _ _ h => h) (fun _ => rfl) rfl (fun w' hw' => by go_simp) ?_
  refine takeC 6 (v := .agg #[.int .i64 sm, .int .i64 ss]) rfl rfl (by kernel_rfl) (by kernel_rfl) (by kernel_rfl) (fun _ _ _ h => h) (fun _ => rfl) rfl (fun w' hw' => run_la 46 (.tmp 56) rfl ⟨r, 14, none⟩ (by kernel_rfl) [.int .i64 sm, .int .i64 ss] _ (two_at ((hw'.block _ hrz).trans HR.out) rfl rfl) Try.underlying46 rfl (by kernel_rfl)) ?_
  refine takeC 8 (v := .slice bd n capb) rfl rfl (by kernel_rfl) (by kernel_rfl) (by kernel_rfl) (fun _ _ _ h => h) (fun _ => rfl) rfl (fun w' hw' => by go_simp) ?_
  refine takeC 10 (v := .pointer (some ⟨r, 0, none⟩)) rfl rfl (by kernel_rfl) (by kernel_rfl) (by kernel_rfl) (fun _ _ _ h => h) (fun _ => rfl) rfl (fun w' hw' => by go_simp) ?_
  refine takeC 11 (v := .pointer (some ⟨r, 0, none⟩)) rfl rfl (by kernel_rfl) (by kernel_rfl) (by kernel_rfl) (fun _ _ _ h => h) (fun _ => rfl) rfl (fun w' hw' => by go_simp) ?_
  refine takeC 12 (v := .pointer (some ⟨r, 0, none⟩)) rfl rfl (by kernel_rfl) (by kernel_rfl) (by kernel_rfl) (fun _ _ _ h => h) (fun _ => rfl) rfl (fun w' hw' => by go_simp) ?_
  refine takeC 13 (v := .pointer (some ⟨r, 16, none⟩)) rfl rfl (by kernel_rfl) (by kernel_rfl) (by kernel_rfl) (fun _ _ _ h => h) (fun _ => rfl) rfl (fun w' hw' => by go_simp) ?_
  refine takeC 14 (v := .agg #[.int .i64 um, .int .i64 us]) rfl rfl (by kernel_rfl) (by kernel_rfl) (by kernel_rfl) (fun _ _ _ h => h) (fun _ => rfl) rfl (fun w' hw' => run_la 46 (.tmp 64) rfl ⟨r, 16, none⟩ (by kernel_rfl) [.int .i64 um, .int .i64 us] _ (two_at ((hw'.block _ hrz).trans HR.out) rfl rfl) Try.underlying46 rfl (by kernel_rfl)) ?_
  refine stepK 1 HD.out (by kernel_rfl) rfl rfl 41 #[.slice ad n cap] (by kernel_rfl) (widened_any ad n cap xs wd (HX.out.below HD.out) hn) ?_
  rintro e w1 ⟨⟨v, rfl, hO⟩, hb1⟩
  obtain ⟨va, vc, rfl, hrow, -⟩ := hO.row
  have HB1 : Hid (Below W.heap.size W w1) := btr HD.out hb1
  have HRw : Hid (IRow .i64 w1 va xs.length vc xs) := hrow
  clear hO hrow hb1
  refine ⟨_, rfl, ?_⟩
  refine stepK 7 HB1.out (by kernel_rfl) rfl rfl 36 #[.slice va xs.length vc, .agg #[.int .i64 sm, .int .i64 ss]] (by kernel_rfl) (scaled_any sm ss va xs.length vc xs w1 HRw.out (by rw [HLX.out]; exact hn) (fun v hv => by have := HX8.out v hv; unfold I8 at this; omega)) ?_
  rintro e w2 ⟨⟨v, rfl, hO⟩, hb2⟩
  obtain ⟨vb, vd, rfl, hrow, -⟩ := hO.row
  have HB2 : Hid (Below W.heap.size W w2) := btr HB1.out hb2
  have HRw2 : Hid (IRow .i64 w2 vb (apL xs sm ss).length vd (apL xs sm ss)) := hrow
  clear hO hrow hb2
  refine ⟨_, rfl, ?_⟩
  refine stepK 9 HB2.out (by kernel_rfl) rfl rfl 41 #[.slice bd n capb] (by kernel_rfl) (widened_any bd n capb ys w2 (HY.out.below HB2.out) hn) ?_
  rintro e w3 ⟨⟨v, rfl, hO⟩, hb3⟩
  obtain ⟨ve, vf, rfl, hrow, -⟩ := hO.row
  have HB3 : Hid (Below W.heap.size W w3) := btr HB2.out hb3
  have HRw3 : Hid (IRow .i64 w3 ve ys.length vf ys) := hrow
  have HRw4 : Hid (IRow .i64 w3 vb (apL xs sm ss).length vd (apL xs sm ss)) := HRw2.out.below hb3
  clear hO hrow hb3
  refine ⟨_, rfl, ?_⟩
  refine stepK 15 HB3.out (by kernel_rfl) rfl rfl 36 #[.slice ve ys.length vf, .agg #[.int .i64 um, .int .i64 us]] (by kernel_rfl) (scaled_any um us ve ys.length vf ys w3 HRw3.out (by rw [HLY.out]; exact hn) (fun v hv => by have := HY8.out v hv; unfold I8 at this; omega)) ?_
  rintro e w4 ⟨⟨v, rfl, hO⟩, hb4⟩
  obtain ⟨vg, vh, rfl, hrow, -⟩ := hO.row
  have HB4 : Hid (Below W.heap.size W w4) := btr HB3.out hb4
  have eX : (apL xs sm ss).length = n := by unfold apL; rw [List.length_map]; exact HLX.out
  have eY : (apL ys um us).length = n := by unfold apL; rw [List.length_map]; exact HLY.out
  have HRw5 : Hid (IRow .i64 w4 vg n vh (apL ys um us)) := by rw [← eY]; exact hrow
  have HRw6 : Hid (IRow .i64 w4 vb n vd (apL xs sm ss)) := by rw [← eX]; exact HRw4.out.below hb4
  refine ⟨_, rfl, ?_⟩
  rw [eX, eY]
  clear hO hrow hb4 eX eY
  refine stepK 16 HB4.out (by kernel_rfl) rfl rfl 40 #[.slice vb n vd, .slice vg n vh] (by kernel_rfl) (added_any vb vg n vd vh (apL xs sm ss) (apL ys um us) w4 HRw6.out HRw5.out hn (fun v hv => by obtain ⟨u, hu, rfl⟩ := List.mem_map.1 hv; exact apV_i8 (HX8.out u hu)) (fun v hv => by obtain ⟨u, hu, rfl⟩ := List.mem_map.1 hv; exact apV_i8 (HY8.out u hu))) ?_
  rintro e w5 ⟨⟨v, rfl, hO2⟩, hb5⟩
  have HB5 : Hid (Below W.heap.size W w5) := btr HB4.out hb5
  have HO : Hid (Own .i64 2 w5 W.heap.size v (adL (apL xs sm ss) (apL ys um us))) := hO2.base HB4.out.size
  clear hO2 hb5
  refine ⟨_, rfl, ?_⟩
  refine stepR 17 HB5.out (by kernel_rfl) rfl rfl v w5 (by kernel_rfl) ?_
  refine doneC HB5.out (by kernel_rfl) ?_ _
  go_wp2
  exact bodyPost_ret (v := v) (by simp [results, Try.results22, go_sem]) rfl ⟨⟨_, rfl, HO.out⟩, HB5.out⟩
/-! ### One tensor -/
set_option maxRecDepth 100000 in
set_option maxHeartbeats 4000000 in
theorem values_r (a b m kh kw sh sw tp lf bt rt : Int) (wa : Option Addr) (lw wc : Nat) (ba : Option Addr) (lb bc : Nat) (sm ss um us z p lo hi h w c H V C : Int) (r : Nat) (W : World) (hr : W.heap[r]? = some (.cells #[.int .i64 7, .int .i64 a, .int .i64 b, .int .i64 m, .int .i64 kh, .int .i64 kw, .int .i64 sh, .int .i64 sw, .int .i64 tp, .int .i64 lf, .int .i64 bt, .int .i64 rt, .slice wa lw wc, .slice ba lb bc, .int .i64 sm, .int .i64 ss, .int .i64 um, .int .i64 us, .int .i64 z, .int .i64 p, .int .i64 lo, .int .i64 hi, .int .i64 h, .int .i64 w, .int .i64 c, .int .i64 H, .int .i64 V, .int .i64 C] 73 (0, 0))) (ad : Option Addr) (n cap : Nat) (xs : List Int) (hX : IRow .i8 W ad n cap xs) (hn : n ≤ 1000000) (bd : Option Addr) (nb capb : Nat) :
    Calls Try.prog 22 #[.pointer (some ⟨r, 0, none⟩), .slice ad n cap, .slice bd nb capb] W fun e w' => (∃ v, e = .returned v ∧ Own .i64 2 w' W.heap.size v (apL xs sm ss)) ∧ Below W.heap.size W w' := by
  have hrz := lt_of_heap hr
  obtain ⟨c1, f1, z1⟩ := cells_at hr
  have HR : Hid (W.heap[r]? = some (.cells #[.int .i64 7, .int .i64 a, .int .i64 b, .int .i64 m, .int .i64 kh, .int .i64 kw, .int .i64 sh, .int .i64 sw, .int .i64 tp, .int .i64 lf, .int .i64 bt, .int .i64 rt, .slice wa lw wc, .slice ba lb bc, .int .i64 sm, .int .i64 ss, .int .i64 um, .int .i64 us, .int .i64 z, .int .i64 p, .int .i64 lo, .int .i64 hi, .int .i64 h, .int .i64 w, .int .i64 c, .int .i64 H, .int .i64 V, .int .i64 C] 73 (0, 0))) := hr
  have HX : Hid (IRow .i8 W ad n cap xs) := hX
  have hx8 := hX.i8
  have HX8 : Hid (∀ v ∈ xs, I8 v) := hx8
  have hlx := hX.1
  have HLX : Hid (xs.length = n) := hlx
  clear hr hX hx8 hlx
  go_enter Try.func22, Try.ntmps22
  go_wp2
  refine regionC (fun w' => Below W.heap.size W w') (by kernel_rfl) ?_
  obtain ⟨wd, hwd⟩ : ∃ wd, W.drew = wd := ⟨_, rfl⟩
  have HD : Hid (Below W.heap.size W wd) := by unfold Hid; rw [← hwd]; exact (Below.refl _ _).drew
  rw [hwd]
  clear hwd c1 f1
  refine takeC 0 (v := .slice ad n cap) rfl rfl (by kernel_rfl) (by kernel_rfl) (by kernel_rfl) (fun _ _ _ h => h) (fun _ => rfl) rfl (fun w' hw' => by go_simp) ?_
  refine takeC 2 (v := .pointer (some ⟨r, 0, none⟩)) rfl rfl (by kernel_rfl) (by kernel_rfl) (by kernel_rfl) (fun _ _ _ h => h) (fun _ => rfl) rfl (fun w' hw' => by go_simp) ?_
  refine takeC 3 (v := .pointer (some ⟨r, 0, none⟩)) rfl rfl (by kernel_rfl) (by kernel_rfl) (by kernel_rfl) (fun _ _ _ h => h) (fun _ => rfl) rfl (fun w' hw' => by go_simp) ?_
  refine takeC 4 (v := .pointer (some ⟨r, 0, none⟩)) rfl rfl (by kernel_rfl) (by kernel_rfl) (by kernel_rfl) (fun _ _ _ h => h) (fun _ => rfl) rfl (fun w' hw' => by go_simp) ?_
  refine takeC 5 (v := .pointer (some ⟨r, 14, none⟩)) rfl rfl (by kernel_rfl) (by kernel_rfl) (by kernel_rfl) (fun _ _ _ h => h) (fun _ => rfl) rfl (fun w' hw' => by go_simp) ?_
  refine takeC 6 (v := .agg #[.int .i64 sm, .int .i64 ss]) rfl rfl (by kernel_rfl) (by kernel_rfl) (by kernel_rfl) (fun _ _ _ h => h) (fun _ => rfl) rfl (fun w' hw' => run_la 46 (.tmp 75) rfl ⟨r, 14, none⟩ (by kernel_rfl) [.int .i64 sm, .int .i64 ss] _ (two_at ((hw'.block _ hrz).trans HR.out) rfl rfl) Try.underlying46 rfl (by kernel_rfl)) ?_
  refine stepK 1 HD.out (by kernel_rfl) rfl rfl 41 #[.slice ad n cap] (by kernel_rfl) (widened_any ad n cap xs wd (HX.out.below HD.out) hn) ?_
  rintro e w1 ⟨⟨v, rfl, hO⟩, hb1⟩
  obtain ⟨va, vc, rfl, hrow, -⟩ := hO.row
  have HB1 : Hid (Below W.heap.size W w1) := btr HD.out hb1
  have HRw : Hid (IRow .i64 w1 va xs.length vc xs) := hrow
  clear hO hrow hb1
  refine ⟨_, rfl, ?_⟩
  refine stepK 7 HB1.out (by kernel_rfl) rfl rfl 36 #[.slice va xs.length vc, .agg #[.int .i64 sm, .int .i64 ss]] (by kernel_rfl) (scaled_any sm ss va xs.length vc xs w1 HRw.out (by rw [HLX.out]; exact hn) (fun v hv => by have := HX8.out v hv; unfold I8 at this; omega)) ?_
  rintro e w2 ⟨⟨v, rfl, hO2⟩, hb2⟩
  have HB2 : Hid (Below W.heap.size W w2) := btr HB1.out hb2
  have HO : Hid (Own .i64 2 w2 W.heap.size v (apL xs sm ss)) := hO2.base HB1.out.size
  clear hO2 hb2
  refine ⟨_, rfl, ?_⟩
  refine stepR 8 HB2.out (by kernel_rfl) rfl rfl v w2 (by kernel_rfl) ?_
  refine doneC HB2.out (by kernel_rfl) ?_ _
  go_wp2
  exact bodyPost_ret (v := v) (by simp [results, Try.results22, go_sem]) rfl ⟨⟨_, rfl, HO.out⟩, HB2.out⟩
set_option maxRecDepth 100000 in
set_option maxHeartbeats 4000000 in
theorem values_c (a b m kh kw sh sw tp lf bt rt : Int) (wa : Option Addr) (lw wc : Nat) (ba : Option Addr) (lb bc : Nat) (sm ss um us z p lo hi h w c H V C : Int) (r : Nat) (W : World) (hr : W.heap[r]? = some (.cells #[.int .i64 8, .int .i64 a, .int .i64 b, .int .i64 m, .int .i64 kh, .int .i64 kw, .int .i64 sh, .int .i64 sw, .int .i64 tp, .int .i64 lf, .int .i64 bt, .int .i64 rt, .slice wa lw wc, .slice ba lb bc, .int .i64 sm, .int .i64 ss, .int .i64 um, .int .i64 us, .int .i64 z, .int .i64 p, .int .i64 lo, .int .i64 hi, .int .i64 h, .int .i64 w, .int .i64 c, .int .i64 H, .int .i64 V, .int .i64 C] 73 (0, 0))) (ad : Option Addr) (n cap : Nat) (xs : List Int) (hX : IRow .i8 W ad n cap xs) (hn : n ≤ 1000000) (bd : Option Addr) (nb capb : Nat) :
    Calls Try.prog 22 #[.pointer (some ⟨r, 0, none⟩), .slice ad n cap, .slice bd nb capb] W fun e w' => (∃ v, e = .returned v ∧ Own .i64 2 w' W.heap.size v xs) ∧ Below W.heap.size W w' := by
  have hrz := lt_of_heap hr
  obtain ⟨c1, f1, z1⟩ := cells_at hr
  have HR : Hid (W.heap[r]? = some (.cells #[.int .i64 8, .int .i64 a, .int .i64 b, .int .i64 m, .int .i64 kh, .int .i64 kw, .int .i64 sh, .int .i64 sw, .int .i64 tp, .int .i64 lf, .int .i64 bt, .int .i64 rt, .slice wa lw wc, .slice ba lb bc, .int .i64 sm, .int .i64 ss, .int .i64 um, .int .i64 us, .int .i64 z, .int .i64 p, .int .i64 lo, .int .i64 hi, .int .i64 h, .int .i64 w, .int .i64 c, .int .i64 H, .int .i64 V, .int .i64 C] 73 (0, 0))) := hr
  clear hr
  have HW : Hid (∀ (w' : World), Below W.heap.size W w' → _) := fun w' hb => widened_any ad n cap xs w' (hX.below hb) hn
  clear hX
  go_enter Try.func22, Try.ntmps22
  go_wp2_with fail
  refine (HW.out _ (Below.refl _ _)).mono ?_
  rintro e w1 ⟨⟨v, rfl, hO⟩, hb1⟩
  have HO : Hid (Own .i64 2 w1 W.heap.size v xs) := hO
  clear hO
  go_wp2
  go_ret
  exact ⟨⟨_, rfl, HO.out⟩, hb1⟩
/-! ### Whatever the kind -/
theorem values_any (k a b m kh kw sh sw tp lf bt rt : Int) (wa : Option Addr) (lw wc : Nat) (ba : Option Addr) (lb bc : Nat) (sm ss um us z p lo hi h w c H V C : Int) (r : Nat) (W : World) (hr : W.heap[r]? = some (.cells #[.int .i64 k, .int .i64 a, .int .i64 b, .int .i64 m, .int .i64 kh, .int .i64 kw, .int .i64 sh, .int .i64 sw, .int .i64 tp, .int .i64 lf, .int .i64 bt, .int .i64 rt, .slice wa lw wc, .slice ba lb bc, .int .i64 sm, .int .i64 ss, .int .i64 um, .int .i64 us, .int .i64 z, .int .i64 p, .int .i64 lo, .int .i64 hi, .int .i64 h, .int .i64 w, .int .i64 c, .int .i64 H, .int .i64 V, .int .i64 C] 73 (0, 0))) (s : Opd k b m kh kw sh sw tp lf bt rt lw lb sm ss um us z p lo hi h w c H V C) (zs bs : List Int) (hZ : IRow .i16 W wa lw wc zs) (hB : IRow .i32 W ba lb bc bs) (hlw : lw * 2 ≤ 140737488351232) (hlb : lb * 4 ≤ 140737488351232) (ad : Option Addr) (n cap : Nat) (xs : List Int) (hX : IRow .i8 W ad n cap xs) (hn : (n : Int) = h * w * c) (bd : Option Addr) (nb capb : Nat) (ys : List Int) (hY : IRow .i8 W bd nb capb ys) (hnb : k = 6 → nb = n) :
    Calls Try.prog 22 #[.pointer (some ⟨r, 0, none⟩), .slice ad n cap, .slice bd nb capb] W fun e w' => (∃ v, e = .returned v ∧ Own .i64 2 w' W.heap.size v (vaL k kh kw sh sw tp lf bt rt sm ss um us p h w c H V C zs bs xs ys)) ∧ Below W.heap.size W w' := by
  have hrz := lt_of_heap hr
  have hn6 : n ≤ 1000000 := by have := (vS_bd s.hA).2; omega
  have hp8 : I8 p := by have := s.rz; unfold rzB vlB at this; simp at this; exact ⟨this.2.1, this.2.2⟩
  have hk := s.hk
  have hBb := (vS_bd s.hB).2
  by_cases k4 : k ≤ 4
  · have hS : Hid (∀ (w' : World), Below W.heap.size W w' → Calls Try.prog 37 #[.pointer (some ⟨r, 0, none⟩), .slice ad n cap] w' fun e w'' => (∃ v, e = .returned v ∧ Own .i64 2 w'' w'.heap.size v (suL k kh kw sh sw tp lf bt rt h w c C p zs bs xs (H * V * C).toNat)) ∧ Below w'.heap.size w' w'') :=
      fun w' hb => sums_any k a b m kh kw sh sw tp lf bt rt wa lw wc ba lb bc sm ss um us z p lo hi h w c H V C r w' ((hb.block r hrz).trans hr) s k4 zs bs (hZ.below hb) (hB.below hb) hlw hlb ad n cap xs (hX.below hb) hn
    have hbd := suL_bd (s.si k4) hZ.2.2.2.1 hB.2.2.2.1 hp8 hX.i8 (H * V * C).toNat
    have hl : (suL k kh kw sh sw tp lf bt rt h w c C p zs bs xs (H * V * C).toNat).length ≤ 1000000 := by rw [suL_len]; omega
    by_cases k3 : k ≤ 3
    · have e : vaL k kh kw sh sw tp lf bt rt sm ss um us p h w c H V C zs bs xs ys = apL (suL k kh kw sh sw tp lf bt rt h w c C p zs bs xs (H * V * C).toNat) sm ss := by unfold vaL; rw [if_pos k3]
      rw [e]
      exact values_s k a b m kh kw sh sw tp lf bt rt wa lw wc ba lb bc sm ss um us z p lo hi h w c H V C r W hr ⟨hk.1, k3⟩ ad n cap bd nb capb _ hS hl hbd
    · obtain rfl : k = 4 := by omega
      obtain ⟨w1, w2⟩ := (s.si k4).2.2.2.2.2.1 (by decide)
      exact values_m a b m kh kw sh sw tp lf bt rt wa lw wc ba lb bc sm ss um us z p lo hi h w c H V C r W hr ad n cap bd nb capb _ hS hl hbd w1 w2
  · rcases (show k = 5 ∨ k = 6 ∨ k = 7 ∨ k = 8 by omega) with rfl | rfl | rfl | rfl
    · have hou := s.ou (by decide)
      have hoz := of_decide_eq_true s.oz
      obtain ⟨rfl, rfl, rfl, rfl⟩ := hoz.2.2.2.2.2.2 (.inr rfl)
      rcases ouR_cases h w c kh kw sh sw 0 0 0 0 with ⟨e, he, h2⟩ | ⟨rr, qq, he, hf⟩
      · rw [he] at hou
        simp only [Prod.mk.injEq] at hou
        omega
      · rw [he] at hou
        simp only [Prod.mk.injEq, and_true] at hou
        obtain ⟨rfl, rfl⟩ := hou
        obtain ⟨-, ⟨i1, i2, i3, i4, -⟩, -, -, g1, g2⟩ := hf
        exact values_g a b m kh kw sh sw 0 0 0 0 wa lw wc ba lb bc sm ss um us z p lo hi h w c rr qq C r W hr ad n cap bd nb capb _
          (fun w' hb => greatest_any 5 a b m kh kw sh sw 0 0 0 0 wa lw wc ba lb bc sm ss um us z p lo hi h w c rr qq C r w' ((hb.block r hrz).trans hr) ad n cap xs (hX.below hb) hn s.hA s.hB i1 i2 i3 i4 (by omega) (by omega) (s.c3 (by decide)))
    · obtain rfl := hnb rfl
      exact values_a a b m kh kw sh sw tp lf bt rt wa lw wc ba lb bc sm ss um us z p lo hi h w c H V C r W hr ad nb cap xs hX hn6 bd capb ys hY
    · exact values_r a b m kh kw sh sw tp lf bt rt wa lw wc ba lb bc sm ss um us z p lo hi h w c H V C r W hr ad n cap xs hX hn6 bd nb capb
    · exact values_c a b m kh kw sh sw tp lf bt rt wa lw wc ba lb bc sm ss um us z p lo hi h w c H V C r W hr ad n cap xs hX hn6 bd nb capb
end Go.Proofs.Ytehofmkpgopmpaa

/- What tensor of package plain returns. -/
namespace Go.Proofs.Ytehofmkpgopmpaa
open Go.ChangeShapes Go.WideShapes Go.ChangeAt Go.RowKit
set_option linter.unusedVariables false
set_option maxRecDepth 100000 in
set_option maxHeartbeats 4000000 in
theorem tensor_v (k a b m kh kw sh sw tp lf bt rt : Int) (wa : Option Addr) (lw wc : Nat) (ba : Option Addr) (lb bc : Nat) (sm ss um us z p lo hi h w c H V C : Int) (r : Nat) (W : World) (hr : W.heap[r]? = some (.cells #[.int .i64 k, .int .i64 a, .int .i64 b, .int .i64 m, .int .i64 kh, .int .i64 kw, .int .i64 sh, .int .i64 sw, .int .i64 tp, .int .i64 lf, .int .i64 bt, .int .i64 rt, .slice wa lw wc, .slice ba lb bc, .int .i64 sm, .int .i64 ss, .int .i64 um, .int .i64 us, .int .i64 z, .int .i64 p, .int .i64 lo, .int .i64 hi, .int .i64 h, .int .i64 w, .int .i64 c, .int .i64 H, .int .i64 V, .int .i64 C] 73 (0, 0))) (ad : Option Addr) (n cap : Nat) (bd : Option Addr) (nb capb : Nat) (VS : List Int) (hl : VS.length ≤ 1000000) (hV : Hid (Calls Try.prog 22 #[.pointer (some ⟨r, 0, none⟩), .slice ad n cap, .slice bd nb capb] W fun e w' => (∃ v, e = .returned v ∧ Own .i64 2 w' W.heap.size v VS) ∧ Below W.heap.size W w')) :
    Calls Try.prog 15 #[.pointer (some ⟨r, 0, none⟩), .slice ad n cap, .slice bd nb capb] W fun e w' => (∃ v, e = .returned v ∧ Own .i8 63 w' W.heap.size v (fiL VS z lo hi)) ∧ Below W.heap.size W w' := by
  have hrz := lt_of_heap hr
  have HR : Hid (W.heap[r]? = some (.cells #[.int .i64 k, .int .i64 a, .int .i64 b, .int .i64 m, .int .i64 kh, .int .i64 kw, .int .i64 sh, .int .i64 sw, .int .i64 tp, .int .i64 lf, .int .i64 bt, .int .i64 rt, .slice wa lw wc, .slice ba lb bc, .int .i64 sm, .int .i64 ss, .int .i64 um, .int .i64 us, .int .i64 z, .int .i64 p, .int .i64 lo, .int .i64 hi, .int .i64 h, .int .i64 w, .int .i64 c, .int .i64 H, .int .i64 V, .int .i64 C] 73 (0, 0))) := hr
  have hwf : Wf .i8 (fiL VS z lo hi) := fun v hv => mk_i8 (fiL_i8 _ _ _ _ v hv)
  have HM : Hid (∀ y u, VS[y]? = some u → (fiL VS z lo hi).getD y 0 = Fx.fiV u z lo hi) := fun y u h => map_at h
  obtain ⟨N, hN⟩ : ∃ N, VS.length = N := ⟨_, rfl⟩
  have HL : Hid ((fiL VS z lo hi).length = N) := by unfold Hid fiL; rw [List.length_map]; exact hN
  have HNV : Hid (VS.length = N) := hN
  rw [hN] at hl
  clear hr hN
  obtain ⟨ys, hys⟩ : ∃ ys, fiL VS z lo hi = ys := ⟨_, rfl⟩
  rw [hys] at hwf HL HM ⊢
  clear hys
  go_enter Try.func15, Try.ntmps15
  go_wp2_with fail
  refine hV.out.mono ?_
  rintro e w1 ⟨⟨v, rfl, hO⟩, hb1⟩
  obtain ⟨va, vc, rfl, hrow, -⟩ := hO.row
  rw [HNV.out] at hrow ⊢
  have HRw : Hid (IRow .i64 w1 va N vc VS) := hrow
  have Hb1 : Hid (Below W.heap.size W w1) := hb1
  clear hO hrow hV hb1
  go_wp2_with (at_make; refine wpList_mak kt_i8 rfl _ rfl N _ rfl rfl (by omega) ?_; intro hnew)
  have HB0 : Hid (Bk .i8 63 _ w1.heap.size (fil ys 0)) := Bk.new hnew HL.out
  have HB1 : Hid (Below w1.heap.size w1 _) := bal w1 (.cells (Array.replicate N (Value.int .i8 0)) 63)
  clear hnew
  go_loopw [22] (fun i wr => ∃ y : Nat, y ≤ N ∧ i = .int .i64 y ∧ Bk .i8 63 wr w1.heap.size (fil ys y) ∧ Below w1.heap.size w1 wr) (fun i _ => N - (intOf i).toNat)
  case atStart => exact ⟨0, Nat.zero_le _, rfl, HB0.out, HB1.out⟩
  case round =>
    obtain ⟨y, hy, rfl, hB, hb⟩ := hrel
    clear HB0 HB1
    by_cases hlt : y < N
    · obtain ⟨x, u, rfl, hu, -, hz, -⟩ := (HRw.out.below hb).at hlt
      have HE : Hid (ys.getD y 0 = Fx.fiV u z lo hi) := HM.out y u hz
      have h8 := fiV_i8 (v := u) (z := z) (lo := lo) (hi := hi)
      have hF : Hid (∀ q, Calls Try.prog 23 #[.int .i64 u, .int .i64 z, .int .i64 lo, .int .i64 hi] (wr.drewN q) fun e w' => e = .returned (.tuple #[.int .i64 (Fx.fiV u z lo hi), .int .i64 (Fx.fiE z lo hi)]) ∧ ∃ m, w' = (wr.drewN q).drewN m) := fun q => (Fx.finish_any u z lo hi _).mono fun e w' ⟨h1, h2⟩ => ⟨h1, 0, h2⟩
      obtain ⟨F, hFe⟩ : ∃ F, Fx.fiV u z lo hi = F := ⟨_, rfl⟩
      obtain ⟨E, hEe⟩ : ∃ E, Fx.fiE z lo hi = E := ⟨_, rfl⟩
      rw [hFe] at HE h8 hF
      rw [hEe] at hF
      obtain ⟨g1, g2⟩ := h8
      have hw8 : IntKind.i8.wrap F = F := by simp [IntKind.wrap, IntKind.bits, IntKind.signed]; omega
      have HB : Hid (Bk .i8 63 wr w1.heap.size (fil ys y)) := hB
      obtain ⟨c1, f1, z1⟩ := cells_at ((hb.block r (Nat.lt_of_lt_of_le hrz Hb1.out.size)).trans ((Hb1.out.block r hrz).trans HR.out))
      clear hB hz hFe hEe
      go_wp2
      go_quiet ((go_at_call 23; exact Calls.quiet_of (hF.out _)))
      have hB3 := HB.out.below (dbel wr nq)
      obtain ⟨hc, hf, hs⟩ := hB3.at (p := y) (by rw [fil_len _ (by rw [HL.out]; omega), HL.out]; exact hlt)
      have HS : Hid (Bk .i8 63 ((wr.drewN nq).setCell ⟨w1.heap.size, y, none⟩ (.int .i8 F)) w1.heap.size (fil ys (y + 1))) := by
        have := hB3.set (p := y) F
        rw [← HE.out, fil_set (by rw [HL.out]; exact hlt), HE.out] at this
        exact this
      have Hbb : Hid (Below w1.heap.size w1 (wr.drewN nq)) := btr hb (dbel wr nq)
      clear hB3 HB hF hb c1 f1
      go_wp2
      go_roundw
      case rel => exact ⟨y + 1, by omega, by go_num, HS.out, Hbb.out.setCell (p := ⟨w1.heap.size, y, none⟩) (Nat.le_refl _) _⟩
      case measure => simp [intOf]; omega
    · obtain rfl : y = N := by omega
      have hO : Hid (Own .i8 63 wr W.heap.size (.slice (some ⟨w1.heap.size, 0, none⟩) y y) ys) := by
        have e := HL.out
        subst e
        rw [fil_all] at hB
        exact own_full hB hwf (by unfold maxLen; omega) Hb1.out.size
      have Hbb : Hid (Below W.heap.size W wr) := btr Hb1.out hb
      clear hB hb
      go_wp2
      go_ret
      exact ⟨⟨_, rfl, hO.out⟩, Hbb.out⟩
theorem tensor_any (k a b m kh kw sh sw tp lf bt rt : Int) (wa : Option Addr) (lw wc : Nat) (ba : Option Addr) (lb bc : Nat) (sm ss um us z p lo hi h w c H V C : Int) (r : Nat) (W : World) (hr : W.heap[r]? = some (.cells #[.int .i64 k, .int .i64 a, .int .i64 b, .int .i64 m, .int .i64 kh, .int .i64 kw, .int .i64 sh, .int .i64 sw, .int .i64 tp, .int .i64 lf, .int .i64 bt, .int .i64 rt, .slice wa lw wc, .slice ba lb bc, .int .i64 sm, .int .i64 ss, .int .i64 um, .int .i64 us, .int .i64 z, .int .i64 p, .int .i64 lo, .int .i64 hi, .int .i64 h, .int .i64 w, .int .i64 c, .int .i64 H, .int .i64 V, .int .i64 C] 73 (0, 0))) (s : Opd k b m kh kw sh sw tp lf bt rt lw lb sm ss um us z p lo hi h w c H V C) (zs bs : List Int) (hZ : IRow .i16 W wa lw wc zs) (hB : IRow .i32 W ba lb bc bs) (hlw : lw * 2 ≤ 140737488351232) (hlb : lb * 4 ≤ 140737488351232) (ad : Option Addr) (n cap : Nat) (xs : List Int) (hX : IRow .i8 W ad n cap xs) (hn : (n : Int) = h * w * c) (bd : Option Addr) (nb capb : Nat) (ys : List Int) (hY : IRow .i8 W bd nb capb ys) (hnb : k = 6 → nb = n) :
    Calls Try.prog 15 #[.pointer (some ⟨r, 0, none⟩), .slice ad n cap, .slice bd nb capb] W fun e w' => (∃ v, e = .returned v ∧ Own .i8 63 w' W.heap.size v (teL k kh kw sh sw tp lf bt rt sm ss um us z p lo hi h w c H V C zs bs xs ys)) ∧ Below W.heap.size W w' := by
  have hl := vaL_len s (zs := zs) (bs := bs) (y := ys) (show (xs.length : Int) = h * w * c by rw [hX.1]; exact hn)
  have := (vS_bd s.hB).2
  exact tensor_v k a b m kh kw sh sw tp lf bt rt wa lw wc ba lb bc sm ss um us z p lo hi h w c H V C r W hr ad n cap bd nb capb _ (by omega) (values_any k a b m kh kw sh sw tp lf bt rt wa lw wc ba lb bc sm ss um us z p lo hi h w c H V C r W hr s zs bs hZ hB hlw hlb ad n cap xs hX hn bd nb capb ys hY hnb)
end Go.Proofs.Ytehofmkpgopmpaa

/- Rows of lists of int8 in memory; slices.Clone. -/
namespace Go.Proofs.Ytehofmkpgopmpaa
open Go.ChangeShapes Go.WideShapes Go.ChangeAt Go.RowKit
set_option linter.unusedVariables false
/-- Lists that a call made, none in the block of another. -/
def Ells (w : World) (base : Nat) (ss : List Value) (Ts : List (List Int)) : Prop :=
  ss.length = Ts.length ∧ (∀ i, i < ss.length → Own .i8 63 w base (ss.getD i (.slice none 0 0)) (Ts.getD i [])) ∧
    ∀ i j b, i < ss.length → j < ss.length → (ss.getD i (.slice none 0 0)).ownBlock = some b → (ss.getD j (.slice none 0 0)).ownBlock = some b → i = j
theorem Ells.below {w w' : World} {base : Nat} {ss : List Value} {Ts : List (List Int)} (h : Ells w base ss Ts) (q : Below w.heap.size w w') : Ells w' base ss Ts := ⟨h.1, fun i hi => (h.2.1 i hi).below q, h.2.2⟩
theorem Ells.nil (w : World) (base : Nat) : Ells w base [] [] := ⟨rfl, fun i hi => by simp at hi, fun i j b hi => by simp at hi⟩
/-- What changes a block of another type leaves them. -/
theorem Ells.grown {w w' : World} {base : Nat} {ss : List Value} {Ts : List (List Int)} {row : Option Nat} (h : Ells w base ss Ts) (q : w.grownBy w' row) (hne : ∀ b, row = some b → ∀ c, w.heap[b]? ≠ some (.cells c 63 (0, 0))) : Ells w' base ss Ts := ⟨h.1, fun i hi => (h.2.1 i hi).grown q hne, h.2.2⟩
theorem getD_app_l {α : Type} {l r : List α} {i : Nat} {d : α} (h : i < l.length) : (l ++ r).getD i d = l.getD i d := by simp only [List.getD]; rw [List.getElem?_append_left h]
theorem getD_app_one {α : Type} {l : List α} {x d : α} : (l ++ [x]).getD l.length d = x := by simp [List.getD]
theorem own_lt {k : IntKind} {T : TypeId} {w : World} {base b : Nat} {v : Value} {zs : List Int} (h : Own k T w base v zs) (hb : v.ownBlock = some b) : b < w.heap.size := by
  rcases h.shape with ⟨rfl, _⟩ | ⟨g, cap, rfl, _, hl, _⟩
  · simp [Value.ownBlock] at hb
  · obtain rfl : g = b := by simpa [Value.ownBlock] using hb
    exact hl
/-- One more, that is new. -/
theorem Ells.add {w w' : World} {base : Nat} {ss : List Value} {Ts : List (List Int)} {s : Value} {X : List Int} (h : Ells w base ss Ts) (q : Below w.heap.size w w') (hs : Own .i8 63 w' w.heap.size s X) (hb : base ≤ w.heap.size) : Ells w' base (ss ++ [s]) (Ts ++ [X]) := by
  obtain ⟨h1, h2, h3⟩ := h
  have hlt : ∀ i b, i < ss.length → (ss.getD i (.slice none 0 0)).ownBlock = some b → b < w.heap.size := fun i b hi e => own_lt (h2 i hi) e
  have hge : ∀ b, s.ownBlock = some b → w.heap.size ≤ b := fun b e => hs.block e
  refine ⟨by simp [h1], fun i hi => ?_, fun i j b hi hj e1 e2 => ?_⟩
  · simp only [List.length_append, List.length_cons, List.length_nil] at hi
    by_cases e : i = ss.length
    · subst e
      rw [getD_app_one]
      rw [h1, getD_app_one]
      exact hs.base hb
    · rw [getD_app_l (by omega), getD_app_l (by omega)]
      exact (h2 i (by omega)).below q
  · simp only [List.length_append, List.length_cons, List.length_nil] at hi hj
    by_cases ei : i = ss.length
    · by_cases ej : j = ss.length
      · omega
      · subst ei
        rw [getD_app_one] at e1
        rw [getD_app_l (by omega)] at e2
        have := hge b e1
        have := hlt j b (by omega) e2
        omega
    · by_cases ej : j = ss.length
      · subst ej
        rw [getD_app_one] at e2
        rw [getD_app_l (by omega)] at e1
        have := hge b e2
        have := hlt i b (by omega) e1
        omega
      · rw [getD_app_l (by omega)] at e1 e2
        exact h3 i j b (by omega) (by omega) e1 e2
/-- A row of slices that the call owns. -/
def ORs (w : World) (base : Nat) (v : Value) (ss : List Value) : Prop := w.ownsRow base 31 1 v ss.length ss
theorem ORs.slice {w : World} {base : Nat} {v : Value} {ss : List Value} (h : ORs w base v ss) : ∃ a cap, v = .slice a ss.length cap := by
  rcases h.2 with ⟨rfl, q⟩ | ⟨g, cap, cur, rfl, -⟩
  · exact ⟨_, _, by rw [q]⟩
  · exact ⟨_, _, rfl⟩
theorem ORs.at {w : World} {base : Nat} {v : Value} {ss : List Value} (h : ORs w base v ss) (h0 : 0 < ss.length) : ∃ g cap, v = .slice (some ⟨g, 0, none⟩) ss.length cap ∧ base ≤ g ∧ g < w.heap.size ∧ ss.length ≤ cap ∧ cap ≤ maxLen ∧ (∀ i, i < ss.length → w.cell? ⟨g, i, none⟩ = some (ss.getD i (.slice none 0 0))) ∧ ∃ cur, w.heap[g]? = some (.cells cur 31 (0, 0)) := by
  rcases h.2 with ⟨-, q⟩ | ⟨g, cap, cur, rfl, h2, h3, h4, h5, h6, h7⟩
  · omega
  · refine ⟨g, cap, rfl, h2, lt_of_heap h3, h4, h5, fun i hi => ?_, cur, h3⟩
    rw [(cells_at h3).1]
    have : (cur.toList.take (ss.length * 1))[i]? = ss[i]? := by rw [h7]
    rw [List.getElem?_take, if_pos (by omega)] at this
    rw [List.getD_eq_getElem?_getD, List.getElem?_eq_getElem hi] at *
    simpa using this
/-- A row of lists: the slices lie in memory, each its numbers. -/
def LLs (w : World) (base : Nat) (v : Value) (Ts : List (List Int)) : Prop := ∃ ss, ORs w base v ss ∧ Ells w base ss Ts
/-- What a row of lists reads as. -/
def TRd (w : World) (v : Value) (Ts : List (List Int)) : Prop :=
  ∃ a cap, v = .slice a Ts.length cap ∧ Ts.length ≤ cap ∧ cap ≤ maxLen ∧ (0 < Ts.length → ∃ g, a = some ⟨g, 0, none⟩ ∧ ∀ i, i < Ts.length → ∃ ad c, w.cell? ⟨g, i, none⟩ = some (.slice ad (Ts.getD i []).length c) ∧ IRow .i8 w ad (Ts.getD i []).length c (Ts.getD i []))
theorem LLs.rd {w : World} {base : Nat} {v : Value} {Ts : List (List Int)} (h : LLs w base v Ts) : TRd w v Ts := by
  obtain ⟨ss, h1, h2⟩ := h
  by_cases h0 : 0 < ss.length
  · obtain ⟨g, cap, rfl, -, -, q1, q2, q3, -⟩ := h1.at h0
    refine ⟨_, cap, by rw [h2.1], by rw [← h2.1]; exact q1, q2, fun _ => ⟨g, rfl, fun i hi => ?_⟩⟩
    have hi' : i < ss.length := by rw [h2.1]; exact hi
    obtain ⟨ad, c, e, hr, -⟩ := (h2.2.1 i hi').row
    exact ⟨ad, c, by rw [q3 i hi', e], hr⟩
  · obtain ⟨a, cap, rfl⟩ := h1.slice
    have e0 : Ts.length = 0 := by rw [← h2.1]; omega
    rcases h1.2 with ⟨q, q'⟩ | ⟨g, cap', cur, q, -, -, q4, q5, -⟩
    · simp only [Value.slice.injEq] at q
      obtain ⟨rfl, -, rfl⟩ := q
      exact ⟨none, 0, by rw [h2.1], by omega, by unfold maxLen; omega, fun h => by omega⟩
    · simp only [Value.slice.injEq] at q
      obtain ⟨rfl, -, rfl⟩ := q
      exact ⟨_, cap, by rw [h2.1], by omega, q5, fun h => by omega⟩
theorem TRd.below {w w' : World} {v : Value} {Ts : List (List Int)} (h : TRd w v Ts) (q : Below w.heap.size w w') : TRd w' v Ts := by
  obtain ⟨a, cap, h1, h2, h3, h4⟩ := h
  refine ⟨a, cap, h1, h2, h3, fun h0 => ?_⟩
  obtain ⟨g, e, hc⟩ := h4 h0
  refine ⟨g, e, fun i hi => ?_⟩
  obtain ⟨ad, c, h5, h6⟩ := hc i hi
  exact ⟨ad, c, (q.cell (World.block_lt_of_cell? w _ h5)).trans h5, h6.below q⟩
theorem TRd.at {w : World} {a : Option Addr} {n cap i : Nat} {Ts : List (List Int)} (h : TRd w (.slice a n cap) Ts) (hi : i < n) : ∃ g ad c, a = some ⟨g, 0, none⟩ ∧ w.cell? ⟨g, i, none⟩ = some (.slice ad (Ts.getD i []).length c) ∧ IRow .i8 w ad (Ts.getD i []).length c (Ts.getD i []) := by
  obtain ⟨a', cap', e, -, -, h4⟩ := h
  simp only [Value.slice.injEq] at e
  obtain ⟨rfl, rfl, rfl⟩ := e
  obtain ⟨g, rfl, hc⟩ := h4 (by omega)
  obtain ⟨ad, c, h5, h6⟩ := hc i hi
  exact ⟨g, ad, c, rfl, h5, h6⟩
theorem TRd.len {w : World} {a : Option Addr} {n cap : Nat} {Ts : List (List Int)} (h : TRd w (.slice a n cap) Ts) : Ts.length = n ∧ n ≤ cap ∧ cap ≤ maxLen := by
  obtain ⟨a', cap', e, h2, h3, -⟩ := h
  simp only [Value.slice.injEq] at e
  obtain ⟨rfl, rfl, rfl⟩ := e
  exact ⟨rfl, h2, h3⟩
/-! ### A row with room -/
def LG (w : World) (g cap : Nat) (ss : List Value) : Prop := ∃ cur : Array Value, w.heap[g]? = some (.cells cur 31 (0, 0)) ∧ cur.size = cap ∧ ss.length ≤ cap ∧ cur.toList.take ss.length = ss
theorem LG.below {w w' : World} {g cap : Nat} {ss : List Value} (h : LG w g cap ss) (q : Below w.heap.size w w') : LG w' g cap ss := by
  obtain ⟨cur, h1, h2⟩ := h
  exact ⟨cur, (q.block g (lt_of_heap h1)).trans h1, h2⟩
theorem LG.at {w : World} {g cap : Nat} {ss : List Value} (h : LG w g cap ss) {i : Nat} (hi : i < ss.length) : w.cell? ⟨g, i, none⟩ = some (ss.getD i (.slice none 0 0)) := by
  obtain ⟨cur, h1, h2, h3, h4⟩ := h
  rw [(cells_at h1).1]
  have : (cur.toList.take ss.length)[i]? = ss[i]? := by rw [h4]
  rw [List.getElem?_take, if_pos hi] at this
  rw [List.getD_eq_getElem?_getD, List.getElem?_eq_getElem hi] at *
  simpa using this
theorem LG.own {w : World} {base g cap : Nat} {ss : List Value} (h : LG w g cap ss) (hb : base ≤ g) (hc : cap ≤ 1000) : ORs w base (.slice (some ⟨g, 0, none⟩) ss.length cap) ss := by
  obtain ⟨cur, h1, h2, h3, h4⟩ := h
  exact ⟨by simp, .inr ⟨g, cap, cur, rfl, hb, h1, h3, by unfold maxLen; omega, by omega, by rw [Nat.mul_one]; exact h4⟩⟩
theorem LG.add {w : World} {g cap : Nat} {ss : List Value} (h : LG w g cap ss) (hr : ss.length < cap) (s : Value) : LG (w.setCell ⟨g, ss.length, none⟩ s) g cap (ss ++ [s]) := by
  obtain ⟨cur, h1, h2, h3, h4⟩ := h
  refine ⟨_, heap_setCell_at h1, by simp [h2], by simp; omega, ?_⟩
  have hsz : cur.toList.length = cap := by simpa using h2
  simp only [List.length_append, List.length_cons, List.length_nil, Array.toList_setIfInBounds]
  apply List.ext_getElem?
  intro j
  rw [List.getElem?_take]
  have hl : (cur.toList.take ss.length).length = ss.length := by rw [List.length_take]; omega
  by_cases q1 : j < ss.length
  · rw [if_pos (by omega), List.getElem?_append_left q1, List.getElem?_set_ne (by omega), ← h4, List.getElem?_take, if_pos q1]
  · by_cases q2 : j = ss.length
    · subst q2
      rw [if_pos (by omega), List.getElem?_set_self (by omega), List.getElem?_append_right (Nat.le_refl _), Nat.sub_self]; rfl
    · rw [if_neg (by omega), List.getElem?_eq_none (by simp; omega)]
theorem LG.spare {w : World} {g cap n : Nat} {ss : List Value} (h : LG w g cap ss) (hn : n < cap) : (w.cell? ⟨g, n, none⟩).isSome = true ∧ w.frozen? ⟨g, n, none⟩ = false := by
  obtain ⟨cur, h1, h2, h3, h4⟩ := h
  refine ⟨?_, (cells_at h1).2.1 _⟩
  rw [(cells_at h1).1, Array.getElem?_eq_getElem (by omega)]
  rfl
theorem Try.infoTT : (Try.prog.info? 31).map (fun i => (i.zero, i.size, i.bytes)) = some (some (.slice none 0 0), 1, 24) := by kernel_rfl
/-- 'append' of one list, where there is room. -/
theorem wp_apR {w : World} {o : Oper} {a : Act} {K : Act → World → Prop} {Q : Exit → Act → World → Prop} (hg : o.guard = none) (s x : Operand) (hop : o.op = Op.call { callee := Callee.builtin Builtin.append, args := #[s, x], argTypes := #[35, 35] })
    (g cap : Nat) (ss : List Value) (n : Nat) (hn : ss.length = n) (hs : a.eval s = .slice (some ⟨g, 0, none⟩) n cap) (b : Nat) (u : Value) (hx : a.eval x = .slice (some ⟨b, 0, none⟩) 1 1) (hb : w.heap[b]? = some (.cells #[u] 31 (0, 0))) (h1 : u.oneCell' = true)
    (hL : LG w g cap ss) (hroom : n < cap) (h : K (a.put o.dst (.slice (some ⟨g, 0, none⟩) (n + 1) cap)) (w.setCell ⟨g, n, none⟩ u)) : o.wp Try.prog a w K Q := by
  obtain ⟨i0, hi0, hz0, hz1, hz2⟩ := info_parts Try.infoTT
  have := step_append_room (P := Try.prog) (ops := #[]) (o := o) (a := a) (w := w) (K := K) (Q := Q) (E := False) hg s x 35 hop 31 i0 1 Try.underlying35 hi0 hz1 g 0 n cap hs ⟨b, 0, none⟩ 1 1 [u] hx rfl
    (fun j v hj => by
      have hj0 : j = 0 := by have := (List.getElem?_eq_some_iff.1 hj).1; simp at this; exact this
      subst hj0
      rw [Addr.add_lit, (cells_at hb).1]
      simpa using hj) (fun v hv => by simp at hv; rw [hv]; exact h1) (by omega)
    (fun j hj => by
      have hj0 : j = 0 := by simpa using hj
      subst hj0
      have := hL.spare hroom
      simpa using this) (by simpa [World.setCells] using h)
  rwa [if_pos (by simp [Region.wanted, hg])] at this
theorem wpList_apR {w : World} {ops : Array Oper} {rest : List Oper} {o : Oper} {a : Act} {Q : Exit → Act → World → Prop} (hg : o.guard = none) (s x : Operand) (hop : o.op = Op.call { callee := Callee.builtin Builtin.append, args := #[s, x], argTypes := #[35, 35] })
    (g cap : Nat) (ss : List Value) (n : Nat) (hn : ss.length = n) (hs : a.eval s = .slice (some ⟨g, 0, none⟩) n cap) (b : Nat) (u : Value) (hx : a.eval x = .slice (some ⟨b, 0, none⟩) 1 1) (hb : w.heap[b]? = some (.cells #[u] 31 (0, 0))) (h1 : u.oneCell' = true)
    (hL : LG w g cap ss) (hroom : n < cap) (h : wpList Try.prog ops Q rest (a.put o.dst (.slice (some ⟨g, 0, none⟩) (n + 1) cap)) (w.setCell ⟨g, n, none⟩ u)) : wpList Try.prog ops Q (o :: rest) a w :=
  wpList_plain hg fun K hK => wp_apR hg s x hop g cap ss n hn hs b u hx hb h1 hL hroom (hK _ _ h)
theorem stepA {ops : Array Oper} {md : Region.Mode} {C : World → Prop} {Q : Exit → Act → World → Prop} (i : Nat) {o : Oper} {fuel : Nat} {listed : Array Bool} {a : Act} {w : World} (hC : C w) (hr : Region.ready md ops listed = [i]) (ho : ops[i]? = some o) (hg : o.guard = none)
    (s x : Operand) (hop : o.op = Op.call { callee := Callee.builtin Builtin.append, args := #[s, x], argTypes := #[35, 35] })
    (g cap : Nat) (ss : List Value) (n : Nat) (hn : ss.length = n) (hs : a.eval s = .slice (some ⟨g, 0, none⟩) n cap) (b : Nat) (u : Value) (hx : a.eval x = .slice (some ⟨b, 0, none⟩) 1 1) (hb : w.heap[b]? = some (.cells #[u] 31 (0, 0))) (h1 : u.oneCell' = true)
    (hL : LG w g cap ss) (hroom : n < cap) (h : wpAnyC Fence.wide 3 Try.prog md ops C Q fuel (listed.setIfInBounds i true) (a.put o.dst (.slice (some ⟨g, 0, none⟩) (n + 1) cap)) (w.setCell ⟨g, n, none⟩ u)) : wpAnyC Fence.wide 3 Try.prog md ops C Q (fuel + 1) listed a w :=
  stepW i hC hr ho hg fun K hK => wp_apR hg s x hop g cap ss n hn hs b u hx hb h1 hL hroom (hK _ _ h)
/-- 'make' of none, with room for so many lists. -/
theorem wpList_mkR {w : World} {ops : Array Oper} {rest : List Oper} {o : Oper} {a : Act} {Q : Exit → Act → World → Prop} (hg : o.guard = none) (l c : Operand) (hop : o.op = Op.makeSlice 35 l c)
    (m : Nat) (M : Int) (hl : a.eval l = .int .i64 0) (hc : a.eval c = .int .i64 M) (hM : M = (m : Int)) (hm : m ≤ 1000)
    (hK : ∀ w', LG w' w.heap.size m [] → Below w.heap.size w w' → wpList Try.prog ops Q rest (a.put o.dst (.slice (some ⟨w.heap.size, 0, none⟩) 0 m)) w') : wpList Try.prog ops Q (o :: rest) a w := by
  obtain ⟨i0, hi, hz0, hz1, hz2⟩ := info_parts Try.infoTT
  subst hM
  refine wpList_plain hg fun K hK' => ?_
  have hr := run_make (P := Try.prog) w 35 31 i0 (.slice none 0 0) Try.underlying35 hi hz0 .i64 .i64 ((0 : Nat) : Int) m (by omega) (by omega) (by rw [hz2]; omega) (by omega)
  simp only [Int.toNat_natCast, hz1] at hr
  unfold Oper.wp
  simp only [execOp, hop, hl, hc]
  simp [Result.andThen]
  have hr' := hr
  simp only [Int.natCast_zero] at hr'
  rw [hr']
  exact hK' _ _ (hK _ ⟨_, heap_alloc_new w _, by rw [size_madeCells, Nat.mul_one], Nat.zero_le _, by simp⟩ (bal _ _))
/-! ### slices.Clone -/
set_option maxHeartbeats 1000000 in
theorem clone8_any (x : Addr) (n cap : Nat) (xs : List Int) (W : World) (hX : IRow .i8 W (some x) n cap xs) (hn : n ≤ 1000000) :
    Calls Try.prog 14 #[.slice (some x) n cap] W fun e w' => (∃ v, e = .returned v ∧ Own .i8 63 w' W.heap.size v xs) ∧ Below W.heap.size W w' := by
  have hxl : Hid (xs.length = n) := hX.1
  have q22 : ∀ (w : World) (a : Option Addr) (n c n' c' : Nat), (binOp .eql 31 (.slice a n c) (.slice none n' c')).run Try.prog w = .ok (.bool a.isNone) w := fun w a n c n' c' => Lib.run_eql_slice_nil w _ _ a n c n' c' Try.underlying31
  have own0 : Own .i8 63 (W.alloc (.cells #[] 63)) W.heap.size (.slice (some ⟨W.heap.size, 0, none⟩) 0 0) [] := own_lit .i8 63 W W.heap.size [] (Wf.nil _) (by unfold maxLen; simp) (Nat.le_refl _)
  have b0 : Below W.heap.size W (W.alloc (.cells #[] 63)) := bal _ _
  go_enter Try.func14, Try.ntmps14
  go_wp2_with (at_builtin; refine wpList_app kt_i8 rfl (.tmp 5) (.tmp 6) rfl W.heap.size (.slice (some ⟨W.heap.size, 0, none⟩) 0 0) [] xs rfl own0 _ _ _ rfl (hX.below b0) (by have := hxl.out; simp; omega) (by simp) ?_; intro v1 w1 own1 gr1 nn1)
  go_ret
  exact ⟨⟨_, rfl, own1⟩, own0.bel b0 gr1 (Nat.le_refl _) b0.size⟩
end Go.Proofs.Ytehofmkpgopmpaa

/- What Tensors of package plain returns. -/
namespace Go.Proofs.Ytehofmkpgopmpaa
open Go.ChangeShapes Go.WideShapes Go.ChangeAt Go.RowKit
set_option linter.unusedVariables false
set_option maxHeartbeats 2000000 in
theorem tensors_bad (h w c lo hi ot : Int) (oa : Option Addr) (on oc : Nat) (O : Nat → Nat → Int) (Z B : Nat → List Int) (W : World) (hL : LRow W oa on oc O Z B) (ad : Option Addr) (n cap : Nat) (xs : List Int) (hX : IRow .i8 W ad n cap xs) (Re Ra Rw : Int) (RL : List (Int × Int × Int)) (hR : gtR O h w c lo hi ot on = (Re, Ra, RL, Rw)) (he : Re ≠ 0) :
    Calls Try.prog 7 #[.agg #[.int .i64 h, .int .i64 w, .int .i64 c, .int .i64 lo, .int .i64 hi, .slice oa on oc, .int .i64 ot], .slice ad n cap] W fun e w' => e = .returned (.tuple #[.slice none 0 0, .agg #[.int .i64 Re, .int .i64 Ra, .int .i64 0]]) ∧ Below W.heap.size W w' := by
  have hS : Hid (∀ W, MRow W oa on oc O → _) := fun W hW => shapes_any h w c lo hi ot oa on oc O W hW
  rw [hR] at hS
  simp only at hS
  have hM2 : Hid (MRow W oa on oc O) := hL.m
  have he' : (Re == 0) = false := by simp [he]
  have s0 := ((St.start W).new (c := #[.int .i64 h, .int .i64 w, .int .i64 c, .int .i64 lo, .int .i64 hi, .slice oa on oc, .int .i64 ot]) (t := 26)).new (c := #[.int .i64 0, .int .i64 0, .int .i64 0]) (t := 38)
  simp only [World.size_alloc] at s0
  clear hL hX hR
  go_enter Try.func7, Try.ntmps7
  go_wp2_with fail
  refine Calls.mono (hS.out _ (hM2.out.below s0.below)) ?_
  rintro e w1 ⟨v, rfl, hSh, hb⟩
  obtain ⟨va, vc, rfl⟩ := hSh.slice
  have s1 := (s0.call hb).new (c := #[.int .i64 Re, .int .i64 Ra, .int .i64 0]) (t := 38)
  obtain ⟨c1, f1, z1, c2, f2, z2, -⟩ := (s0.call hb).rules
  clear hb hSh hS hM2 s0
  go_upto_region 2 with fail
  obtain ⟨w2, hw2⟩ : ∃ w2, w1.alloc (.cells #[.int .i64 Re, .int .i64 Ra, .int .i64 0] 38) = w2 := ⟨_, rfl⟩
  rw [hw2] at s1 ⊢
  clear hw2 c1 f1 z1 c2 f2 z2
  obtain ⟨c1, f1, z1, c2, f2, z2, -⟩ := s1.rules
  have S1 : Hid (St W w2 _) := s1
  clear s1
  go_wp2
  go_region_law (fail)
  all_goals
    go_wp2
    exact bodyPost_ret (v := .tuple #[.slice none 0 0, .agg #[.int .i64 Re, .int .i64 Ra, .int .i64 0]]) (by simp [results, Try.results7, go_sem, *]) rfl ⟨rfl, by first | exact set3b S1.out.below (by omega) | exact set3b S1.out.drew.below (by omega)⟩
set_option maxHeartbeats 2000000 in
theorem tensors_in (h w c lo hi ot : Int) (oa : Option Addr) (on oc : Nat) (O : Nat → Nat → Int) (Z B : Nat → List Int) (W : World) (hL : LRow W oa on oc O Z B) (ad : Option Addr) (n cap : Nat) (xs : List Int) (hX : IRow .i8 W ad n cap xs) (Rw : Int) (RL : List (Int × Int × Int)) (hR : gtR O h w c lo hi ot on = (0, 0, RL, Rw)) (hin : inB h w c lo hi xs = false) :
    Calls Try.prog 7 #[.agg #[.int .i64 h, .int .i64 w, .int .i64 c, .int .i64 lo, .int .i64 hi, .slice oa on oc, .int .i64 ot], .slice ad n cap] W fun e w' => e = .returned (.tuple #[.slice none 0 0, .agg #[.int .i64 220, .int .i64 0, .int .i64 0]]) ∧ Below W.heap.size W w' := by
  have hS : Hid (∀ W, MRow W oa on oc O → _) := fun W hW => shapes_any h w c lo hi ot oa on oc O W hW
  rw [hR] at hS
  simp only at hS
  obtain ⟨-, hRl, ho64, -, -, -⟩ := gtR_ok hR
  have hvs : vS h w c = true := (ouE_0 (gtR_st hR).1).1
  have hI : Hid (∀ W', Below W.heap.size W W' → _) := fun W' hb => isinput_any h w c lo hi ot oa on oc ad n cap xs W' (hX.below hb) hvs
  rw [hin] at hI
  have hM2 : Hid (MRow W oa on oc O) := hL.m
  have s0 := ((St.start W).new (c := #[.int .i64 h, .int .i64 w, .int .i64 c, .int .i64 lo, .int .i64 hi, .slice oa on oc, .int .i64 ot]) (t := 26)).new (c := #[.int .i64 0, .int .i64 0, .int .i64 0]) (t := 38)
  simp only [World.size_alloc] at s0
  clear hL hX hR hvs
  go_enter Try.func7, Try.ntmps7
  go_wp2_with fail
  refine Calls.mono (hS.out _ (hM2.out.below s0.below)) ?_
  rintro e w1 ⟨v, rfl, hSh, hb⟩
  obtain ⟨va, vc, rfl⟩ := hSh.slice
  have s1 := (s0.call hb).new (c := #[.int .i64 0, .int .i64 0, .int .i64 0]) (t := 38)
  obtain ⟨c1, f1, z1, c2, f2, z2, -⟩ := (s0.call hb).rules
  clear hb hSh hS hM2 s0
  go_upto_region 2 with fail
  obtain ⟨w2, hw2⟩ : ∃ w2, w1.alloc (.cells #[.int .i64 0, .int .i64 0, .int .i64 0] 38) = w2 := ⟨_, rfl⟩
  rw [hw2] at s1 ⊢
  clear hw2 c1 f1 z1 c2 f2 z2
  obtain ⟨c1, f1, z1, c2, f2, z2, c3, f3, z3, -⟩ := s1.rules
  have S1 : Hid (St W w2 _) := s1
  clear s1
  go_wp2_with fail
  refine (hI.out _ S1.out.below).mono ?_
  rintro e w3 ⟨rfl, hb3⟩
  have s3 := S1.out.call hb3
  clear c1 f1 z1 c2 f2 z2 c3 f3 z3
  obtain ⟨c1, f1, z1, c2, f2, z2, -⟩ := s3.rules
  have S3 : Hid (St W w3 _) := s3
  clear s3 hb3 S1
  go_wp2
  exact bodyPost_ret (v := .tuple #[.slice none 0 0, .agg #[.int .i64 220, .int .i64 0, .int .i64 0]]) (by simp [results, Try.results7, go_sem, *]) rfl ⟨rfl, set3b S3.out.below (by omega)⟩
theorem LG.ne8 {w : World} {g cap : Nat} {ss : List Value} (h : LG w g cap ss) : ∀ c, w.heap[g]? ≠ some (.cells c 63 (0, 0)) := fun c e => by
  obtain ⟨cur, h1, -⟩ := h
  rw [h1] at e
  simp at e
theorem St.setL {w0 w : World} {l : List (Nat × Array Value × TypeId)} {g cap i : Nat} {v : Value} {ss : List Value} (h : St w0 w l) (hL : LG w g cap ss) (hb : w0.heap.size ≤ g) (hT : ∀ x ∈ l, x.2.2 ≠ 31) : St w0 (w.setCell ⟨g, i, none⟩ v) l := by
  obtain ⟨cur, h1, -⟩ := hL
  refine h.setX hb fun x hx e => ?_
  have := (h.2 x hx).1
  rw [e, h1] at this
  simp only [Option.some.injEq, Obj.cells.injEq] at this
  exact hT x hx this.2.1.symm
theorem LLs.set {w : World} {base N i : Nat} {v u : Value} {Ts : List (List Int)} {c : Array Value} {T : TypeId} (h : LLs w base v Ts) (hN : w.heap[N]? = some (.cells c T (0, 0))) (h1 : T ≠ 31) (h2 : T ≠ 63) : LLs (w.setCell ⟨N, i, none⟩ u) base v Ts := by
  obtain ⟨ss, q1, q2⟩ := h
  refine ⟨ss, ?_, q2.grown (grown_set w N i u) fun b hb c' e => ?_⟩
  · refine World.ownsRow.kept q1 (grown_set w N i u) ?_
    have := own_ne q1 hN h1
    cases e : v.ownBlock with
    | none => exact .inl rfl
    | some b => exact .inr (fun q => this (by rw [e, q]))
  · cases hb
    rw [hN] at e
    simp only [Option.some.injEq, Obj.cells.injEq] at e
    exact h2 e.2.1
set_option maxRecDepth 100000 in
set_option maxHeartbeats 8000000 in
theorem tensors_ok (h w c lo hi ot : Int) (oa : Option Addr) (on oc : Nat) (O : Nat → Nat → Int) (Z B : Nat → List Int) (W : World) (hL : LRow W oa on oc O Z B) (ad : Option Addr) (n cap : Nat) (xs : List Int) (hX : IRow .i8 W ad n cap xs) (Rw : Int) (RL : List (Int × Int × Int)) (hR : gtR O h w c lo hi ot on = (0, 0, RL, Rw)) (hin : inB h w c lo hi xs = true) :
    Calls Try.prog 7 #[.agg #[.int .i64 h, .int .i64 w, .int .i64 c, .int .i64 lo, .int .i64 hi, .slice oa on oc, .int .i64 ot], .slice ad n cap] W fun e w' => (∃ v, e = .returned (.tuple #[v, .agg #[.int .i64 0, .int .i64 0, .int .i64 0]]) ∧ LLs w' W.heap.size v (tnL O Z B RL xs on)) ∧ Below W.heap.size W w' := by
  obtain ⟨hxn, hxr⟩ := inB_yes hin
  have hS : Hid (∀ W, MRow W oa on oc O → _) := fun W hW => shapes_any h w c lo hi ot oa on oc O W hW
  rw [hR] at hS
  simp only at hS
  obtain ⟨-, hRl, ho64, -, -, -⟩ := gtR_ok hR
  have hvs : vS h w c = true := (ouE_0 (gtR_st hR).1).1
  have hI : Hid (∀ W', Below W.heap.size W W' → _) := fun W' hb => isinput_any h w c lo hi ot oa on oc ad n cap xs W' (hX.below hb) hvs
  rw [hin] at hI
  have hM2 : Hid (MRow W oa on oc O) := hL.m
  have s0 := ((St.start W).new (c := #[.int .i64 h, .int .i64 w, .int .i64 c, .int .i64 lo, .int .i64 hi, .slice oa on oc, .int .i64 ot]) (t := 26)).new (c := #[.int .i64 0, .int .i64 0, .int .i64 0]) (t := 38)
  simp only [World.size_alloc] at s0
  have hxl := hX.1
  have p3 := (vS_bd hvs).2
  have hn6 : n ≤ 1000000 := by omega
  have hn1 : 1 ≤ n := by omega
  obtain ⟨xa, rfl⟩ : ∃ xa, ad = some xa := by
    cases ad with
    | none => have := hX.2.2.2.2.1 rfl; have := hX.2.1; omega
    | some xa => exact ⟨xa, rfl⟩
  have HX : Hid (IRow .i8 W (some xa) n cap xs) := hX
  have HL : Hid (LRow W oa on oc O Z B) := hL
  have HR : Hid (gtR O h w c lo hi ot on = (0, 0, RL, Rw)) := hR
  have HF : Hid (∀ i, i ≤ on → _) := tn_facts (Z := Z) (B := B) hR hxn hX.i8
  have hocm := hL.1
  have hocx := hL.2.1
  unfold maxLen at hocx
  clear hL hX hR hvs hxn hxr hxl p3
  go_enter Try.func7, Try.ntmps7
  go_wp2_with fail
  refine Calls.mono (hS.out _ (hM2.out.below s0.below)) ?_
  rintro e w1 ⟨v, rfl, hSh, hb⟩
  obtain ⟨gs, caps, curs, rfl, hgb, hgc, hCu, hcaps⟩ : ∃ g cap cur, v = .slice (some ⟨g, 0, none⟩) (on + 1) cap ∧ W.heap.size ≤ g ∧ w1.heap[g]? = some (.cells cur 23 (0, 0)) ∧ Cu cur cap RL ∧ cap ≤ 1000 := by
    rcases hSh with ⟨-, q⟩ | ⟨g, cap, cur, q1, q2, q3, q4, q5⟩
    · rw [q] at hRl; simp at hRl
    · exact ⟨g, cap, cur, by rw [q1, hRl], by simp at q2; omega, q3, q4, q5⟩
  have hcap2 := hCu.2.1
  rw [hRl] at hcap2
  have s1 := ((s0.call hb).ad hgc hgb).new (c := #[.int .i64 0, .int .i64 0, .int .i64 0]) (t := 38)
  obtain ⟨c1, f1, z1, c2, f2, z2, -⟩ := (s0.call hb).rules
  have HCu : Hid (Cu curs caps RL) := hCu
  clear hb hSh hS hM2 s0 hgc hCu
  go_upto_region 2 with fail
  obtain ⟨w2, hw2⟩ : ∃ w2, w1.alloc (.cells #[.int .i64 0, .int .i64 0, .int .i64 0] 38) = w2 := ⟨_, rfl⟩
  rw [hw2] at s1 ⊢
  clear hw2 c1 f1 z1 c2 f2 z2
  obtain ⟨bf, hbf⟩ : ∃ bf, w1.heap.size = bf := ⟨_, rfl⟩
  rw [hbf] at s1 ⊢
  clear hbf
  have S1 : Hid (St W w2 ((bf, #[.int .i64 0, .int .i64 0, .int .i64 0], 38) :: (gs, curs, 23) :: (W.heap.size + 1, #[.int .i64 0, .int .i64 0, .int .i64 0], 38) :: (W.heap.size, #[.int .i64 h, .int .i64 w, .int .i64 c, .int .i64 lo, .int .i64 hi, .slice oa on oc, .int .i64 ot], 26) :: [])) := s1
  obtain ⟨c1, f1, z1, -, -, z2, c3, f3, z3, c4, f4, z4, -⟩ := s1.rules
  clear s1
  go_wp2_with fail
  refine (hI.out _ S1.out.below).mono ?_
  rintro e w3 ⟨rfl, hb3⟩
  have S3 : Hid (St W w3 ((bf, #[.int .i64 0, .int .i64 0, .int .i64 0], 38) :: (gs, curs, 23) :: (W.heap.size + 1, #[.int .i64 0, .int .i64 0, .int .i64 0], 38) :: (W.heap.size, #[.int .i64 h, .int .i64 w, .int .i64 c, .int .i64 lo, .int .i64 hi, .slice oa on oc, .int .i64 ot], 26) :: [])) := S1.out.call hb3
  clear c1 f1 z1 z2 c3 f3 z3 c4 f4 z4 hb3 S1 hI
  obtain ⟨-, -, -, -, -, -, -, -, -, c4, f4, z4, -⟩ := S3.out.rules
  go_upto_region 7 with (at_make; refine wpList_mkR rfl _ _ rfl (on + 1) _ rfl rfl (by omega) (by omega) ?_; intro w4 hLG hb4; have S4 : Hid (St W w4 ((bf, #[.int .i64 0, .int .i64 0, .int .i64 0], 38) :: (gs, curs, 23) :: (W.heap.size + 1, #[.int .i64 0, .int .i64 0, .int .i64 0], 38) :: (W.heap.size, #[.int .i64 h, .int .i64 w, .int .i64 c, .int .i64 lo, .int .i64 hi, .slice oa on oc, .int .i64 ot], 26) :: [])) := S3.out.call hb4; have HLG4 : Hid (LG w4 w3.heap.size (on + 1) []) := hLG; clear hLG hb4 c4 f4 z4)
  obtain ⟨g, hg⟩ : ∃ g, w3.heap.size = g := ⟨_, rfl⟩
  have hgW : Hid (W.heap.size ≤ g) := by unfold Hid; rw [← hg]; exact S3.out.size
  rw [hg] at HLG4 ⊢
  clear hg S3
  go_wp2_with fail
  refine (clone8_any xa n cap xs w4 (HX.out.below S4.out.below) hn6).mono ?_
  rintro e w5 ⟨⟨sv, rfl, hO5⟩, hb5⟩
  obtain ⟨va5, vc5, rfl, -, -⟩ := hO5.row
  have hE5 : Hid (Ells w5 W.heap.size [.slice va5 xs.length vc5] (tnL O Z B RL xs 0)) := (Ells.nil w4 W.heap.size).add hb5 hO5 S4.out.size
  have S5 : Hid (St W w5 ((bf, #[.int .i64 0, .int .i64 0, .int .i64 0], 38) :: (gs, curs, 23) :: (W.heap.size + 1, #[.int .i64 0, .int .i64 0, .int .i64 0], 38) :: (W.heap.size, #[.int .i64 h, .int .i64 w, .int .i64 c, .int .i64 lo, .int .i64 hi, .slice oa on oc, .int .i64 ot], 26) :: [])) := S4.out.call hb5
  have HLG5 : Hid (LG w5 g (on + 1) []) := HLG4.out.below hb5
  clear hO5 hb5 S4 HLG4
  go_upto_region 8 with (at_builtin; refine wpList_apR rfl (.tmp 31) (.tmp 34) rfl g (on + 1) [] 0 rfl rfl w5.heap.size (.slice va5 xs.length vc5) rfl (heap_alloc_new w5 _) rfl (HLG5.out.below (bal _ _)) (by omega) ?_; have S6 : Hid (St W _ ((bf, #[.int .i64 0, .int .i64 0, .int .i64 0], 38) :: (gs, curs, 23) :: (W.heap.size + 1, #[.int .i64 0, .int .i64 0, .int .i64 0], 38) :: (W.heap.size, #[.int .i64 h, .int .i64 w, .int .i64 c, .int .i64 lo, .int .i64 hi, .slice oa on oc, .int .i64 ot], 26) :: [])) := (S5.out.skip (.cells #[.slice va5 xs.length vc5] 31)).setL (i := 0) (v := .slice va5 xs.length vc5) (HLG5.out.below (bal _ _)) hgW.out (by simp); have HLG6 : Hid (LG _ g (on + 1) [.slice va5 xs.length vc5]) := (HLG5.out.below (bal w5 (.cells #[.slice va5 xs.length vc5] 31))).add (by simp) (.slice va5 xs.length vc5); have hE6 : Hid (Ells _ W.heap.size [.slice va5 xs.length vc5] (tnL O Z B RL xs 0)) := (hE5.out.below (bal w5 (.cells #[.slice va5 xs.length vc5] 31))).grown (grown_set _ g 0 (.slice va5 xs.length vc5)) (fun b hb => by cases hb; exact (HLG5.out.below (bal w5 (.cells #[.slice va5 xs.length vc5] 31))).ne8))
  have HLG6' : Hid (LG ((w5.alloc (.cells #[.slice va5 xs.length vc5] 31)).setCell ⟨g, 0, none⟩ (.slice va5 xs.length vc5)) g (on + 1) [.slice va5 xs.length vc5]) := HLG6.out
  obtain ⟨w6, hw6⟩ : ∃ w6, (w5.alloc (.cells #[.slice va5 xs.length vc5] 31)).setCell ⟨g, 0, none⟩ (.slice va5 xs.length vc5) = w6 := ⟨_, rfl⟩
  rw [hw6] at S6 HLG6' hE6 ⊢
  clear hw6 HLG6 HLG5 hE5 S5
  obtain ⟨-, -, -, -, -, -, -, -, -, c4, f4, z4, -⟩ := S6.out.rules
  go_wp2
  go_loopw [8, 39] (fun v i wr => ∃ (y : Nat) (ss : List Value), y ≤ on ∧ i = .int .i64 y ∧ v = .slice (some ⟨g, 0, none⟩) (y + 1) (on + 1) ∧ ss.length = y + 1 ∧ LG wr g (on + 1) ss ∧ Ells wr W.heap.size ss (tnL O Z B RL xs y) ∧ St W wr ((bf, #[.int .i64 0, .int .i64 0, .int .i64 0], 38) :: (gs, curs, 23) :: (W.heap.size + 1, #[.int .i64 0, .int .i64 0, .int .i64 0], 38) :: (W.heap.size, #[.int .i64 h, .int .i64 w, .int .i64 c, .int .i64 lo, .int .i64 hi, .slice oa on oc, .int .i64 ot], 26) :: [])) (fun _ i _ => on - (intOf i).toNat)
  case atStart => exact ⟨0, _, Nat.zero_le _, rfl, rfl, rfl, HLG6'.out, hE6.out, S6.out⟩
  case round =>
    obtain ⟨y, ss, hy, rfl, rfl, hsl, hLG, hEl, sr⟩ := hrel
    clear S6 HLG6' hE6 c4 f4 z4
    have HSL : Hid (ss.length = y + 1) := hsl
    have HLG : Hid (LG wr g (on + 1) ss) := hLG
    have HEl : Hid (Ells wr W.heap.size ss (tnL O Z B RL xs y)) := hEl
    have SR : Hid (St W wr ((bf, #[.int .i64 0, .int .i64 0, .int .i64 0], 38) :: (gs, curs, 23) :: (W.heap.size + 1, #[.int .i64 0, .int .i64 0, .int .i64 0], 38) :: (W.heap.size, #[.int .i64 h, .int .i64 w, .int .i64 c, .int .i64 lo, .int .i64 hi, .slice oa on oc, .int .i64 ot], 26) :: [])) := sr
    clear hsl hLG hEl sr
    by_cases hlt : y < on
    · obtain ⟨x, rfl, hop⟩ := (HL.out.below SR.out.below).at hlt
      obtain ⟨wa, lw, cw, ba, lb, cb, e12, e13, hcell, hz, hb, hlw, hlb⟩ := hop
      obtain ⟨ja, jb, e1, hja, e3, hjb, hO⟩ := opd_of HR.out hlt
      obtain ⟨x0, y0, z0, hA⟩ : ∃ x0 y0 z0, RL.getD ja (0, 0, 0) = (x0, y0, z0) := ⟨_, _, _, rfl⟩
      obtain ⟨H, V, C, hB⟩ : ∃ H V C, RL.getD (y + 1) (0, 0, 0) = (H, V, C) := ⟨_, _, _, rfl⟩
      obtain ⟨hOpd, hb6⟩ := hO _ _ _ _ _ _ hA hB
      rw [e12, e13, Int.toNat_natCast, Int.toNat_natCast] at hOpd
      obtain ⟨a1, a2, a3⟩ := HCu.out.at (show ja < RL.length by omega)
      obtain ⟨b1, b2, b3⟩ := HCu.out.at (show y + 1 < RL.length by omega)
      rw [hA] at a1 a2 a3
      rw [hB] at b1 b2 b3
      simp only at a1 a2 a3 b1 b2 b3
      have hfa := HF.out ja (by omega)
      have hfb := HF.out jb (by omega)
      rw [hA] at hfa
      have hsucc := tnA_succ (Z := Z) (B := B) (L := RL) (x := xs) e1 e3 hja hjb
      rw [hA, hB] at hsucc
      have HTn : Hid (tnL O Z B RL xs (y + 1) = tnL O Z B RL xs y ++ [opT (O y) (Z y) (B y) (x0, y0, z0) (H, V, C) (tnA O Z B RL xs ja) (tnA O Z B RL xs jb)]) := by
        unfold Hid; rw [tnL_succ, hsucc]
      have hoa := HEl.out.2.1 ja (by rw [HSL.out]; omega)
      have hob := HEl.out.2.1 jb (by rw [HSL.out]; omega)
      rw [tnL_get _ _ _ _ _ hja] at hoa
      rw [tnL_get _ _ _ _ _ hjb] at hob
      obtain ⟨aa, ca, eA, hra, -⟩ := hoa.row
      obtain ⟨ab, cb', eB, hrb, -⟩ := hob.row
      have hcA := HLG.out.at (show ja < ss.length by rw [HSL.out]; omega)
      have hcB := HLG.out.at (show jb < ss.length by rw [HSL.out]; omega)
      rw [eA] at hcA
      rw [eB] at hcB
      obtain ⟨na, hna⟩ : ∃ na, (tnA O Z B RL xs ja).length = na := ⟨_, rfl⟩
      obtain ⟨nb, hnb⟩ : ∃ nb, (tnA O Z B RL xs jb).length = nb := ⟨_, rfl⟩
      rw [hna] at hcA hra hfa
      rw [hnb] at hcB hrb hfb
      have hnab : O y 0 = 6 → nb = na := fun q => by
        have h6 := hb6 q
        have h7 := hfb.1
        rw [h6] at h7
        have h8 := hfa.1
        simp only at h7 h8
        omega
      have HT : Hid (∀ (w' : World) (r : Nat), w'.heap[r]? = some (.cells #[.int .i64 (O y 0), .int .i64 (O y 1), .int .i64 (O y 2), .int .i64 (O y 3), .int .i64 (O y 4), .int .i64 (O y 5), .int .i64 (O y 6), .int .i64 (O y 7), .int .i64 (O y 8), .int .i64 (O y 9), .int .i64 (O y 10), .int .i64 (O y 11), .slice wa lw cw, .slice ba lb cb, .int .i64 (O y 14), .int .i64 (O y 15), .int .i64 (O y 16), .int .i64 (O y 17), .int .i64 (O y 18), .int .i64 (O y 19), .int .i64 (O y 20), .int .i64 (O y 21), .int .i64 x0, .int .i64 y0, .int .i64 z0, .int .i64 H, .int .i64 V, .int .i64 C] 73 (0, 0)) → Below wr.heap.size wr w' → _) := fun w' r hr hbw => tensor_any (O y 0) (O y 1) (O y 2) (O y 3) (O y 4) (O y 5) (O y 6) (O y 7) (O y 8) (O y 9) (O y 10) (O y 11) wa lw cw ba lb cb (O y 14) (O y 15) (O y 16) (O y 17) (O y 18) (O y 19) (O y 20) (O y 21) x0 y0 z0 H V C r w' hr hOpd (Z y) (B y) (hz.below hbw) (hb.below hbw) hlw hlb aa na ca (tnA O Z B RL xs ja) (hra.below hbw) hfa.1 ab nb cb' (tnA O Z B RL xs jb) (hrb.below hbw) hnab
      have hopl : Hid (∀ q v, [.int .i64 (O y 0), .int .i64 (O y 1), .int .i64 (O y 2), .int .i64 (O y 3), .int .i64 (O y 4), .int .i64 (O y 5), .int .i64 (O y 6), .int .i64 (O y 7), .int .i64 (O y 8), .int .i64 (O y 9), .int .i64 (O y 10), .int .i64 (O y 11), .slice wa lw cw, .slice ba lb cb, .int .i64 (O y 14), .int .i64 (O y 15), .int .i64 (O y 16), .int .i64 (O y 17), .int .i64 (O y 18), .int .i64 (O y 19), .int .i64 (O y 20), .int .i64 (O y 21)][q]? = some v → wr.cell? ((x.add (y * 22)).add q) = some v) := hcell
      have HD1 : Hid (O y 1 = (ja : Int)) := e1
      have HD2 : Hid (O y 2 = (jb : Int)) := e3
      have hcA' : Hid (wr.cell? ⟨g, ja, none⟩ = some (.slice aa na ca)) := hcA
      have hcB' : Hid (wr.cell? ⟨g, jb, none⟩ = some (.slice ab nb cb')) := hcB
      have s7 := SR.out.new (c := #[.int .i64 (O y 0), .int .i64 (O y 1), .int .i64 (O y 2), .int .i64 (O y 3), .int .i64 (O y 4), .int .i64 (O y 5), .int .i64 (O y 6), .int .i64 (O y 7), .int .i64 (O y 8), .int .i64 (O y 9), .int .i64 (O y 10), .int .i64 (O y 11), .slice wa lw cw, .slice ba lb cb, .int .i64 (O y 14), .int .i64 (O y 15), .int .i64 (O y 16), .int .i64 (O y 17), .int .i64 (O y 18), .int .i64 (O y 19), .int .i64 (O y 20), .int .i64 (O y 21)]) (t := 48)
      have HA3 : Hid (curs[ja * 3]? = some (.int .i64 x0) ∧ curs[ja * 3 + 1]? = some (.int .i64 y0) ∧ curs[ja * 3 + 2]? = some (.int .i64 z0)) := ⟨a1, a2, a3⟩
      have HB3 : Hid (curs[(y + 1) * 3]? = some (.int .i64 H) ∧ curs[(y + 1) * 3 + 1]? = some (.int .i64 V) ∧ curs[(y + 1) * 3 + 2]? = some (.int .i64 C)) := ⟨b1, b2, b3⟩
      clear hcell hz hb e1 e3 hO hOpd hb6 a1 a2 a3 b1 b2 b3 hfa hfb hsucc hoa hob hra hrb eA eB hcA hcB hA hB hnab e12 e13 hlw hlb HF
      obtain ⟨vo, hvo⟩ : ∃ vo, Value.agg #[.int .i64 (O y 0), .int .i64 (O y 1), .int .i64 (O y 2), .int .i64 (O y 3), .int .i64 (O y 4), .int .i64 (O y 5), .int .i64 (O y 6), .int .i64 (O y 7), .int .i64 (O y 8), .int .i64 (O y 9), .int .i64 (O y 10), .int .i64 (O y 11), .slice wa lw cw, .slice ba lb cb, .int .i64 (O y 14), .int .i64 (O y 15), .int .i64 (O y 16), .int .i64 (O y 17), .int .i64 (O y 18), .int .i64 (O y 19), .int .i64 (O y 20), .int .i64 (O y 21)] = vo := ⟨_, rfl⟩
      have HVO : Hid (Value.agg #[.int .i64 (O y 0), .int .i64 (O y 1), .int .i64 (O y 2), .int .i64 (O y 3), .int .i64 (O y 4), .int .i64 (O y 5), .int .i64 (O y 6), .int .i64 (O y 7), .int .i64 (O y 8), .int .i64 (O y 9), .int .i64 (O y 10), .int .i64 (O y 11), .slice wa lw cw, .slice ba lb cb, .int .i64 (O y 14), .int .i64 (O y 15), .int .i64 (O y 16), .int .i64 (O y 17), .int .i64 (O y 18), .int .i64 (O y 19), .int .i64 (O y 20), .int .i64 (O y 21)] = vo) := hvo
      go_upto_region 11 with ((refine wpList_load_any rfl 48 (.tmp 42) rfl _ rfl [.int .i64 (O y 0), .int .i64 (O y 1), .int .i64 (O y 2), .int .i64 (O y 3), .int .i64 (O y 4), .int .i64 (O y 5), .int .i64 (O y 6), .int .i64 (O y 7), .int .i64 (O y 8), .int .i64 (O y 9), .int .i64 (O y 10), .int .i64 (O y 11), .slice wa lw cw, .slice ba lb cb, .int .i64 (O y 14), .int .i64 (O y 15), .int .i64 (O y 16), .int .i64 (O y 17), .int .i64 (O y 18), .int .i64 (O y 19), .int .i64 (O y 20), .int .i64 (O y 21)] _ hopl.out Try.underlying48 rfl (by kernel_rfl) ?_; (show wpList _ _ _ _ (Act.put _ _ (Value.agg #[.int .i64 (O y 0), .int .i64 (O y 1), .int .i64 (O y 2), .int .i64 (O y 3), .int .i64 (O y 4), .int .i64 (O y 5), .int .i64 (O y 6), .int .i64 (O y 7), .int .i64 (O y 8), .int .i64 (O y 9), .int .i64 (O y 10), .int .i64 (O y 11), .slice wa lw cw, .slice ba lb cb, .int .i64 (O y 14), .int .i64 (O y 15), .int .i64 (O y 16), .int .i64 (O y 17), .int .i64 (O y 18), .int .i64 (O y 19), .int .i64 (O y 20), .int .i64 (O y 21)])) _); rw [hvo]; clear hvo; refine wpList_run1 rfl (some 10) rfl (.pointer (some ⟨wr.heap.size, 0, none⟩)) (wr.alloc (.cells #[.int .i64 0, .int .i64 0, .int .i64 0, .int .i64 0, .int .i64 0, .int .i64 0, .int .i64 0, .int .i64 0, .int .i64 0, .int .i64 0, .int .i64 0, .int .i64 0, .slice none 0 0, .slice none 0 0, .int .i64 0, .int .i64 0, .int .i64 0, .int .i64 0, .int .i64 0, .int .i64 0, .int .i64 0, .int .i64 0] 48)) (by kernel_rfl) ?_; refine wpList_run1 rfl (some 9) rfl (.int .i64 (y : Int)) (wr.alloc (.cells #[.int .i64 0, .int .i64 0, .int .i64 0, .int .i64 0, .int .i64 0, .int .i64 0, .int .i64 0, .int .i64 0, .int .i64 0, .int .i64 0, .int .i64 0, .int .i64 0, .slice none 0 0, .slice none 0 0, .int .i64 0, .int .i64 0, .int .i64 0, .int .i64 0, .int .i64 0, .int .i64 0, .int .i64 0, .int .i64 0] 48)) (by kernel_rfl) ?_; refine wpList_st_new rfl 48 (.tmp 10) (.tmp 43) rfl wr #[.int .i64 0, .int .i64 0, .int .i64 0, .int .i64 0, .int .i64 0, .int .i64 0, .int .i64 0, .int .i64 0, .int .i64 0, .int .i64 0, .int .i64 0, .int .i64 0, .slice none 0 0, .slice none 0 0, .int .i64 0, .int .i64 0, .int .i64 0, .int .i64 0, .int .i64 0, .int .i64 0, .int .i64 0, .int .i64 0] #[.int .i64 (O y 0), .int .i64 (O y 1), .int .i64 (O y 2), .int .i64 (O y 3), .int .i64 (O y 4), .int .i64 (O y 5), .int .i64 (O y 6), .int .i64 (O y 7), .int .i64 (O y 8), .int .i64 (O y 9), .int .i64 (O y 10), .int .i64 (O y 11), .slice wa lw cw, .slice ba lb cb, .int .i64 (O y 14), .int .i64 (O y 15), .int .i64 (O y 16), .int .i64 (O y 17), .int .i64 (O y 18), .int .i64 (O y 19), .int .i64 (O y 20), .int .i64 (O y 21)] (by kernel_rfl) (Eq.trans (by kernel_rfl : _ = vo) HVO.out.symm) (by kernel_rfl) rfl (by simp [Value.oneCell']) ?_))
      obtain ⟨w7, hw7⟩ : ∃ w7, wr.alloc (.cells #[.int .i64 (O y 0), .int .i64 (O y 1), .int .i64 (O y 2), .int .i64 (O y 3), .int .i64 (O y 4), .int .i64 (O y 5), .int .i64 (O y 6), .int .i64 (O y 7), .int .i64 (O y 8), .int .i64 (O y 9), .int .i64 (O y 10), .int .i64 (O y 11), .slice wa lw cw, .slice ba lb cb, .int .i64 (O y 14), .int .i64 (O y 15), .int .i64 (O y 16), .int .i64 (O y 17), .int .i64 (O y 18), .int .i64 (O y 19), .int .i64 (O y 20), .int .i64 (O y 21)] 48) = w7 := ⟨_, rfl⟩
      have HB7 : Hid (Below wr.heap.size wr w7) := by unfold Hid; rw [← hw7]; exact bal _ _
      rw [hw7] at s7 ⊢
      obtain ⟨ob, hob⟩ : ∃ ob, wr.heap.size = ob := ⟨_, rfl⟩
      rw [hob] at s7 ⊢
      have S7 : Hid (St W w7 _) := s7
      have hG1 := s7.h1
      have hobg : Hid (ob ≠ g) := fun e => by
        obtain ⟨cur, q, -⟩ := HLG.out.below HB7.out
        rw [← e, hG1] at q
        simp at q
      have hG3 := s7.h3
      clear hw7 hob s7
      refine regionC (fun w' => Below w7.heap.size w7 w') (by kernel_rfl) ?_
      obtain ⟨wd, hwd⟩ : ∃ wd, w7.drew = wd := ⟨_, rfl⟩
      have HD : Hid (Below w7.heap.size w7 wd) := by unfold Hid; rw [← hwd]; exact (Below.refl _ _).drew
      rw [hwd]
      clear hwd
      have HC0 : Hid (∀ w', Below w7.heap.size w7 w' → ∀ q v, [.int .i64 (O y 0), .int .i64 (O y 1), .int .i64 (O y 2), .int .i64 (O y 3), .int .i64 (O y 4), .int .i64 (O y 5), .int .i64 (O y 6), .int .i64 (O y 7), .int .i64 (O y 8), .int .i64 (O y 9), .int .i64 (O y 10), .int .i64 (O y 11), .slice wa lw cw, .slice ba lb cb, .int .i64 (O y 14), .int .i64 (O y 15), .int .i64 (O y 16), .int .i64 (O y 17), .int .i64 (O y 18), .int .i64 (O y 19), .int .i64 (O y 20), .int .i64 (O y 21)][q]? = some v → w'.cell? ((⟨ob, 0, none⟩ : Addr).add q) = some v) := fun w' hw' => lcells ((hw'.block _ (lt_of_heap hG1)).trans hG1) (fget [.int .i64 (O y 0), .int .i64 (O y 1), .int .i64 (O y 2), .int .i64 (O y 3), .int .i64 (O y 4), .int .i64 (O y 5), .int .i64 (O y 6), .int .i64 (O y 7), .int .i64 (O y 8), .int .i64 (O y 9), .int .i64 (O y 10), .int .i64 (O y 11), .slice wa lw cw, .slice ba lb cb, .int .i64 (O y 14), .int .i64 (O y 15), .int .i64 (O y 16), .int .i64 (O y 17), .int .i64 (O y 18), .int .i64 (O y 19), .int .i64 (O y 20), .int .i64 (O y 21)] [])
      have HC1 : Hid (∀ w', Below w7.heap.size w7 w' → w'.cell? ⟨ob, 1, none⟩ = some (.int .i64 (ja : Int))) := fun w' hw' => by rw [← HD1.out]; exact ((cells_at ((hw'.block _ (lt_of_heap hG1)).trans hG1)).1 1).trans rfl
      have HC2 : Hid (∀ w', Below w7.heap.size w7 w' → ∀ q v, [.int .i64 x0, .int .i64 y0, .int .i64 z0][q]? = some v → w'.cell? ((⟨gs, ja * 3, none⟩ : Addr).add q) = some v) := fun w' hw' => three_at ((hw'.block _ (lt_of_heap hG3)).trans hG3) HA3.out.1 HA3.out.2.1 HA3.out.2.2
      have HC3 : Hid (∀ w', Below w7.heap.size w7 w' → ∀ q v, [.int .i64 H, .int .i64 V, .int .i64 C][q]? = some v → w'.cell? ((⟨gs, (y + 1) * 3, none⟩ : Addr).add q) = some v) := fun w' hw' => three_at ((hw'.block _ (lt_of_heap hG3)).trans hG3) HB3.out.1 HB3.out.2.1 HB3.out.2.2
      have HC4 : Hid (∀ w', Below w7.heap.size w7 w' → w'.cell? ⟨ob, 2, none⟩ = some (.int .i64 (jb : Int))) := fun w' hw' => by rw [← HD2.out]; exact ((cells_at ((hw'.block _ (lt_of_heap hG1)).trans hG1)).1 2).trans rfl
      clear hG1 hG3 HA3 HB3 HVO hopl
      refine takeC 0 (v := .agg #[.int .i64 (O y 0), .int .i64 (O y 1), .int .i64 (O y 2), .int .i64 (O y 3), .int .i64 (O y 4), .int .i64 (O y 5), .int .i64 (O y 6), .int .i64 (O y 7), .int .i64 (O y 8), .int .i64 (O y 9), .int .i64 (O y 10), .int .i64 (O y 11), .slice wa lw cw, .slice ba lb cb, .int .i64 (O y 14), .int .i64 (O y 15), .int .i64 (O y 16), .int .i64 (O y 17), .int .i64 (O y 18), .int .i64 (O y 19), .int .i64 (O y 20), .int .i64 (O y 21)]) rfl rfl (by kernel_rfl) (by kernel_rfl) (by kernel_rfl) (fun _ _ _ h => h) (fun _ => rfl) rfl (fun w' hw' => run_la 48 (.tmp 10) rfl ⟨ob, 0, none⟩ (by kernel_rfl) [.int .i64 (O y 0), .int .i64 (O y 1), .int .i64 (O y 2), .int .i64 (O y 3), .int .i64 (O y 4), .int .i64 (O y 5), .int .i64 (O y 6), .int .i64 (O y 7), .int .i64 (O y 8), .int .i64 (O y 9), .int .i64 (O y 10), .int .i64 (O y 11), .slice wa lw cw, .slice ba lb cb, .int .i64 (O y 14), .int .i64 (O y 15), .int .i64 (O y 16), .int .i64 (O y 17), .int .i64 (O y 18), .int .i64 (O y 19), .int .i64 (O y 20), .int .i64 (O y 21)] _ (HC0.out w' hw') Try.underlying48 rfl (by kernel_rfl)) ?_
      refine takeC 1 (v := .slice (some ⟨gs, 0, none⟩) (on + 1) caps) rfl rfl (by kernel_rfl) (by kernel_rfl) (by kernel_rfl) (fun _ _ _ h => h) (fun _ => rfl) rfl (fun w' hw' => by go_simp) ?_
      refine takeC 2 (v := .pointer (some ⟨ob, 1, none⟩)) rfl rfl (by kernel_rfl) (by kernel_rfl) (by kernel_rfl) (fun _ _ _ h => h) (fun _ => rfl) rfl (fun w' hw' => by go_simp) ?_
      refine takeC 3 (v := .int .i64 (ja : Int)) rfl rfl (by kernel_rfl) (by kernel_rfl) (by kernel_rfl) (fun _ _ _ h => h) (fun _ => rfl) rfl (fun w' hw' => by have hc := HC1.out w' hw'; go_simp) ?_
      refine takeC 4 (v := .pointer (some ⟨gs, ja * 3, none⟩)) rfl rfl (by kernel_rfl) (by kernel_rfl) (by kernel_rfl) (fun _ _ _ h => h) (fun _ => rfl) rfl (fun w' hw' => by go_simp; try (intro q; omega)) ?_
      refine takeC 5 (v := .agg #[.int .i64 x0, .int .i64 y0, .int .i64 z0]) rfl rfl (by kernel_rfl) (by kernel_rfl) (by kernel_rfl) (fun _ _ _ h => h) (fun _ => rfl) rfl (fun w' hw' => run_la 23 (.tmp 48) rfl ⟨gs, ja * 3, none⟩ (by kernel_rfl) [.int .i64 x0, .int .i64 y0, .int .i64 z0] _ (HC2.out w' hw') Try.underlying23 rfl (by kernel_rfl)) ?_
      refine takeC 6 (v := .slice (some ⟨gs, 0, none⟩) (on + 1) caps) rfl rfl (by kernel_rfl) (by kernel_rfl) (by kernel_rfl) (fun _ _ _ h => h) (fun _ => rfl) rfl (fun w' hw' => by go_simp) ?_
      refine takeC 7 (v := .int .i64 (y : Int)) rfl rfl (by kernel_rfl) (by kernel_rfl) (by kernel_rfl) (fun _ _ _ h => h) (fun _ => rfl) rfl (fun w' hw' => by go_simp) ?_
      refine takeC 8 (v := .int .i64 ((y : Int) + 1)) rfl rfl (by kernel_rfl) (by kernel_rfl) (by kernel_rfl) (fun _ _ _ h => h) (fun _ => rfl) rfl (fun w' hw' => by go_simp; rw [IntKind.wrap_i64]; omega) ?_
      refine takeC 9 (v := .pointer (some ⟨gs, (y + 1) * 3, none⟩)) rfl rfl (by kernel_rfl) (by kernel_rfl) (by kernel_rfl) (fun _ _ _ h => h) (fun _ => rfl) rfl (fun w' hw' => by go_simp; try (intro q; omega)) ?_
      refine takeC 10 (v := .agg #[.int .i64 H, .int .i64 V, .int .i64 C]) rfl rfl (by kernel_rfl) (by kernel_rfl) (by kernel_rfl) (fun _ _ _ h => h) (fun _ => rfl) rfl (fun w' hw' => run_la 23 (.tmp 53) rfl ⟨gs, (y + 1) * 3, none⟩ (by kernel_rfl) [.int .i64 H, .int .i64 V, .int .i64 C] _ (HC3.out w' hw') Try.underlying23 rfl (by kernel_rfl)) ?_
      refine takeC 11 (v := .agg #[.int .i64 (O y 0), .int .i64 (O y 1), .int .i64 (O y 2), .int .i64 (O y 3), .int .i64 (O y 4), .int .i64 (O y 5), .int .i64 (O y 6), .int .i64 (O y 7), .int .i64 (O y 8), .int .i64 (O y 9), .int .i64 (O y 10), .int .i64 (O y 11), .slice wa lw cw, .slice ba lb cb, .int .i64 (O y 14), .int .i64 (O y 15), .int .i64 (O y 16), .int .i64 (O y 17), .int .i64 (O y 18), .int .i64 (O y 19), .int .i64 (O y 20), .int .i64 (O y 21), .int .i64 x0, .int .i64 y0, .int .i64 z0, .int .i64 H, .int .i64 V, .int .i64 C]) rfl rfl (by kernel_rfl) (by kernel_rfl) (by kernel_rfl) (fun _ _ _ h => h) (fun _ => rfl) rfl (fun w' hw' => by kernel_rfl) ?_
      refine stepR 12 HD.out (by kernel_rfl) rfl rfl (.pointer (some ⟨wd.heap.size, 0, none⟩)) (wd.alloc (.cells #[.int .i64 0, .int .i64 0, .int .i64 0, .int .i64 0, .int .i64 0, .int .i64 0, .int .i64 0, .int .i64 0, .int .i64 0, .int .i64 0, .int .i64 0, .int .i64 0, .slice none 0 0, .slice none 0 0, .int .i64 0, .int .i64 0, .int .i64 0, .int .i64 0, .int .i64 0, .int .i64 0, .int .i64 0, .int .i64 0, .int .i64 0, .int .i64 0, .int .i64 0, .int .i64 0, .int .i64 0, .int .i64 0] 73)) (by kernel_rfl) ?_
      refine stepS 13 (HD.out.alloc HD.out.size _) (by kernel_rfl) rfl rfl 73 (.tmp 11) (.tmp 55) rfl wd.heap.size #[.int .i64 (O y 0), .int .i64 (O y 1), .int .i64 (O y 2), .int .i64 (O y 3), .int .i64 (O y 4), .int .i64 (O y 5), .int .i64 (O y 6), .int .i64 (O y 7), .int .i64 (O y 8), .int .i64 (O y 9), .int .i64 (O y 10), .int .i64 (O y 11), .slice wa lw cw, .slice ba lb cb, .int .i64 (O y 14), .int .i64 (O y 15), .int .i64 (O y 16), .int .i64 (O y 17), .int .i64 (O y 18), .int .i64 (O y 19), .int .i64 (O y 20), .int .i64 (O y 21), .int .i64 x0, .int .i64 y0, .int .i64 z0, .int .i64 H, .int .i64 V, .int .i64 C] (by kernel_rfl) (by kernel_rfl) 73 #[.int .i64 0, .int .i64 0, .int .i64 0, .int .i64 0, .int .i64 0, .int .i64 0, .int .i64 0, .int .i64 0, .int .i64 0, .int .i64 0, .int .i64 0, .int .i64 0, .slice none 0 0, .slice none 0 0, .int .i64 0, .int .i64 0, .int .i64 0, .int .i64 0, .int .i64 0, .int .i64 0, .int .i64 0, .int .i64 0, .int .i64 0, .int .i64 0, .int .i64 0, .int .i64 0, .int .i64 0, .int .i64 0] (heap_alloc_new wd _) (by kernel_rfl) rfl (by simp [Value.oneCell']) ?_
      rw [World.setRow_alloc_new]
      have HD8 : Hid (Below w7.heap.size w7 (wd.alloc (.cells #[.int .i64 (O y 0), .int .i64 (O y 1), .int .i64 (O y 2), .int .i64 (O y 3), .int .i64 (O y 4), .int .i64 (O y 5), .int .i64 (O y 6), .int .i64 (O y 7), .int .i64 (O y 8), .int .i64 (O y 9), .int .i64 (O y 10), .int .i64 (O y 11), .slice wa lw cw, .slice ba lb cb, .int .i64 (O y 14), .int .i64 (O y 15), .int .i64 (O y 16), .int .i64 (O y 17), .int .i64 (O y 18), .int .i64 (O y 19), .int .i64 (O y 20), .int .i64 (O y 21), .int .i64 x0, .int .i64 y0, .int .i64 z0, .int .i64 H, .int .i64 V, .int .i64 C] 73))) := HD.out.alloc HD.out.size _
      have hst8 := heap_alloc_new wd (.cells #[.int .i64 (O y 0), .int .i64 (O y 1), .int .i64 (O y 2), .int .i64 (O y 3), .int .i64 (O y 4), .int .i64 (O y 5), .int .i64 (O y 6), .int .i64 (O y 7), .int .i64 (O y 8), .int .i64 (O y 9), .int .i64 (O y 10), .int .i64 (O y 11), .slice wa lw cw, .slice ba lb cb, .int .i64 (O y 14), .int .i64 (O y 15), .int .i64 (O y 16), .int .i64 (O y 17), .int .i64 (O y 18), .int .i64 (O y 19), .int .i64 (O y 20), .int .i64 (O y 21), .int .i64 x0, .int .i64 y0, .int .i64 z0, .int .i64 H, .int .i64 V, .int .i64 C] 73)
      obtain ⟨w8, hw8⟩ : ∃ w8, wd.alloc (.cells #[.int .i64 (O y 0), .int .i64 (O y 1), .int .i64 (O y 2), .int .i64 (O y 3), .int .i64 (O y 4), .int .i64 (O y 5), .int .i64 (O y 6), .int .i64 (O y 7), .int .i64 (O y 8), .int .i64 (O y 9), .int .i64 (O y 10), .int .i64 (O y 11), .slice wa lw cw, .slice ba lb cb, .int .i64 (O y 14), .int .i64 (O y 15), .int .i64 (O y 16), .int .i64 (O y 17), .int .i64 (O y 18), .int .i64 (O y 19), .int .i64 (O y 20), .int .i64 (O y 21), .int .i64 x0, .int .i64 y0, .int .i64 z0, .int .i64 H, .int .i64 V, .int .i64 C] 73) = w8 := ⟨_, rfl⟩
      rw [hw8] at HD8 hst8 ⊢
      obtain ⟨sb, hsb⟩ : ∃ sb, wd.heap.size = sb := ⟨_, rfl⟩
      rw [hsb] at hst8 ⊢
      have HS8 : Hid (w8.heap[sb]? = some (.cells #[.int .i64 (O y 0), .int .i64 (O y 1), .int .i64 (O y 2), .int .i64 (O y 3), .int .i64 (O y 4), .int .i64 (O y 5), .int .i64 (O y 6), .int .i64 (O y 7), .int .i64 (O y 8), .int .i64 (O y 9), .int .i64 (O y 10), .int .i64 (O y 11), .slice wa lw cw, .slice ba lb cb, .int .i64 (O y 14), .int .i64 (O y 15), .int .i64 (O y 16), .int .i64 (O y 17), .int .i64 (O y 18), .int .i64 (O y 19), .int .i64 (O y 20), .int .i64 (O y 21), .int .i64 x0, .int .i64 y0, .int .i64 z0, .int .i64 H, .int .i64 V, .int .i64 C] 73 (0, 0))) := hst8
      clear hw8 hsb hst8
      refine doneC HD8.out (by kernel_rfl) ?_ _
      have S8 : Hid (St W w8 _) := S7.out.call HD8.out
      clear HC0 HC2 HC3 S7
      go_upto_region 12 with fail
      have HW8 : Hid (Below wr.heap.size wr w8) := btr HB7.out HD8.out
      refine regionC (fun w' => (w'.cell? ⟨ob, 1, none⟩ = some (.int .i64 (ja : Int)) ∧ w'.cell? ⟨ob, 2, none⟩ = some (.int .i64 (jb : Int))) ∧ w'.cell? ⟨g, ja, none⟩ = some (.slice aa na ca) ∧ w'.cell? ⟨g, jb, none⟩ = some (.slice ab nb cb')) (by kernel_rfl) ?_
      obtain ⟨we, hwe⟩ : ∃ we, w8.drew = we := ⟨_, rfl⟩
      have HBe : Hid (Below w8.heap.size w8 we) := by unfold Hid; rw [← hwe]; exact (Below.refl _ _).drew
      rw [hwe]
      clear hwe
      have HCl : Hid (∀ w', Below we.heap.size we w' → (w'.cell? ⟨ob, 1, none⟩ = some (.int .i64 (ja : Int)) ∧ w'.cell? ⟨ob, 2, none⟩ = some (.int .i64 (jb : Int))) ∧ w'.cell? ⟨g, ja, none⟩ = some (.slice aa na ca) ∧ w'.cell? ⟨g, jb, none⟩ = some (.slice ab nb cb')) := fun w' hw' => by
        have h1 : Below w7.heap.size w7 w' := btr (btr HD8.out HBe.out) hw'
        have h2 : Below wr.heap.size wr w' := btr HB7.out h1
        exact ⟨⟨HC1.out w' h1, HC4.out w' h1⟩, (h2.cell (World.block_lt_of_cell? wr _ hcA'.out)).trans hcA'.out, (h2.cell (World.block_lt_of_cell? wr _ hcB'.out)).trans hcB'.out⟩
      refine takeC 0 (v := .slice (some ⟨g, 0, none⟩) (y + 1) (on + 1)) rfl rfl (by kernel_rfl) (by kernel_rfl) (by kernel_rfl) (fun _ _ _ h => h) (fun _ => rfl) rfl (fun w' hw' => by go_simp) ?_
      refine takeC 1 (v := .slice (some ⟨g, 0, none⟩) (y + 1) (on + 1)) rfl rfl (by kernel_rfl) (by kernel_rfl) (by kernel_rfl) (fun _ _ _ h => h) (fun _ => rfl) rfl (fun w' hw' => by go_simp) ?_
      refine takeC 2 (v := .pointer (some ⟨ob, 1, none⟩)) rfl rfl (by kernel_rfl) (by kernel_rfl) (by kernel_rfl) (fun _ _ _ h => h) (fun _ => rfl) rfl (fun w' hw' => by go_simp) ?_
      refine takeC 3 (v := .int .i64 (ja : Int)) rfl rfl (by kernel_rfl) (by kernel_rfl) (by kernel_rfl) (fun _ _ _ h => h) (fun _ => rfl) rfl (fun w' hw' => by have hc := hw'.1.1; go_simp) ?_
      refine takeC 4 (v := .pointer (some ⟨g, ja, none⟩)) rfl rfl (by kernel_rfl) (by kernel_rfl) (by kernel_rfl) (fun _ _ _ h => h) (fun _ => rfl) rfl (fun w' hw' => by go_simp; try (intro q; omega)) ?_
      refine takeC 5 (v := .slice aa na ca) rfl rfl (by kernel_rfl) (by kernel_rfl) (by kernel_rfl) (fun _ _ _ h => h) (fun _ => rfl) rfl (fun w' hw' => by have hc := hw'.2.1; go_simp) ?_
      refine takeC 6 (v := .slice (some ⟨g, 0, none⟩) (y + 1) (on + 1)) rfl rfl (by kernel_rfl) (by kernel_rfl) (by kernel_rfl) (fun _ _ _ h => h) (fun _ => rfl) rfl (fun w' hw' => by go_simp) ?_
      refine takeC 7 (v := .pointer (some ⟨ob, 2, none⟩)) rfl rfl (by kernel_rfl) (by kernel_rfl) (by kernel_rfl) (fun _ _ _ h => h) (fun _ => rfl) rfl (fun w' hw' => by go_simp) ?_
      refine takeC 8 (v := .int .i64 (jb : Int)) rfl rfl (by kernel_rfl) (by kernel_rfl) (by kernel_rfl) (fun _ _ _ h => h) (fun _ => rfl) rfl (fun w' hw' => by have hc := hw'.1.2; go_simp) ?_
      refine takeC 9 (v := .pointer (some ⟨g, jb, none⟩)) rfl rfl (by kernel_rfl) (by kernel_rfl) (by kernel_rfl) (fun _ _ _ h => h) (fun _ => rfl) rfl (fun w' hw' => by go_simp; try (intro q; omega)) ?_
      refine takeC 10 (v := .slice ab nb cb') rfl rfl (by kernel_rfl) (by kernel_rfl) (by kernel_rfl) (fun _ _ _ h => h) (fun _ => rfl) rfl (fun w' hw' => by have hc := hw'.2.2; go_simp) ?_
      have HWe : Hid (Below wr.heap.size wr we) := btr HW8.out HBe.out
      refine stepK 11 (HCl.out _ (Below.refl _ _)) (by kernel_rfl) rfl rfl 15 #[.pointer (some ⟨sb, 0, none⟩), .slice aa na ca, .slice ab nb cb'] (by kernel_rfl) (HT.out we sb ((HBe.out.block sb (lt_of_heap HS8.out)).trans HS8.out) HWe.out) ?_
      rintro e w9 ⟨⟨sv, rfl, hO9⟩, hb9⟩
      obtain ⟨va9, vc9, rfl, -, -⟩ := hO9.row
      obtain ⟨X, hXe⟩ : ∃ X, opT (O y) (Z y) (B y) (x0, y0, z0) (H, V, C) (tnA O Z B RL xs ja) (tnA O Z B RL xs jb) = X := ⟨_, rfl⟩
      have hO9' : Own .i8 63 w9 we.heap.size (.slice va9 X.length vc9) X := by rw [← hXe]; exact hO9
      have hval : Value.slice va9 (teL (O y 0) (O y 4) (O y 5) (O y 6) (O y 7) (O y 8) (O y 9) (O y 10) (O y 11) (O y 14) (O y 15) (O y 16) (O y 17) (O y 18) (O y 19) (O y 20) (O y 21) x0 y0 z0 H V C (Z y) (B y) (tnA O Z B RL xs ja) (tnA O Z B RL xs jb)).length vc9 = .slice va9 X.length vc9 := by rw [← hXe]; rfl
      rw [hXe] at HTn
      refine ⟨_, rfl, ?_⟩
      rw [hval]
      have HO9 : Hid (Own .i8 63 w9 we.heap.size (.slice va9 X.length vc9) X) := hO9'
      have Hb9 : Hid (Below we.heap.size we w9) := hb9
      clear hO9 hO9' hval hXe hb9 HT
      obtain ⟨NX, hNX⟩ : ∃ NX, X.length = NX := ⟨_, rfl⟩
      rw [hNX] at HO9 ⊢
      clear hNX
      refine stepR 12 (HCl.out _ Hb9.out) (by kernel_rfl) rfl rfl (.slice (some ⟨w9.heap.size, 0, none⟩) 1 1) (w9.alloc (.cells #[.slice va9 NX vc9] 31)) (by kernel_rfl) ?_
      obtain ⟨sv, hsv⟩ : ∃ sv, Value.slice va9 NX vc9 = sv := ⟨_, rfl⟩
      have hone : sv.oneCell' = true := by rw [← hsv]; rfl
      rw [hsv] at HO9 ⊢
      clear hsv
      have HB10 : Hid (Below we.heap.size we (w9.alloc (.cells #[sv] 31))) := btr Hb9.out (bal _ _)
      have HLG10 : Hid (LG (w9.alloc (.cells #[sv] 31)) g (on + 1) ss) := HLG.out.below (btr HWe.out HB10.out)
      have hE10 : Hid (Ells (w9.alloc (.cells #[sv] 31)) W.heap.size (ss ++ [sv]) (tnL O Z B RL xs (y + 1))) := by
        unfold Hid
        rw [HTn.out]
        exact ((HEl.out.below HWe.out).add Hb9.out HO9.out (Nat.le_trans SR.out.size HWe.out.size)).below (bal _ _)
      have S10 : Hid (St W (w9.alloc (.cells #[sv] 31)) ((bf, #[.int .i64 0, .int .i64 0, .int .i64 0], 38) :: (gs, curs, 23) :: (W.heap.size + 1, #[.int .i64 0, .int .i64 0, .int .i64 0], 38) :: (W.heap.size, #[.int .i64 h, .int .i64 w, .int .i64 c, .int .i64 lo, .int .i64 hi, .slice (some x) on oc, .int .i64 ot], 26) :: [])) := (SR.out.call HWe.out).call HB10.out
      have hnw : Hid ((w9.alloc (.cells #[sv] 31)).heap[w9.heap.size]? = some (.cells #[sv] 31 (0, 0))) := heap_alloc_new w9 _
      obtain ⟨w10, hw10⟩ : ∃ w10, w9.alloc (.cells #[sv] 31) = w10 := ⟨_, rfl⟩
      rw [hw10] at HB10 HLG10 hE10 S10 hnw ⊢
      clear hw10
      refine stepA 13 (HCl.out _ HB10.out) (by kernel_rfl) rfl rfl (.tmp 56) (.tmp 68) rfl g (on + 1) ss (y + 1) HSL.out (by kernel_rfl) w9.heap.size sv (by kernel_rfl) hnw.out hone HLG10.out (by omega) ?_
      have S11 : Hid (St W (w10.setCell ⟨g, y + 1, none⟩ sv) ((bf, #[.int .i64 0, .int .i64 0, .int .i64 0], 38) :: (gs, curs, 23) :: (W.heap.size + 1, #[.int .i64 0, .int .i64 0, .int .i64 0], 38) :: (W.heap.size, #[.int .i64 h, .int .i64 w, .int .i64 c, .int .i64 lo, .int .i64 hi, .slice (some x) on oc, .int .i64 ot], 26) :: [])) := S10.out.setL HLG10.out hgW.out (by simp)
      have HLG11 : Hid (LG (w10.setCell ⟨g, y + 1, none⟩ sv) g (on + 1) (ss ++ [sv])) := by
        have := HLG10.out.add (by rw [HSL.out]; omega) sv
        rw [HSL.out] at this
        exact this
      have hE11 : Hid (Ells (w10.setCell ⟨g, y + 1, none⟩ sv) W.heap.size (ss ++ [sv]) (tnL O Z B RL xs (y + 1))) := hE10.out.grown (grown_set _ g (y + 1) sv) (fun b hb => by cases hb; exact HLG10.out.ne8)
      have hC11 : ((w10.setCell ⟨g, y + 1, none⟩ sv).cell? ⟨ob, 1, none⟩ = some (.int .i64 (ja : Int)) ∧ (w10.setCell ⟨g, y + 1, none⟩ sv).cell? ⟨ob, 2, none⟩ = some (.int .i64 (jb : Int))) ∧ (w10.setCell ⟨g, y + 1, none⟩ sv).cell? ⟨g, ja, none⟩ = some (.slice aa na ca) ∧ (w10.setCell ⟨g, y + 1, none⟩ sv).cell? ⟨g, jb, none⟩ = some (.slice ab nb cb') := by
        have q := HCl.out _ HB10.out
        have ne : ∀ (a : Addr), a ≠ ⟨g, y + 1, none⟩ → (w10.setCell ⟨g, y + 1, none⟩ sv).cell? a = w10.cell? a := fun a ha => World.cell?_setCell_other _ _ _ _ (fun e => ha e.symm)
        have n1 : ob ≠ g := hobg.out
        exact ⟨⟨(ne _ (fun e => n1 (by cases e; rfl))).trans q.1.1, (ne _ (fun e => n1 (by cases e; rfl))).trans q.1.2⟩, (ne _ (fun e => by simp only [Addr.mk.injEq, true_and, and_true] at e; omega)).trans q.2.1, (ne _ (fun e => by simp only [Addr.mk.injEq, true_and, and_true] at e; omega)).trans q.2.2⟩
      obtain ⟨w11, hw11⟩ : ∃ w11, w10.setCell ⟨g, y + 1, none⟩ sv = w11 := ⟨_, rfl⟩
      rw [hw11] at S11 HLG11 hE11 hC11 ⊢
      clear hw11 HLG10 hE10 S10 HCl
      refine stepR 14 hC11 (by kernel_rfl) rfl rfl (.slice (some ⟨g, 0, none⟩) (y + 1 + 1) (on + 1)) w11 (by kernel_rfl) ?_
      refine doneC hC11 (by kernel_rfl) ?_ _
      clear hC11
      go_wp2
      go_roundw
      case rel => exact ⟨y + 1, ss ++ [sv], by omega, by go_num, rfl, by rw [List.length_append, HSL.out]; rfl, HLG11.out, hE11.out, S11.out⟩
      case measure => simp [intOf]; omega
    · obtain rfl : y = on := by omega
      have hLL : Hid (LLs wr W.heap.size (.slice (some ⟨g, 0, none⟩) (y + 1) (y + 1)) (tnL O Z B RL xs y)) := by
        have := HLG.out.own hgW.out (by omega)
        rw [HSL.out] at this
        exact ⟨ss, this, HEl.out⟩
      obtain ⟨-, -, -, -, -, -, c3, f3, z3, -⟩ := SR.out.rules
      have hb3 := SR.out.below
      have SR3 := SR.out.up2
      have HLs : Hid (∀ u v t, LLs (((wr.setCell ⟨W.heap.size + 1, 0, none⟩ u).setCell ⟨W.heap.size + 1, 1, none⟩ v).setCell ⟨W.heap.size + 1, 2, none⟩ t) W.heap.size (.slice (some ⟨g, 0, none⟩) (y + 1) (y + 1)) (tnL O Z B RL xs y)) := fun u v t => ((hLL.out.set SR3.h1 (by decide) (by decide)).set (heap_setCell_at SR3.h1) (by decide) (by decide)).set (heap_setCell_at (heap_setCell_at SR3.h1)) (by decide) (by decide)
      clear HLG HEl
      go_wp2
      exact bodyPost_ret (v := .tuple #[.slice (some ⟨g, 0, none⟩) (y + 1) (y + 1), .agg #[.int .i64 0, .int .i64 0, .int .i64 0]]) (by simp [results, Try.results7, go_sem, *]) rfl ⟨⟨_, rfl, HLs.out _ _ _⟩, set3b hb3 (by omega)⟩
end Go.Proofs.Ytehofmkpgopmpaa

/- What Eval of package plain returns. -/
namespace Go.Proofs.Ytehofmkpgopmpaa
open Go.ChangeShapes Go.WideShapes Go.ChangeAt Go.RowKit
set_option linter.unusedVariables false
end Go.Proofs.Ytehofmkpgopmpaa

/- What Totals of package plain returns. -/
namespace Go.Proofs.Ytehofmkpgopmpaa
open Go.ChangeShapes Go.WideShapes Go.ChangeAt Go.RowKit
set_option linter.unusedVariables false
/-- The error of Totals. -/
def toE (O : Nat → Nat → Int) (h w c lo hi ot : Int) (on : Nat) (op : Int) (n x0 y0 z0 : Int) : Int := if fiE O h w c lo hi ot on op ≠ 0 then fiE O h w c lo hi ot on op else if n = x0 * y0 * z0 then 0 else 70
end Go.Proofs.Ytehofmkpgopmpaa

/- plain and fixed of law10. -/
namespace Go.Proofs.Ytehofmkpgopmpaa
open Go.ChangeShapes Go.WideShapes Go.ChangeAt Go.RowKit
set_option linter.unusedVariables false
def plZ (_ : Nat) : List Int := [3, -2]
def plB (_ : Nat) : List Int := [1]
theorem irow_blk {k : IntKind} {w : World} {b : Nat} {T : TypeId} (zs : List Int) (h : w.heap[b]? = some (.cells (zs.map (Value.int k)).toArray T (0, 0))) (hw : ∀ z ∈ zs, (Lit.int k z).wf = true) (hm : zs.length ≤ 1000) : IRow k w (some ⟨b, 0, none⟩) zs.length zs.length zs := by
  refine ⟨rfl, Nat.le_refl _, by unfold maxLen; omega, hw, fun h => (by cases h), fun x hx i hi => ?_⟩
  cases hx
  rw [Addr.add_lit, Nat.zero_add, (cells_at h).1]
  simp [List.getD, hi]
end Go.Proofs.Ytehofmkpgopmpaa

/- The law's own model and fixed answers of layer 11. -/
namespace Go.Proofs.Ytehofmkpgopmpaa
open Go.ChangeShapes Go.WideShapes Go.ChangeAt Go.RowKit
set_option linter.unusedVariables false
end Go.Proofs.Ytehofmkpgopmpaa

/- The document's Same of layer 11, of lists that are the same; faults compared. -/
namespace Go.Proofs.Ytehofmkpgopmpaa
open Go.ChangeShapes Go.WideShapes Go.ChangeAt Go.RowKit
set_option linter.unusedVariables false
theorem neFt (a b c d e f : Int) (v : Bool) (h : decide (a = d ∧ b = e ∧ c = f) = v) : ∀ W, (binOp .neq 38 (.agg #[.int .i64 a, .int .i64 b, .int .i64 c]) (.agg #[.int .i64 d, .int .i64 e, .int .i64 f])).run Try.prog W = .ok (.bool (!v)) W := by
  intro W; subst h; simp [go_sem]; repeat' split
  all_goals simp_all
theorem eqFt (a b c d e f : Int) (v : Bool) (h : decide (a = d ∧ b = e ∧ c = f) = v) : ∀ W, (binOp .eql 38 (.agg #[.int .i64 a, .int .i64 b, .int .i64 c]) (.agg #[.int .i64 d, .int .i64 e, .int .i64 f])).run Try.prog W = .ok (.bool v) W := by
  intro W; subst h; simp [go_sem]; repeat' split
  all_goals simp_all
set_option maxHeartbeats 1000000 in
theorem same8_any (a b : Option Addr) (n ca cb : Nat) (xs : List Int) (W : World) (ha : IRow .i8 W a n ca xs) (hb : IRow .i8 W b n cb xs) :
    Calls Try.prog 9 #[.slice a n ca, .slice b n cb] W fun e w' => e = .returned (.bool true) ∧ ∃ q, w' = W.drewN q := by
  have HA : Hid (IRow .i8 W a n ca xs) := ha
  have HB : Hid (IRow .i8 W b n cb xs) := hb
  have h1 := ha.2.1
  have h2 := ha.2.2.1
  have h3 := hb.2.1
  have h4 := hb.2.2.1
  unfold maxLen at h2 h4
  clear ha hb
  go_enter Try.func9, Try.ntmps9
  go_wp2
  go_loopw [13] (fun i wr => ∃ k q : Nat, k ≤ n ∧ i = .int .i64 k ∧ wr = W.drewN q) (fun i _ => n - (intOf i).toNat)
  case atStart => exact ⟨0, 0, Nat.zero_le _, rfl, rfl⟩
  case round =>
    obtain ⟨k, q, hk, rfl, rfl⟩ := hrel
    by_cases hlt : k < n
    · obtain ⟨x1, u, rfl, hu, hw, hz, -⟩ := HA.out.at hlt
      obtain ⟨x2, u', rfl, hu', -, hz', -⟩ := HB.out.at hlt
      obtain rfl : u = u' := by rw [hz] at hz'; exact Option.some.inj hz'
      clear hz hz' hw
      go_wp2
      go_quiet (fail)
      go_wp2
      go_roundw
      case rel => exact ⟨k + 1, _, by omega, by go_num, rfl⟩
      case measure => simp [intOf]; omega
    · go_wp2
      go_ret
      exact ⟨rfl, _, rfl⟩
theorem same8_b (a b : Option Addr) (n ca cb : Nat) (xs : List Int) (W : World) (ha : IRow .i8 W a n ca xs) (hb : IRow .i8 W b n cb xs) :
    Calls Try.prog 9 #[.slice a n ca, .slice b n cb] W fun e w' => e = .returned (.bool true) ∧ Below W.heap.size W w' :=
  (same8_any a b n ca cb xs W ha hb).mono fun e w' ⟨h, q, hq⟩ => ⟨h, by rw [hq]; exact dbel _ _⟩
end Go.Proofs.Ytehofmkpgopmpaa

/- What Op of package kern returns. -/
namespace Go.Proofs.Ytehofmkpgopmpaa.Kr
open Go.ChangeShapes Go.WideShapes Go.ChangeAt Go.RowKit
set_option linter.unusedVariables false
theorem vaK_len {k b m kh kw sh sw tp lf bt rt : Int} {lw lb : Nat} {sm ss um us z p lo hi h w c H V C len : Int} (s : Opd k b m kh kw sh sw tp lf bt rt lw lb sm ss um us z p lo hi h w c H V C) {SS x y : List Int} (hS : SS.length = (H * V * C).toNat) (hx : (x.length : Int) = h * w * c) : ((vaK k kh kw sh sw sm ss um us w c V C len (H * V * C).toNat SS x y).length : Int) = H * V * C := by
  have hb := (vS_bd s.hB).2
  unfold vaK
  split
  · unfold apL; rw [List.length_map, hS]; omega
  split
  · unfold meL; rw [List.length_map, hS]; omega
  split
  · rw [grL_len]; omega
  have e : H * V * C = h * w * c := by rw [(s.s6 (by omega)).1, (s.s6 (by omega)).2, s.c3 (by omega)]
  split
  · unfold adL apL; simp; omega
  split
  · unfold apL; simp; omega
  · omega
theorem done_any (k a b m kh kw sh sw tp lf bt rt : Int) (wa : Option Addr) (lw cw : Nat) (ba : Option Addr) (lb bc : Nat) (sm ss um us z p lo hi h w c H V C : Int) (s : Opd k b m kh kw sh sw tp lf bt rt lw lb sm ss um us z p lo hi h w c H V C) (zs bs : List Int) (W : World) (hZ : IRow .i16 W wa lw cw zs) (hBs : IRow .i32 W ba lb bc bs) (hlw : lw * 2 ≤ 140737488351232) (hlb : lb * 4 ≤ 140737488351232) (r : Nat) (ln pn : Int) (hln : k ≤ 4 → ln = stR k kh kw h w c) (hr : W.heap[r]? = some (.cells #[.int .i64 k, .int .i64 a, .int .i64 b, .int .i64 m, .int .i64 kh, .int .i64 kw, .int .i64 sh, .int .i64 sw, .int .i64 tp, .int .i64 lf, .int .i64 bt, .int .i64 rt, .slice wa lw cw, .slice ba lb bc, .int .i64 sm, .int .i64 ss, .int .i64 um, .int .i64 us, .int .i64 z, .int .i64 p, .int .i64 lo, .int .i64 hi, .int .i64 h, .int .i64 w, .int .i64 c, .int .i64 H, .int .i64 V, .int .i64 C, .int .i64 ln, .int .i64 pn] 76 (0, 0)))
    (pa : Option Addr) (pl pc : Nat) (PS : List Pl) (hPS : ERow 6 pcs W pa pl pc PS) (hok : k ≤ 4 → Pok (stR k kh kw h w c) C PS) (ad : Option Addr) (n cap : Nat) (xs : List Int) (hX : IRow .i8 W ad n cap xs) (hn : (n : Int) = h * w * c) (bd : Option Addr) (nb capb : Nat) (ys : List Int) (hY : IRow .i8 W bd nb capb ys) (hnb : k = 6 → nb = n) :
    Calls Try.prog 19 #[.pointer (some ⟨r, 0, none⟩), .slice pa pl pc, .slice ad n cap, .slice bd nb capb] W fun e w' => (∃ v, e = .returned (.tuple #[v, .agg (if k ≤ 4 then dsT k kh kw sh sw tp lf bt rt h w c C p zs bs xs PS (H * V * C).toNat else Tr.z).cs]) ∧ Own .i8 63 w' W.heap.size v (fiL (vaK k kh kw sh sw sm ss um us w c V C (stR k kh kw h w c) (H * V * C).toNat (dsL k kh kw sh sw tp lf bt rt h w c C p zs bs xs PS (H * V * C).toNat) xs ys) z lo hi)) ∧ Below W.heap.size W w' := by
  have hrz := lt_of_heap hr
  have hxl : (xs.length : Int) = h * w * c := by rw [hX.1]; exact hn
  have hbA := (vS_bd s.hA).2
  have hbB := (vS_bd s.hB).2
  have hp8 : I8 p := by have := s.rz; unfold rzB vlB at this; simp at this; exact ⟨this.2.1, this.2.2⟩
  have hvl := vaK_len (len := stR k kh kw h w c) (y := ys) s (dsL_len k kh kw sh sw tp lf bt rt h w c C p zs bs xs PS (H * V * C).toNat) hxl
  refine done_v k a b m kh kw sh sw tp lf bt rt wa lw cw ba lb bc sm ss um us z p lo hi h w c H V C ln pn r W hr s.hk pa pl pc ad n cap xs hX (by omega) bd nb capb ys hY hnb (dsL k kh kw sh sw tp lf bt rt h w c C p zs bs xs PS (H * V * C).toNat) (grL kh kw sh sw w c V C xs (H * V * C).toNat) (if k ≤ 4 then dsT k kh kw sh sw tp lf bt rt h w c C p zs bs xs PS (H * V * C).toNat else Tr.z) (fun h4 w' hb => ?_) (fun h5 w' hb => ?_) (by rw [dsL_len]; omega) ?_ (fun h4 => ?_) (fun h5 => if_neg (by omega)) _ ?_ (by omega)
  · rw [if_pos h4]
    exact sums_any k a b m kh kw sh sw tp lf bt rt wa lw cw ba lb bc sm ss um us z p lo hi h w c H V C ln pn r w' ((hb.block r hrz).trans hr) s h4 zs bs (hZ.below hb) (hBs.below hb) hlw hlb ad n cap xs (hX.below hb) hn (hln h4) pa pl pc PS (hPS.below hb) (hok h4)
  · subst h5
    have hou := s.ou (by decide)
    have hoz := of_decide_eq_true s.oz
    obtain ⟨rfl, rfl, rfl, rfl⟩ := hoz.2.2.2.2.2.2 (.inr rfl)
    rcases ouR_cases h w c kh kw sh sw 0 0 0 0 with ⟨e, he, h2⟩ | ⟨rr, qq, he, hf⟩
    · rw [he] at hou
      simp only [Prod.mk.injEq] at hou
      omega
    · rw [he] at hou
      simp only [Prod.mk.injEq, and_true] at hou
      obtain ⟨rfl, rfl⟩ := hou
      obtain ⟨-, ⟨i1, i2, i3, i4, -⟩, -, -, g1, g2⟩ := hf
      exact greatest_any 5 a b m kh kw sh sw 0 0 0 0 wa lw cw ba lb bc sm ss um us z p lo hi h w c rr qq C ln pn r w' ((hb.block r hrz).trans hr) ad n cap xs (hX.below hb) hn s.hA s.hB i1 i2 i3 i4 (by omega) (by omega) (s.c3 (by decide))
  · by_cases h4 : k ≤ 4
    · intro v hv
      have := dsL_bd (s.si h4) hZ.2.2.2.1 hBs.2.2.2.1 (H * V * C).toNat v hv
      omega
    · intro v hv
      obtain ⟨j, -, rfl⟩ := List.mem_map.1 hv
      have := (dtR_ok (n := 0) (wd := (pcA PS ((j : Int) % C + 1)).1) (dp := (pcA PS ((j : Int) % C + 1)).2.1) (bi := biA k ((j : Int) % C + 1) bs) ((siL k kh kw sh sw tp lf bt rt h w c ((j : Int) % C + 1) ((j : Int) / C) zs).map (smT p xs)) (biA_bd hBs.2.2.2.1)).2
      unfold dsF
      omega
  · rw [hln (by omega)]
    have h1 := (s.si (by omega)).2.2.2.2.2.2.2.2.1
    have h2 := (s.si (by omega)).2.2.2.2.2.2.2.2.2
    omega
  · unfold vaK
    split
    · rfl
    split
    · rename_i q
      rw [hln (by omega)]
    · rfl
end Go.Proofs.Ytehofmkpgopmpaa.Kr
