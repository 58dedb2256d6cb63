/- What alone of package kern returns: a model of one op (made by tools/gen/Kr.py). Plain numbers of layer 20: registers, what they did, sums taken one by one and block by block. The ends of a narrow type, Sat; the document's Fits, Sat, Wrap; products: each for every argument that fits its type. The document's Add, Sub, Fits, Sat, Wrap, Clamp; the statement's fixed answers: each for every argument that fits its type. What lane's Add, Mul, Sum, and the document's Add and Mul of layer 20 return. What lane's joined, note, multiplied, added, refused, trackOf return, and what they write. What lane's gathered, spilled, refused, trackOf return; Dot. What lane's spilled, trackOf return; Dot. -/
import Derived.Test.YtehofmkpgopmpaaGr01
import Derived.Test.YtehofmkpgopmpaaGr12
import Derived.Test.YtehofmkpgopmpaaGp19
import Derived.Deep.RegionWith
import Derived.Deep.DeepCutAuto
/- What alone of package kern returns: a model of one op (made by tools/gen/Kr.py). -/
namespace Go.Proofs.Ytehofmkpgopmpaa.Kr
open Go.ChangeShapes Go.WideShapes Go.ChangeAt Go.RowKit
set_option linter.unusedVariables false
set_option maxRecDepth 100000 in
set_option maxHeartbeats 8000000 in
theorem alone_any (k a b m kh kw sh sw tp lf bt rt : Int) (wa : Option Addr) (lw wc : Nat) (ba : Option Addr) (lb bc : Nat) (sm ss um us z p lo hi h w c H V C ln pn : Int) (r : Nat) (W : World) (hr : W.heap[r]? = some (.cells #[.int .i64 k, .int .i64 a, .int .i64 b, .int .i64 m, .int .i64 kh, .int .i64 kw, .int .i64 sh, .int .i64 sw, .int .i64 tp, .int .i64 lf, .int .i64 bt, .int .i64 rt, .slice wa lw wc, .slice ba lb bc, .int .i64 sm, .int .i64 ss, .int .i64 um, .int .i64 us, .int .i64 z, .int .i64 p, .int .i64 lo, .int .i64 hi, .int .i64 h, .int .i64 w, .int .i64 c, .int .i64 H, .int .i64 V, .int .i64 C, .int .i64 ln, .int .i64 pn] 76 (0, 0))) :
    Calls Try.prog 26 #[.pointer (some ⟨r, 0, none⟩)] W fun e w' => ∃ g, e = .returned (.agg #[.int .i64 h, .int .i64 w, .int .i64 c, .int .i64 0, .int .i64 0, .slice (some ⟨g, 0, none⟩) 1 1, .int .i64 0]) ∧ w'.heap[g]? = some (.cells #[.int .i64 k, .int .i64 0, .int .i64 b, .int .i64 m, .int .i64 kh, .int .i64 kw, .int .i64 sh, .int .i64 sw, .int .i64 tp, .int .i64 lf, .int .i64 bt, .int .i64 rt, .slice wa lw wc, .slice ba lb bc, .int .i64 sm, .int .i64 ss, .int .i64 um, .int .i64 us, .int .i64 z, .int .i64 p, .int .i64 lo, .int .i64 hi] 48 (0, 0)) ∧ W.heap.size ≤ g ∧ Below W.heap.size W w' := by
  have hrz := lt_of_heap hr
  have s0 := (St.start W).new (c := #[.int .i64 0, .int .i64 0, .int .i64 0, .int .i64 0, .int .i64 0, .slice none 0 0, .int .i64 0]) (t := 26)
  have hr0 := (s0.below.block r hrz).trans hr
  have HL : Hid (∀ q v, [.int .i64 k, .int .i64 a, .int .i64 b, .int .i64 m, .int .i64 kh, .int .i64 kw, .int .i64 sh, .int .i64 sw, .int .i64 tp, .int .i64 lf, .int .i64 bt, .int .i64 rt, .slice wa lw wc, .slice ba lb bc, .int .i64 sm, .int .i64 ss, .int .i64 um, .int .i64 us, .int .i64 z, .int .i64 p, .int .i64 lo, .int .i64 hi][q]? = some v → (W.alloc (.cells #[.int .i64 0, .int .i64 0, .int .i64 0, .int .i64 0, .int .i64 0, .slice none 0 0, .int .i64 0] 26)).cell? ((⟨r, 0, none⟩ : Addr).add q) = some v) := lcells hr0 (fget [.int .i64 k, .int .i64 a, .int .i64 b, .int .i64 m, .int .i64 kh, .int .i64 kw, .int .i64 sh, .int .i64 sw, .int .i64 tp, .int .i64 lf, .int .i64 bt, .int .i64 rt, .slice wa lw wc, .slice ba lb bc, .int .i64 sm, .int .i64 ss, .int .i64 um, .int .i64 us, .int .i64 z, .int .i64 p, .int .i64 lo, .int .i64 hi] [.int .i64 h, .int .i64 w, .int .i64 c, .int .i64 H, .int .i64 V, .int .i64 C, .int .i64 ln, .int .i64 pn])
  have HR : Hid (W.heap[r]? = some (.cells #[.int .i64 k, .int .i64 a, .int .i64 b, .int .i64 m, .int .i64 kh, .int .i64 kw, .int .i64 sh, .int .i64 sw, .int .i64 tp, .int .i64 lf, .int .i64 bt, .int .i64 rt, .slice wa lw wc, .slice ba lb bc, .int .i64 sm, .int .i64 ss, .int .i64 um, .int .i64 us, .int .i64 z, .int .i64 p, .int .i64 lo, .int .i64 hi, .int .i64 h, .int .i64 w, .int .i64 c, .int .i64 H, .int .i64 V, .int .i64 C, .int .i64 ln, .int .i64 pn] 76 (0, 0))) := hr
  have s1 := s0.new (c := #[.int .i64 k, .int .i64 a, .int .i64 b, .int .i64 m, .int .i64 kh, .int .i64 kw, .int .i64 sh, .int .i64 sw, .int .i64 tp, .int .i64 lf, .int .i64 bt, .int .i64 rt, .slice wa lw wc, .slice ba lb bc, .int .i64 sm, .int .i64 ss, .int .i64 um, .int .i64 us, .int .i64 z, .int .i64 p, .int .i64 lo, .int .i64 hi]) (t := 48)
  simp only [World.size_alloc] at s1
  have S1 : Hid (St W _ _) := s1
  clear hr hr0 s0 s1
  go_enter Try.func26, Try.ntmps26
  go_upto_region 1 with fail
  obtain ⟨w0, hw0⟩ : ∃ w0, W.alloc (.cells #[.int .i64 0, .int .i64 0, .int .i64 0, .int .i64 0, .int .i64 0, .slice none 0 0, .int .i64 0] 26) = w0 := ⟨_, rfl⟩
  rw [hw0] at HL S1 ⊢
  have hz0 : w0.heap.size = W.heap.size + 1 := by rw [← hw0]; simp
  rw [← hz0] at S1
  have HZ0 : Hid (w0.heap.size = W.heap.size + 1) := hz0
  clear hw0 hz0
  obtain ⟨vo, hvo⟩ : ∃ vo, Value.agg #[.int .i64 k, .int .i64 a, .int .i64 b, .int .i64 m, .int .i64 kh, .int .i64 kw, .int .i64 sh, .int .i64 sw, .int .i64 tp, .int .i64 lf, .int .i64 bt, .int .i64 rt, .slice wa lw wc, .slice ba lb bc, .int .i64 sm, .int .i64 ss, .int .i64 um, .int .i64 us, .int .i64 z, .int .i64 p, .int .i64 lo, .int .i64 hi] = vo := ⟨_, rfl⟩
  have HVO : Hid (Value.agg #[.int .i64 k, .int .i64 a, .int .i64 b, .int .i64 m, .int .i64 kh, .int .i64 kw, .int .i64 sh, .int .i64 sw, .int .i64 tp, .int .i64 lf, .int .i64 bt, .int .i64 rt, .slice wa lw wc, .slice ba lb bc, .int .i64 sm, .int .i64 ss, .int .i64 um, .int .i64 us, .int .i64 z, .int .i64 p, .int .i64 lo, .int .i64 hi] = vo) := hvo
  go_upto_region 2 with ((refine wpList_load_any rfl 48 (.tmp 6) rfl _ rfl [.int .i64 k, .int .i64 a, .int .i64 b, .int .i64 m, .int .i64 kh, .int .i64 kw, .int .i64 sh, .int .i64 sw, .int .i64 tp, .int .i64 lf, .int .i64 bt, .int .i64 rt, .slice wa lw wc, .slice ba lb bc, .int .i64 sm, .int .i64 ss, .int .i64 um, .int .i64 us, .int .i64 z, .int .i64 p, .int .i64 lo, .int .i64 hi] _ HL.out Try.underlying48 rfl (by kernel_rfl) ?_; (show wpList _ _ _ _ (Act.put _ _ (Value.agg #[.int .i64 k, .int .i64 a, .int .i64 b, .int .i64 m, .int .i64 kh, .int .i64 kw, .int .i64 sh, .int .i64 sw, .int .i64 tp, .int .i64 lf, .int .i64 bt, .int .i64 rt, .slice wa lw wc, .slice ba lb bc, .int .i64 sm, .int .i64 ss, .int .i64 um, .int .i64 us, .int .i64 z, .int .i64 p, .int .i64 lo, .int .i64 hi])) _); rw [hvo]; clear hvo; refine wpList_run1 rfl (some 3) rfl (.pointer (some ⟨w0.heap.size, 0, none⟩)) (w0.alloc (.cells #[.int .i64 0, .int .i64 0, .int .i64 0, .int .i64 0, .int .i64 0, .int .i64 0, .int .i64 0, .int .i64 0, .int .i64 0, .int .i64 0, .int .i64 0, .int .i64 0, .slice none 0 0, .slice none 0 0, .int .i64 0, .int .i64 0, .int .i64 0, .int .i64 0, .int .i64 0, .int .i64 0, .int .i64 0, .int .i64 0] 48)) (by kernel_rfl) ?_; refine wpList_st_new rfl 48 (.tmp 3) (.tmp 7) rfl w0 #[.int .i64 0, .int .i64 0, .int .i64 0, .int .i64 0, .int .i64 0, .int .i64 0, .int .i64 0, .int .i64 0, .int .i64 0, .int .i64 0, .int .i64 0, .int .i64 0, .slice none 0 0, .slice none 0 0, .int .i64 0, .int .i64 0, .int .i64 0, .int .i64 0, .int .i64 0, .int .i64 0, .int .i64 0, .int .i64 0] #[.int .i64 k, .int .i64 a, .int .i64 b, .int .i64 m, .int .i64 kh, .int .i64 kw, .int .i64 sh, .int .i64 sw, .int .i64 tp, .int .i64 lf, .int .i64 bt, .int .i64 rt, .slice wa lw wc, .slice ba lb bc, .int .i64 sm, .int .i64 ss, .int .i64 um, .int .i64 us, .int .i64 z, .int .i64 p, .int .i64 lo, .int .i64 hi] (by kernel_rfl) (Eq.trans (by kernel_rfl : _ = vo) HVO.out.symm) (by kernel_rfl) rfl (by simp [Value.oneCell']) ?_; (obtain ⟨w1, hw1⟩ : ∃ w1, w0.alloc (.cells #[.int .i64 k, .int .i64 a, .int .i64 b, .int .i64 m, .int .i64 kh, .int .i64 kw, .int .i64 sh, .int .i64 sw, .int .i64 tp, .int .i64 lf, .int .i64 bt, .int .i64 rt, .slice wa lw wc, .slice ba lb bc, .int .i64 sm, .int .i64 ss, .int .i64 um, .int .i64 us, .int .i64 z, .int .i64 p, .int .i64 lo, .int .i64 hi] 48) = w1 := ⟨_, rfl⟩); rw [hw1] at S1 ⊢; clear hw1))
  obtain ⟨c1, f1, z1, -⟩ := S1.out.rules
  go_upto_region 3 with fail
  have s2 := S1.out.seti (i := 1) (v := .int .i64 0) (by simp; have := HZ0.out; omega) #[.int .i64 k, .int .i64 0, .int .i64 b, .int .i64 m, .int .i64 kh, .int .i64 kw, .int .i64 sh, .int .i64 sw, .int .i64 tp, .int .i64 lf, .int .i64 bt, .int .i64 rt, .slice wa lw wc, .slice ba lb bc, .int .i64 sm, .int .i64 ss, .int .i64 um, .int .i64 us, .int .i64 z, .int .i64 p, .int .i64 lo, .int .i64 hi] (by kernel_rfl)
  obtain ⟨w2, hw2⟩ : ∃ w2, w1.setCell ⟨w0.heap.size, 1, none⟩ (.int .i64 0) = w2 := ⟨_, rfl⟩
  rw [hw2] at s2 ⊢
  have S2 : Hid (St W w2 _) := s2
  have hG1 := s2.h1
  have hG2 := s2.h2
  have hG3 := (s2.below.block r hrz).trans HR.out
  clear hw2 S1 c1 f1 s2 HL
  refine regionC (fun w' => w'.heap[r]? = some (.cells #[.int .i64 k, .int .i64 a, .int .i64 b, .int .i64 m, .int .i64 kh, .int .i64 kw, .int .i64 sh, .int .i64 sw, .int .i64 tp, .int .i64 lf, .int .i64 bt, .int .i64 rt, .slice wa lw wc, .slice ba lb bc, .int .i64 sm, .int .i64 ss, .int .i64 um, .int .i64 us, .int .i64 z, .int .i64 p, .int .i64 lo, .int .i64 hi, .int .i64 h, .int .i64 w, .int .i64 c, .int .i64 H, .int .i64 V, .int .i64 C, .int .i64 ln, .int .i64 pn] 76 (0, 0)) ∧ w'.heap[w0.heap.size]? = some (.cells #[.int .i64 k, .int .i64 0, .int .i64 b, .int .i64 m, .int .i64 kh, .int .i64 kw, .int .i64 sh, .int .i64 sw, .int .i64 tp, .int .i64 lf, .int .i64 bt, .int .i64 rt, .slice wa lw wc, .slice ba lb bc, .int .i64 sm, .int .i64 ss, .int .i64 um, .int .i64 us, .int .i64 z, .int .i64 p, .int .i64 lo, .int .i64 hi] 48 (0, 0))) (by kernel_rfl) ?_
  obtain ⟨wd, hwd⟩ : ∃ wd, w2.drew = wd := ⟨_, rfl⟩
  have HD : Hid (wd.heap[r]? = some (.cells #[.int .i64 k, .int .i64 a, .int .i64 b, .int .i64 m, .int .i64 kh, .int .i64 kw, .int .i64 sh, .int .i64 sw, .int .i64 tp, .int .i64 lf, .int .i64 bt, .int .i64 rt, .slice wa lw wc, .slice ba lb bc, .int .i64 sm, .int .i64 ss, .int .i64 um, .int .i64 us, .int .i64 z, .int .i64 p, .int .i64 lo, .int .i64 hi, .int .i64 h, .int .i64 w, .int .i64 c, .int .i64 H, .int .i64 V, .int .i64 C, .int .i64 ln, .int .i64 pn] 76 (0, 0)) ∧ wd.heap[w0.heap.size]? = some (.cells #[.int .i64 k, .int .i64 0, .int .i64 b, .int .i64 m, .int .i64 kh, .int .i64 kw, .int .i64 sh, .int .i64 sw, .int .i64 tp, .int .i64 lf, .int .i64 bt, .int .i64 rt, .slice wa lw wc, .slice ba lb bc, .int .i64 sm, .int .i64 ss, .int .i64 um, .int .i64 us, .int .i64 z, .int .i64 p, .int .i64 lo, .int .i64 hi] 48 (0, 0))) := by unfold Hid; rw [← hwd]; exact ⟨hG3, hG1⟩
  have s3 := S2.out.drew
  rw [hwd] at s3 ⊢
  have S3 : Hid (St W wd _) := s3
  clear hwd S2 hG1 hG2 hG3 s3
  refine takeC 0 (v := .pointer (some ⟨r, 0, none⟩)) rfl rfl (by kernel_rfl) (by kernel_rfl) (by kernel_rfl) (fun _ _ _ h => h) (fun _ => rfl) rfl (fun w' hw' => by go_simp) ?_
  refine takeC 1 (v := .pointer (some ⟨r, 0, none⟩)) rfl rfl (by kernel_rfl) (by kernel_rfl) (by kernel_rfl) (fun _ _ _ h => h) (fun _ => rfl) rfl (fun w' hw' => by go_simp) ?_
  refine takeC 2 (v := .pointer (some ⟨r, 22, none⟩)) rfl rfl (by kernel_rfl) (by kernel_rfl) (by kernel_rfl) (fun _ _ _ h => h) (fun _ => rfl) rfl (fun w' hw' => by go_simp) ?_
  refine takeC 3 (v := .agg #[.int .i64 h, .int .i64 w, .int .i64 c]) rfl rfl (by kernel_rfl) (by kernel_rfl) (by kernel_rfl) (fun _ _ _ h => h) (fun _ => rfl) rfl (fun w' hw' => run_la 23 (.tmp 11) rfl ⟨r, 22, none⟩ (by kernel_rfl) [.int .i64 h, .int .i64 w, .int .i64 c] _ (three_at hw'.1 rfl rfl rfl) Try.underlying23 rfl (by kernel_rfl)) ?_
  refine takeC 4 (v := .agg #[.int .i64 k, .int .i64 0, .int .i64 b, .int .i64 m, .int .i64 kh, .int .i64 kw, .int .i64 sh, .int .i64 sw, .int .i64 tp, .int .i64 lf, .int .i64 bt, .int .i64 rt, .slice wa lw wc, .slice ba lb bc, .int .i64 sm, .int .i64 ss, .int .i64 um, .int .i64 us, .int .i64 z, .int .i64 p, .int .i64 lo, .int .i64 hi]) rfl rfl (by kernel_rfl) (by kernel_rfl) (by kernel_rfl) (fun _ _ _ h => h) (fun _ => rfl) rfl (fun w' hw' => run_la 48 (.tmp 3) rfl ⟨w0.heap.size, 0, none⟩ (by kernel_rfl) [.int .i64 k, .int .i64 0, .int .i64 b, .int .i64 m, .int .i64 kh, .int .i64 kw, .int .i64 sh, .int .i64 sw, .int .i64 tp, .int .i64 lf, .int .i64 bt, .int .i64 rt, .slice wa lw wc, .slice ba lb bc, .int .i64 sm, .int .i64 ss, .int .i64 um, .int .i64 us, .int .i64 z, .int .i64 p, .int .i64 lo, .int .i64 hi] _ (lcells hw'.2 (fget [.int .i64 k, .int .i64 0, .int .i64 b, .int .i64 m, .int .i64 kh, .int .i64 kw, .int .i64 sh, .int .i64 sw, .int .i64 tp, .int .i64 lf, .int .i64 bt, .int .i64 rt, .slice wa lw wc, .slice ba lb bc, .int .i64 sm, .int .i64 ss, .int .i64 um, .int .i64 us, .int .i64 z, .int .i64 p, .int .i64 lo, .int .i64 hi] [])) Try.underlying48 rfl (by kernel_rfl)) ?_
  refine stepR 5 HD.out (by kernel_rfl) rfl rfl (.slice (some ⟨wd.heap.size, 0, none⟩) 1 1) (wd.alloc (.cells #[.int .i64 k, .int .i64 0, .int .i64 b, .int .i64 m, .int .i64 kh, .int .i64 kw, .int .i64 sh, .int .i64 sw, .int .i64 tp, .int .i64 lf, .int .i64 bt, .int .i64 rt, .slice wa lw wc, .slice ba lb bc, .int .i64 sm, .int .i64 ss, .int .i64 um, .int .i64 us, .int .i64 z, .int .i64 p, .int .i64 lo, .int .i64 hi] 48)) (by kernel_rfl) ?_
  have HA : Hid ((wd.alloc (.cells #[.int .i64 k, .int .i64 0, .int .i64 b, .int .i64 m, .int .i64 kh, .int .i64 kw, .int .i64 sh, .int .i64 sw, .int .i64 tp, .int .i64 lf, .int .i64 bt, .int .i64 rt, .slice wa lw wc, .slice ba lb bc, .int .i64 sm, .int .i64 ss, .int .i64 um, .int .i64 us, .int .i64 z, .int .i64 p, .int .i64 lo, .int .i64 hi] 48)).heap[r]? = some (.cells #[.int .i64 k, .int .i64 a, .int .i64 b, .int .i64 m, .int .i64 kh, .int .i64 kw, .int .i64 sh, .int .i64 sw, .int .i64 tp, .int .i64 lf, .int .i64 bt, .int .i64 rt, .slice wa lw wc, .slice ba lb bc, .int .i64 sm, .int .i64 ss, .int .i64 um, .int .i64 us, .int .i64 z, .int .i64 p, .int .i64 lo, .int .i64 hi, .int .i64 h, .int .i64 w, .int .i64 c, .int .i64 H, .int .i64 V, .int .i64 C, .int .i64 ln, .int .i64 pn] 76 (0, 0)) ∧ (wd.alloc (.cells #[.int .i64 k, .int .i64 0, .int .i64 b, .int .i64 m, .int .i64 kh, .int .i64 kw, .int .i64 sh, .int .i64 sw, .int .i64 tp, .int .i64 lf, .int .i64 bt, .int .i64 rt, .slice wa lw wc, .slice ba lb bc, .int .i64 sm, .int .i64 ss, .int .i64 um, .int .i64 us, .int .i64 z, .int .i64 p, .int .i64 lo, .int .i64 hi] 48)).heap[w0.heap.size]? = some (.cells #[.int .i64 k, .int .i64 0, .int .i64 b, .int .i64 m, .int .i64 kh, .int .i64 kw, .int .i64 sh, .int .i64 sw, .int .i64 tp, .int .i64 lf, .int .i64 bt, .int .i64 rt, .slice wa lw wc, .slice ba lb bc, .int .i64 sm, .int .i64 ss, .int .i64 um, .int .i64 us, .int .i64 z, .int .i64 p, .int .i64 lo, .int .i64 hi] 48 (0, 0))) := ⟨(heap_alloc_old wd _ (lt_of_heap HD.out.1)).trans HD.out.1, (heap_alloc_old wd _ (lt_of_heap HD.out.2)).trans HD.out.2⟩
  have s4 := S3.out.new (c := #[.int .i64 k, .int .i64 0, .int .i64 b, .int .i64 m, .int .i64 kh, .int .i64 kw, .int .i64 sh, .int .i64 sw, .int .i64 tp, .int .i64 lf, .int .i64 bt, .int .i64 rt, .slice wa lw wc, .slice ba lb bc, .int .i64 sm, .int .i64 ss, .int .i64 um, .int .i64 us, .int .i64 z, .int .i64 p, .int .i64 lo, .int .i64 hi]) (t := 48)
  have hwz : Hid (W.heap.size ≤ wd.heap.size) := S3.out.size
  obtain ⟨w4, hw4⟩ : ∃ w4, wd.alloc (.cells #[.int .i64 k, .int .i64 0, .int .i64 b, .int .i64 m, .int .i64 kh, .int .i64 kw, .int .i64 sh, .int .i64 sw, .int .i64 tp, .int .i64 lf, .int .i64 bt, .int .i64 rt, .slice wa lw wc, .slice ba lb bc, .int .i64 sm, .int .i64 ss, .int .i64 um, .int .i64 us, .int .i64 z, .int .i64 p, .int .i64 lo, .int .i64 hi] 48) = w4 := ⟨_, rfl⟩
  rw [hw4] at HA s4 ⊢
  have S4 : Hid (St W w4 _) := s4
  clear hw4 s4 S3 HD
  obtain ⟨g, hg⟩ : ∃ g, wd.heap.size = g := ⟨_, rfl⟩
  rw [hg] at S4 hwz ⊢
  clear hg
  refine takeC 6 (v := .agg #[.int .i64 h, .int .i64 w, .int .i64 c, .int .i64 0, .int .i64 0, .slice (some ⟨g, 0, none⟩) 1 1, .int .i64 0]) rfl rfl (by kernel_rfl) (by kernel_rfl) (by kernel_rfl) (fun _ _ _ h => h) (fun _ => rfl) rfl (fun w' hw' => by kernel_rfl) ?_
  have HS3 : Hid (w4.heap[W.heap.size]? = some (.cells #[.int .i64 0, .int .i64 0, .int .i64 0, .int .i64 0, .int .i64 0, .slice none 0 0, .int .i64 0] 26 (0, 0))) := S4.out.h3
  refine stepS 7 HA.out (by kernel_rfl) rfl rfl 26 (.tmp 2) (.tmp 15) rfl W.heap.size #[.int .i64 h, .int .i64 w, .int .i64 c, .int .i64 0, .int .i64 0, .slice (some ⟨g, 0, none⟩) 1 1, .int .i64 0] (by kernel_rfl) (by kernel_rfl) 26 #[.int .i64 0, .int .i64 0, .int .i64 0, .int .i64 0, .int .i64 0, .slice none 0 0, .int .i64 0] HS3.out (by kernel_rfl) rfl (by simp [Value.oneCell']) ?_
  have hZ' := setRow_heap w4 W.heap.size #[.int .i64 0, .int .i64 0, .int .i64 0, .int .i64 0, .int .i64 0, .slice none 0 0, .int .i64 0] #[.int .i64 h, .int .i64 w, .int .i64 c, .int .i64 0, .int .i64 0, .slice (some ⟨g, 0, none⟩) 1 1, .int .i64 0] 26 (0, 0) HS3.out
  have hn1 : g ≠ W.heap.size := fun e => by have h1 := S4.out.h1; rw [e, HS3.out] at h1; simp at h1
  have hn2 : w0.heap.size ≠ W.heap.size := by have := HZ0.out; omega
  have hn3 : r ≠ W.heap.size := by omega
  have hO' : Hid ((w4.setRow W.heap.size #[.int .i64 h, .int .i64 w, .int .i64 c, .int .i64 0, .int .i64 0, .slice (some ⟨g, 0, none⟩) 1 1, .int .i64 0]).heap[g]? = some (.cells #[.int .i64 k, .int .i64 0, .int .i64 b, .int .i64 m, .int .i64 kh, .int .i64 kw, .int .i64 sh, .int .i64 sw, .int .i64 tp, .int .i64 lf, .int .i64 bt, .int .i64 rt, .slice wa lw wc, .slice ba lb bc, .int .i64 sm, .int .i64 ss, .int .i64 um, .int .i64 us, .int .i64 z, .int .i64 p, .int .i64 lo, .int .i64 hi] 48 (0, 0))) := (setRow_other _ _ _ _ hn1).trans S4.out.h1
  have hB' : Hid (Below W.heap.size W (w4.setRow W.heap.size #[.int .i64 h, .int .i64 w, .int .i64 c, .int .i64 0, .int .i64 0, .slice (some ⟨g, 0, none⟩) 1 1, .int .i64 0])) := below_setRow S4.out.below (Nat.le_refl _) #[.int .i64 h, .int .i64 w, .int .i64 c, .int .i64 0, .int .i64 0, .slice (some ⟨g, 0, none⟩) 1 1, .int .i64 0]
  have hC' : (w4.setRow W.heap.size #[.int .i64 h, .int .i64 w, .int .i64 c, .int .i64 0, .int .i64 0, .slice (some ⟨g, 0, none⟩) 1 1, .int .i64 0]).heap[r]? = some (.cells #[.int .i64 k, .int .i64 a, .int .i64 b, .int .i64 m, .int .i64 kh, .int .i64 kw, .int .i64 sh, .int .i64 sw, .int .i64 tp, .int .i64 lf, .int .i64 bt, .int .i64 rt, .slice wa lw wc, .slice ba lb bc, .int .i64 sm, .int .i64 ss, .int .i64 um, .int .i64 us, .int .i64 z, .int .i64 p, .int .i64 lo, .int .i64 hi, .int .i64 h, .int .i64 w, .int .i64 c, .int .i64 H, .int .i64 V, .int .i64 C, .int .i64 ln, .int .i64 pn] 76 (0, 0)) ∧ (w4.setRow W.heap.size #[.int .i64 h, .int .i64 w, .int .i64 c, .int .i64 0, .int .i64 0, .slice (some ⟨g, 0, none⟩) 1 1, .int .i64 0]).heap[w0.heap.size]? = some (.cells #[.int .i64 k, .int .i64 0, .int .i64 b, .int .i64 m, .int .i64 kh, .int .i64 kw, .int .i64 sh, .int .i64 sw, .int .i64 tp, .int .i64 lf, .int .i64 bt, .int .i64 rt, .slice wa lw wc, .slice ba lb bc, .int .i64 sm, .int .i64 ss, .int .i64 um, .int .i64 us, .int .i64 z, .int .i64 p, .int .i64 lo, .int .i64 hi] 48 (0, 0)) := ⟨(setRow_other _ _ _ _ hn3).trans HA.out.1, (setRow_other _ _ _ _ hn2).trans HA.out.2⟩
  obtain ⟨w5, hw5⟩ : ∃ w5, w4.setRow W.heap.size #[.int .i64 h, .int .i64 w, .int .i64 c, .int .i64 0, .int .i64 0, .slice (some ⟨g, 0, none⟩) 1 1, .int .i64 0] = w5 := ⟨_, rfl⟩
  rw [hw5] at hZ' hO' hB' hC' ⊢
  clear hw5 S4 HS3 HA
  refine doneC hC' (by kernel_rfl) ?_ _
  obtain ⟨c1, f1, z5⟩ := cells_at hZ'
  clear hC' hZ'
  go_wp2
  exact bodyPost_ret (v := .agg #[.int .i64 h, .int .i64 w, .int .i64 c, .int .i64 0, .int .i64 0, .slice (some ⟨g, 0, none⟩) 1 1, .int .i64 0]) (by simp [results, Try.results26, go_sem, *]) rfl ⟨g, rfl, hO'.out, hwz.out, hB'.out⟩
end Go.Proofs.Ytehofmkpgopmpaa.Kr

/- Plain numbers of layer 20: registers, what they did, sums taken one by one and block by block. -/
namespace Go.Proofs.Ytehofmkpgopmpaa
open Go.ChangeShapes Go.WideShapes Go.ChangeAt Go.RowKit
def xmn (a b : Int) : Int := if b < a then b else a
def xmx (a b : Int) : Int := if a < b then b else a
theorem lmul_bd {a b A B : Int} (ha : -A ≤ a ∧ a ≤ A) (hb : -B ≤ b ∧ b ≤ B) : -(A * B) ≤ a * b ∧ a * b ≤ A * B := by
  have hA : 0 ≤ A := by omega
  have hB : 0 ≤ B := by omega
  rcases Int.le_total 0 b with h | h
  · have h1 := Int.mul_le_mul_of_nonneg_right ha.2 h
    have h2 := Int.mul_le_mul_of_nonneg_left hb.2 hA
    have h3 := Int.mul_le_mul_of_nonneg_right ha.1 h
    rw [Int.neg_mul] at h3
    omega
  · have h1 := Int.mul_le_mul_of_nonpos_right ha.1 h
    have h2 := Int.mul_le_mul_of_nonneg_left hb.1 hA
    have h3 := Int.mul_le_mul_of_nonpos_right ha.2 h
    rw [Int.neg_mul] at h1
    rw [Int.mul_neg] at h2
    omega
/-- What wrapped: 0 or 1. -/
def bb (b : Bool) : Int := if b = true then 0 else 1
def bw (N x : Int) : Int := bb (fitsN N x)
theorem bw_bd (N x : Int) : 0 ≤ bw N x ∧ bw N x ≤ 1 := by unfold bw bb; split <;> omega
theorem bw_0 {N x : Int} : bw N x = 0 ↔ -N ≤ x ∧ x ≤ N - 1 := by unfold bw bb fitsN; simp
theorem wrapN_bd {N : Int} (h : 0 < N) (x : Int) : -N ≤ wrapN N x ∧ wrapN N x ≤ N - 1 := by
  unfold wrapN
  have h1 := Int.emod_nonneg (x + N) (show 2 * N ≠ 0 by omega)
  have h2 := Int.emod_lt_of_pos (x + N) (show 0 < 2 * N by omega)
  omega
theorem wrapN_in {N x : Int} (h : -N ≤ x ∧ x ≤ N - 1) : wrapN N x = x := by
  unfold wrapN
  rw [Int.emod_eq_of_lt (by omega) (by omega)]; omega
/-- A sum one by one. -/
def snL (N : Int) : Int → Int → List Int → Int × Int
  | r, n, [] => (r, n)
  | r, n, z :: zs => snL N (wrapN N (r + z)) (n + bw N (r + z)) zs
/-- What registers of one width did. -/
structure Ty where
  m : Int
  w : Int
  a : Int
  l : Int
  h : Int
def Ty.z : Ty := ⟨0, 0, 0, 0, 0⟩
/-- A product, a sum. -/
def Ty.mu (N : Int) (t : Ty) (p : Int) : Ty := ⟨t.m + 1, t.w + bw N p, t.a, t.l, t.h⟩
def Ty.ad (N : Int) (t : Ty) (x : Int) : Ty := ⟨t.m, t.w + bw N x, t.a + 1, if t.a = 0 then wrapN N x else xmn t.l (wrapN N x), if t.a = 0 then wrapN N x else xmx t.h (wrapN N x)⟩
/-- Counts are small. -/
def Ty.ok (n : Int) (t : Ty) : Prop := (0 ≤ t.m ∧ t.m ≤ n) ∧ (0 ≤ t.w ∧ t.w ≤ 2 * n) ∧ (0 ≤ t.a ∧ t.a ≤ n) ∧ (-2147483648 ≤ t.l ∧ t.l ≤ 2147483647) ∧ (-2147483648 ≤ t.h ∧ t.h ≤ 2147483647)
theorem xmn_bd {A B a b : Int} (h : A ≤ a ∧ a ≤ B) (g : A ≤ b ∧ b ≤ B) : A ≤ xmn a b ∧ xmn a b ≤ B := by unfold xmn; split <;> omega
theorem xmx_bd {A B a b : Int} (h : A ≤ a ∧ a ≤ B) (g : A ≤ b ∧ b ≤ B) : A ≤ xmx a b ∧ xmx a b ≤ B := by unfold xmx; split <;> omega
theorem Ty.ad_sum {N : Int} (hN : 0 < N ∧ N ≤ 2147483648) {t : Ty} {x : Int} (h1 : -2147483648 ≤ t.l ∧ t.l ≤ 2147483647) (h2 : -2147483648 ≤ t.h ∧ t.h ≤ 2147483647) : (-2147483648 ≤ (t.ad N x).l ∧ (t.ad N x).l ≤ 2147483647) ∧ (-2147483648 ≤ (t.ad N x).h ∧ (t.ad N x).h ≤ 2147483647) := by
  have h3 := wrapN_bd hN.1 x
  have h4 := xmn_bd h1 (b := wrapN N x) (by omega)
  have h5 := xmx_bd h2 (b := wrapN N x) (by omega)
  unfold Ty.ad
  simp only
  constructor
  · split <;> omega
  · split <;> omega
/-- A product that is added. -/
def Ty.ma (N : Int) (t : Ty) (r p : Int) : Ty := (t.mu N p).ad N (r + wrapN N p)
theorem Ty.ok.ma {N n : Int} {t : Ty} (h : t.ok n) (hN : 0 < N ∧ N ≤ 2147483648) (r p : Int) : (t.ma N r p).ok (n + 1) := by
  obtain ⟨h1, h2, h3, h4, h5⟩ := h
  obtain ⟨g1, g2⟩ := Ty.ad_sum hN (t := t.mu N p) (x := r + wrapN N p) h4 h5
  have b1 := bw_bd N p
  have b2 := bw_bd N (r + wrapN N p)
  refine ⟨?_, ?_, ?_, g1, g2⟩
  · show 0 ≤ t.m + 1 ∧ t.m + 1 ≤ n + 1
    omega
  · show 0 ≤ t.w + bw N p + bw N (r + wrapN N p) ∧ _ ≤ _
    simp only [Ty.ma, Ty.mu, Ty.ad]
    omega
  · show 0 ≤ t.a + 1 ∧ t.a + 1 ≤ n + 1
    omega
theorem Ty.ok.ad {N n : Int} {t : Ty} (h : t.ok n) (hN : 0 < N ∧ N ≤ 2147483648) (x : Int) : (t.ad N x).ok (n + 1) := by
  obtain ⟨h1, h2, h3, h4, h5⟩ := h
  obtain ⟨g1, g2⟩ := Ty.ad_sum hN (t := t) (x := x) h4 h5
  have b2 := bw_bd N x
  refine ⟨?_, ?_, ?_, g1, g2⟩
  · show 0 ≤ t.m ∧ t.m ≤ n + 1
    omega
  · show 0 ≤ t.w + bw N x ∧ t.w + bw N x ≤ 2 * (n + 1)
    omega
  · show 0 ≤ t.a + 1 ∧ t.a + 1 ≤ n + 1
    omega
theorem Ty.ok.mono {n k : Int} {t : Ty} (h : t.ok n) (g : n ≤ k) : t.ok k := by
  obtain ⟨h1, h2, h3, h4, h5⟩ := h
  exact ⟨by omega, by omega, by omega, h4, h5⟩
theorem Ty.ok_z : Ty.z.ok 0 := by unfold Ty.ok Ty.z; simp only; omega
/-- A register that products are added to one by one. -/
def gaT (N : Int) : Ty → Int → List Int → Ty × Int
  | t, r, [] => (t, r)
  | t, r, p :: ps => gaT N (t.ma N r p) (wrapN N (r + wrapN N p)) ps
theorem gaT_ok {N : Int} (hN : 0 < N ∧ N ≤ 2147483648) : ∀ (ps : List Int) (t : Ty) (r n : Int), t.ok n → (-N ≤ r ∧ r ≤ N - 1) → (gaT N t r ps).1.ok (n + ps.length) ∧ (-N ≤ (gaT N t r ps).2 ∧ (gaT N t r ps).2 ≤ N - 1)
  | [], t, r, n, h, hr => ⟨by simpa [gaT] using h, hr⟩
  | p :: ps, t, r, n, h, hr => by
    have := gaT_ok hN ps (t.ma N r p) (wrapN N (r + wrapN N p)) (n + 1) (h.ma hN r p) (wrapN_bd hN.1 _)
    refine ⟨?_, this.2⟩
    have h1 := this.1
    rw [show n + 1 + (ps.length : Int) = n + ((p :: ps).length : Int) by simp only [List.length_cons]; omega] at h1
    exact h1
/-- Both registers, term by term; j terms of the block are done. -/
def elT (d : Nat) : Nat → Ty → Ty → Int → Int → List Int → Ty × Ty × Int
  | _, s, l, r, _, [] => (s, l, r)
  | j, s, l, r, q, p :: ps =>
    if j + 1 = d ∨ ps = [] then elT d 0 (s.ma 32768 q p) (l.ad 2147483648 (r + wrapN 32768 (q + wrapN 32768 p))) (wrapN 2147483648 (r + wrapN 32768 (q + wrapN 32768 p))) 0 ps
    else elT d (j + 1) (s.ma 32768 q p) l r (wrapN 32768 (q + wrapN 32768 p)) ps
theorem elT_block (d : Nat) : ∀ (ps : List Int) (j : Nat) (s l : Ty) (r q : Int), j < d → ps ≠ [] →
    elT d j s l r q ps = elT d 0 (gaT 32768 s q (ps.take (d - j))).1 (l.ad 2147483648 (r + (gaT 32768 s q (ps.take (d - j))).2)) (wrapN 2147483648 (r + (gaT 32768 s q (ps.take (d - j))).2)) 0 (ps.drop (d - j))
  | [], _, _, _, _, _, _, h => absurd rfl h
  | p :: ps, j, s, l, r, q, hj, _ => by
    by_cases h : j + 1 = d ∨ ps = []
    · have e : (p :: ps).take (d - j) = [p] ∧ (p :: ps).drop (d - j) = ps := by
        rcases h with h | h
        · rw [show d - j = 1 by omega]; exact ⟨rfl, rfl⟩
        · subst h
          obtain ⟨k, hk⟩ : ∃ k, d - j = k + 1 := ⟨d - j - 1, by omega⟩
          rw [hk]; simp
      rw [elT, if_pos h, e.1, e.2]
      rfl
    · have h' : ¬ j + 1 = d := fun e => h (.inl e)
      have h2 : ps ≠ [] := fun e => h (.inr e)
      rw [elT, if_neg h, elT_block d ps (j + 1) _ _ _ _ (by omega) h2]
      obtain ⟨k, hk⟩ : ∃ k, d - j = k + 1 := ⟨d - j - 1, by omega⟩
      rw [hk, show d - (j + 1) = k by omega, List.take_succ_cons, List.drop_succ_cons]
      rfl
theorem elT_spill {d : Nat} (hd : 0 < d) {ps : List Int} (h : ps ≠ []) (s l : Ty) (r : Int) :
    elT d 0 s l r 0 ps = elT d 0 (gaT 32768 s 0 (ps.take d)).1 (l.ad 2147483648 (r + (gaT 32768 s 0 (ps.take d)).2)) (wrapN 2147483648 (r + (gaT 32768 s 0 (ps.take d)).2)) 0 (ps.drop d) :=
  elT_block d ps 0 s l r 0 hd h
theorem elT_ok {d : Nat} : ∀ (ps : List Int) (j : Nat) (s l : Ty) (r q n : Int), s.ok n → l.ok n → (-2147483648 ≤ r ∧ r ≤ 2147483647) → (elT d j s l r q ps).1.ok (n + ps.length) ∧ (elT d j s l r q ps).2.1.ok (n + ps.length) ∧ (-2147483648 ≤ (elT d j s l r q ps).2.2 ∧ (elT d j s l r q ps).2.2 ≤ 2147483647)
  | [], j, s, l, r, q, n, hs, hl, hr => ⟨by simpa [elT] using hs, by simpa [elT] using hl, hr⟩
  | p :: ps, j, s, l, r, q, n, hs, hl, hr => by
    rw [show n + ((p :: ps).length : Int) = n + 1 + (ps.length : Int) by simp only [List.length_cons]; omega]
    rw [elT]
    split
    · exact elT_ok ps 0 _ _ _ _ (n + 1) (hs.ma (by omega) _ _) (hl.ad (by omega) _) (by have := wrapN_bd (N := 2147483648) (by omega) (r + wrapN 32768 (q + wrapN 32768 p)); omega)
    · exact elT_ok ps (j + 1) _ _ _ _ (n + 1) (hs.ma (by omega) _ _) (hl.mono (by omega)) hr
end Go.Proofs.Ytehofmkpgopmpaa

/- The ends of a narrow type, Sat; the document's Fits, Sat, Wrap; products: each for every argument that fits its type. -/
namespace Go.Proofs.Ytehofmkpgopmpaa
open Go.ChangeShapes Go.WideShapes Go.ChangeAt Go.RowKit

/-! ### Plain numbers -/
def Pw (N x : Int) : Prop := ∃ k : Nat, x * 2 ^ k = -N
/-! ### The ends, and Sat -/
end Go.Proofs.Ytehofmkpgopmpaa

/- The document's Add, Sub, Fits, Sat, Wrap, Clamp; the statement's fixed answers: each for every argument that fits its type. -/
namespace Go.Proofs.Ytehofmkpgopmpaa
open Go.ChangeShapes Go.WideShapes Go.ChangeAt Go.RowKit

end Go.Proofs.Ytehofmkpgopmpaa

/- What lane's Add, Mul, Sum, and the document's Add and Mul of layer 20 return. -/
namespace Go.Proofs.Ytehofmkpgopmpaa
open Go.ChangeShapes Go.WideShapes Go.ChangeAt Go.RowKit
set_option linter.unusedVariables false
theorem w64i {x : Int} (h : -9223372036854775808 ≤ x ∧ x ≤ 9223372036854775807) : IntKind.i64.wrap x = x := by rw [IntKind.wrap_i64]; omega
theorem nar_i16 (x : Int) (w : World) :
    Calls Try.prog 102 #[.int .i64 x] w fun e w' => e = .returned (.tuple #[.int .i16 (wrapN 32768 x), .bool (fitsN 32768 x)]) ∧ w' = w := by
  go_enter Try.func102, Try.ntmps102
  go_wp2
  go_ret2
  exact ⟨by rw [← fits16, ← lit16]; rfl, rfl⟩
theorem ladd_i16 (a b : Int) (w : World) (ha : -32768 ≤ a ∧ a ≤ 32767) (hb : -32768 ≤ b ∧ b ≤ 32767) :
    Calls Try.prog 100 #[.int .i16 a, .int .i16 b] w fun e w' => e = .returned (.tuple #[.int .i16 (wrapN 32768 (a + b)), .bool (fitsN 32768 (a + b))]) ∧ w' = w := by
  go_enter Try.func100, Try.ntmps100
  go_wp2_with fail
  refine (nar_i16 _ _).mono ?_
  rintro e w' ⟨rfl, rfl⟩
  go_wp2
  go_ret2
  exact ⟨rfl, rfl⟩
theorem lmul_i16 (a b : Int) (w : World) (ha : -32768 ≤ a ∧ a ≤ 32767) (hb : -32768 ≤ b ∧ b ≤ 32767) :
    Calls Try.prog 101 #[.int .i16 a, .int .i16 b] w fun e w' => e = .returned (.tuple #[.int .i16 (wrapN 32768 (a * b)), .bool (fitsN 32768 (a * b))]) ∧ w' = w := by
  have hp := lmul_bd (A := 32768) (B := 32768) (a := a) (b := b) (by omega) (by omega)
  obtain ⟨p, hq⟩ : ∃ p, a * b = p := ⟨_, rfl⟩
  rw [hq] at hp ⊢
  have w1 : IntKind.i64.wrap p = p := w64i (by omega)
  go_enter Try.func101, Try.ntmps101
  go_wp2_with fail
  refine (nar_i16 _ _).mono ?_
  rintro e w' ⟨rfl, rfl⟩
  go_wp2
  go_ret2
  exact ⟨rfl, rfl⟩
theorem nar_i32 (x : Int) (w : World) :
    Calls Try.prog 99 #[.int .i64 x] w fun e w' => e = .returned (.tuple #[.int .i32 (wrapN 2147483648 x), .bool (fitsN 2147483648 x)]) ∧ w' = w := by
  go_enter Try.func99, Try.ntmps99
  go_wp2
  go_ret2
  exact ⟨by rw [← fits32, ← lit32]; rfl, rfl⟩
theorem ladd_i32 (a b : Int) (w : World) (ha : -2147483648 ≤ a ∧ a ≤ 2147483647) (hb : -2147483648 ≤ b ∧ b ≤ 2147483647) :
    Calls Try.prog 93 #[.int .i32 a, .int .i32 b] w fun e w' => e = .returned (.tuple #[.int .i32 (wrapN 2147483648 (a + b)), .bool (fitsN 2147483648 (a + b))]) ∧ w' = w := by
  go_enter Try.func93, Try.ntmps93
  go_wp2_with fail
  refine (nar_i32 _ _).mono ?_
  rintro e w' ⟨rfl, rfl⟩
  go_wp2
  go_ret2
  exact ⟨rfl, rfl⟩
theorem lmul_i32 (a b : Int) (w : World) (ha : -2147483648 ≤ a ∧ a ≤ 2147483647) (hb : -2147483648 ≤ b ∧ b ≤ 2147483647) :
    Calls Try.prog 95 #[.int .i32 a, .int .i32 b] w fun e w' => e = .returned (.tuple #[.int .i32 (wrapN 2147483648 (a * b)), .bool (fitsN 2147483648 (a * b))]) ∧ w' = w := by
  have hp := lmul_bd (A := 2147483648) (B := 2147483648) (a := a) (b := b) (by omega) (by omega)
  obtain ⟨p, hq⟩ : ∃ p, a * b = p := ⟨_, rfl⟩
  rw [hq] at hp ⊢
  have w1 : IntKind.i64.wrap p = p := w64i (by omega)
  go_enter Try.func95, Try.ntmps95
  go_wp2_with fail
  refine (nar_i32 _ _).mono ?_
  rintro e w' ⟨rfl, rfl⟩
  go_wp2
  go_ret2
  exact ⟨rfl, rfl⟩
/-! ### The document's -/
end Go.Proofs.Ytehofmkpgopmpaa

/- What lane's joined, note, multiplied, added, refused, trackOf return, and what they write. -/
namespace Go.Proofs.Ytehofmkpgopmpaa
open Go.ChangeShapes Go.WideShapes Go.ChangeAt Go.RowKit
set_option linter.unusedVariables false
def Ty.cs (t : Ty) : Array Value := #[.int .i64 t.m, .int .i64 t.w, .int .i64 t.a, .int .i64 t.l, .int .i64 t.h]
theorem min2 (x y M : Int) (h : xmn x y = M) : ∀ (W : World) (ts : Array TypeId) (t : TypeId), (Builtin.min_ ts t #[.int .i64 x, .int .i64 y]).run Try.prog W = .ok (.int .i64 M) W := by
  intro W ts t
  subst h
  simp [Builtin.min_, Builtin.min2, xmn]
  repeat' split
  all_goals first | rfl | omega
theorem max2b (x y M : Int) (h : xmx x y = M) : ∀ (W : World) (ts : Array TypeId) (t : TypeId), (Builtin.max_ ts t #[.int .i64 x, .int .i64 y]).run Try.prog W = .ok (.int .i64 M) W := by
  intro W ts t
  subst h
  simp [Builtin.max_, Builtin.max2, xmx]
  repeat' split
  all_goals first | rfl | omega
/-- The reach of both. -/
def jn (a b : Int × Int × Int) : Int × Int × Int :=
  if a.1 = 0 then (if b.1 = 0 then (0, 0, 0) else b) else if b.1 = 0 then a else (wrap64 (a.1 + b.1), xmn a.2.1 b.2.1, xmx a.2.2 b.2.2)
theorem joined_any (a1 a2 a3 b1 b2 b3 j1 j2 j3 : Int) (W : World) (hj : jn (a1, a2, a3) (b1, b2, b3) = (j1, j2, j3)) :
    Calls Try.prog 70 #[.agg #[.int .i64 a1, .int .i64 a2, .int .i64 a3], .agg #[.int .i64 b1, .int .i64 b2, .int .i64 b3]] W fun e w' => e = .returned (.agg #[.int .i64 j1, .int .i64 j2, .int .i64 j3]) ∧ Below W.heap.size W w' := by
  have s0 := ((St.start W).new (c := #[.int .i64 a1, .int .i64 a2, .int .i64 a3]) (t := 137)).new (c := #[.int .i64 b1, .int .i64 b2, .int .i64 b3]) (t := 137) |>.new (c := #[.int .i64 j1, .int .i64 j2, .int .i64 j3]) (t := 137)
  have HS : Hid (Below W.heap.size W _) := s0.below
  clear s0
  unfold jn at hj
  simp only at hj
  by_cases ha : a1 = 0
  · rw [if_pos ha] at hj
    by_cases hb : b1 = 0
    · rw [if_pos hb] at hj
      cases hj
      subst ha hb
      go_enter Try.func70, Try.ntmps70
      go_wp2
      exact bodyPost_ret (v := .agg #[.int .i64 0, .int .i64 0, .int .i64 0]) (by simp [results, Try.results70, go_sem]) rfl ⟨rfl, HS.out⟩
    · rw [if_neg hb] at hj
      cases hj
      subst ha
      go_enter Try.func70, Try.ntmps70
      go_wp2
      exact bodyPost_ret (v := .agg #[.int .i64 b1, .int .i64 b2, .int .i64 b3]) (by simp [results, Try.results70, go_sem]) rfl ⟨rfl, HS.out⟩
  · rw [if_neg ha] at hj
    by_cases hb : b1 = 0
    · rw [if_pos hb] at hj
      cases hj
      subst hb
      go_enter Try.func70, Try.ntmps70
      go_wp2
      exact bodyPost_ret (v := .agg #[.int .i64 a1, .int .i64 a2, .int .i64 a3]) (by simp [results, Try.results70, go_sem]) rfl ⟨rfl, HS.out⟩
    · rw [if_neg hb] at hj
      cases hj
      obtain ⟨n1, hn1⟩ : ∃ n1, xmn a2 b2 = n1 := ⟨_, rfl⟩
      obtain ⟨n2, hn2⟩ : ∃ n2, xmx a3 b3 = n2 := ⟨_, rfl⟩
      have q1 := min2 a2 b2 n1 hn1
      have q2 := max2b a3 b3 n2 hn2
      rw [hn1, hn2] at HS ⊢
      clear hn1 hn2
      go_enter Try.func70, Try.ntmps70
      go_wp2
      exact bodyPost_ret (v := .agg #[.int .i64 (wrap64 (a1 + b1)), .int .i64 n1, .int .i64 n2]) (by simp [results, Try.results70, go_sem]) rfl ⟨rfl, HS.out⟩
theorem note_any (t : Ty) (b : Bool) (W0 W : World) (B : Nat) (l : List (Nat × Array Value × TypeId)) (s : St W0 W ((B, t.cs, 139) :: l)) (hl : ∀ x ∈ l, x.1 ≠ B) (hw : 0 ≤ t.w ∧ t.w ≤ 1000000000000000000) :
    Calls Try.prog 94 #[.pointer (some ⟨B, 0, none⟩), .bool b] W fun e w' => (∃ v, e = .returned v) ∧ St W0 w' ((B, ({ t with w := t.w + bb b } : Ty).cs, 139) :: l) := by
  obtain ⟨m, w, a, lo, hi⟩ := t
  simp only [Ty.cs] at s hw ⊢
  cases b with
  | true =>
    simp only [bb, if_true, Int.add_zero]
    go_enter Try.func94, Try.ntmps94
    go_wp2
    go_end0
    exact ⟨⟨_, rfl⟩, s⟩
  | false =>
    simp only [bb, Bool.false_eq_true, if_false]
    have HS : Hid (St W0 _ _) := s.set hl (i := 1) (v := .int .i64 (w + 1))
    simp only [List.setIfInBounds_toArray, List.set_cons_succ, List.set_cons_zero] at HS
    obtain ⟨c1, f1, z1, -⟩ := s.rules
    clear s
    go_enter Try.func94, Try.ntmps94
    go_wp2
    go_end0
    exact ⟨⟨_, rfl⟩, HS.out⟩
/-- Products of two lists. -/
def pz (zs ys : List Int) : List Int := List.zipWith (fun a b => a * b) zs ys
theorem pz_len {zs ys : List Int} (h : zs.length = ys.length) : (pz zs ys).length = zs.length := by unfold pz; simp [h]
theorem pz_at {zs ys : List Int} {k : Nat} {c d : Int} (h : zs.drop k = c :: zs.drop (k + 1)) (g : ys.drop k = d :: ys.drop (k + 1)) : (pz zs ys).drop k = c * d :: (pz zs ys).drop (k + 1) := by
  unfold pz; rw [List.drop_zipWith, List.drop_zipWith, h, g]; simp
def BD : Int := 1000000000000000
set_option maxHeartbeats 1000000 in
theorem lmd_i16 (t : Ty) (a b : Int) (W0 W : World) (B : Nat) (l : List (Nat × Array Value × TypeId)) (s : St W0 W ((B, t.cs, 139) :: l)) (hl : ∀ x ∈ l, x.1 ≠ B) (ht : t.ok BD) (ha : -32768 ≤ a ∧ a ≤ 32767) (hb : -32768 ≤ b ∧ b ≤ 32767) :
    Calls Try.prog 97 #[.pointer (some ⟨B, 0, none⟩), .int .i16 a, .int .i16 b] W fun e w' => e = .returned (.int .i16 (wrapN 32768 (a * b))) ∧ St W0 w' ((B, (t.mu 32768 (a * b)).cs, 139) :: l) := by
  have HF : Hid (∀ w, Calls Try.prog 101 #[.int .i16 a, .int .i16 b] w fun e w' => e = .returned (.tuple #[.int .i16 (wrapN 32768 (a * b)), .bool (fitsN 32768 (a * b))]) ∧ w' = w) := fun w => lmul_i16 a b w ha hb
  generalize a * b = p at HF ⊢
  obtain ⟨h1, h2, -⟩ := ht
  unfold BD at h1 h2
  obtain ⟨m, w, c, lo, hi⟩ := t
  simp only at h1 h2
  have s1 := s.set hl (i := 0) (v := .int .i64 (m + 1))
  simp only [Ty.cs, List.setIfInBounds_toArray, List.set_cons_zero] at s1
  obtain ⟨c1, f1, z1, -⟩ := s.rules
  simp only [Ty.cs] at c1
  have HN : Hid (∀ w2, St W0 w2 ((B, (⟨m + 1, w, c, lo, hi⟩ : Ty).cs, 139) :: l) → Calls Try.prog 94 #[.pointer (some ⟨B, 0, none⟩), .bool (fitsN 32768 p)] w2 fun e w' => (∃ v, e = .returned v) ∧ St W0 w' ((B, ((⟨m, w, c, lo, hi⟩ : Ty).mu 32768 p).cs, 139) :: l)) := fun w2 s2 => note_any ⟨m + 1, w, c, lo, hi⟩ (fitsN 32768 p) W0 w2 B l s2 hl (by simp only; omega)
  generalize Ty.mu 32768 ⟨m, w, c, lo, hi⟩ p = T at HN ⊢
  generalize wrapN 32768 p = V at HF ⊢
  generalize fitsN 32768 p = b at HF HN ⊢
  have HS : Hid (St W0 _ _) := s1
  clear s s1
  go_enter Try.func97, Try.ntmps97
  go_wp2_with fail
  refine (HF.out _).mono ?_
  rintro e w' ⟨rfl, rfl⟩
  go_wp2_with fail
  refine (HN.out _ HS.out).mono ?_
  rintro e w' ⟨⟨v, rfl⟩, hs⟩
  clear c1 f1
  go_wp2
  go_ret
  exact ⟨rfl, hs⟩
set_option maxHeartbeats 1000000 in
theorem lmd_i32 (t : Ty) (a b : Int) (W0 W : World) (B : Nat) (l : List (Nat × Array Value × TypeId)) (s : St W0 W ((B, t.cs, 139) :: l)) (hl : ∀ x ∈ l, x.1 ≠ B) (ht : t.ok BD) (ha : -2147483648 ≤ a ∧ a ≤ 2147483647) (hb : -2147483648 ≤ b ∧ b ≤ 2147483647) :
    Calls Try.prog 84 #[.pointer (some ⟨B, 0, none⟩), .int .i32 a, .int .i32 b] W fun e w' => e = .returned (.int .i32 (wrapN 2147483648 (a * b))) ∧ St W0 w' ((B, (t.mu 2147483648 (a * b)).cs, 139) :: l) := by
  have HF : Hid (∀ w, Calls Try.prog 95 #[.int .i32 a, .int .i32 b] w fun e w' => e = .returned (.tuple #[.int .i32 (wrapN 2147483648 (a * b)), .bool (fitsN 2147483648 (a * b))]) ∧ w' = w) := fun w => lmul_i32 a b w ha hb
  generalize a * b = p at HF ⊢
  obtain ⟨h1, h2, -⟩ := ht
  unfold BD at h1 h2
  obtain ⟨m, w, c, lo, hi⟩ := t
  simp only at h1 h2
  have s1 := s.set hl (i := 0) (v := .int .i64 (m + 1))
  simp only [Ty.cs, List.setIfInBounds_toArray, List.set_cons_zero] at s1
  obtain ⟨c1, f1, z1, -⟩ := s.rules
  simp only [Ty.cs] at c1
  have HN : Hid (∀ w2, St W0 w2 ((B, (⟨m + 1, w, c, lo, hi⟩ : Ty).cs, 139) :: l) → Calls Try.prog 94 #[.pointer (some ⟨B, 0, none⟩), .bool (fitsN 2147483648 p)] w2 fun e w' => (∃ v, e = .returned v) ∧ St W0 w' ((B, ((⟨m, w, c, lo, hi⟩ : Ty).mu 2147483648 p).cs, 139) :: l)) := fun w2 s2 => note_any ⟨m + 1, w, c, lo, hi⟩ (fitsN 2147483648 p) W0 w2 B l s2 hl (by simp only; omega)
  generalize Ty.mu 2147483648 ⟨m, w, c, lo, hi⟩ p = T at HN ⊢
  generalize wrapN 2147483648 p = V at HF ⊢
  generalize fitsN 2147483648 p = b at HF HN ⊢
  have HS : Hid (St W0 _ _) := s1
  clear s s1
  go_enter Try.func84, Try.ntmps84
  go_wp2_with fail
  refine (HF.out _).mono ?_
  rintro e w' ⟨rfl, rfl⟩
  go_wp2_with fail
  refine (HN.out _ HS.out).mono ?_
  rintro e w' ⟨⟨v, rfl⟩, hs⟩
  clear c1 f1
  go_wp2
  go_ret
  exact ⟨rfl, hs⟩
theorem jn_ad (N : Int) (t : Ty) (x : Int) (h : 0 ≤ t.a ∧ t.a ≤ BD) : jn (t.a, t.l, t.h) (1, wrapN N x, wrapN N x) = ((t.ad N x).a, (t.ad N x).l, (t.ad N x).h) := by
  unfold BD at h
  unfold jn Ty.ad
  simp only
  by_cases g : t.a = 0
  · rw [if_pos g, if_pos g, if_pos g, if_neg (by omega), g]; rfl
  · rw [if_neg g, if_neg g, if_neg g, if_neg (by omega), show wrap64 (t.a + 1) = t.a + 1 by unfold wrap64; omega]
set_option maxHeartbeats 1000000 in
theorem lad_i16 (t : Ty) (a b : Int) (W0 W : World) (B : Nat) (l : List (Nat × Array Value × TypeId)) (s : St W0 W ((B, t.cs, 139) :: l)) (hl : ∀ x ∈ l, x.1 ≠ B) (ht : t.ok BD) (ha : -32768 ≤ a ∧ a ≤ 32767) (hb : -32768 ≤ b ∧ b ≤ 32767) :
    Calls Try.prog 96 #[.pointer (some ⟨B, 0, none⟩), .int .i16 a, .int .i16 b] W fun e w' => e = .returned (.int .i16 (wrapN 32768 (a + b))) ∧ St W0 w' ((B, (t.ad 32768 (a + b)).cs, 139) :: l) := by
  have HF : Hid (∀ w, Calls Try.prog 100 #[.int .i16 a, .int .i16 b] w fun e w' => e = .returned (.tuple #[.int .i16 (wrapN 32768 (a + b)), .bool (fitsN 32768 (a + b))]) ∧ w' = w) := fun w => ladd_i16 a b w ha hb
  generalize a + b = p at HF ⊢
  have hV := wrapN_bd (N := 32768) (by omega) p
  obtain ⟨-, h2, h3, -⟩ := ht
  have HJ : Hid (∀ w, _) := fun w => joined_any t.a t.l t.h 1 (wrapN 32768 p) (wrapN 32768 p) _ _ _ w (jn_ad 32768 t p h3)
  unfold BD at h2 h3
  have HN : Hid (∀ w2, St W0 w2 ((B, #[.int .i64 t.m, .int .i64 t.w, .int .i64 (t.ad 32768 p).a, .int .i64 (t.ad 32768 p).l, .int .i64 (t.ad 32768 p).h], 139) :: l) → Calls Try.prog 94 #[.pointer (some ⟨B, 0, none⟩), .bool (fitsN 32768 p)] w2 fun e w' => (∃ v, e = .returned v) ∧ St W0 w' ((B, (t.ad 32768 p).cs, 139) :: l)) := fun w2 s2 => note_any ⟨t.m, t.w, (t.ad 32768 p).a, (t.ad 32768 p).l, (t.ad 32768 p).h⟩ (fitsN 32768 p) W0 w2 B l s2 hl (by simp only; omega)
  obtain ⟨m, w, c, lo, hi⟩ := t
  simp only at h2 h3 HJ HN
  generalize Ty.ad 32768 ⟨m, w, c, lo, hi⟩ p = T at HJ HN ⊢
  generalize wrapN 32768 p = V at HF HJ hV ⊢
  generalize fitsN 32768 p = bo at HF HN ⊢
  simp only [Ty.cs] at s
  obtain ⟨c1, f1, z1, -⟩ := s.rules
  obtain ⟨T1, T2, T3, T4, T5⟩ := T
  have HS : Hid (St W0 W _) := s
  clear s
  go_enter Try.func96, Try.ntmps96
  go_wp2_with fail
  refine (HF.out _).mono ?_
  rintro e w' ⟨rfl, rfl⟩
  go_wp2_with fail
  refine (HJ.out _).mono ?_
  rintro e w2 ⟨rfl, hb2⟩
  have s2 := HS.out.call hb2
  clear c1 f1 z1 hb2
  obtain ⟨c1, f1, z1, -⟩ := s2.rules
  have HS2 : Hid (St W0 _ _) := ((s2.set hl (i := 2) (v := .int .i64 T3)).set hl (i := 3) (v := .int .i64 T4)).set hl (i := 4) (v := .int .i64 T5)
  simp only [List.setIfInBounds_toArray, List.set_cons_succ, List.set_cons_zero] at HS2
  clear s2
  go_wp2_with fail
  refine (HN.out _ HS2.out).mono ?_
  rintro e w' ⟨⟨v, rfl⟩, hs⟩
  clear c1 f1
  go_wp2
  go_ret
  exact ⟨rfl, hs⟩
set_option maxHeartbeats 1000000 in
theorem lad_i32 (t : Ty) (a b : Int) (W0 W : World) (B : Nat) (l : List (Nat × Array Value × TypeId)) (s : St W0 W ((B, t.cs, 139) :: l)) (hl : ∀ x ∈ l, x.1 ≠ B) (ht : t.ok BD) (ha : -2147483648 ≤ a ∧ a ≤ 2147483647) (hb : -2147483648 ≤ b ∧ b ≤ 2147483647) :
    Calls Try.prog 83 #[.pointer (some ⟨B, 0, none⟩), .int .i32 a, .int .i32 b] W fun e w' => e = .returned (.int .i32 (wrapN 2147483648 (a + b))) ∧ St W0 w' ((B, (t.ad 2147483648 (a + b)).cs, 139) :: l) := by
  have HF : Hid (∀ w, Calls Try.prog 93 #[.int .i32 a, .int .i32 b] w fun e w' => e = .returned (.tuple #[.int .i32 (wrapN 2147483648 (a + b)), .bool (fitsN 2147483648 (a + b))]) ∧ w' = w) := fun w => ladd_i32 a b w ha hb
  generalize a + b = p at HF ⊢
  have hV := wrapN_bd (N := 2147483648) (by omega) p
  obtain ⟨-, h2, h3, -⟩ := ht
  have HJ : Hid (∀ w, _) := fun w => joined_any t.a t.l t.h 1 (wrapN 2147483648 p) (wrapN 2147483648 p) _ _ _ w (jn_ad 2147483648 t p h3)
  unfold BD at h2 h3
  have HN : Hid (∀ w2, St W0 w2 ((B, #[.int .i64 t.m, .int .i64 t.w, .int .i64 (t.ad 2147483648 p).a, .int .i64 (t.ad 2147483648 p).l, .int .i64 (t.ad 2147483648 p).h], 139) :: l) → Calls Try.prog 94 #[.pointer (some ⟨B, 0, none⟩), .bool (fitsN 2147483648 p)] w2 fun e w' => (∃ v, e = .returned v) ∧ St W0 w' ((B, (t.ad 2147483648 p).cs, 139) :: l)) := fun w2 s2 => note_any ⟨t.m, t.w, (t.ad 2147483648 p).a, (t.ad 2147483648 p).l, (t.ad 2147483648 p).h⟩ (fitsN 2147483648 p) W0 w2 B l s2 hl (by simp only; omega)
  obtain ⟨m, w, c, lo, hi⟩ := t
  simp only at h2 h3 HJ HN
  generalize Ty.ad 2147483648 ⟨m, w, c, lo, hi⟩ p = T at HJ HN ⊢
  generalize wrapN 2147483648 p = V at HF HJ hV ⊢
  generalize fitsN 2147483648 p = bo at HF HN ⊢
  simp only [Ty.cs] at s
  obtain ⟨c1, f1, z1, -⟩ := s.rules
  obtain ⟨T1, T2, T3, T4, T5⟩ := T
  have HS : Hid (St W0 W _) := s
  clear s
  go_enter Try.func83, Try.ntmps83
  go_wp2_with fail
  refine (HF.out _).mono ?_
  rintro e w' ⟨rfl, rfl⟩
  go_wp2_with fail
  refine (HJ.out _).mono ?_
  rintro e w2 ⟨rfl, hb2⟩
  have s2 := HS.out.call hb2
  clear c1 f1 z1 hb2
  obtain ⟨c1, f1, z1, -⟩ := s2.rules
  have HS2 : Hid (St W0 _ _) := ((s2.set hl (i := 2) (v := .int .i64 T3)).set hl (i := 3) (v := .int .i64 T4)).set hl (i := 4) (v := .int .i64 T5)
  simp only [List.setIfInBounds_toArray, List.set_cons_succ, List.set_cons_zero] at HS2
  clear s2
  go_wp2_with fail
  refine (HN.out _ HS2.out).mono ?_
  rintro e w' ⟨⟨v, rfl⟩, hs⟩
  clear c1 f1
  go_wp2
  go_ret
  exact ⟨rfl, hs⟩
end Go.Proofs.Ytehofmkpgopmpaa

/- What lane's gathered, spilled, refused, trackOf return; Dot. -/
namespace Go.Proofs.Ytehofmkpgopmpaa
open Go.ChangeShapes Go.WideShapes Go.ChangeAt Go.RowKit
set_option linter.unusedVariables false
/-! ### The errors -/
def rfE (n m wd dp : Int) : Int := if n ≠ m ∨ n = 0 then 70 else if wd ≠ 16 ∧ wd ≠ 32 then 150 else if dp < 1 ∨ n < dp ∨ (wd = 32 ∧ dp ≠ n) then 151 else 0
set_option maxHeartbeats 1000000 in
theorem lref_any (n m wd dp : Int) (w : World) (hn : 0 ≤ n) (E : Int) (hE : rfE n m wd dp = E) :
    Calls Try.prog 66 #[.int .i64 n, .int .i64 m, .int .i64 wd, .int .i64 dp] w fun e w' => e = .returned (.int .i64 E) ∧ w' = w := by
  unfold rfE at hE
  by_cases h1 : n = m
  · by_cases h2 : n = 0
    · rw [if_pos (.inr h2)] at hE
      subst hE h1
      have h3 : n < 1 := by omega
      go_enter Try.func66, Try.ntmps66
      go_wp2
      go_ret
      exact ⟨rfl, rfl⟩
    · rw [if_neg (by omega)] at hE
      subst h1
      have h3 : ¬ n < 1 := by omega
      by_cases h4 : wd = 16
      · rw [if_neg (by omega)] at hE
        subst h4
        by_cases h5 : dp < 1
        · rw [if_pos (by omega)] at hE
          subst hE
          go_enter Try.func66, Try.ntmps66
          go_wp2
          go_ret
          exact ⟨rfl, rfl⟩
        · by_cases h6 : n < dp
          · rw [if_pos (by omega)] at hE
            subst hE
            go_enter Try.func66, Try.ntmps66
            go_wp2
            go_ret
            exact ⟨rfl, rfl⟩
          · rw [if_neg (by omega)] at hE
            subst hE
            go_enter Try.func66, Try.ntmps66
            go_wp2
            go_ret
            exact ⟨rfl, rfl⟩
      · by_cases h7 : wd = 32
        · rw [if_neg (by omega)] at hE
          subst h7
          clear h4
          by_cases h5 : dp < 1
          · rw [if_pos (by omega)] at hE
            subst hE
            go_enter Try.func66, Try.ntmps66
            go_wp2
            go_ret
            exact ⟨rfl, rfl⟩
          · by_cases h6 : n < dp
            · rw [if_pos (by omega)] at hE
              subst hE
              go_enter Try.func66, Try.ntmps66
              go_wp2
              go_ret
              exact ⟨rfl, rfl⟩
            · by_cases h8 : dp = n
              · rw [if_neg (by omega)] at hE
                subst hE h8
                go_enter Try.func66, Try.ntmps66
                go_wp2
                go_ret
                exact ⟨rfl, rfl⟩
              · rw [if_pos (by omega)] at hE
                subst hE
                go_enter Try.func66, Try.ntmps66
                go_wp2
                go_ret
                exact ⟨rfl, rfl⟩
        · rw [if_pos (by omega)] at hE
          subst hE
          have e1 : (wd != 16) = true := by simp [h4]
          have e2 : (wd != 32) = true := by simp [h7]
          go_enter Try.func66, Try.ntmps66
          go_wp2
          go_ret
          exact ⟨rfl, rfl⟩
  · rw [if_pos (.inl h1)] at hE
    subst hE
    go_enter Try.func66, Try.ntmps66
    go_wp2
    go_ret
    exact ⟨rfl, rfl⟩
/-! ### Products added one by one -/
set_option maxHeartbeats 2000000 in
theorem lga_i16 (t0 : Ty) (r0 n0 : Int) (wa xa : Option Addr) (n wc xc : Nat) (zs ys : List Int) (W0 W : World) (B : Nat) (l : List (Nat × Array Value × TypeId)) (s : St W0 W ((B, t0.cs, 139) :: l)) (hl : ∀ x ∈ l, x.1 ≠ B) (ht : t0.ok n0) (hn : n0 + n ≤ 900000000000000) (hr0 : -32768 ≤ r0 ∧ r0 ≤ 32767)
    (hw : IRow .i16 W0 wa n wc zs) (hx : IRow .i8 W0 xa n xc ys) (F : Ty × Int) (hF : gaT 32768 t0 r0 (pz zs ys) = F) :
    Calls Try.prog 85 #[.pointer (some ⟨B, 0, none⟩), .int .i16 r0, .slice wa n wc, .slice xa n xc] W fun e w' => e = .returned (.int .i16 F.2) ∧ St W0 w' ((B, F.1.cs, 139) :: l) := by
  have hlz : Hid (zs.length = n) := hw.1
  have hly : Hid (ys.length = n) := hx.1
  have hcm := hw.2.1
  have hmm := hw.2.2.1
  have hcx := hx.2.1
  have hmx := hx.2.2.1
  unfold maxLen at hmm hmx
  have HT : Hid (t0.ok n0) := ht
  have HL : Hid (∀ x ∈ l, x.1 ≠ B) := hl
  have HS : Hid (St W0 W ((B, t0.cs, 139) :: l)) := s
  have HF : Hid (gaT 32768 t0 r0 (pz zs ys) = F) := hF
  clear ht hl s hF
  go_enter Try.func85, Try.ntmps85
  go_wp2
  go_loopw [1, 13] (fun v i wr => ∃ (k : Nat) (r : Int) (t : Ty), k ≤ n ∧ i = .int .i64 k ∧ v = .int .i16 r ∧ (-32768 ≤ r ∧ r ≤ 32767) ∧ t.ok (n0 + k) ∧ St W0 wr ((B, t.cs, 139) :: l) ∧ gaT 32768 t r ((pz zs ys).drop k) = F) (fun _ i _ => n - (intOf i).toNat)
  case atStart => exact ⟨0, r0, t0, Nat.zero_le _, rfl, rfl, hr0, by have := HT.out; simpa using this, HS.out, HF.out⟩
  case round =>
    obtain ⟨k, r, t, hk, rfl, rfl, hrb, htk, sk, hgk⟩ := hrel
    by_cases hlt : k < n
    · obtain ⟨x, d, rfl, hc, hwf, -, hdr⟩ := (hw.below sk.below).at hlt
      obtain ⟨y, c, rfl, hc2, hwf2, -, hdr2⟩ := (hx.below sk.below).at hlt
      have hdb := wf_i16 hwf
      have hcb := wf_i8 hwf2
      have HP : Hid ((pz zs ys).drop k = d * c :: (pz zs ys).drop (k + 1)) := pz_at hdr hdr2
      rw [HP.out] at hgk
      have HG : Hid (gaT 32768 (t.ma 32768 r (d * c)) (wrapN 32768 (r + wrapN 32768 (d * c))) ((pz zs ys).drop (k + 1)) = F) := hgk
      have HTM : Hid ((t.ma 32768 r (d * c)).ok (n0 + k + 1)) := htk.ma (by omega) _ _
      have HM : Hid (Calls Try.prog 97 #[.pointer (some ⟨B, 0, none⟩), .int .i16 d, .int .i16 c] wr _) := lmd_i16 t d c W0 wr B l sk HL.out (htk.mono (by unfold BD; omega)) (by omega) (by omega)
      have HA : Hid (∀ w2, St W0 w2 ((B, (t.mu 32768 (d * c)).cs, 139) :: l) → _) := fun w2 s2 => lad_i16 (t.mu 32768 (d * c)) r (wrapN 32768 (d * c)) W0 w2 B l s2 HL.out (by
        have h1 := bw_bd 32768 (d * c)
        obtain ⟨g1, g2, g3, g4, g5⟩ := htk
        unfold BD
        refine ⟨?_, ?_, ?_, g4, g5⟩ <;> simp only [Ty.mu] <;> omega) hrb (by have := wrapN_bd (N := 32768) (by omega) (d * c); omega)
      have hV := wrapN_bd (N := 32768) (by omega) (r + wrapN 32768 (d * c))
      have HV : Hid (-32768 ≤ wrapN 32768 (r + wrapN 32768 (d * c)) ∧ wrapN 32768 (r + wrapN 32768 (d * c)) ≤ 32767) := by unfold Hid; omega
      clear hwf hwf2 hdr hdr2 hgk htk sk hV HP
      go_wp2_with fail
      refine HM.out.mono ?_
      rintro e w2 ⟨rfl, s2⟩
      have HA2 := HA.out w2 s2
      clear s2 HA
      go_wp2_with fail
      refine HA2.mono ?_
      rintro e w3 ⟨rfl, s3⟩
      clear HA2
      go_wp2
      go_roundw
      case rel => exact ⟨k + 1, _, _, by omega, by go_num, rfl, HV.out, by have := HTM.out; rw [show n0 + ((k + 1 : Nat) : Int) = n0 + k + 1 by omega]; exact this, s3, HG.out⟩
      case measure => simp [intOf]; omega
    · have hT : (pz zs ys).drop k = [] := List.drop_of_length_le (by rw [pz_len (by rw [hlz.out, hly.out]), hlz.out]; omega)
      rw [hT] at hgk
      have HG : Hid ((t, r) = F) := hgk
      clear hT hgk
      go_wp2
      go_ret
      exact ⟨by rw [← HG.out]; rfl, by rw [← HG.out]; exact sk⟩
set_option maxHeartbeats 2000000 in
theorem lga_i32 (t0 : Ty) (r0 n0 : Int) (wa xa : Option Addr) (n wc xc : Nat) (zs ys : List Int) (W0 W : World) (B : Nat) (l : List (Nat × Array Value × TypeId)) (s : St W0 W ((B, t0.cs, 139) :: l)) (hl : ∀ x ∈ l, x.1 ≠ B) (ht : t0.ok n0) (hn : n0 + n ≤ 900000000000000) (hr0 : -2147483648 ≤ r0 ∧ r0 ≤ 2147483647)
    (hw : IRow .i16 W0 wa n wc zs) (hx : IRow .i8 W0 xa n xc ys) (F : Ty × Int) (hF : gaT 2147483648 t0 r0 (pz zs ys) = F) :
    Calls Try.prog 67 #[.pointer (some ⟨B, 0, none⟩), .int .i32 r0, .slice wa n wc, .slice xa n xc] W fun e w' => e = .returned (.int .i32 F.2) ∧ St W0 w' ((B, F.1.cs, 139) :: l) := by
  have hlz : Hid (zs.length = n) := hw.1
  have hly : Hid (ys.length = n) := hx.1
  have hcm := hw.2.1
  have hmm := hw.2.2.1
  have hcx := hx.2.1
  have hmx := hx.2.2.1
  unfold maxLen at hmm hmx
  have HT : Hid (t0.ok n0) := ht
  have HL : Hid (∀ x ∈ l, x.1 ≠ B) := hl
  have HS : Hid (St W0 W ((B, t0.cs, 139) :: l)) := s
  have HF : Hid (gaT 2147483648 t0 r0 (pz zs ys) = F) := hF
  clear ht hl s hF
  go_enter Try.func67, Try.ntmps67
  go_wp2
  go_loopw [1, 13] (fun v i wr => ∃ (k : Nat) (r : Int) (t : Ty), k ≤ n ∧ i = .int .i64 k ∧ v = .int .i32 r ∧ (-2147483648 ≤ r ∧ r ≤ 2147483647) ∧ t.ok (n0 + k) ∧ St W0 wr ((B, t.cs, 139) :: l) ∧ gaT 2147483648 t r ((pz zs ys).drop k) = F) (fun _ i _ => n - (intOf i).toNat)
  case atStart => exact ⟨0, r0, t0, Nat.zero_le _, rfl, rfl, hr0, by have := HT.out; simpa using this, HS.out, HF.out⟩
  case round =>
    obtain ⟨k, r, t, hk, rfl, rfl, hrb, htk, sk, hgk⟩ := hrel
    by_cases hlt : k < n
    · obtain ⟨x, d, rfl, hc, hwf, -, hdr⟩ := (hw.below sk.below).at hlt
      obtain ⟨y, c, rfl, hc2, hwf2, -, hdr2⟩ := (hx.below sk.below).at hlt
      have hdb := wf_i16 hwf
      have hcb := wf_i8 hwf2
      have HP : Hid ((pz zs ys).drop k = d * c :: (pz zs ys).drop (k + 1)) := pz_at hdr hdr2
      rw [HP.out] at hgk
      have HG : Hid (gaT 2147483648 (t.ma 2147483648 r (d * c)) (wrapN 2147483648 (r + wrapN 2147483648 (d * c))) ((pz zs ys).drop (k + 1)) = F) := hgk
      have HTM : Hid ((t.ma 2147483648 r (d * c)).ok (n0 + k + 1)) := htk.ma (by omega) _ _
      have HM : Hid (Calls Try.prog 84 #[.pointer (some ⟨B, 0, none⟩), .int .i32 d, .int .i32 c] wr _) := lmd_i32 t d c W0 wr B l sk HL.out (htk.mono (by unfold BD; omega)) (by omega) (by omega)
      have HA : Hid (∀ w2, St W0 w2 ((B, (t.mu 2147483648 (d * c)).cs, 139) :: l) → _) := fun w2 s2 => lad_i32 (t.mu 2147483648 (d * c)) r (wrapN 2147483648 (d * c)) W0 w2 B l s2 HL.out (by
        have h1 := bw_bd 2147483648 (d * c)
        obtain ⟨g1, g2, g3, g4, g5⟩ := htk
        unfold BD
        refine ⟨?_, ?_, ?_, g4, g5⟩ <;> simp only [Ty.mu] <;> omega) hrb (by have := wrapN_bd (N := 2147483648) (by omega) (d * c); omega)
      have hV := wrapN_bd (N := 2147483648) (by omega) (r + wrapN 2147483648 (d * c))
      have HV : Hid (-2147483648 ≤ wrapN 2147483648 (r + wrapN 2147483648 (d * c)) ∧ wrapN 2147483648 (r + wrapN 2147483648 (d * c)) ≤ 2147483647) := by unfold Hid; omega
      clear hwf hwf2 hdr hdr2 hgk htk sk hV HP
      go_wp2_with fail
      refine HM.out.mono ?_
      rintro e w2 ⟨rfl, s2⟩
      have HA2 := HA.out w2 s2
      clear s2 HA
      go_wp2_with fail
      refine HA2.mono ?_
      rintro e w3 ⟨rfl, s3⟩
      clear HA2
      go_wp2
      go_roundw
      case rel => exact ⟨k + 1, _, _, by omega, by go_num, rfl, HV.out, by have := HTM.out; rw [show n0 + ((k + 1 : Nat) : Int) = n0 + k + 1 by omega]; exact this, s3, HG.out⟩
      case measure => simp [intOf]; omega
    · have hT : (pz zs ys).drop k = [] := List.drop_of_length_le (by rw [pz_len (by rw [hlz.out, hly.out]), hlz.out]; omega)
      rw [hT] at hgk
      have HG : Hid ((t, r) = F) := hgk
      clear hT hgk
      go_wp2
      go_ret
      exact ⟨by rw [← HG.out]; rfl, by rw [← HG.out]; exact sk⟩
end Go.Proofs.Ytehofmkpgopmpaa

/- What lane's spilled, trackOf return; Dot. -/
namespace Go.Proofs.Ytehofmkpgopmpaa
open Go.ChangeShapes Go.WideShapes Go.ChangeAt Go.RowKit
set_option linter.unusedVariables false
/-! ### Fronts and backs of lists -/
theorem front_i16 {a : Option Addr} {len cap k : Nat} (hc : k ≤ cap) : ∀ W : World, (Instr.slice 43 (.slice a len cap) none (some (.int .i64 (k : Int))) none).run Try.prog W = .ok (.slice a k cap) W := fun W => by
  have hs : ∀ W : World, (sizeOf 82).run Try.prog W = .ok 1 W := fun _ => by kernel_rfl
  have he : Try.prog.elem 43 = 82 := by kernel_rfl
  have hu : Try.prog.underlying 43 = some (.slice (Try.prog.elem 43)) := by rw [he]; exact Try.underlying43
  rw [run_slice_h (ht := hu) (h0 := by omega) (h2 := by omega), he, hs]
  have e : a.map (fun x => x.add (0 * 1)) = a := by
    cases a with
    | none => rfl
    | some x => simp [Addr.add]
  simp only [Result.andThen, sliced, Int.toNat_natCast, Nat.sub_zero]
  rw [e]
  simp
theorem back_i16 {a : Option Addr} {len cap k : Nat} (hc : k ≤ len) (hl : len ≤ cap) : ∃ a', (∀ W : World, (Instr.slice 43 (.slice a len cap) (some (.int .i64 (k : Int))) none none).run Try.prog W = .ok (.slice a' (len - k) (cap - k)) W) ∧ (∀ x, a = some x → k < cap → a' = some (x.add k)) ∧ (a = none → a' = none) := by
  have hs : ∀ W : World, (sizeOf 82).run Try.prog W = .ok 1 W := fun _ => by kernel_rfl
  have he : Try.prog.elem 43 = 82 := by kernel_rfl
  have hu : Try.prog.underlying 43 = some (.slice (Try.prog.elem 43)) := by rw [he]; exact Try.underlying43
  refine ⟨if cap = k then a else a.map (fun x => x.add (k * 1)), fun W => ?_, fun x hx hk => ?_, fun hx => ?_⟩
  · rw [run_slice_l (ht := hu) (h0 := by omega) (h1 := by omega), he, hs]
    simp only [Result.andThen, sliced, Int.toNat_natCast]
  · rw [if_neg (by omega), hx]; simp
  · subst hx; split <;> rfl
theorem front_i8 {a : Option Addr} {len cap k : Nat} (hc : k ≤ cap) : ∀ W : World, (Instr.slice 31 (.slice a len cap) none (some (.int .i64 (k : Int))) none).run Try.prog W = .ok (.slice a k cap) W := fun W => by
  have hs : ∀ W : World, (sizeOf 63).run Try.prog W = .ok 1 W := fun _ => by kernel_rfl
  have he : Try.prog.elem 31 = 63 := by kernel_rfl
  have hu : Try.prog.underlying 31 = some (.slice (Try.prog.elem 31)) := by rw [he]; exact Try.underlying31
  rw [run_slice_h (ht := hu) (h0 := by omega) (h2 := by omega), he, hs]
  have e : a.map (fun x => x.add (0 * 1)) = a := by
    cases a with
    | none => rfl
    | some x => simp [Addr.add]
  simp only [Result.andThen, sliced, Int.toNat_natCast, Nat.sub_zero]
  rw [e]
  simp
theorem back_i8 {a : Option Addr} {len cap k : Nat} (hc : k ≤ len) (hl : len ≤ cap) : ∃ a', (∀ W : World, (Instr.slice 31 (.slice a len cap) (some (.int .i64 (k : Int))) none none).run Try.prog W = .ok (.slice a' (len - k) (cap - k)) W) ∧ (∀ x, a = some x → k < cap → a' = some (x.add k)) ∧ (a = none → a' = none) := by
  have hs : ∀ W : World, (sizeOf 63).run Try.prog W = .ok 1 W := fun _ => by kernel_rfl
  have he : Try.prog.elem 31 = 63 := by kernel_rfl
  have hu : Try.prog.underlying 31 = some (.slice (Try.prog.elem 31)) := by rw [he]; exact Try.underlying31
  refine ⟨if cap = k then a else a.map (fun x => x.add (k * 1)), fun W => ?_, fun x hx hk => ?_, fun hx => ?_⟩
  · rw [run_slice_l (ht := hu) (h0 := by omega) (h1 := by omega), he, hs]
    simp only [Result.andThen, sliced, Int.toNat_natCast]
  · rw [if_neg (by omega), hx]; simp
  · subst hx; split <;> rfl
theorem IRow.front {k : IntKind} {w : World} {a : Option Addr} {len cap n : Nat} {zs : List Int} (h : IRow k w a len cap zs) (hn : n ≤ len) : IRow k w a n cap (zs.take n) := by
  obtain ⟨h1, h2, h3, h4, h5, h6⟩ := h
  refine ⟨by rw [List.length_take]; omega, by omega, h3, fun z hz => h4 z (List.mem_of_mem_take hz), h5, fun x hx i hi => ?_⟩
  rw [h6 x hx i (by omega)]
  simp [List.getD, hi]
theorem IRow.back {k : IntKind} {w : World} {a a' : Option Addr} {len cap n : Nat} {zs : List Int} (h : IRow k w a len cap zs) (hn : n ≤ len) (ha : ∀ x, a = some x → n < cap → a' = some (x.add n)) (hb : a = none → a' = none) : IRow k w a' (len - n) (cap - n) (zs.drop n) := by
  have := h.cut (n := n) (m := len - n) (by omega) ha hb
  rw [List.take_of_length_le (by rw [List.length_drop, h.1]; omega)] at this
  exact this
theorem pz_take (zs ys : List Int) (n : Nat) : pz (zs.take n) (ys.take n) = (pz zs ys).take n := by unfold pz; rw [List.take_zipWith]
theorem pz_drop (zs ys : List Int) (n : Nat) : pz (zs.drop n) (ys.drop n) = (pz zs ys).drop n := by unfold pz; rw [List.drop_zipWith]
def lenOf : Value → Nat
  | .slice _ n _ => n
  | _ => 0
/-! ### Block by block -/
set_option maxHeartbeats 4000000 in
theorem lsp_any (d N : Nat) (s0 l0 : Ty) (r0 : Int) (wa0 xa0 : Option Addr) (cw0 cx0 : Nat) (zs0 ys0 : List Int) (W0 W : World) (B C : Nat) (l : List (Nat × Array Value × TypeId)) (hBC : B ≠ C) (s : St W0 W ((B, s0.cs, 139) :: (C, l0.cs, 139) :: l)) (hlB : ∀ x ∈ l, x.1 ≠ B) (hlC : ∀ x ∈ l, x.1 ≠ C) (hs0 : s0.ok 0) (hl0 : l0.ok 0) (hr0 : -2147483648 ≤ r0 ∧ r0 ≤ 2147483647) (hd : 1 ≤ d ∧ d ≤ N) (hN : N ≤ 140737488355328)
    (hw0 : IRow .i16 W0 wa0 N cw0 zs0) (hx0 : IRow .i8 W0 xa0 N cx0 ys0) (F : Ty × Ty × Int) (hF : elT d 0 s0 l0 r0 0 (pz zs0 ys0) = F) :
    Calls Try.prog 68 #[.pointer (some ⟨B, 0, none⟩), .pointer (some ⟨C, 0, none⟩), .int .i32 r0, .slice wa0 N cw0, .slice xa0 N cx0, .int .i64 (d : Int)] W fun e w' => e = .returned (.int .i32 F.2.2) ∧ St W0 w' ((B, F.1.cs, 139) :: (C, F.2.1.cs, 139) :: l) := by
  have hcm := hw0.2.1
  have hmm := hw0.2.2.1
  have hmx := hx0.2.2.1
  unfold maxLen at hmm hmx
  have HW : Hid (IRow .i16 W0 wa0 N cw0 zs0) := hw0
  have HX : Hid (IRow .i8 W0 xa0 N cx0 ys0) := hx0
  have HB : Hid ((∀ x ∈ ((C, l0.cs, 139) :: l), x.1 ≠ B) ∧ ∀ x ∈ l, x.1 ≠ C) := ⟨fun x hx => by rcases List.mem_cons.1 hx with rfl | hx; exact fun e => hBC e.symm; exact hlB x hx, hlC⟩
  have HS : Hid (St W0 W ((B, s0.cs, 139) :: (C, l0.cs, 139) :: l)) := s
  have HF : Hid (elT d 0 s0 l0 r0 0 (pz zs0 ys0) = F) := hF
  have H0 : Hid (s0.ok 0 ∧ l0.ok 0) := ⟨hs0, hl0⟩
  have HBl : Hid ((∀ x ∈ l, x.1 ≠ B) ∧ ∀ x ∈ l, x.1 ≠ C) := ⟨hlB, hlC⟩
  clear hw0 hx0 s hF hs0 hl0 hlB hlC
  go_enter Try.func68, Try.ntmps68
  go_wp2
  go_loopw [2, 3, 4] (fun v vw vx wr => ∃ (n cw cx : Nat) (r : Int) (wa xa : Option Addr) (zs ys : List Int) (st lt : Ty), n ≤ N ∧ v = .int .i32 r ∧ vw = .slice wa n cw ∧ vx = .slice xa n cx ∧ (-2147483648 ≤ r ∧ r ≤ 2147483647) ∧ st.ok ((N : Int) - n) ∧ lt.ok ((N : Int) - n) ∧ IRow .i16 W0 wa n cw zs ∧ IRow .i8 W0 xa n cx ys ∧ St W0 wr ((B, st.cs, 139) :: (C, lt.cs, 139) :: l) ∧ elT d 0 st lt r 0 (pz zs ys) = F) (fun _ vw _ _ => lenOf vw)
  case atStart => exact ⟨N, cw0, cx0, r0, wa0, xa0, zs0, ys0, s0, l0, Nat.le_refl _, rfl, rfl, rfl, hr0, by rw [Int.sub_self]; exact H0.out.1, by rw [Int.sub_self]; exact H0.out.2, HW.out, HX.out, HS.out, HF.out⟩
  case round =>
    obtain ⟨n, cw, cx, r, wa, xa, zs, ys, st, lt, hn, rfl, rfl, rfl, hr, hst, hlt, hw, hx, hs, hf⟩ := hrel
    by_cases h0 : n = 0
    · subst h0
      have hz : zs = [] := List.eq_nil_of_length_eq_zero hw.1
      subst hz
      have HG : Hid ((st, lt, r) = F) := hf
      clear hf
      go_wp2
      go_ret
      exact ⟨by rw [← HG.out]; rfl, by rw [← HG.out]; exact hs⟩
    · have hcap := hw.2.1
      have hcap2 := hx.2.1
      have hmw := hw.2.2.1
      have hmx2 := hx.2.2.1
      unfold maxLen at hmw hmx2
      obtain ⟨b, hb⟩ : ∃ b : Nat, b = min d n := ⟨_, rfl⟩
      have hb1 : 1 ≤ b ∧ b ≤ n ∧ b ≤ d := by omega
      have m1 := min2 (d : Int) (n : Int) (b : Int) (by unfold xmn; split <;> omega)
      have f1 := front_i16 (a := wa) (len := n) (cap := cw) (k := b) (by omega)
      have f2 := front_i8 (a := xa) (len := n) (cap := cx) (k := b) (by omega)
      obtain ⟨wa2, g1, ga1, gb1⟩ := back_i16 (a := wa) (len := n) (cap := cw) (k := b) (by omega) (by omega)
      obtain ⟨xa2, g2, ga2, gb2⟩ := back_i8 (a := xa) (len := n) (cap := cx) (k := b) (by omega) (by omega)
      have HW1 : Hid (IRow .i16 W0 wa b cw (zs.take b)) := hw.front (by omega)
      have HX1 : Hid (IRow .i8 W0 xa b cx (ys.take b)) := hx.front (by omega)
      have HW2 : Hid (IRow .i16 W0 wa2 (n - b) (cw - b) (zs.drop b)) := hw.back (by omega) ga1 gb1
      have HX2 : Hid (IRow .i8 W0 xa2 (n - b) (cx - b) (ys.drop b)) := hx.back (by omega) ga2 gb2
      have hlz := hw.1
      have hly := hx.1
      have hpl : (pz zs ys).length = n := by rw [pz_len (by omega)]; exact hlz
      have hne : pz zs ys ≠ [] := fun e => by rw [e] at hpl; simp at hpl; omega
      have htk : (pz zs ys).take d = (pz zs ys).take b := by
        rcases Nat.le_total d n with h | h
        · rw [show b = d by omega]
        · rw [List.take_of_length_le (by omega), List.take_of_length_le (by omega)]
      have hdk : (pz zs ys).drop d = (pz zs ys).drop b := by
        rcases Nat.le_total d n with h | h
        · rw [show b = d by omega]
        · rw [List.drop_of_length_le (by omega), List.drop_of_length_le (by omega)]
      rw [elT_spill (by omega) hne, htk, hdk] at hf
      obtain ⟨G, hG⟩ : ∃ G, gaT 32768 st 0 ((pz zs ys).take b) = G := ⟨_, rfl⟩
      have hGo := gaT_ok (N := 32768) (by omega) ((pz zs ys).take b) st 0 _ hst (by omega)
      rw [hG] at hf hGo
      rw [show ((((pz zs ys).take b).length : Nat) : Int) = b by rw [List.length_take, hpl]; omega] at hGo
      have HGA : Hid (∀ W', St W0 W' ((B, st.cs, 139) :: (C, lt.cs, 139) :: l) → _) := fun W' hs' => lga_i16 st 0 _ wa xa b cw cx (zs.take b) (ys.take b) W0 W' B _ hs' (fun x hx => by rcases List.mem_cons.1 hx with rfl | hx; exact fun e => hBC e.symm; exact HBl.out.1 x hx) hst (by omega) (by omega) HW1.out HX1.out G (by rw [pz_take]; exact hG)
      have HAD : Hid (∀ W', St W0 W' ((C, lt.cs, 139) :: (B, G.1.cs, 139) :: l) → _) := fun W' hs' => lad_i32 lt r G.2 W0 W' C _ hs' (fun x hx => by rcases List.mem_cons.1 hx with rfl | hx; exact hBC; exact HBl.out.2 x hx) (hlt.mono (by unfold BD; omega)) hr (by omega)
      have hG2 := hGo.2
      have HOK : Hid (G.1.ok ((N : Int) - ((n - b : Nat) : Int)) ∧ (lt.ad 2147483648 (r + G.2)).ok ((N : Int) - ((n - b : Nat) : Int))) := ⟨hGo.1.mono (by omega), (hlt.ad (by omega) _).mono (by omega)⟩
      have HE : Hid (elT d 0 G.1 (lt.ad 2147483648 (r + G.2)) (wrapN 2147483648 (r + G.2)) 0 (pz (zs.drop b) (ys.drop b)) = F) := by rw [pz_drop]; exact hf
      have HV := wrapN_bd (N := 2147483648) (by omega) (r + G.2)
      have hVV : Hid (-2147483648 ≤ wrapN 2147483648 (r + G.2) ∧ wrapN 2147483648 (r + G.2) ≤ 2147483647) := by unfold Hid; omega
      obtain ⟨G1, G2⟩ := G
      simp only at HGA HAD hG2 HOK HE hVV
      have hs' : Hid (St W0 wr ((B, st.cs, 139) :: (C, lt.cs, 139) :: l)) := hs
      have hn0 : 0 < n := by omega
      clear hw hx hf hst hlt hG hGo HV hpl hne htk hdk hlz hly ga1 gb1 ga2 gb2 hb hs h0
      go_upto_region 3 with fail
      go_cut [14] from 22 to 29 (fun v14 wx => v14 = .int .i16 G2 ∧ St W0 wx ((B, G1.cs, 139) :: (C, lt.cs, 139) :: l))
      case first =>
        go_region_with (go_at_call 85; refine (HGA.out _ (St.drew hs'.out)).mono ?_; rintro e w2 ⟨rfl, s2⟩)
        all_goals (go_wp2_with fail; go_meet; case rel => exact ⟨rfl, s2⟩)
      case rest =>
        obtain ⟨rfl, s3⟩ := hcut
        have HAD2 := HAD.out wc s3.up1
        clear s3 HAD HGA f1 f2
        go_wp2_with fail
        refine HAD2.mono ?_
        rintro e w4 ⟨rfl, s4⟩
        have HS4 : Hid (∀ k, St W0 (w4.drewN k) ((B, G1.cs, 139) :: (C, (lt.ad 2147483648 (r + G2)).cs, 139) :: l)) := fun k => s4.up1.call (dbel w4 k)
        clear HAD2 s4
        go_upto_region 5 with fail
        go_quiet (fail)
        go_wp2
        go_roundw
        case rel => exact ⟨n - b, cw - b, cx - b, _, wa2, xa2, _, _, _, _, by omega, rfl, rfl, rfl, hVV.out, HOK.out.1, HOK.out.2, HW2.out, HX2.out, HS4.out _, HE.out⟩
        case measure => simp [lenOf]; omega
end Go.Proofs.Ytehofmkpgopmpaa
