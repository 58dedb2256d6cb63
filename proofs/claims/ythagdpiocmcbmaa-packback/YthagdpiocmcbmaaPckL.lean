/- same, plain and fixed of law09. -/
import Derived.Test.YthagdpiocmcbmaaPckC
import Derived.Test.YthagdpiocmcbmaaMdmD
import Derived.Test.YthagdpiocmcbmaaMdlK
import Derived.BigQuiet
namespace Go.Proofs.Ythagdpiocmcbmaa
open Wr
open Go.ChangeShapes Go.WideShapes Go.ChangeAt Go.RowKit
set_option linter.unusedVariables false
set_option maxHeartbeats 1000000 in
theorem sameb_any (a b : Option Addr) (la ca lb cb : Nat) (xs ys : List Int) (w : World) (ha : Wr.Row w a la ca xs) (hb : Wr.Row w b lb cb ys) :
    Calls Try.prog 12 #[.slice a la ca, .slice b lb cb] w fun e w' => e = .returned (.bool (decide (xs = ys))) ∧ Below w.heap.size w w' := by
  have ha' := ha.2.2.1
  have hb' := hb.2.2.1
  unfold maxLen at ha' hb'
  have hxl : Hid (xs.length = la) := ha.1
  have hyl : Hid (ys.length = lb) := hb.1
  have hac := ha.2.1
  have hbc := hb.2.1
  by_cases hlen : la = lb
  · subst hlen
    go_enter Try.func12, Try.ntmps12
    go_wp2
    go_loopw [13] (fun i wr => ∃ k n : Nat, k ≤ la ∧ i = .int .i64 k ∧ xs.take k = ys.take k ∧ wr = w.drewN n) (fun i _ => la - (intOf i).toNat)
    case atStart => exact ⟨0, 0, Nat.zero_le _, rfl, rfl, rfl⟩
    case round =>
      obtain ⟨k, n, hk, rfl, he, rfl⟩ := hrel
      have he' : Hid (xs.take k = ys.take k) := he
      clear he
      by_cases hlt : k < la
      · obtain ⟨p, c, rfl, hc, hc0, hc1, hcd⟩ := row_at ha hlt
        obtain ⟨q, d, rfl, hd, hd0, hd1, hdd⟩ := row_at hb hlt
        have hcd' : Hid (xs.drop k = c :: xs.drop (k + 1)) := hcd
        have hdd' : Hid (ys.drop k = d :: ys.drop (k + 1)) := hdd
        clear hcd hdd ha hb
        by_cases hcd : c = d
        · subst hcd
          go_wp2
          go_quiet (fail)
          go_wp2
          go_roundw
          case rel => exact ⟨k + 1, _, by omega, by go_num, (same_step hcd'.out hdd'.out he'.out).1 rfl, rfl⟩
          case measure => simp [intOf]; omega
        · have hD : Hid (decide (xs = ys) = false) := (same_step hcd'.out hdd'.out he'.out).2 hcd
          go_wp2
          go_quiet (fail)
          go_wp2
          go_ret
          exact ⟨ret_bool hD.out.symm, by rw [World.drewN_drewN]; exact dbel _ _⟩
      · clear ha hb
        have hD : Hid (decide (xs = ys) = true) := same_end hxl.out hyl.out (by omega) he'.out
        go_wp2
        go_ret
        exact ⟨ret_bool hD.out.symm, dbel _ _⟩
  · have hne : xs ≠ ys := fun e => hlen (by rw [← hxl.out, ← hyl.out, e])
    have hD : Hid (decide (xs = ys) = false) := by simp [Hid, hne]
    clear ha hb hne
    go_enter Try.func12, Try.ntmps12
    go_wp2
    go_ret
    exact ⟨ret_bool hD.out.symm, Below.refl _ _⟩
def bytes40 : List Int := [83, 87, 77, 49, 1, 1, 2, 255, 1, 254, 1, 1, 1, 0, 0, 1, 0, 0, 0, 0, 0, 0, 0, 0, 2, 6, 3, 1, 2, 1, 0, 0, 0, 0, 0, 255, 1, 254, 1, 1]
def plZ (_ : Nat) : List Int := [3, -2]
def plB (_ : Nat) : List Int := [1]
def plM : ModD := dMod 1 1 2 (-128) 127 1 1 (plO 0) plZ plB
theorem pl_lens : Lens 1 (plO 0) plZ plB := by
  intro i hi
  obtain rfl : i = 0 := by omega
  refine ⟨rfl, rfl, fun x hx => ?_, fun x hx => ?_⟩
  · simp only [plZ, List.mem_cons, List.not_mem_nil, or_false] at hx; omega
  · simp only [plB, List.mem_cons, List.not_mem_nil, or_false] at hx; omega
theorem put_0 : putR 0 = [0] := putR_lt (by omega)
theorem put_1 : putR 1 = [1] := putR_lt (by omega)
theorem put_2 : putR 2 = [2] := putR_lt (by omega)
theorem put_3 : putR 3 = [3] := putR_lt (by omega)
theorem put_6 : putR 6 = [6] := putR_lt (by omega)
theorem put_254 : putR 254 = [254, 1] := by rw [putR_ge (by omega), show (254 : Nat) / 128 = 1 from rfl, put_1]; rfl
theorem put_255 : putR 255 = [255, 1] := by rw [putR_ge (by omega), show (255 : Nat) / 128 = 1 from rfl, put_1]; rfl
theorem u64_0 : u64 0 = 0 := u64_of (by omega) (by omega)
theorem u64_1 : u64 1 = 1 := u64_of (by omega) (by omega)
theorem u64_2 : u64 2 = 2 := u64_of (by omega) (by omega)
theorem fo_m128 : foldR (-128) = 255 := by decide
theorem fo_127 : foldR 127 = 254 := by decide
theorem fo_3 : foldR 3 = 6 := by decide
theorem fo_m2 : foldR (-2) = 3 := by decide
theorem fo_1 : foldR 1 = 2 := by decide
theorem fo_0 : foldR 0 = 0 := by decide
theorem pl_bytes : eAll plM = bytes40 := by
  have hO : dOp (plO 0 0) (plZ 0) (plB 0) = ⟨[1, 0, 0, 1, 0, 0, 0, 0, 0, 0, 0, 0], [3, -2], [1], [1, 0, 0, 0], [0, 0, -128, 127]⟩ := rfl
  unfold eAll eMod plM dMod
  rw [dOps_len]
  have hD : dOps (plO 0) plZ plB 1 = [⟨[1, 0, 0, 1, 0, 0, 0, 0, 0, 0, 0, 0], [3, -2], [1], [1, 0, 0, 0], [0, 0, -128, 127]⟩] := rfl
  simp only [hD, eOps, List.flatMap_cons, List.flatMap_nil, eOp, eU, eS, u64_0, u64_1, u64_2, fo_m128, fo_127, fo_3, fo_m2, fo_1, fo_0, put_0, put_1, put_2, put_3, put_6, put_254, put_255, List.length_cons, List.length_nil, Nat.zero_add, List.append_nil, List.cons_append, List.nil_append, head4, Nat.reduceAdd]
  rfl
theorem irow_blk {k : IntKind} {w : World} {b : Nat} {T : TypeId} (zs : List Int) (h : w.heap[b]? = some (.cells (zs.map (Value.int k)).toArray T (0, 0))) (hw : ∀ z ∈ zs, (Lit.int k z).wf = true) (hm : zs.length ≤ 1000) : IRow k w (some ⟨b, 0, none⟩) zs.length zs.length zs := by
  refine ⟨rfl, Nat.le_refl _, by unfold maxLen; omega, hw, fun h => (by cases h), fun x hx i hi => ?_⟩
  cases hx
  rw [Addr.add_lit, Nat.zero_add, (cells_at h).1]
  simp [List.getD, hi]
theorem row_blk {w : World} {b : Nat} {T : TypeId} (zs : List Int) (h : w.heap[b]? = some (.cells (zs.map (Value.int .u8)).toArray T (0, 0))) (hw : Byt zs) (hm : zs.length ≤ 1000) : Wr.Row w (some ⟨b, 0, none⟩) zs.length zs.length zs := by
  refine ⟨rfl, Nat.le_refl _, by unfold maxLen; omega, hw, fun h => (by cases h), fun x hx i hi => ?_⟩
  cases hx
  rw [Addr.add_lit, Nat.zero_add, (cells_at h).1]
  simp [List.getD, hi]
theorem pl_lrow {w : World} {g p q : Nat} (h : w.heap[g]? = some (.cells #[.int .i64 1, .int .i64 0, .int .i64 0, .int .i64 1, .int .i64 0, .int .i64 0, .int .i64 0, .int .i64 0, .int .i64 0, .int .i64 0, .int .i64 0, .int .i64 0, .slice (some ⟨p, 0, none⟩) 2 2, .slice (some ⟨q, 0, none⟩) 1 1, .int .i64 1, .int .i64 0, .int .i64 0, .int .i64 0, .int .i64 0, .int .i64 0, .int .i64 (-128), .int .i64 127] 50 (0, 0))) (hp : w.heap[p]? = some (.cells #[.int .i16 3, .int .i16 (-2)] 51 (0, 0))) (hq : w.heap[q]? = some (.cells #[.int .i32 1] 21 (0, 0))) : LRow w (some ⟨g, 0, none⟩) 1 1 (plO 0) plZ plB := by
  refine ⟨Nat.le_refl _, by unfold maxLen; omega, fun h => (by cases h), fun x hx i hi => ?_⟩
  cases hx
  obtain rfl : i = 0 := by omega
  refine ⟨some ⟨p, 0, none⟩, 2, 2, some ⟨q, 0, none⟩, 1, 1, rfl, rfl, fun j v hj => ?_, irow_blk [3, -2] hp (fun z hz => ?_) (by simp), irow_blk [1] hq (fun z hz => ?_) (by simp), by omega, by omega⟩
  · rw [Nat.zero_mul, Addr.add_lit, Addr.add_lit, (cells_at h).1, ← hj]
    simp [opl, plO]
  · simp only [List.mem_cons, List.not_mem_nil, or_false] at hz
    rcases hz with rfl | rfl <;> rfl
  · simp only [List.mem_cons, List.not_mem_nil, or_false] at hz
    subst hz; rfl
theorem b40_byt : Byt bytes40 := by
  intro z hz
  simp only [bytes40, List.mem_cons, List.not_mem_nil, or_false] at hz
  omega
set_option maxHeartbeats 2000000 in
set_option maxRecDepth 100000 in
theorem plain9_any (W : World) :
    Calls Try.prog 19 #[] W fun e w' => ∃ g b : Nat, e = .returned (.tuple #[.agg #[.int .i64 1, .int .i64 1, .int .i64 2, .int .i64 (-128), .int .i64 127, .slice (some ⟨g, 0, none⟩) 1 1, .int .i64 1], .slice (some ⟨b, 0, none⟩) 40 40]) ∧ LRow w' (some ⟨g, 0, none⟩) 1 1 (plO 0) plZ plB ∧ Wr.Row w' (some ⟨b, 0, none⟩) 40 40 bytes40 ∧ Below W.heap.size W w' := by
  go_enter Try.func19, Try.ntmps19
  go_wp2
  have s1 := (((St.start W).new (c := #[.int .i64 1, .int .i64 1, .int .i64 2, .int .i64 (-128), .int .i64 127, .slice (some ⟨W.heap.size + 1 + 1 + 1, 0, none⟩) 1 1, .int .i64 1]) (t := 26)).new (c := #[.int .i16 3, .int .i16 (-2)]) (t := 51)).new (c := #[.int .i32 1]) (t := 21)
  simp only [World.size_alloc] at s1
  have s2 := ((s1.new (c := #[.int .i64 1, .int .i64 0, .int .i64 0, .int .i64 1, .int .i64 0, .int .i64 0, .int .i64 0, .int .i64 0, .int .i64 0, .int .i64 0, .int .i64 0, .int .i64 0, .slice (some ⟨W.heap.size + 1, 0, none⟩) 2 2, .slice (some ⟨W.heap.size + 1 + 1, 0, none⟩) 1 1, .int .i64 1, .int .i64 0, .int .i64 0, .int .i64 0, .int .i64 0, .int .i64 0, .int .i64 (-128), .int .i64 127]) (t := 50)).new (c := #[.int .i64 1, .int .i64 1, .int .i64 2, .int .i64 (-128), .int .i64 127, .slice (some ⟨W.heap.size + 1 + 1 + 1, 0, none⟩) 1 1, .int .i64 1]) (t := 26)).new (c := #[.int .u8 83, .int .u8 87, .int .u8 77, .int .u8 49, .int .u8 1, .int .u8 1, .int .u8 2, .int .u8 255, .int .u8 1, .int .u8 254, .int .u8 1, .int .u8 1, .int .u8 1, .int .u8 0, .int .u8 0, .int .u8 1, .int .u8 0, .int .u8 0, .int .u8 0, .int .u8 0, .int .u8 0, .int .u8 0, .int .u8 0, .int .u8 0, .int .u8 2, .int .u8 6, .int .u8 3, .int .u8 1, .int .u8 2, .int .u8 1, .int .u8 0, .int .u8 0, .int .u8 0, .int .u8 0, .int .u8 0, .int .u8 255, .int .u8 1, .int .u8 254, .int .u8 1, .int .u8 1]) (t := 5)
  simp only [World.size_alloc] at s2
  refine bodyPost_ret (v := .tuple #[.agg #[.int .i64 1, .int .i64 1, .int .i64 2, .int .i64 (-128), .int .i64 127, .slice (some ⟨W.heap.size + 1 + 1 + 1, 0, none⟩) 1 1, .int .i64 1], .slice (some ⟨W.heap.size + 1 + 1 + 1 + 1 + 1, 0, none⟩) 40 40]) (by simp [results, Try.results19, go_sem]) rfl ⟨W.heap.size + 1 + 1 + 1, W.heap.size + 1 + 1 + 1 + 1 + 1, rfl, pl_lrow (p := W.heap.size + 1) (q := W.heap.size + 1 + 1) s2.h3 s2.tail.h4 s2.h4, row_blk bytes40 s2.h1 b40_byt (by simp [bytes40]), s2.below⟩
end Go.Proofs.Ythagdpiocmcbmaa
