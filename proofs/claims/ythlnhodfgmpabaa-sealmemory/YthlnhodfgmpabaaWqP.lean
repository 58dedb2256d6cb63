/- Numbers put into bytes: the program's calls and the document's. -/
import Derived.Test.YthlnhodfgmpabaaWqB
namespace Go.Proofs.Ythlnhodfgmpabaa.Wr
open Go.ChangeShapes Go.WideShapes Go.ChangeAt Go.RowKit
theorem Try.sizB : (Try.prog.info? 5).map (·.size) = some 1 := by kernel_rfl
theorem own_splice {w : World} {g n m : Nat} {base : Nat} {xs : List Int} (h : w.heap[g]? = some (.cells (splice (Array.replicate m (Value.int .u8 0)).toList 0 (xs.map (Value.int .u8))).toArray 5 (0, 0))) (hx : xs.length = n) (hb : Byt xs) (hnm : n ≤ m) (hm : m ≤ maxLen) (hg : base ≤ g) :
    Own w base (.slice (some ⟨g, 0, none⟩) n m) xs := by
  subst hx
  refine ⟨⟨by simp, .inr ⟨g, m, _, rfl, hg, h, hnm, hm, ?_, ?_⟩⟩, hb⟩
  · have := length_splice (Array.replicate m (Value.int .u8 0)).toList 0 (xs.map (Value.int .u8)) (by simpa using hnm)
    simpa using this
  · simp [splice]
set_option maxHeartbeats 2000000 in
set_option maxRecDepth 1000000 in
theorem putU_is (a : Option Addr) (la ca : Nat) (xs : List Int) (x : Nat) (w : World) (ha : Row w a la ca xs) (hx : x < 18446744073709551616) (hs : la + 10 ≤ 140737488355328) :
    Calls Try.prog 52 #[.slice a la ca, .int .u64 x] w fun e w' => ∃ v, e = .returned v ∧ Own w' w.heap.size v (xs ++ putR x) ∧ v ≠ .slice none 0 0 ∧ Below w.heap.size w w' := by
  have hxl : Hid (xs.length = la) := ha.1
  have hbx := ha.2.2.2.1
  have b0 : Below w.heap.size w (w.alloc (.cells (Array.replicate (la + 10) (Value.int .u8 0)) 5)) := (Below.refl _ _).alloc (Nat.le_refl _) _
  have ha0 := ha.below b0
  have hp : Hid (0 < (xs.map (Value.int .u8)).length → ∃ ad, a = some ad ∧ ∀ j v, (xs.map (Value.int .u8))[j]? = some v → (w.alloc (.cells (Array.replicate (la + 10) (Value.int .u8 0)) 5)).cell? (ad.add j) = some v) := by
    intro hpos
    cases a with
    | none => have := ha.2.2.2.2.1 rfl; have := ha.1; have := ha.2.1; simp at hpos; omega
    | some ad =>
      refine ⟨ad, rfl, fun j v hj => ?_⟩
      have hj' : j < xs.length := by
        have := (List.getElem?_eq_some_iff.1 hj).1
        simpa using this
      rw [ha0.2.2.2.2.2 ad rfl j (by rw [← ha.1]; exact hj')]
      rw [List.getElem?_map] at hj
      simp [List.getElem?_eq_getElem hj'] at hj ⊢
      exact hj
  go_enter Try.func52, Try.ntmps52
  go_wp2_with (first
    | (at_make; refine wpList_mak rfl (.tmp 7) (.tmp 10) rfl la (la + 10) _ _ rfl rfl rfl (by omega) (by omega) (by omega) ?_; intro _)
    | ((refine wpList_copy_splice rfl (.tmp 12) (.tmp 13) 27 27 rfl 5 Try.underlying27 Try.sizB _ _ _ _ _ _ rfl rfl w.heap.size 0 (Array.replicate (la + 10) (Value.int .u8 0)).toList 5 (heap_alloc_new w _) (xs.map (Value.int .u8)) (by simp [hxl.out]) (fun h => ⟨rfl, hp.out h⟩) (by have := hxl.out; simp; omega) (ints_oneCell _ _) w.heap.size w b0 (Nat.le_refl _) ?_); intro w1 hw1 b1))
  have own1 := own_splice (base := w.heap.size) hw1.out hxl.out hbx (by omega) (by unfold maxLen; omega) (Nat.le_refl _)
  clear hw1 hp ha0 b0
  go_simp
  go_loopw [1, 5] (fun u out wr => ∃ (y : Nat) (ds : List Int), u = .int .u64 y ∧ y ≤ x ∧ ds ++ putR y = putR x ∧ Own wr w.heap.size out (xs ++ ds) ∧ out ≠ .slice none 0 0 ∧ Below w.heap.size w wr) (fun u _ _ => (intOf u).toNat)
  case atStart => exact ⟨x, [], rfl, Nat.le_refl _, rfl, by simpa using own1, by simp, b1⟩
  case round =>
    obtain ⟨y, ds, rfl, hy, hd, own2, hne, b2⟩ := hrel
    have hlen : Hid (ds.length + (putR y).length ≤ 10) := by
      have h := putR_ten hx; rw [← hd, List.length_append] at h; exact h
    have hd' : Hid (ds ++ putR y = putR x) := hd
    clear hd own1 b1
    by_cases hlt : y < 128
    · have hbz : 0 ≤ (y : Int) ∧ (y : Int) < 256 := by omega
      have own3 := own2.alloc (.cells #[.int .u8 y] 5)
      have b3 := b2.alloc b2.size (.cells #[.int .u8 y] 5)
      have hput := putR_lt hlt
      have hl1 : Hid ((xs ++ ds).length + [(y : Int)].length ≤ 140737488355328) := by
        have h1 := hlen.out; have h2 := hxl.out; rw [hput] at h1; simp only [Hid, List.length_append, List.length_singleton] at *; omega
      have hd2 : Hid (xs ++ ds ++ [(y : Int)] = xs ++ putR x) := by rw [← hd'.out, hput]; simp [Hid]
      clear hput
      go_wp2_with (at_builtin; refine wpList_app rfl (.tmp 26) (.tmp 29) rfl w.heap.size _ _ [(y : Int)] rfl own3 _ _ _ rfl (row_one wr y hbz) hl1.out b3.size ?_; intro v4 w4 own4 gr4 nn4)
      go_ret
      exact ⟨_, rfl, hd2.out ▸ own4, nn4 hne, own3.bel b3 gr4 b3.size⟩
    · have A := and64 y (by omega) (by omega)
      have O := or8 ((y : Int) % 128) (by omega) (by omega)
      have hbz : 0 ≤ (y : Int) % 128 + 128 ∧ (y : Int) % 128 + 128 < 256 := by omega
      have own3 := own2.alloc (.cells #[.int .u8 ((y : Int) % 128 + 128)] 5)
      have b3 := b2.alloc b2.size (.cells #[.int .u8 ((y : Int) % 128 + 128)] 5)
      have hput := putR_ge hlt
      have hl1 : Hid ((xs ++ ds).length + [(y : Int) % 128 + 128].length ≤ 140737488355328) := by
        have h1 := hlen.out; have h2 := hxl.out; have h3 := putR_pos y; simp only [Hid, List.length_append, List.length_singleton] at *; omega
      have hd2 : Hid ((ds ++ [(y : Int) % 128 + 128]) ++ putR (y / 128) = putR x) := by rw [← hd'.out, hput]; simp [Hid]
      clear hput
      go_wp2_with (at_builtin; refine wpList_app rfl (.tmp 19) (.tmp 24) rfl w.heap.size _ _ [(y : Int) % 128 + 128] rfl own3 _ _ _ rfl (row_one wr _ hbz) hl1.out b3.size ?_; intro v4 w4 own4 gr4 nn4)
      go_roundw
      case rel => exact ⟨y / 128, ds ++ [(y : Int) % 128 + 128], by go_num, by omega, hd2.out, by rw [← List.append_assoc]; exact own4, nn4 hne, own3.bel b3 gr4 b3.size⟩
      case measure => simp [intOf]; omega
end Go.Proofs.Ythlnhodfgmpabaa.Wr
