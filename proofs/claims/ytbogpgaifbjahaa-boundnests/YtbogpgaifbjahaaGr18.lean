/- The document's one of layer 8: the error of an op, the shape that it makes. -/
import Derived.Test.YtbogpgaifbjahaaGr12
import Derived.Test.YtbogpgaifbjahaaGr16
import Derived.Test.YtbogpgaifbjahaaGr17
/- The document's one of layer 8: the error of an op, the shape that it makes. -/
namespace Go.Proofs.Ytbogpgaifbjahaa
open Go.ChangeShapes Go.WideShapes Go.ChangeAt Go.RowKit
set_option linter.unusedVariables false
/-! ### The error, exit by exit -/
theorem op_1 {k a b m kh kw sh sw tp lf bt rt : Int} {lw lb : Nat} {sm ss um us z p lo hi : Int} {L : List (Int × Int × Int)} {x : Int} (hf : fmE k a b L.length (ozB k b m kh kw sh sw tp lf bt rt lw lb sm ss um us z p) = x) (hx : x ≠ 0) : opE k a b m kh kw sh sw tp lf bt rt lw lb sm ss um us z p lo hi L = x := by unfold opE; rw [hf, if_pos hx]
theorem op_2 {k a b m kh kw sh sw tp lf bt rt : Int} {lw lb : Nat} {sm ss um us z p lo hi : Int} {L : List (Int × Int × Int)} {h w c x : Int} (hf : Hid (fmE k a b L.length (ozB k b m kh kw sh sw tp lf bt rt lw lb sm ss um us z p) = 0)) (hA : ShA L a = (h, w, c)) (hx : mkE k m kh kw sh sw tp lf bt rt h w c = x) (h0 : x ≠ 0) : opE k a b m kh kw sh sw tp lf bt rt lw lb sm ss um us z p lo hi L = x := by
  unfold opE; rw [hf.out, if_neg (by decide), hA]; simp only; rw [hx, if_pos h0]
theorem op_3 {k a b m kh kw sh sw tp lf bt rt : Int} {lw lb : Nat} {sm ss um us z p lo hi : Int} {L : List (Int × Int × Int)} {h w c : Int} (hf : Hid (fmE k a b L.length (ozB k b m kh kw sh sw tp lf bt rt lw lb sm ss um us z p) = 0)) (hA : ShA L a = (h, w, c)) (hx : mkE k m kh kw sh sw tp lf bt rt h w c = 0) (hn : k = 6 ∧ ShA L a ≠ ShA L b) : opE k a b m kh kw sh sw tp lf bt rt lw lb sm ss um us z p lo hi L = 50 := by
  unfold opE
  rw [if_neg (by rw [hf.out]; decide), if_neg (by rw [hA]; simp only; rw [hx]; decide), if_pos hn]
theorem op_4 {k a b m kh kw sh sw tp lf bt rt : Int} {lw lb : Nat} {sm ss um us z p lo hi : Int} {L : List (Int × Int × Int)} {h w c st : Int} (hf : Hid (fmE k a b L.length (ozB k b m kh kw sh sw tp lf bt rt lw lb sm ss um us z p) = 0)) (hA : ShA L a = (h, w, c)) (hx : mkE k m kh kw sh sw tp lf bt rt h w c = 0) (hn : ¬ (k = 6 ∧ ShA L a ≠ ShA L b)) (hst : stR k kh kw h w c = st) (hr : rdB k = true ∧ 512 < st) : opE k a b m kh kw sh sw tp lf bt rt lw lb sm ss um us z p lo hi L = 84 := by
  unfold opE
  rw [if_neg (by rw [hf.out]; decide), if_neg (by rw [hA]; simp only; rw [hx]; decide), if_neg hn, if_pos (by unfold st3; rw [hA]; simp only; rw [hst]; exact hr)]
theorem op_n {k a b m kh kw sh sw tp lf bt rt : Int} {lw lb : Nat} {sm ss um us z p lo hi : Int} {L : List (Int × Int × Int)} {h w c st C : Int} (hf : Hid (fmE k a b L.length (ozB k b m kh kw sh sw tp lf bt rt lw lb sm ss um us z p) = 0)) (hA : ShA L a = (h, w, c)) (hx : mkE k m kh kw sh sw tp lf bt rt h w c = 0) (hC : (mkS k m kh kw sh sw tp lf bt rt h w c).2.2 = C) (hn : ¬ (k = 6 ∧ ShA L a ≠ ShA L b)) (hst : stR k kh kw h w c = st) (hr : ¬ (rdB k = true ∧ 512 < st)) : opE k a b m kh kw sh sw tp lf bt rt lw lb sm ss um us z p lo hi L = nuE k C st lw lb sm ss um us z p lo hi := by
  unfold opE
  rw [if_neg (by rw [hf.out]; decide), if_neg (by rw [hA]; simp only; rw [hx]; decide), if_neg hn, if_neg (by unfold st3; rw [hA]; simp only; rw [hst]; exact hr)]
  unfold st3 mk3
  rw [hA]
  simp only
  rw [hC, hst]
/-- What it answers: the shape. -/
def onS (k m kh kw sh sw tp lf bt rt e : Int) (s : Int × Int × Int) : Int × Int × Int := if e = 0 then mk3 k m kh kw sh sw tp lf bt rt s else (0, 0, 0)
theorem onS_no {k m kh kw sh sw tp lf bt rt e : Int} {s : Int × Int × Int} (h : e ≠ 0) : onS k m kh kw sh sw tp lf bt rt e s = (0, 0, 0) := if_neg h
theorem St.out3 {w0 w : World} {l l0 : List (Nat × Array Value × TypeId)} {R : Nat} {a b c : Value} (h : St w0 w l0) (hs : ∀ x ∈ l, x ∈ l0) (hR : w0.heap.size ≤ R) (hl : ∀ x ∈ l, x.1 ≠ R) :
    St w0 (((w.setCell ⟨R, 0, none⟩ a).setCell ⟨R, 1, none⟩ b).setCell ⟨R, 2, none⟩ c) l :=
  ⟨set3b h.1 hR, fun x hx => ⟨by rw [Below.heap_setCell _ _ _ _ (hl x hx), Below.heap_setCell _ _ _ _ (hl x hx), Below.heap_setCell _ _ _ _ (hl x hx)]; exact (h.2 x (hs x hx)).1, (h.2 x (hs x hx)).2⟩⟩
theorem St.lt {w0 w : World} {l : List (Nat × Array Value × TypeId)} (h : St w0 w l) : ∀ x ∈ l, x.1 < w.heap.size := fun x hx => lt_of_heap (h.2 x hx).1
/-! ### Ahead of the shapes -/
set_option maxHeartbeats 4000000 in
set_option maxRecDepth 100000 in
theorem one_f (k a b m kh kw sh sw tp lf bt rt : Int) (wa : Option Addr) (lw cw : Nat) (ba : Option Addr) (lb cb : Nat) (sm ss um us z p lo hi : Int) (W0 W : World) (g cap n : Nat) (x : Int) (l : List (Nat × Array Value × TypeId)) (s : St W0 W l) (hn : n ≤ 65) (hl : lw + lb ≤ 1000000000000000)
    (hf : fmE k a b n (ozB k b m kh kw sh sw tp lf bt rt lw lb sm ss um us z p) = x) (hx : x ≠ 0) :
    Calls Try.prog 57 #[.agg #[.int .i64 k, .int .i64 a, .int .i64 b, .int .i64 m, .int .i64 kh, .int .i64 kw, .int .i64 sh, .int .i64 sw, .int .i64 tp, .int .i64 lf, .int .i64 bt, .int .i64 rt, .slice wa lw cw, .slice ba lb cb, .int .i64 sm, .int .i64 ss, .int .i64 um, .int .i64 us, .int .i64 z, .int .i64 p, .int .i64 lo, .int .i64 hi], .int .i64 (n : Int), .slice (some ⟨g, 0, none⟩) n cap] W fun e w' => e = .returned (.tuple #[.agg #[.int .i64 0, .int .i64 0, .int .i64 0], .int .i64 x]) ∧ St W0 w' l := by
  have hlt := s.lt
  have hsz := s.size
  have s1 := (s.new (c := #[.int .i64 k, .int .i64 a, .int .i64 b, .int .i64 m, .int .i64 kh, .int .i64 kw, .int .i64 sh, .int .i64 sw, .int .i64 tp, .int .i64 lf, .int .i64 bt, .int .i64 rt, .slice wa lw cw, .slice ba lb cb, .int .i64 sm, .int .i64 ss, .int .i64 um, .int .i64 us, .int .i64 z, .int .i64 p, .int .i64 lo, .int .i64 hi]) (t := 47)).new (c := #[.int .i64 0, .int .i64 0, .int .i64 0]) (t := 23)
  simp only [World.size_alloc] at s1
  have hO : Hid (∀ w, St W0 w ((W.heap.size + 1, #[.int .i64 0, .int .i64 0, .int .i64 0], 23) :: (W.heap.size, #[.int .i64 k, .int .i64 a, .int .i64 b, .int .i64 m, .int .i64 kh, .int .i64 kw, .int .i64 sh, .int .i64 sw, .int .i64 tp, .int .i64 lf, .int .i64 bt, .int .i64 rt, .slice wa lw cw, .slice ba lb cb, .int .i64 sm, .int .i64 ss, .int .i64 um, .int .i64 us, .int .i64 z, .int .i64 p, .int .i64 lo, .int .i64 hi], 47) :: l) → ∀ u v y, St W0 (((w.setCell ⟨W.heap.size + 1, 0, none⟩ u).setCell ⟨W.heap.size + 1, 1, none⟩ v).setCell ⟨W.heap.size + 1, 2, none⟩ y) l) := fun w hw u v y => hw.out3 (fun q hq => by simp [hq]) (by omega) (fun q hq => by have := hlt q hq; omega)
  have hO2 : Hid (St W0 ((W.alloc (.cells #[.int .i64 k, .int .i64 a, .int .i64 b, .int .i64 m, .int .i64 kh, .int .i64 kw, .int .i64 sh, .int .i64 sw, .int .i64 tp, .int .i64 lf, .int .i64 bt, .int .i64 rt, .slice wa lw cw, .slice ba lb cb, .int .i64 sm, .int .i64 ss, .int .i64 um, .int .i64 us, .int .i64 z, .int .i64 p, .int .i64 lo, .int .i64 hi] 47)).alloc (.cells #[.int .i64 0, .int .i64 0, .int .i64 0] 23)) l) := s1.tail.tail
  by_cases h1 : 1 ≤ k ∧ k ≤ 8
  rotate_left
  · obtain rfl : x = 81 := by rw [← hf]; exact (fm_81 h1).symm
    clear hf hx hlt
    go_enter Try.func57, Try.ntmps57
    by_cases k1 : k < 1
    · go_wp2
      exact bodyPost_ret (v := .tuple #[.agg #[.int .i64 0, .int .i64 0, .int .i64 0], .int .i64 81]) (by simp [results, Try.results57, go_sem, *]) rfl ⟨rfl, by first | exact hO2.out | exact hO.out _ s1 _ _ _⟩
    · have k8 : 8 < k := by omega
      go_wp2
      exact bodyPost_ret (v := .tuple #[.agg #[.int .i64 0, .int .i64 0, .int .i64 0], .int .i64 81]) (by simp [results, Try.results57, go_sem, *]) rfl ⟨rfl, by first | exact hO2.out | exact hO.out _ s1 _ _ _⟩
  have k1 : ¬ k < 1 := by omega
  have k8 : ¬ 8 < k := by omega
  by_cases h2 : 0 ≤ a ∧ a < (n : Int)
  rotate_left
  · obtain rfl : x = 82 := by rw [← hf]; exact (fm_82 h1 h2).symm
    clear hf hx hlt h1
    go_enter Try.func57, Try.ntmps57
    by_cases a0 : a < 0
    · go_wp2
      exact bodyPost_ret (v := .tuple #[.agg #[.int .i64 0, .int .i64 0, .int .i64 0], .int .i64 82]) (by simp [results, Try.results57, go_sem, *]) rfl ⟨rfl, by first | exact hO2.out | exact hO.out _ s1 _ _ _⟩
    · have an : (n : Int) ≤ a := by omega
      go_wp2
      exact bodyPost_ret (v := .tuple #[.agg #[.int .i64 0, .int .i64 0, .int .i64 0], .int .i64 82]) (by simp [results, Try.results57, go_sem, *]) rfl ⟨rfl, by first | exact hO2.out | exact hO.out _ s1 _ _ _⟩
  have a0 : ¬ a < 0 := by omega
  have an : ¬ (n : Int) ≤ a := by omega
  by_cases h3 : k = 6 ∧ ¬ (0 ≤ b ∧ b < (n : Int))
  · obtain rfl : x = 82 := by rw [← hf]; exact (fm_83 h1 h2 h3).symm
    obtain ⟨rfl, h3⟩ := h3
    clear hf hx hlt h1 h2
    go_enter Try.func57, Try.ntmps57
    by_cases b0 : b < 0
    · go_wp2
      exact bodyPost_ret (v := .tuple #[.agg #[.int .i64 0, .int .i64 0, .int .i64 0], .int .i64 82]) (by simp [results, Try.results57, go_sem, *]) rfl ⟨rfl, by first | exact hO2.out | exact hO.out _ s1 _ _ _⟩
    · have bn : (n : Int) ≤ b := by omega
      go_wp2
      exact bodyPost_ret (v := .tuple #[.agg #[.int .i64 0, .int .i64 0, .int .i64 0], .int .i64 82]) (by simp [results, Try.results57, go_sem, *]) rfl ⟨rfl, by first | exact hO2.out | exact hO.out _ s1 _ _ _⟩
  have hoz : ozB k b m kh kw sh sw tp lf bt rt lw lb sm ss um us z p = false := by
    cases q : ozB k b m kh kw sh sw tp lf bt rt lw lb sm ss um us z p with
    | false => rfl
    | true =>
      exfalso
      apply hx
      rw [← hf, q]
      unfold fmE
      rw [if_neg (by simp [h1]), if_neg (by simp [h2]), if_neg h3, if_neg (by decide)]
  obtain rfl : x = 83 := by
    rw [← hf, hoz]
    unfold fmE
    rw [if_neg (by simp [h1]), if_neg (by simp [h2]), if_neg h3, if_pos rfl]
  have hSp : Hid (∀ W, Calls Try.prog 73 #[.agg #[.int .i64 k, .int .i64 a, .int .i64 b, .int .i64 m, .int .i64 kh, .int .i64 kw, .int .i64 sh, .int .i64 sw, .int .i64 tp, .int .i64 lf, .int .i64 bt, .int .i64 rt, .slice wa lw cw, .slice ba lb cb, .int .i64 sm, .int .i64 ss, .int .i64 um, .int .i64 us, .int .i64 z, .int .i64 p, .int .i64 lo, .int .i64 hi]] W fun e w' => e = .returned (.bool false) ∧ Below W.heap.size W w') := fun W => by rw [← hoz]; exact spare_any k a b m kh kw sh sw tp lf bt rt wa lw cw ba lb cb sm ss um us z p lo hi W h1 hl
  clear hf hx hlt h1 h2 hoz
  by_cases k6 : k = 6
  · subst k6
    have b0 : ¬ b < 0 := by omega
    have bn : ¬ (n : Int) ≤ b := by omega
    clear h3
    go_enter Try.func57, Try.ntmps57
    go_upto_region 5 with fail
    go_wp2_with ((refine wpList_load_row rfl 47 (.tmp 3) rfl _ rfl 47 _ (0, 0) _ s1.h2 Try.underlying47 rfl (by kernel_rfl) ?_))
    refine (hSp.out _).mono ?_
    rintro e w2 ⟨rfl, hb⟩
    have s2 := s1.call hb
    obtain ⟨c1, f1, z1, -⟩ := s2.rules
    clear hb
    go_wp2
    exact bodyPost_ret (v := .tuple #[.agg #[.int .i64 0, .int .i64 0, .int .i64 0], .int .i64 83]) (by simp [results, Try.results57, go_sem, *]) rfl ⟨rfl, hO.out _ s2 _ _ _⟩
  · have k6' : (k == 6) = false := by simpa using k6
    clear h3
    go_enter Try.func57, Try.ntmps57
    go_upto_region 5 with fail
    go_wp2_with ((refine wpList_load_row rfl 47 (.tmp 3) rfl _ rfl 47 _ (0, 0) _ s1.h2 Try.underlying47 rfl (by kernel_rfl) ?_))
    refine (hSp.out _).mono ?_
    rintro e w2 ⟨rfl, hb⟩
    have s2 := s1.call hb
    obtain ⟨c1, f1, z1, -⟩ := s2.rules
    clear hb
    go_wp2
    exact bodyPost_ret (v := .tuple #[.agg #[.int .i64 0, .int .i64 0, .int .i64 0], .int .i64 83]) (by simp [results, Try.results57, go_sem, *]) rfl ⟨rfl, hO.out _ s2 _ _ _⟩
end Go.Proofs.Ytbogpgaifbjahaa
