/- Rows of bytes made: joined, roomy, the copies; the comparison byte by byte. -/
import Derived.Test.YtejdepnfilelbaaWirF
namespace Go.Proofs.Ytejdepnfilelbaa
open Go.ChangeShapes Go.WideShapes Go.ChangeAt Go.RowKit
theorem dbel (w : World) (n : Nat) : Below w.heap.size w (w.drewN n) := ⟨rfl, rfl, rfl, Nat.le_refl _, fun _ _ => rfl⟩
theorem ret_bool {a b : Bool} (h : a = b) : Ending.returned (.bool a) = .returned (.bool b) := by rw [h]
theorem Own.bel {w w' w0 : World} {base : Nat} {v : Value} {zs : List Int} (h : Own w base v zs) (hb : Below base w0 w) (k : w.grownBy w' v.ownBlock) (hB : base ≤ w.heap.size) : Below base w0 w' := by
  refine hb.grown k hB fun b hb => ?_
  rcases h.shape with ⟨rfl, _⟩ | ⟨g, cap, rfl, hg, _⟩
  · cases hb
  · cases hb; exact hg
theorem same_step {xs ys : List Int} {k : Nat} {c d : Int} (hx : xs.drop k = c :: xs.drop (k + 1)) (hy : ys.drop k = d :: ys.drop (k + 1)) (he : xs.take k = ys.take k) : (c = d → xs.take (k + 1) = ys.take (k + 1)) ∧ (c ≠ d → decide (xs = ys) = false) := by
  have kx : xs[k]? = some c := by rw [← List.head?_drop, hx]; rfl
  have ky : ys[k]? = some d := by rw [← List.head?_drop, hy]; rfl
  constructor
  · intro h
    rw [List.take_add_one, List.take_add_one, he, kx, ky, h]
  · intro h
    refine decide_eq_false fun e => h ?_
    rw [e, ky] at kx
    exact (Option.some.inj kx).symm
theorem same_end {xs ys : List Int} {k n : Nat} (hx : xs.length = n) (hy : ys.length = n) (hk : n ≤ k) (he : xs.take k = ys.take k) : decide (xs = ys) = true := by
  rw [List.take_of_length_le (by omega), List.take_of_length_le (by omega)] at he
  exact decide_eq_true he
set_option maxHeartbeats 1000000 in
theorem same_is (a b : Option Addr) (la ca lb cb : Nat) (xs ys : List Int) (w : World) (ha : Row w a la ca xs) (hb : Row w b lb cb ys) :
    Calls Try.prog 15 #[.slice a la ca, .slice b lb cb] w fun e w' => e = .returned (.bool (decide (xs = ys))) ∧ ∃ n, w' = w.drewN n := by
  have ha' := ha.2.2.1
  have hb' := hb.2.2.1
  unfold maxLen at ha' hb'
  have hxl : Hid (xs.length = la) := ha.1
  have hyl : Hid (ys.length = lb) := hb.1
  have hac := ha.2.1
  have hbc := hb.2.1
  by_cases hlen : la = lb
  · subst hlen
    go_enter Try.func15, Try.ntmps15
    go_wp2
    go_loopw [13] (fun i wr => ∃ k n : Nat, k ≤ la ∧ i = .int .i64 k ∧ xs.take k = ys.take k ∧ wr = w.drewN n) (fun i _ => la - (intOf i).toNat)
    case atStart => exact ⟨0, 0, Nat.zero_le _, rfl, rfl, rfl⟩
    case round =>
      obtain ⟨k, n, hk, rfl, he, rfl⟩ := hrel
      have he' : Hid (xs.take k = ys.take k) := he
      clear he
      by_cases hlt : k < la
      · obtain ⟨p, c, rfl, hc, hc0, hc1, hcd⟩ := row_at ha hlt
        obtain ⟨q, d, rfl, hd, hd0, hd1, hdd⟩ := row_at hb hlt
        have hcd' : Hid (xs.drop k = c :: xs.drop (k + 1)) := hcd
        have hdd' : Hid (ys.drop k = d :: ys.drop (k + 1)) := hdd
        clear hcd hdd ha hb
        by_cases hcd : c = d
        · subst hcd
          go_wp2
          go_quiet (fail)
          go_wp2
          go_roundw
          case rel => exact ⟨k + 1, _, by omega, by go_num, (same_step hcd'.out hdd'.out he'.out).1 rfl, rfl⟩
          case measure => simp [intOf]; omega
        · have hD : Hid (decide (xs = ys) = false) := (same_step hcd'.out hdd'.out he'.out).2 hcd
          go_wp2
          go_quiet (fail)
          go_wp2
          go_ret
          exact ⟨ret_bool hD.out.symm, _, by rw [World.drewN_drewN]⟩
      · clear ha hb
        have hD : Hid (decide (xs = ys) = true) := same_end hxl.out hyl.out (by omega) he'.out
        go_wp2
        go_ret
        exact ⟨ret_bool hD.out.symm, _, rfl⟩
  · have hne : xs ≠ ys := fun e => hlen (by rw [← hxl.out, ← hyl.out, e])
    have hD : Hid (decide (xs = ys) = false) := by simp [Hid, hne]
    clear ha hb hne
    go_enter Try.func15, Try.ntmps15
    go_wp2
    go_ret
    exact ⟨ret_bool hD.out.symm, 0, rfl⟩
theorem Own.slice {w : World} {base n : Nat} {v : Value} {zs : List Int} (h : Own w base v zs) (hn : zs.length = n) (hv : v ≠ .slice none 0 0) : ∃ g cap, v = .slice (some ⟨g, 0, none⟩) n cap ∧ base ≤ g ∧ g < w.heap.size ∧ n ≤ cap ∧ cap ≤ maxLen := by
  subst hn
  rcases h.shape with ⟨h, _⟩ | ⟨g, cap, h, h1, h2, h3, h4, _⟩
  · exact absurd h hv
  · exact ⟨g, cap, h, h1, h2, h3, h4⟩
theorem own_empty (w : World) : Own (w.alloc (.cells #[] 5)) w.heap.size (.slice (some ⟨w.heap.size, 0, none⟩) 0 0) [] := own_lit w w.heap.size [] Byt.nil (by unfold maxLen; simp) (Nat.le_refl _)
set_option maxHeartbeats 1000000 in
theorem joined_is (a b : Option Addr) (la ca lb cb : Nat) (xs ys : List Int) (w : World) (ha : Row w a la ca xs) (hb : Row w b lb cb ys) (hs : la + lb ≤ 140737488355328) :
    Calls Try.prog 11 #[.slice a la ca, .slice b lb cb] w fun e w' => ∃ v, e = .returned v ∧ Own w' w.heap.size v (xs ++ ys) ∧ v ≠ .slice none 0 0 ∧ Below w.heap.size w w' := by
  have hxl : Hid (xs.length = la) := ha.1
  have hyl : Hid (ys.length = lb) := hb.1
  have own0 := own_empty w
  have b0 : Below w.heap.size w (w.alloc (.cells #[] 5)) := (Below.refl _ _).alloc (Nat.le_refl _) _
  go_enter Try.func11, Try.ntmps11
  go_wp2_with (first
    | (at_builtin; refine wpList_app rfl (.tmp 5) (.tmp 6) rfl w.heap.size (.slice (some ⟨w.heap.size, 0, none⟩) 0 0) [] xs rfl own0 _ _ _ rfl (ha.below b0) (by have := hxl.out; simp; omega) (by simp) ?_; intro v1 w1 own1 gr1 nn1)
    | (at_builtin; refine wpList_app rfl (.tmp 7) (.tmp 8) rfl w.heap.size v1 _ ys rfl own1 _ _ _ rfl (hb.below (own0.bel b0 gr1 b0.size)) (by have := hxl.out; have := hyl.out; simp; omega) (own0.bel b0 gr1 b0.size).size ?_; intro v2 w2 own2 gr2 nn2))
  go_ret
  have b1 := own0.bel b0 gr1 b0.size
  exact ⟨_, rfl, own2, nn2 (nn1 (by simp)), own1.bel b1 gr2 b1.size⟩
def marks : List Int := [91, 92, 93, 94, 95, 96, 97, 98, 99, 90, 91, 92]
theorem marks_byt : Byt marks := by
  intro z hz
  simp only [marks, List.mem_cons, List.not_mem_nil, or_false] at hz
  omega
set_option maxHeartbeats 1000000 in
theorem roomy_is (a : Option Addr) (la ca : Nat) (xs : List Int) (w : World) (ha : Row w a la ca xs) (hs : la + 12 ≤ 140737488355328) :
    Calls Try.prog 8 #[.slice a la ca] w fun e w' => ∃ g cap, e = .returned (.tuple #[.slice (some ⟨g, 0, none⟩) (la + 12) cap, .slice (some ⟨g, 0, none⟩) la cap]) ∧
      Own w' w.heap.size (.slice (some ⟨g, 0, none⟩) (la + 12) cap) (xs ++ marks) ∧ Below w.heap.size w w' := by
  have hxl : Hid (xs.length = la) := ha.1
  have own0 := own_empty w
  have b0 : Below w.heap.size w (w.alloc (.cells #[] 5)) := (Below.refl _ _).alloc (Nat.le_refl _) _
  go_enter Try.func8, Try.ntmps8
  go_wp2_with (first
    | (at_builtin; refine wpList_app rfl (.tmp 5) (.tmp 6) rfl w.heap.size (.slice (some ⟨w.heap.size, 0, none⟩) 0 0) [] xs rfl own0 _ _ _ rfl (ha.below b0) (by have := hxl.out; simp; omega) (by simp) ?_; intro v1 w1 own1 gr1 nn1; have b1 := own0.bel b0 gr1 b0.size; have own1a := own1.alloc (.cells (marks.map (Value.int .u8)).toArray 5); have b1a := b1.alloc b1.size (.cells (marks.map (Value.int .u8)).toArray 5); have row1 := (own_lit w1 0 marks marks_byt (by unfold maxLen; decide) (Nat.zero_le _)))
    | (at_builtin; obtain ⟨ao, co, ho, row1b, _⟩ := row1.row; cases ho; refine wpList_app rfl (.tmp 7) (.tmp 8) rfl w.heap.size v1 _ marks rfl own1a _ _ _ rfl row1b (by have := hxl.out; simp [marks]; omega) b1a.size ?_; intro v2 w2 own2 gr2 nn2; have b2 := own1a.bel b1a gr2 b1a.size; have nn2' := nn2 (nn1 (by simp)); simp only [List.nil_append] at own2))
  obtain ⟨g, cap, rfl, hg1, hg2, hg3, hg4⟩ := own2.slice (n := la + 12) (by have := hxl.out; simp [marks, this]) nn2'
  unfold maxLen at hg4
  go_quiet (fail)
  go_wp2
  go_ret2
  exact ⟨g, cap, rfl, own2.below (dbel _ _), b2.trans ((dbel _ _).mono b2.size)⟩
end Go.Proofs.Ytejdepnfilelbaa
