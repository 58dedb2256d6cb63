/- The answers that the document fixes, as the law asks them; the walk of WindowOuts. -/
import Derived.Test.YtcgpeaamblanlaaWinV
import Derived.Test.YtcgpeaamblanlaaWinS
import Derived.Test.YtcgpeaamblanlaaHeldQ
namespace Go.Proofs.Ytcgpeaamblanlaa
open Go.ChangeShapes Go.WideShapes Go.ChangeAt Go.RowKit Go.Shelf
def fixL : List Int := [0, -1, 1, -1, 2, -1, 3, 0]
theorem fix_out : ouR 4 4 1 3 3 1 1 1 1 1 1 = (4, 4, 0) := by decide
theorem fix_taps : flat ((tapsOf 2 2 1 2 2 1 1 1 1 0 0 0).take 9) = fixL := by decide
theorem fix_own (w : World) (b : Nat) (hb : b ≤ w.heap.size) : Own (w.alloc (.cells #[.int .i64 0, .int .i64 (-1), .int .i64 1, .int .i64 (-1), .int .i64 2, .int .i64 (-1), .int .i64 3, .int .i64 0] 3)) b (.slice (some ⟨w.heap.size, 0, none⟩) 8 8) fixL :=
  own_lit w b fixL (by unfold maxLen fixL; decide) hb
set_option maxHeartbeats 4000000 in
theorem fixed_any (W : World) : Calls Try.prog 10 #[] W fun e w' => e = .returned (.bool true) ∧ Below W.heap.size W w' := by
  have H1 : Hid (ouR 4 4 1 3 3 1 1 1 1 1 1 = (4, 4, 0)) := fix_out
  have H2 : Hid (flat ((tapsOf 2 2 1 2 2 1 1 1 1 0 0 0).take 9) = fixL) := fix_taps
  go_enter Try.func10, Try.ntmps10
  go_wp2_with fail
  refine (out_any _ _ _ _ _ _ _ _ _ _ _ _).mono ?_
  rintro e w1 ⟨rfl, hb'⟩
  have s1 := (St.start W).call hb'
  clear hb'
  try simp only [World.size_setCell] at s1
  try simp only [World.size_alloc] at s1
  rw [H1.out]
  go_wp2_with fail
  refine (pairs_any 2 2 1 2 2 1 1 1 1 0 0 0 9 w1).mono ?_
  rintro e w2 ⟨⟨v, rfl, hown⟩, hb⟩
  have s2 := s1.call hb
  rw [H2.out] at hown
  clear hb
  obtain ⟨a, cap, hv, -, -⟩ := hown.row
  subst hv
  go_wp2_with fail
  refine (same_own (hown.alloc _) (fix_own w2 0 (Nat.zero_le _))).mono ?_
  rintro e w3 ⟨rfl, hb⟩
  have s3 := (s2.skip _).call hb
  simp only [decide_true]
  go_wp2
  go_ret
  exact ⟨rfl, s3.below⟩
theorem wvalid_is {kh kw sh sw tp lf bt rt : Int} {W : World} {b : Bool} (hv : vW kh kw sh sw tp lf bt rt = b) : Calls Try.prog 11 #[.agg #[.int .i64 kh, .int .i64 kw, .int .i64 sh, .int .i64 sw, .int .i64 tp, .int .i64 lf, .int .i64 bt, .int .i64 rt]] W fun e w' => e = .returned (.bool b) ∧ Below W.heap.size W w' := hv ▸ wvalid_any _ _ _ _ _ _ _ _ W
theorem wrvalid_is {kh kw sh sw tp lf bt rt : Int} {W : World} {b : Bool} (hv : vW kh kw sh sw tp lf bt rt = b) : Calls Try.prog 12 #[.agg #[.int .i64 kh, .int .i64 kw, .int .i64 sh, .int .i64 sw, .int .i64 tp, .int .i64 lf, .int .i64 bt, .int .i64 rt]] W fun e w' => e = .returned (.bool b) ∧ Below W.heap.size W w' := hv ▸ wrvalid_any _ _ _ _ _ _ _ _ W
set_option maxHeartbeats 4000000 in
theorem windowOuts_walk (h w c kh kw sh sw tp lf bt rt : Int) (W : World) (_w0 : (Lit.int .i64 h).wf = true) (_w1 : (Lit.int .i64 w).wf = true) (_w2 : (Lit.int .i64 c).wf = true) (_w3 : (Lit.int .i64 kh).wf = true) (_w4 : (Lit.int .i64 kw).wf = true) (_w5 : (Lit.int .i64 sh).wf = true) (_w6 : (Lit.int .i64 sw).wf = true) (_w7 : (Lit.int .i64 tp).wf = true) (_w8 : (Lit.int .i64 lf).wf = true) (_w9 : (Lit.int .i64 bt).wf = true) (_w10 : (Lit.int .i64 rt).wf = true) :
    Calls Try.prog 3 #[.agg #[.int .i64 h, .int .i64 w, .int .i64 c], .agg #[.int .i64 kh, .int .i64 kw, .int .i64 sh, .int .i64 sw, .int .i64 tp, .int .i64 lf, .int .i64 bt, .int .i64 rt]] W fun e w' => e = .returned (.bool true) ∧ Below W.heap.size W w' := by
  clear _w0 _w1 _w2 _w3 _w4 _w5 _w6 _w7 _w8 _w9 _w10
  obtain ⟨r, q, e, hi⟩ : ∃ r q e, ouR h w c kh kw sh sw tp lf bt rt = (r, q, e) := ⟨_, _, _, rfl⟩
  have HO : Hid (ouR h w c kh kw sh sw tp lf bt rt = (r, q, e)) := hi
  clear hi
  obtain ⟨b, hv⟩ : ∃ b, vW kh kw sh sw tp lf bt rt = b := ⟨_, rfl⟩
  go_enter Try.func3, Try.ntmps3
  go_wp2_with fail
  refine (out_any _ _ _ _ _ _ _ _ _ _ _ _).mono ?_
  rintro e w1 ⟨rfl, hb'⟩
  have s1 := (St.start W).new.new.call hb'
  clear hb'
  try simp only [World.size_setCell] at s1
  try simp only [World.size_alloc] at s1
  obtain ⟨c1, f1, zw1_1, c2, f2, zw1_2, -⟩ := s1.rules
  rw [HO.out]
  go_wp2_with fail
  refine (rout_any _ _ _ _ _ _ _ _ _ _ _ _).mono ?_
  rintro e w2 ⟨rfl, hb'⟩
  have s2 := s1.call hb'
  clear hb' c1 f1 c2 f2
  try simp only [World.size_setCell] at s2
  try simp only [World.size_alloc] at s2
  obtain ⟨c1, f1, zw2_1, c2, f2, zw2_2, -⟩ := s2.rules
  rw [HO.out]
  go_wp2
  clear c1 f1 c2 f2
  have hne := Nonempty.intro (Wd.mk _ s2)
  obtain ⟨d1, e1, d2, e2, -⟩ := rulesQ W [(W.heap.size + 1, #[.int .i64 kh, .int .i64 kw, .int .i64 sh, .int .i64 sw, .int .i64 tp, .int .i64 lf, .int .i64 bt, .int .i64 rt], 25), (W.heap.size, #[.int .i64 h, .int .i64 w, .int .i64 c], 23)]
  refine region_held s2 (by kernel_rfl) (by kernel_rfl) ?_
  repeat (go_big_quiet_step ((first | (go_at_call 10; exact held_of (fixed_any _)) | (go_at_call 11; exact held_of (wvalid_is (by assumption))) | (go_at_call 12; exact held_of (wrvalid_is (by assumption))))))
  refine wpQuiet_nil ?_
  intro _ hw'
  obtain ⟨nq, rfl⟩ := hw'
  go_wp2
  go_ret
  exact ⟨rfl, nq.h.below⟩
end Go.Proofs.Ytcgpeaamblanlaa
