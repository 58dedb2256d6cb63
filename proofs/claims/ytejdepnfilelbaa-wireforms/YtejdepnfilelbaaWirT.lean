/- The answers that the document fixes; one call of both readers; a nil reader. -/
import Derived.Test.YtejdepnfilelbaaWirS
namespace Go.Proofs.Ytejdepnfilelbaa
open Go.ChangeShapes Go.WideShapes Go.ChangeAt Go.RowKit
theorem row_lit (w : World) (zs : List Int) (hb : Byt zs) (hm : zs.length ≤ maxLen) : Row (w.alloc (.cells (zs.map (Value.int .u8)).toArray 5)) (some ⟨w.heap.size, 0, none⟩) zs.length zs.length zs := by
  obtain ⟨a, c, h, r, _⟩ := (own_lit w 0 zs hb hm (Nat.zero_le _)).row
  cases h
  exact r
theorem row_nil (w : World) : Row w none 0 0 [] := ⟨rfl, Nat.le_refl _, by unfold maxLen; omega, Byt.nil, fun _ => rfl, fun x h => by cases h⟩
theorem bal (w : World) (o : Obj) : Below w.heap.size w (w.alloc o) := (Below.refl _ _).alloc (Nat.le_refl _) _
theorem bt {a b c : World} (h : Below a.heap.size a b) (k : Below b.heap.size b c) : Below a.heap.size a c := h.trans (k.mono h.size)
theorem put300 : putR 300 = [172, 2] := by rw [putR_ge (by omega), putR_lt (by omega)]; rfl
theorem putm2 : putR (foldR (-2)) = [3] := by rw [show foldR (-2) = 3 from rfl, putR_lt (by omega)]; rfl
theorem byt3 (a b c : Int) (h : 0 ≤ a ∧ a < 256) (k : 0 ≤ b ∧ b < 256) (l : 0 ≤ c ∧ c < 256) : Byt [a, b, c] := by
  intro z hz
  simp only [List.mem_cons, List.not_mem_nil, or_false] at hz
  omega
theorem fx1 : frR [172, 2, 3] 0 = (300, 2, 0) := by simp [frR, getR, gR]
theorem fx2 : frR [3] 0 = (3, 1, 0) := by simp [frR, getR, gR]
theorem fxU (B : Nat) (w : World) (h : Rd w B 61 [172, 2, 3] 0) : Calls Try.prog 21 #[.pointer (some ⟨B, 0, none⟩)] w fun r w' => r = .returned (.int .u64 300) ∧ Rd w' B 61 [3] 0 ∧ Kept [B] w w' := by
  have := rU_is B _ _ w h
  rw [fx1] at this
  exact this
theorem fxS (B : Nat) (w : World) (h : Rd w B 61 [3] 0) : Calls Try.prog 22 #[.pointer (some ⟨B, 0, none⟩)] w fun r w' => r = .returned (.int .i64 (-2)) ∧ Rd w' B 61 [] 0 ∧ Kept [B] w w' := by
  have := rS_is B _ _ w h
  rw [fx2] at this
  exact this
set_option maxHeartbeats 4000000 in
set_option maxRecDepth 1000000 in
theorem fixed_is (w : World) : Calls Try.prog 14 #[] w fun e w' => e = .returned (.bool true) ∧ Below w.heap.size w w' := by
  go_enter Try.func14, Try.ntmps14
  go_wp2_with fail
  have r0 := row_lit w [172, 2, 3] (byt3 _ _ _ (by omega) (by omega) (by omega)) (by unfold maxLen; decide)
  refine (new_is _ _ _ [172, 2, 3] _ r0 (by simp)).mono ?_
  rintro e w1 ⟨B, rfl, rd1, hB, b1⟩
  have hB' : w.heap.size ≤ B := by simp only [World.size_alloc] at hB; omega
  have b1' := bt (bal w _) b1
  clear b1 r0
  go_wp2_with fail
  have r1 := row_lit w1 [170] (Byt.one (by omega)) (by unfold maxLen; decide)
  refine (putU_is _ _ _ [170] 300 _ r1 (by omega) (by simp)).mono ?_
  rintro e w2 ⟨v, rfl, own2, nn2, b2⟩
  rw [put300] at own2
  obtain ⟨a2, c2, rfl, row2, _⟩ := own2.row
  have b2' := bt (bal w1 _) b2
  clear own2 nn2 r1 b2
  go_wp2_with fail
  have r2 := row_lit w2 [170, 172, 2] (byt3 _ _ _ (by omega) (by omega) (by omega)) (by unfold maxLen; decide)
  refine (same_is _ _ _ _ _ _ ([170] ++ [172, 2]) [170, 172, 2] _ (row2.below (bal _ _)) r2).mono ?_
  rintro e w3 ⟨rfl, n3, rfl⟩
  have b3 : Below w2.heap.size w2 _ := bt (bal w2 (.cells (List.map (Value.int .u8) [170, 172, 2]).toArray 5)) (dbel _ n3)
  clear r2 row2
  go_wp2_with fail
  refine (putS_is none 0 0 [] (-2) _ (row_nil _) (by omega) (by omega) (by omega)).mono ?_
  rintro e w4 ⟨v, rfl, own4, nn4, b4⟩
  rw [putm2] at own4
  obtain ⟨a4, c4, rfl, row4, _⟩ := own4.row
  clear own4 nn4
  go_wp2_with fail
  have r4 := row_lit w4 [3] (Byt.one (by omega)) (by unfold maxLen; decide)
  refine (same_is _ _ _ _ _ _ ([] ++ [3]) [3] _ (row4.below (bal _ _)) r4).mono ?_
  rintro e w5 ⟨rfl, n5, rfl⟩
  have b5 : Below w4.heap.size w4 _ := bt (bal w4 (.cells (List.map (Value.int .u8) [3]).toArray 5)) (dbel _ n5)
  have b15 := bt (bt (bt b2' b3) b4) b5
  have rd5 := rd1.below b15
  have b05 := bt b1' b15
  clear r4 row4 rd1 b5 b4 b3 b2' b1' b15
  go_wp2_with fail
  refine (fxU B _ rd5).mono ?_
  rintro e w6 ⟨rfl, rd6, k6⟩
  have b6 := k6.below b05 b05.size (by simpa using hB')
  clear rd5 k6 b05
  go_wp2_with fail
  refine (fxS B _ rd6).mono ?_
  rintro e w7 ⟨rfl, rd7, k7⟩
  have b7 := k7.below b6 b6.size (by simpa using hB')
  clear rd6 k7 b6
  go_wp2_with fail
  refine (rLeft_is B _ _ _ rd7).mono ?_
  rintro e w8 ⟨rfl, rfl⟩
  go_wp2_with fail
  refine (rEnd_is B _ _ _ rd7).mono ?_
  rintro e w8 ⟨rfl, rfl⟩
  go_wp2
  go_ret
  exact ⟨rfl, b7⟩
theorem ne_blocks {w : World} {r d : Nat} {T U : TypeId} {zs ys : List Int} {f g : Int} (h : Rd w r T zs f) (k : Rd w d U ys g) (hT : T ≠ U) : r ≠ d := by
  intro e
  subst e
  obtain ⟨_, _, _, h1, _⟩ := h
  obtain ⟨_, _, _, h2, _⟩ := k
  rw [h1] at h2
  simp at h2
  exact hT h2.2
set_option maxHeartbeats 8000000 in
theorem play_is (r d : Nat) (zs : List Int) (f kind most : Int) (w : World) (hr : Rd w r 61 zs f) (hd : Rd w d 39 zs f) (hm1 : -9223372036854775808 ≤ most) (hm2 : most ≤ 9223372036854775807) :
    Calls Try.prog 17 #[.pointer (some ⟨r, 0, none⟩), .pointer (some ⟨d, 0, none⟩), .agg #[.int .i64 kind, .int .i64 most]] w fun e w' => e = .returned (.bool true) ∧ (∃ zs' f', Rd w' r 61 zs' f' ∧ Rd w' d 39 zs' f') ∧ Kept [r, d] w w' := by
  have hne := ne_blocks hr hd (by decide)
  have hal := bal w (.cells #[.int .i64 kind, .int .i64 most] 41)
  have hr0 : Hid (Rd (w.alloc (.cells #[.int .i64 kind, .int .i64 most] 41)) r 61 zs f) := hr.below hal
  have hd0 : Hid (Rd (w.alloc (.cells #[.int .i64 kind, .int .i64 most] 41)) d 39 zs f) := hd.below hal
  have hk0 : Kept [r, d] w (w.alloc (.cells #[.int .i64 kind, .int .i64 most] 41)) := Kept.of hal
  have hrw0 : r ≠ w.heap.size ∧ d ≠ w.heap.size := ⟨Nat.ne_of_lt hr.lt, Nat.ne_of_lt hd.lt⟩
  clear hr hd hal
  by_cases h1 : kind = 1
  · subst h1
    go_enter Try.func17, Try.ntmps17
    go_wp2_with fail
    refine (rU_is r zs f _ hr0.out).mono ?_
    rintro e w1 ⟨rfl, rd1, k1⟩
    have hd1 := hd0.out.kept k1 (by simpa using Ne.symm hne) (by simpa using hr0.out.noB)
    go_wp2_with fail
    refine (dU_is d zs f _ hd1).mono ?_
    rintro e w2 ⟨rfl, rd2, k2⟩
    have hr2 := rd1.kept k2 (by simpa using hne) (by simpa using hd1.noB)
    have hk := hk0.trans ((k1.wide (by simp)).trans (k2.wide (M := [r, d]) (by simp)))
    clear rd1 k1 k2 hd1 hr0 hd0 hk0
    go_wp2
    go_ret
    exact ⟨ret_bool (by simp), ⟨_, _, hr2, rd2⟩, hk⟩
  by_cases h2 : kind = 2
  · subst h2
    go_enter Try.func17, Try.ntmps17
    go_wp2_with fail
    refine (rS_is r zs f _ hr0.out).mono ?_
    rintro e w1 ⟨rfl, rd1, k1⟩
    have hd1 := hd0.out.kept k1 (by simpa using Ne.symm hne) (by simpa using hr0.out.noB)
    go_wp2_with fail
    refine (dS_is d zs f _ hd1).mono ?_
    rintro e w2 ⟨rfl, rd2, k2⟩
    have hr2 := rd1.kept k2 (by simpa using hne) (by simpa using hd1.noB)
    have hk := hk0.trans ((k1.wide (by simp)).trans (k2.wide (M := [r, d]) (by simp)))
    clear rd1 k1 k2 hd1 hr0 hd0 hk0
    go_wp2
    go_ret
    exact ⟨ret_bool (by simp), ⟨_, _, hr2, rd2⟩, hk⟩
  by_cases h3 : kind = 3
  · subst h3
    have hrw : Hid (r ≠ w.heap.size ∧ d ≠ w.heap.size) := ⟨hrw0.1, hrw0.2⟩
    have hRd : Hid (Rd (w.alloc (.cells #[.int .i64 3, .int .i64 most] 41)).drew r 61 zs f) := hr0.out.below (Below.refl _ _).drew
    have hDd : Hid (Rd (w.alloc (.cells #[.int .i64 3, .int .i64 most] 41)).drew d 39 zs f) := hd0.out.below (Below.refl _ _).drew
    have hkd : Hid (Kept [r, d] w (w.alloc (.cells #[.int .i64 3, .int .i64 most] 41)).drew) := hk0.trans (Kept.of (Below.refl _ _).drew)
    clear hr0 hd0 hk0 hrw0
    have cel : ∀ w' X, Kept [X] (w.alloc (.cells #[.int .i64 3, .int .i64 most] 41)).drew w' → X ≠ w.heap.size → ∀ i, w'.cell? ⟨w.heap.size, i, none⟩ = #[Value.int .i64 3, .int .i64 most][i]? := by
      intro w' X k hX i
      have h2 := k.2.2.2.2 w.heap.size (by simp [World.drew]) (by simpa using Ne.symm hX)
      rw [World.cell?_of_block (a := ⟨w.heap.size, i, none⟩) h2]
      exact (cells_at (T := 41) (heap_alloc_new w (.cells #[.int .i64 3, .int .i64 most] 41))).1 i
    go_enter Try.func17, Try.ntmps17
    go_wp2
    go_region_with (first
      | (go_at_call 24; refine (rN_is r zs f most _ hRd.out hm1 hm2).mono ?_; rintro e wA ⟨rfl, rdA, kA⟩; have cA := cel _ _ kA hrw.out.1; have dA := hDd.out.kept kA (by simpa using Ne.symm hne) (by simpa using hRd.out.noB))
      | (go_at_call 29; refine (dN_is d zs f most _ hDd.out hm1 hm2).mono ?_; rintro e wB ⟨rfl, rdB, kB⟩; have cB := cel _ _ kB hrw.out.2; have rB := hRd.out.kept kB (by simpa using hne) (by simpa using hDd.out.noB))
      | (go_at_call 24; refine (rN_is r zs f most _ rB hm1 hm2).mono ?_; rintro e wC ⟨rfl, rdC, kC⟩; have fin := rdB.kept kC (by simpa using Ne.symm hne) (by simpa using rB.noB); have fin2 := hkd.out.trans ((kB.wide (by simp)).trans (kC.wide (M := [r, d]) (by simp))))
      | (go_at_call 29; refine (dN_is d zs f most _ dA hm1 hm2).mono ?_; rintro e wC ⟨rfl, rdC, kC⟩; have fin := rdA.kept kC (by simpa using hne) (by simpa using dA.noB); have fin2 := hkd.out.trans ((kA.wide (by simp)).trans (kC.wide (M := [r, d]) (by simp)))))
    all_goals
      go_wp2
      go_ret
      first
        | exact ⟨ret_bool (by simp), ⟨_, _, fin, rdC⟩, fin2⟩
        | exact ⟨ret_bool (by simp), ⟨_, _, rdC, fin⟩, fin2⟩
  by_cases h4 : kind = 4
  · subst h4
    obtain ⟨a, len, cap, hB, hrow⟩ := hd0.out
    obtain ⟨cB, fB, zB⟩ := cells_at hB
    have hlen : zs.length = len := hrow.1
    have hL : Hid (∀ n, Calls Try.prog 18 #[.pointer (some ⟨r, 0, none⟩)] ((w.alloc (.cells #[.int .i64 4, .int .i64 most] 41)).drewN n) fun e w' => e = .returned (.int .i64 (len : Nat)) ∧ w' = ((w.alloc (.cells #[.int .i64 4, .int .i64 most] 41)).drewN n)) := fun n => by
      have := rLeft_is r zs f _ (hr0.out.below (dbel _ n)); rw [hlen] at this; exact this
    clear hB hrow hlen
    go_enter Try.func17, Try.ntmps17
    go_wp2
    go_quiet ((go_at_call 18; exact Calls.quiet_of_same (hL.out _)))
    go_wp2
    go_ret
    exact ⟨ret_bool (by simp), ⟨_, _, hr0.out.below (dbel _ _), hd0.out.below (dbel _ _)⟩, hk0.trans (Kept.of (dbel _ _))⟩
  by_cases h5 : kind = 5
  · subst h5
    obtain ⟨a, len, cap, hB, hrow⟩ := hd0.out
    obtain ⟨cB, fB, zB⟩ := cells_at hB
    have hL : Hid (∀ n, Calls Try.prog 23 #[.pointer (some ⟨r, 0, none⟩)] ((w.alloc (.cells #[.int .i64 5, .int .i64 most] 41)).drewN n) fun e w' => e = .returned (.int .i64 f) ∧ w' = ((w.alloc (.cells #[.int .i64 5, .int .i64 most] 41)).drewN n)) := fun n =>
      rErr_is r zs f _ (hr0.out.below (dbel _ n))
    clear hB hrow
    go_enter Try.func17, Try.ntmps17
    go_wp2
    go_quiet ((go_at_call 23; exact Calls.quiet_of_same (hL.out _)))
    go_wp2
    go_ret
    exact ⟨ret_bool (by simp), ⟨_, _, hr0.out.below (dbel _ _), hd0.out.below (dbel _ _)⟩, hk0.trans (Kept.of (dbel _ _))⟩
  by_cases h6 : kind = 6
  · subst h6
    go_enter Try.func17, Try.ntmps17
    go_wp2_with fail
    refine (rEnd_is r zs f _ hr0.out).mono ?_
    rintro e w1 ⟨rfl, rfl⟩
    go_wp2_with fail
    refine (dEnd_is d zs f _ hd0.out).mono ?_
    rintro e w2 ⟨rfl, rfl⟩
    go_wp2
    go_ret
    exact ⟨ret_bool (by simp), ⟨_, _, hr0.out, hd0.out⟩, hk0⟩
  go_enter Try.func17, Try.ntmps17
  go_wp2
  go_ret
  exact ⟨rfl, ⟨_, _, hr0.out, hd0.out⟩, hk0⟩
end Go.Proofs.Ytejdepnfilelbaa
