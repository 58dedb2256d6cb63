/- The walk of WireReads. -/
import Derived.Test.YtejdepnfilelbaaWirU
namespace Go.Proofs.Ytejdepnfilelbaa
open Go.ChangeShapes Go.WideShapes Go.ChangeAt Go.RowKit Go.BigFrame
set_option maxHeartbeats 8000000 in
set_option maxRecDepth 1000000 in
theorem wireReads_walk (a0 : Option Addr) (len0 cap0 : Nat) (z0 : List Int) (a1 : Option Addr) (len1 cap1 : Nat) (z1 : List Int) (a2 : Option Addr) (len2 cap2 : Nat) (z2 : List (Int × Int)) (w : World)
    (w0 : IRow .u8 w a0 len0 cap0 z0) (r0 : len0 * 1 ≤ 140737488351232) (w1 : IRow .u8 w a1 len1 cap1 z1) (r1 : len1 * 1 ≤ 140737488351232) (w2 : PRow .i64 .i64 w a2 len2 cap2 z2) (_r2 : len2 * 16 ≤ 140737488351232) :
    Calls Try.prog 4 #[.slice a0 len0 cap0, .slice a1 len1 cap1, .slice a2 len2 cap2] w fun e w' => e = .returned (.bool true) ∧ Below w.heap.size w w' := by
  have row0 := w0.row
  have row1 := w1.row
  obtain ⟨hn2, hm2⟩ := w2.nn
  clear w0 w1
  go_enter Try.func4, Try.ntmps4
  go_wp2_with fail
  refine (new_is _ _ _ _ _ row0 (by omega)).mono ?_
  rintro e wa ⟨R, rfl, rdR, hR, ba⟩
  have lR := rdR.lt
  go_wp2_with fail
  refine (new_is _ _ _ _ _ (row1.below ba) (by omega)).mono ?_
  rintro e wb ⟨S, rfl, rdS, hS, bb⟩
  have rdR1 := rdR.below bb
  have b1 := bt ba bb
  clear rdR bb
  go_wp2_with fail
  refine (fixed_is _).mono ?_
  rintro e wc ⟨rfl, bc⟩
  have rdR2 := rdR1.below bc
  have rdS2 := rdS.below bc
  have b2 := bt b1 bc
  clear rdR1 rdS bc b1 ba
  go_wp2_with fail
  refine (joined_is _ _ _ _ _ _ _ [] _ (row0.below b2) (row_nil _) (by omega)).mono ?_
  rintro e wd ⟨v, rfl, own, _, bd⟩
  rw [List.append_nil] at own
  obtain ⟨ax, cx, rfl, rowx, _⟩ := own.row
  have rdR3 := rdR2.below bd
  have rdS3 := rdS2.below bd
  have b3 := bt b2 bd
  clear own rdR2 rdS2 bd b2
  have rdX := rd_new wd rowx 0 39
  have bX := bal wd (.cells #[.slice ax z0.length cx, .int .i64 0] 39)
  have rdR4 := rdR3.below bX
  have rdS4 := rdS3.below bX
  have b4 := bt b3 bX
  have hX : w.heap.size ≤ wd.heap.size := b3.size
  have lX : wd.heap.size < (wd.alloc (.cells #[.slice ax z0.length cx, .int .i64 0] 39)).heap.size := by simp
  clear rdR3 rdS3 bX b3 rowx
  go_wp2_with fail
  refine (joined_is _ _ _ _ _ _ _ [] _ (row1.below b4) (row_nil _) (by omega)).mono ?_
  rintro e wf ⟨v, rfl, own, _, bf⟩
  rw [List.append_nil] at own
  obtain ⟨ay, cy, rfl, rowy, _⟩ := own.row
  have rdR5 := rdR4.below bf
  have rdS5 := rdS4.below bf
  have rdX5 := rdX.below bf
  have b5 := bt b4 bf
  have hY : wd.heap.size < wf.heap.size := Nat.lt_of_lt_of_le lX bf.size
  clear own rdR4 rdS4 rdX bf b4 lX
  have rdY := rd_new wf rowy 0 39
  have bY := bal wf (.cells #[.slice ay z1.length cy, .int .i64 0] 39)
  have rdR6 := rdR5.below bY
  have rdS6 := rdS5.below bY
  have rdX6 := rdX5.below bY
  have b6 := bt b5 bY
  have hRS : R ≠ S := by omega
  have hSw : w.heap.size ≤ S := by omega
  have hYw : w.heap.size ≤ wf.heap.size := b5.size
  clear rdR5 rdS5 rdX5 bY b5 rowy row0 row1 hS lR
  go_wp2
  have hXY : wd.heap.size ≠ wf.heap.size := Nat.ne_of_lt hY
  go_loopw [37] (fun i wr => ∃ (k : Nat) (zs ys : List Int) (f g : Int), k ≤ len2 ∧ i = .int .i64 k ∧ Rd wr R 61 zs f ∧ Rd wr wd.heap.size 39 zs f ∧ Rd wr S 61 ys g ∧ Rd wr wf.heap.size 39 ys g ∧ Below w.heap.size w wr) (fun i _ => len2 - (intOf i).toNat)
  case atStart => exact ⟨0, _, _, _, _, Nat.zero_le _, rfl, rdR6, rdX6, rdS6, rdY, b6⟩
  case round =>
    obtain ⟨k, zs, ys, f, g, hk, rfl, hr, hx, hs, hy, hb⟩ := hrel
    clear rdR6 rdX6 rdS6 rdY b6
    by_cases hlt : k < len2
    · obtain ⟨x, p, q, rfl, c0, c1, q1, q2⟩ := w2.at hb hlt
      have bal1 := bal wr (.cells #[.int .i64 p, .int .i64 q] 41)
      have hr1 := hr.below bal1
      have hx1 := hx.below bal1
      have hs1 := hs.below bal1
      have hy1 := hy.below bal1
      have hb1 := hb.trans (bal1.mono hb.size)
      have lR := hr.lt
      have lX := hx.lt
      have n1 := ne_blocks hs hx (by decide)
      have n2 := ne_blocks hr hy (by decide)
      clear hr hx hs hy hb bal1
      go_wp2_with fail
      refine (play_is R wd.heap.size zs f p q _ hr1 hx1 q1 q2).mono ?_
      rintro e w1 ⟨rfl, ⟨zs', f', hr2, hx2⟩, k1⟩
      have hs2 := hs1.kept k1 (by simp; exact ⟨Ne.symm hRS, n1⟩) (by simpa using ⟨hr1.noB, hx1.noB⟩)
      have hy2 := hy1.kept k1 (by simp; exact ⟨Ne.symm n2, Ne.symm hXY⟩) (by simpa using ⟨hr1.noB, hx1.noB⟩)
      have hb2 := k1.below hb1 hb1.size (by simpa using ⟨hR, hX⟩)
      have cl := k1.cells (by simpa using ⟨lR, lX⟩)
      clear hr1 hx1 hs1 hy1 hb1 k1 lR lX c0 c1
      by_cases h3 : (k : Int) % 3 = 2
      · go_wp2_with fail
        refine (play_is S wf.heap.size ys g p q _ hs2 hy2 q1 q2).mono ?_
        rintro e w3 ⟨rfl, ⟨ys', g', hs3, hy3⟩, k3⟩
        have hr3 := hr2.kept k3 (by simp; exact ⟨hRS, n2⟩) (by simpa using ⟨hs2.noB, hy2.noB⟩)
        have hx3 := hx2.kept k3 (by simp; exact ⟨Ne.symm n1, hXY⟩) (by simpa using ⟨hs2.noB, hy2.noB⟩)
        have hb3 := k3.below hb2 hb2.size (by simpa using ⟨hSw, hYw⟩)
        clear hr2 hx2 hs2 hy2 hb2 k3 cl
        go_wp2
        go_roundw
        case rel => exact ⟨k + 1, _, _, _, _, by omega, by go_num, hr3, hx3, hs3, hy3, hb3⟩
        case measure => simp [intOf]; omega
      · go_wp2
        go_roundw
        case rel => exact ⟨k + 1, _, _, _, _, by omega, by go_num, hr2, hx2, hs2, hy2, hb2⟩
        case measure => simp [intOf]; omega
    · have hLR : Hid (∀ n, Calls Try.prog 18 #[.pointer (some ⟨R, 0, none⟩)] (wr.drewN n) fun e w' => e = .returned (.int .i64 (zs.length : Nat)) ∧ w' = wr.drewN n) := fun n => rLeft_is R zs f _ (hr.below (dbel _ n))
      have hLS : Hid (∀ n, Calls Try.prog 18 #[.pointer (some ⟨S, 0, none⟩)] (wr.drewN n) fun e w' => e = .returned (.int .i64 (ys.length : Nat)) ∧ w' = wr.drewN n) := fun n => rLeft_is S ys g _ (hs.below (dbel _ n))
      have hER : Hid (∀ n, Calls Try.prog 19 #[.pointer (some ⟨R, 0, none⟩)] (wr.drewN n) fun e w' => e = .returned (.int .i64 (endR zs f)) ∧ w' = wr.drewN n) := fun n => rEnd_is R zs f _ (hr.below (dbel _ n))
      have hES : Hid (∀ n, Calls Try.prog 19 #[.pointer (some ⟨S, 0, none⟩)] (wr.drewN n) fun e w' => e = .returned (.int .i64 (endR ys g)) ∧ w' = wr.drewN n) := fun n => rEnd_is S ys g _ (hs.below (dbel _ n))
      have hEX : Hid (∀ n, Calls Try.prog 20 #[.pointer (some ⟨wd.heap.size, 0, none⟩)] (wr.drewN n) fun e w' => e = .returned (.int .i64 (endR zs f)) ∧ w' = wr.drewN n) := fun n => dEnd_is wd.heap.size zs f _ (hx.below (dbel _ n))
      have hEY : Hid (∀ n, Calls Try.prog 20 #[.pointer (some ⟨wf.heap.size, 0, none⟩)] (wr.drewN n) fun e w' => e = .returned (.int .i64 (endR ys g)) ∧ w' = wr.drewN n) := fun n => dEnd_is wf.heap.size ys g _ (hy.below (dbel _ n))
      obtain ⟨ax', lx', cx', hxB, hxr⟩ := hx
      obtain ⟨ay', ly', cy', hyB, hyr⟩ := hy
      obtain ⟨cX, fX, zX⟩ := cells_at hxB
      obtain ⟨cY, fY, zY⟩ := cells_at hyB
      rw [hxr.1] at hLR
      rw [hyr.1] at hLS
      clear hxB hyB hxr hyr hr hs
      go_wp2
      refine wp_region_quiet_lit (by kernel_rfl) (by kernel_rfl) ?_
      repeat (go_big_quiet_step ((go_at_call 18; exact Calls.quiet_of_same (hLR.out _))))
      repeat (go_big_quiet_step ((go_at_call 19; exact Calls.quiet_of_same (hER.out _))))
      repeat (go_big_quiet_step ((go_at_call 20; exact Calls.quiet_of_same (hEX.out _))))
      repeat (go_big_quiet_step ((go_at_call 18; exact Calls.quiet_of_same (hLS.out _))))
      repeat (go_big_quiet_step ((go_at_call 19; exact Calls.quiet_of_same (hES.out _))))
      repeat (go_big_quiet_step ((go_at_call 20; exact Calls.quiet_of_same (hEY.out _))))
      refine wpQuiet_nil ?_
      intro _ hw'
      obtain ⟨nq, rfl⟩ := hw'
      go_wp2
      go_ret
      exact ⟨ret_bool (by simp), hb.trans ((dbel _ _).mono hb.size)⟩
end Go.Proofs.Ytejdepnfilelbaa
