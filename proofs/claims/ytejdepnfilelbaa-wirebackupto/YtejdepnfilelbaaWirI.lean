/- The walk of WireBack, where what is read is of bounded bulk. -/
import Derived.Test.YtejdepnfilelbaaWirU
import Derived.Test.YtejdepnfilelbaaWirG
namespace Go.Proofs.Ytejdepnfilelbaa
open Go.ChangeShapes Go.WideShapes Go.ChangeAt Go.RowKit Go.BigFrame
def flatU (zs : List Int) : List Int := (zs.map fun z => putR z.toNat).flatten
def flatS (zs : List Int) : List Int := (zs.map fun z => putR (foldR z)).flatten
theorem flatU_snoc (zs : List Int) (z : Int) : flatU (zs ++ [z]) = flatU zs ++ putR z.toNat := by simp [flatU]
theorem flatS_snoc (zs : List Int) (z : Int) : flatS (zs ++ [z]) = flatS zs ++ putR (foldR z) := by simp [flatS]
theorem flatU_cons (zs : List Int) (z : Int) : flatU (z :: zs) = putR z.toNat ++ flatU zs := by simp [flatU]
theorem flatS_cons (zs : List Int) (z : Int) : flatS (z :: zs) = putR (foldR z) ++ flatS zs := by simp [flatS]
theorem IRow.at {k : IntKind} {w w' : World} {a : Option Addr} {len cap : Nat} {zs : List Int} (h : IRow k w a len cap zs) (b : Below w.heap.size w w') {i : Nat} (hi : i < len) :
    ∃ x z, a = some x ∧ w'.cell? (x.add i) = some (.int k z) ∧ (Lit.int k z).wf = true ∧ zs.drop i = z :: zs.drop (i + 1) ∧ zs.take (i + 1) = zs.take i ++ [z] := by
  obtain ⟨h1, h2, h3, h4, h5, h6⟩ := h
  have hi' : i < zs.length := by omega
  cases a with
  | none => have := h5 rfl; omega
  | some x =>
    have c0 := h6 x rfl i hi
    rw [List.getD_eq_getElem?_getD, List.getElem?_eq_getElem hi', Option.getD_some] at c0
    exact ⟨x, zs[i], rfl, (b.cell (World.block_lt_of_cell? w _ c0)).trans c0, h4 _ (List.getElem_mem hi'), List.drop_eq_getElem_cons hi', List.take_succ_eq_append_getElem hi'⟩
theorem IRow.nn {k : IntKind} {w : World} {a : Option Addr} {len cap : Nat} {zs : List Int} (h : IRow k w a len cap zs) : len ≤ cap ∧ cap ≤ 9223372036854775807 := by
  have := h.2.2.1
  unfold maxLen at this
  exact ⟨h.2.1, by omega⟩
theorem back_U (z : Nat) (hz : z < 18446744073709551616) (r : List Int) : frR (putR z ++ r) 0 = ((z : Int), (putR z).length, 0) := get_put hz r
theorem back_Z (z : Nat) (r : List Int) : aZ ((z : Int), (putR z).length, 0) (putR z ++ r) = r := by
  show (putR z ++ r).drop (putR z).length = r
  simp
set_option maxHeartbeats 2000000 in
set_option maxRecDepth 1000000 in
theorem wireBack_walk (a0 : Option Addr) (len0 cap0 : Nat) (z0 : List Int) (a1 : Option Addr) (len1 cap1 : Nat) (z1 : List Int) (w : World)
    (w0 : IRow .u64 w a0 len0 cap0 z0) (w1 : IRow .i64 w a1 len1 cap1 z1) (hu : len0 + len1 ≤ 1048576) :
    Calls Try.prog 5 #[.slice a0 len0 cap0, .slice a1 len1 cap1] w fun e w' => e = .returned (.bool true) ∧ Below w.heap.size w w' := by
  have hl0 : Hid (z0.length = len0) := w0.1
  have hl1 : Hid (z1.length = len1) := w1.1
  obtain ⟨hn0, hm0⟩ := w0.nn
  obtain ⟨hn1, hm1⟩ := w1.nn
  have hlow : Hid (∀ i, i < len0 → ∀ x, a0 = some x → (x.add i).block < w.heap.size) := fun i hi x hx => World.block_lt_of_cell? w _ (w0.2.2.2.2.2 x hx i hi)
  have hlow1 : Hid (∀ i, i < len1 → ∀ x, a1 = some x → (x.add i).block < w.heap.size) := fun i hi x hx => World.block_lt_of_cell? w _ (w1.2.2.2.2.2 x hx i hi)
  go_enter Try.func5, Try.ntmps5
  go_wp2_with fail
  refine (fixed_is _).mono ?_
  rintro e wa ⟨rfl, ba⟩
  go_wp2
  go_loopw [5, 15] (fun out i wr => ∃ (k : Nat) (ab : Option Addr) (lb cb : Nat), k ≤ len0 ∧ i = .int .i64 k ∧ out = .slice ab lb cb ∧ Row wr ab lb cb (flatU (z0.take k)) ∧ lb ≤ 10 * k ∧ k ≤ lb ∧ Below w.heap.size w wr) (fun _ i _ => len0 - (intOf i).toNat)
  case atStart => exact ⟨0, none, 0, 0, Nat.zero_le _, rfl, rfl, row_nil _, by omega, by omega, ba⟩
  case round =>
    obtain ⟨k, ab, lb, cb, hk, rfl, rfl, hr, h10, hkb, hb⟩ := hrel
    clear ba
    by_cases hlt : k < len0
    · obtain ⟨x, z, rfl, hc, hwf, hd, htk⟩ := w0.at hb hlt
      obtain ⟨q0, q1⟩ := u64_of_wf hwf
      obtain ⟨y, rfl⟩ := Int.eq_ofNat_of_zero_le q0
      have hy : y < 18446744073709551616 := by omega
      have hyl : Hid ((putR y).length ≤ 10 ∧ 0 < (putR y).length) := ⟨putR_ten hy, putR_pos y⟩
      have htk' : Hid (flatU (z0.take k) ++ putR y = flatU (z0.take (k + 1))) := by unfold Hid; rw [htk, flatU_snoc]; rfl
      have hlb : Hid ((flatU (z0.take k)).length = lb) := hr.1
      clear hwf hd htk q0 q1
      go_wp2_with fail
      refine (putU_is _ _ _ _ _ _ hr hy (by omega)).mono ?_
      rintro e w2 ⟨v, rfl, own, nn, b2⟩
      obtain ⟨bs, hbs⟩ : ∃ bs, flatU (z0.take (k + 1)) = bs := ⟨_, rfl⟩
      have hle : Hid (bs.length ≤ 10 * (k + 1) ∧ k + 1 ≤ bs.length) := by
        have := hyl.out; have := hlb.out; unfold Hid; rw [← hbs, ← htk'.out, List.length_append]; omega
      have hbs' : Hid (flatU (z0.take (k + 1)) = bs) := hbs
      rw [htk'.out, hbs] at own
      clear hbs
      obtain ⟨a', c', rfl, row', _⟩ := own.row
      have bb := bt hb b2
      clear own nn b2 hr hb
      go_wp2
      go_roundw
      case rel => exact ⟨k + 1, _, _, _, by omega, by go_num, rfl, by rw [hbs'.out]; exact row', hle.out.1, hle.out.2, bb⟩
      case measure => simp [intOf]; omega
    · obtain rfl : k = len0 := by omega
      rw [List.take_of_length_le (by rw [hl0.out]; omega)] at hr
      go_wp2
      go_loopw [5, 27] (fun out i wr => ∃ (j : Nat) (ab : Option Addr) (lb cb : Nat), j ≤ len1 ∧ i = .int .i64 j ∧ out = .slice ab lb cb ∧ Row wr ab lb cb (flatU z0 ++ flatS (z1.take j)) ∧ lb ≤ 10 * (k + j) ∧ k + j ≤ lb ∧ Below w.heap.size w wr) (fun _ i _ => len1 - (intOf i).toNat)
      case atStart => exact ⟨0, ab, lb, cb, Nat.zero_le _, rfl, rfl, by simpa [flatS] using hr, by omega, by omega, hb⟩
      case round =>
        clear hr hb h10 hkb hlt
        obtain ⟨j, ab, lb, cb, hj, rfl, rfl, hr, h10, hkb, hb⟩ := hrel
        by_cases hlt : j < len1
        · obtain ⟨x, z, rfl, hc, hwf, hd, htk⟩ := w1.at hb hlt
          obtain ⟨q0, q1⟩ := i64_of_wf hwf
          have hyl : Hid ((putR (foldR z)).length ≤ 10 ∧ 0 < (putR (foldR z)).length) := ⟨putR_ten (foldR_lt q0 q1), putR_pos _⟩
          have htk' : Hid (flatU z0 ++ flatS (z1.take j) ++ putR (foldR z) = flatU z0 ++ flatS (z1.take (j + 1))) := by unfold Hid; rw [htk, flatS_snoc, List.append_assoc]
          have hlb : Hid ((flatU z0 ++ flatS (z1.take j)).length = lb) := hr.1
          clear hwf hd htk
          go_wp2_with fail
          refine (putS_is _ _ _ _ _ _ hr q0 q1 (by omega)).mono ?_
          rintro e w2 ⟨v, rfl, own, nn, b2⟩
          obtain ⟨bs, hbs⟩ : ∃ bs, flatU z0 ++ flatS (z1.take (j + 1)) = bs := ⟨_, rfl⟩
          have hle : Hid (bs.length ≤ 10 * (k + (j + 1)) ∧ k + (j + 1) ≤ bs.length) := by
            have := hyl.out; have := hlb.out; unfold Hid; rw [← hbs, ← htk'.out, List.length_append]; omega
          have hbs' : Hid (flatU z0 ++ flatS (z1.take (j + 1)) = bs) := hbs
          rw [htk'.out, hbs] at own
          clear hbs
          obtain ⟨a', c', rfl, row', _⟩ := own.row
          have bb := bt hb b2
          clear own nn b2 hr hb
          go_wp2
          go_roundw
          case rel => exact ⟨j + 1, _, _, _, by omega, by go_num, rfl, by rw [hbs'.out]; exact row', hle.out.1, hle.out.2, bb⟩
          case measure => simp [intOf]; omega
        · obtain rfl : j = len1 := by omega
          rw [List.take_of_length_le (by rw [hl1.out]; omega)] at hr
          go_wp2_with fail
          refine (new_is _ _ _ _ _ hr (by omega)).mono ?_
          rintro e wc ⟨R, rfl, rdR, hR, bc⟩
          have b3 := bt hb bc
          have hRw : w.heap.size ≤ R := Nat.le_trans hb.size hR
          clear hr hb bc
          go_wp2
          go_loopw [43] (fun i wr => ∃ (i3 : Nat), i3 ≤ k ∧ i = .int .i64 i3 ∧ Rd wr R 61 (flatU (z0.drop i3) ++ flatS z1) 0 ∧ Below w.heap.size w wr) (fun i _ => k - (intOf i).toNat)
          case atStart => exact ⟨0, Nat.zero_le _, rfl, rdR, b3⟩
          case round =>
            clear rdR b3 hlt
            obtain ⟨i3, hi3, rfl, rd, hb⟩ := hrel
            by_cases hlt3 : i3 < k
            · obtain ⟨x, z, rfl, hc, hwf, hd, _⟩ := w0.at hb hlt3
              obtain ⟨q0, q1⟩ := u64_of_wf hwf
              obtain ⟨y, rfl⟩ := Int.eq_ofNat_of_zero_le q0
              have hy : y < 18446744073709551616 := by omega
              rw [hd, flatU_cons, List.append_assoc] at rd
              have hU := rU_is R _ _ _ (rd.below (Below.refl _ _).drew)
              rw [show ((y : Nat) : Int).toNat = y from rfl, back_U y hy, back_Z, show aX ((y : Int), (putR y).length, 0) = (y : Int) from rfl] at hU
              clear hwf hd q0 q1
              have hcel : ∀ w', Kept [R] wr.drew w' → w'.cell? (x.add i3) = some (.int .u64 (y : Int)) := by
                intro w' kk
                have hbl : (x.add i3).block < w.heap.size := hlow.out i3 hlt3 x rfl
                rw [World.cell?_of_block (w := wr.drew) (kk.2.2.2.2 _ (Nat.lt_of_lt_of_le hbl hb.size) (by simp; omega))]
                exact hc
              have hU' : Hid (Calls Try.prog 21 #[.pointer (some ⟨R, 0, none⟩)] wr.drew fun r w' => r = .returned (.int .u64 (y : Int)) ∧ Rd w' R 61 (flatU (z0.drop (i3 + 1)) ++ flatS z1) 0 ∧ Kept [R] wr.drew w') := hU
              clear hU
              go_wp2
              go_region_with (go_at_call 21; refine hU'.out.mono ?_; rintro e w1 ⟨rfl, rd1, k1⟩; have hc1 := hcel _ k1; have b1 := k1.below hb.drew hb.drew.size (by simpa using hRw))
              all_goals
                go_wp2
                go_roundw
                case rel => exact ⟨i3 + 1, by omega, by go_num, rd1, b1⟩
                case measure => simp [intOf]; omega
            · obtain rfl : i3 = k := by omega
              rw [List.drop_eq_nil_of_le (by rw [hl0.out]; omega), show flatU [] ++ flatS z1 = flatS z1 from rfl] at rd
              go_wp2
              go_loopw [56] (fun i wr => ∃ (i4 : Nat), i4 ≤ j ∧ i = .int .i64 i4 ∧ Rd wr R 61 (flatS (z1.drop i4)) 0 ∧ Below w.heap.size w wr) (fun i _ => j - (intOf i).toNat)
              case atStart => exact ⟨0, Nat.zero_le _, rfl, rd, hb⟩
              case round =>
                clear rd hb hlt3
                obtain ⟨i4, hi4, rfl, rd, hb⟩ := hrel
                by_cases hlt4 : i4 < j
                · obtain ⟨x, z, rfl, hc, hwf, hd, _⟩ := w1.at hb hlt4
                  obtain ⟨q0, q1⟩ := i64_of_wf hwf
                  rw [hd, flatS_cons] at rd
                  have hU := rS_is R _ _ _ (rd.below (Below.refl _ _).drew)
                  rw [back_U (foldR z) (foldR_lt q0 q1), back_Z, show aX ((foldR z : Int), (putR (foldR z)).length, 0) = (foldR z : Int) from rfl, unfR_foldR] at hU
                  clear hwf hd q0 q1
                  have hcel : ∀ w', Kept [R] wr.drew w' → w'.cell? (x.add i4) = some (.int .i64 z) := by
                    intro w' kk
                    have hbl : (x.add i4).block < w.heap.size := hlow1.out i4 hlt4 x rfl
                    rw [World.cell?_of_block (w := wr.drew) (kk.2.2.2.2 _ (Nat.lt_of_lt_of_le hbl hb.size) (by simp; omega))]
                    exact hc
                  have hU' : Hid (Calls Try.prog 22 #[.pointer (some ⟨R, 0, none⟩)] wr.drew fun r w' => r = .returned (.int .i64 z) ∧ Rd w' R 61 (flatS (z1.drop (i4 + 1))) 0 ∧ Kept [R] wr.drew w') := hU
                  clear hU
                  go_wp2
                  go_region_with (go_at_call 22; refine hU'.out.mono ?_; rintro e w1 ⟨rfl, rd1, k1⟩; have hc1 := hcel _ k1; have b1 := k1.below hb.drew hb.drew.size (by simpa using hRw))
                  all_goals
                    go_wp2
                    go_roundw
                    case rel => exact ⟨i4 + 1, by omega, by go_num, rd1, b1⟩
                    case measure => simp [intOf]; omega
                · rw [List.drop_eq_nil_of_le (by rw [hl1.out]; omega), show flatS [] = [] from rfl] at rd
                  go_wp2_with fail
                  refine (rLeft_is R _ _ _ rd).mono ?_
                  rintro e w5 ⟨rfl, rfl⟩
                  go_wp2_with fail
                  refine (rEnd_is R _ _ _ rd).mono ?_
                  rintro e w5 ⟨rfl, rfl⟩
                  go_wp2
                  go_ret
                  exact ⟨ret_bool (by simp; omega), hb⟩
end Go.Proofs.Ytejdepnfilelbaa
