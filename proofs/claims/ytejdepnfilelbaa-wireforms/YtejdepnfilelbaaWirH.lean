/- The walk of WireForms. -/
import Derived.Test.YtejdepnfilelbaaWirW
import Derived.Test.YtejdepnfilelbaaWirG
namespace Go.Proofs.Ytejdepnfilelbaa
open Go.ChangeShapes Go.WideShapes Go.ChangeAt Go.RowKit Go.BigFrame
set_option maxHeartbeats 2000000 in
set_option maxRecDepth 1000000 in
theorem wireForms_walk (a0 : Option Addr) (len0 cap0 : Nat) (z0 : List Int) (a1 : Int) (w : World)
    (w0 : IRow .u8 w a0 len0 cap0 z0) (r0 : len0 * 1 ≤ 140737488351232) (w1 : (Lit.int .u64 a1).wf = true) :
    Calls Try.prog 6 #[.slice a0 len0 cap0, .int .u64 a1] w fun e w' => e = .returned (.bool true) ∧ Below w.heap.size w w' := by
  have row0 := w0.row
  have hlen : Hid (z0.length = len0) := row0.1
  have hcap := row0.2.1
  have hcm := row0.2.2.1
  unfold maxLen at hcm
  obtain ⟨u0, u1⟩ := u64_of_wf w1
  obtain ⟨x, rfl⟩ := Int.eq_ofNat_of_zero_le u0
  have hx : x < 18446744073709551616 := by omega
  obtain ⟨nt, hnt⟩ : ∃ nt, (putR x).length = nt + 1 := ⟨(putR x).length - 1, by have := putR_pos x; omega⟩
  have hpl : Hid ((putR x).length = nt + 1) := hnt
  have hnt9 : nt ≤ 9 := by have := putR_ten hx; omega
  have hpt : Hid (((putR x).take nt).length = nt) := by unfold Hid; simp; omega
  have hsh : Hid (getR ((putR x).take nt) = (0, 0, 40)) := get_short hx hnt
  clear w0 w1 u0 u1 hnt
  go_enter Try.func6, Try.ntmps6
  go_wp2_with fail
  refine (new_is _ _ _ _ _ row0 (by omega)).mono ?_
  rintro e wa ⟨R, rfl, rdR, hR, ba⟩
  go_wp2_with fail
  refine (fixed_is _).mono ?_
  rintro e wb ⟨rfl, bb⟩
  have rdR1 := rdR.below bb
  have b1 := bt ba bb
  clear rdR ba bb
  go_wp2
  go_loopw [6] (fun i wr => ∃ (k n m : Nat) (ys : List Int), k ≤ 50 ∧ i = .int .i64 k ∧ n + m = len0 ∧ z0.drop n = ys ∧ Rd wr R 61 ys 0 ∧ Below w.heap.size w wr) (fun i _ => 50 - (intOf i).toNat)
  case atStart => exact ⟨0, 0, len0, z0, by omega, rfl, by omega, rfl, rdR1, b1⟩
  case round =>
    obtain ⟨k, n, m, ys, hk, rfl, hnm, hys, rd, hb⟩ := hrel
    have hys' : Hid (z0.drop n = ys) := hys
    have hm : Hid (ys.length = m) := by unfold Hid; rw [← hys]; simp [hlen.out]; omega
    clear rdR1 b1 hys
    subst hnm
    by_cases hlt : k < 50
    · have hL := rLeft_is R _ _ _ rd
      rw [hm.out] at hL
      go_wp2_with fail
      refine hL.mono ?_
      rintro e w1 ⟨rfl, rfl⟩
      clear hL
      have hU := rU_is R _ _ _ rd
      rw [show frR ys 0 = getR ys from rfl] at hU
      have hby := rd.byt
      by_cases he : (getR ys).2.2 = 0
      · obtain ⟨y, h1, h2, h3, h4⟩ := get_form hby he
        have h5 : (getR ys).2.1 ≤ m := by
          rcases frR_out hby 0 with ⟨_, _, _, _, h⟩ | ⟨h, _⟩
          · rw [← hm.out]; exact h
          · exact absurd he h
        obtain ⟨v, c, e0, hg⟩ : ∃ v c e0, getR ys = (v, c, e0) := ⟨_, _, _, rfl⟩
        rw [hg] at hU he h1 h2 h3 h5
        simp only at he h1 h2 h3 h5
        subst he
        subst h1
        have h2' : Hid (ys.take c = putR y) := h2
        rw [show aX ((y : Int), c, (0 : Int)) = (y : Int) from rfl] at hU
        clear hg h2 hby
        go_wp2_with fail
        refine hU.mono ?_
        rintro e w1 ⟨rfl, rd1, k1⟩
        have rd1' : Rd w1 R 61 (ys.drop c) 0 := rd1
        have b1 := k1.below hb hb.size (by simpa using hR)
        clear hU rd1 k1 rd hb
        go_wp2_with fail
        refine (rErr_is R _ _ _ rd1').mono ?_
        rintro e w2 ⟨rfl, rfl⟩
        have hL := rLeft_is R _ _ _ rd1'
        rw [show (ys.drop c).length = m - c by rw [List.length_drop, hm.out]] at hL
        go_wp2_with fail
        refine hL.mono ?_
        rintro e w2 ⟨rfl, rfl⟩
        go_wp2_with fail
        refine hL.mono ?_
        rintro e w2 ⟨rfl, rfl⟩
        go_wp2_with fail
        refine (putU_is none 0 0 [] y _ (row_nil _) h4 (by omega)).mono ?_
        rintro e w3 ⟨v, rfl, own3, nn3, b3⟩
        rw [List.nil_append] at own3
        obtain ⟨a3, c3, rfl, row3, _⟩ := own3.row
        have hL3 := rLeft_is R _ _ _ (rd1'.below b3)
        rw [show (ys.drop c).length = m - c by rw [List.length_drop, hm.out]] at hL3
        have rd3 := rd1'.below b3
        have b13 := bt b1 b3
        have rowS := ((row0.below b13).drop (n := n) (a' := a0.map (·.add n)) (by omega) (fun x hx _ => by rw [hx]; rfl) (fun hx => by rw [hx]; rfl)).take (n := c) (by omega)
        rw [hys'.out, h2'.out] at rowS
        clear hL own3 nn3 rd1' b3 b1
        go_wp2_with fail
        refine hL3.mono ?_
        rintro e w4 ⟨rfl, rfl⟩
        clear hL3
        go_wp2_with fail
        rw [show n + m - (m - c) - n = c by omega]
        refine (same_is _ _ _ _ _ _ _ _ _ row3 rowS).mono ?_
        rintro e w5 ⟨rfl, n5, rfl⟩
        have rd5 := rd3.below (dbel w4 n5)
        have b5 := bt b13 (dbel w4 n5)
        clear rd3 b13 row3 rowS
        go_wp2
        go_roundw
        case rel => exact ⟨k + 1, n + c, m - c, ys.drop c, by omega, by go_num, by omega, by rw [← hys'.out, List.drop_drop], rd5, b5⟩
        case measure => simp [intOf]; omega
      · obtain ⟨v, c, e0, hg⟩ : ∃ v c e0, getR ys = (v, c, e0) := ⟨_, _, _, rfl⟩
        rw [hg] at hU he
        simp only at he
        rw [show aX (v, c, e0) = 0 from if_neg he, show aZ (v, c, e0) ys = ys from if_neg he] at hU
        clear hg hby
        go_wp2_with fail
        refine hU.mono ?_
        rintro e w1 ⟨rfl, rd1, k1⟩
        have rd1' : Rd w1 R 61 ys e0 := rd1
        have b1 := k1.below hb hb.size (by simpa using hR)
        clear hU rd1 k1 rd hb
        go_wp2_with fail
        refine (rErr_is R _ _ _ rd1').mono ?_
        rintro e w2 ⟨rfl, rfl⟩
        have hL := rLeft_is R _ _ _ rd1'
        rw [hm.out] at hL
        go_wp2_with fail
        refine hL.mono ?_
        rintro e w2 ⟨rfl, rfl⟩
        clear hL
        have hU2 := rU_is R _ _ _ rd1'
        rw [frR_bad he, show aX (0, 0, e0) = 0 from if_neg he, show aZ (0, 0, e0) ys = ys from if_neg he] at hU2
        go_wp2_with fail
        refine hU2.mono ?_
        rintro e w3 ⟨rfl, rd3, k3⟩
        have rd3' : Rd w3 R 61 ys e0 := rd3
        have b3 := k3.below b1 b1.size (by simpa using hR)
        clear hU2 rd3 k3 rd1' b1
        have hS3 := rS_is R _ _ _ rd3'
        rw [frR_bad he, show aX (0, 0, e0) = 0 from if_neg he, show aZ (0, 0, e0) ys = ys from if_neg he, show unfR 0 = 0 from rfl] at hS3
        go_wp2_with fail
        refine hS3.mono ?_
        rintro e w4 ⟨rfl, rd4, k4⟩
        have rd4' : Rd w4 R 61 ys e0 := rd4
        have b4 := k4.below b3 b3.size (by simpa using hR)
        clear hS3 rd4 k4 rd3' b3
        have hN4 := rN_is R _ _ 9 _ rd4' (by omega) (by omega)
        rw [frR_bad he, show cut 9 (0, 0, e0) = (0, 0, e0) from if_neg (by simp [he]), show aX (0, 0, e0) = 0 from if_neg he] at hN4
        go_wp2_with fail
        refine hN4.mono ?_
        rintro e w5 ⟨rfl, _, k5⟩
        have b9 := k5.below b4 b4.size (by simpa using hR)
        clear hN4 k5 rd4' b4
        go_wp2_with fail
        refine (putU_is none 0 0 [] x _ (row_nil _) hx (by omega)).mono ?_
        rintro e wt ⟨v, rfl, ownT, nnT, bt1⟩
        rw [List.nil_append] at ownT
        obtain ⟨gt, ct, rfl, hgt, hgtl, hgtn, hgtm⟩ := ownT.slice hpl.out nnT
        have rowT := (ownT.facts.2.2.2.2.2.1).take (n := nt) (by omega)
        unfold maxLen at hgtm
        have bT := b9.trans (bt1.mono b9.size)
        clear ownT nnT bt1
        go_wp2_with fail
        refine (new_is _ _ _ _ _ rowT (by omega)).mono ?_
        rintro e wu ⟨U, rfl, rdU, hU, bu⟩
        have bU := bT.trans (bu.mono bT.size)
        have hUw : w.heap.size ≤ U := Nat.le_trans bT.size hU
        clear rowT bu bT
        have hUu := rU_is U _ _ _ rdU
        rw [show frR ((putR x).take nt) 0 = (0, 0, 40) from hsh.out] at hUu
        go_wp2_with fail
        refine hUu.mono ?_
        rintro e wv ⟨rfl, rdV, kv⟩
        have bV := kv.below bU bU.size (by simpa using hUw)
        have rdV' : Rd wv U 61 ((putR x).take nt) 40 := rdV
        clear rdU rdV hUu kv bU
        go_wp2_with fail
        refine (rErr_is U _ _ _ rdV').mono ?_
        rintro e wx ⟨rfl, rfl⟩
        have hLf := rLeft_is U _ _ _ rdV'
        rw [show ((putR x).take nt).length = nt from hpt.out] at hLf
        go_wp2_with fail
        refine hLf.mono ?_
        rintro e wx ⟨rfl, rfl⟩
        clear hLf rdV'
        go_wp2
        go_ret
        exact ⟨ret_bool (by simp), bV⟩
    · clear rd
      go_wp2_with fail
      refine (putU_is none 0 0 [] x _ (row_nil _) hx (by omega)).mono ?_
      rintro e wt ⟨v, rfl, ownT, nnT, bt1⟩
      rw [List.nil_append] at ownT
      obtain ⟨gt, ct, rfl, hgt, hgtl, hgtn, hgtm⟩ := ownT.slice hpl.out nnT
      have rowT := (ownT.facts.2.2.2.2.2.1).take (n := nt) (by omega)
      unfold maxLen at hgtm
      have bT := hb.trans (bt1.mono hb.size)
      clear ownT nnT bt1
      go_wp2_with fail
      refine (new_is _ _ _ _ _ rowT (by omega)).mono ?_
      rintro e wu ⟨U, rfl, rdU, hU, bu⟩
      have bU := bT.trans (bu.mono bT.size)
      have hUw : w.heap.size ≤ U := Nat.le_trans bT.size hU
      clear rowT bu bT
      have hUu := rU_is U _ _ _ rdU
      rw [show frR ((putR x).take nt) 0 = (0, 0, 40) from hsh.out] at hUu
      go_wp2_with fail
      refine hUu.mono ?_
      rintro e wv ⟨rfl, rdV, kv⟩
      have bV := kv.below bU bU.size (by simpa using hUw)
      have rdV' : Rd wv U 61 ((putR x).take nt) 40 := rdV
      clear rdU rdV hUu kv bU
      go_wp2_with fail
      refine (rErr_is U _ _ _ rdV').mono ?_
      rintro e wx ⟨rfl, rfl⟩
      have hLf := rLeft_is U _ _ _ rdV'
      rw [show ((putR x).take nt).length = nt from hpt.out] at hLf
      go_wp2_with fail
      refine hLf.mono ?_
      rintro e wx ⟨rfl, rfl⟩
      clear hLf rdV'
      go_wp2
      go_ret
      exact ⟨ret_bool (by simp), bV⟩
end Go.Proofs.Ytejdepnfilelbaa
