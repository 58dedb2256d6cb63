/- At, Set, View, Ends of a buffer: each for every argument. -/
import Derived.Test.YtedbcnkgembhbaaBufC
namespace Go.Proofs.Ytedbcnkgembhbaa
open Go.ChangeShapes Go.WideShapes Go.ChangeAt Go.RowKit
def loF (z : Int) (l : List Int) : Int := l.foldl (fun a x => if x < a then x else a) z
def hiF (z : Int) (l : List Int) : Int := l.foldl (fun a x => if a < x then x else a) z
theorem loF_step {zs : List Int} {k : Nat} {z c : Int} (h : zs[k]? = some c) : loF z (zs.take (k + 1)) = if c < loF z (zs.take k) then c else loF z (zs.take k) := by
  unfold loF; rw [List.take_add_one, h]; simp [List.foldl_append]
theorem hiF_step {zs : List Int} {k : Nat} {z c : Int} (h : zs[k]? = some c) : hiF z (zs.take (k + 1)) = if hiF z (zs.take k) < c then c else hiF z (zs.take k) := by
  unfold hiF; rw [List.take_add_one, h]; simp [List.foldl_append]
theorem place_ok_i8 (B b : Nat) (h u c : Int) (zs : List Int) (i : Nat) (w : World) (f : Bf .i8 31 81 w B b h u c zs) (hi : i < zs.length) :
    Calls Try.prog 50 #[.pointer (some ⟨B, 0, none⟩), .int .i64 i] w fun e w' => e = .returned (.int .i64 0) ∧ w' = w := by
  obtain ⟨n, cap, hB, own⟩ := f
  obtain ⟨cB, fB, zB⟩ := cells_at hB
  rw [own.len] at hi
  clear hB own
  go_enter Try.func50, Try.ntmps50
  go_wp2
  go_ret
  exact ⟨rfl, rfl⟩
theorem place_no_i8 (B b : Nat) (h u c : Int) (zs : List Int) (at1 : Int) (w : World) (f : Bf .i8 31 81 w B b h u c zs) (hi : at1 < 0 ∨ (zs.length : Int) ≤ at1) :
    Calls Try.prog 50 #[.pointer (some ⟨B, 0, none⟩), .int .i64 at1] w fun e w' => e = .returned (.int .i64 3) ∧ w' = w := by
  obtain ⟨n, cap, hB, own⟩ := f
  obtain ⟨cB, fB, zB⟩ := cells_at hB
  rw [own.len] at hi
  clear hB own
  by_cases h0 : at1 < 0
  · go_enter Try.func50, Try.ntmps50
    go_wp2
    go_ret
    exact ⟨rfl, rfl⟩
  · have h1 : (n : Int) ≤ at1 := by omega
    go_enter Try.func50, Try.ntmps50
    go_wp2
    go_ret
    exact ⟨rfl, rfl⟩
theorem at_no_i8 (B b : Nat) (h u c : Int) (zs : List Int) (at1 : Int) (w : World) (f : Bf .i8 31 81 w B b h u c zs) (hi : at1 < 0 ∨ (zs.length : Int) ≤ at1) :
    Calls Try.prog 33 #[.pointer (some ⟨B, 0, none⟩), .int .i64 at1] w fun e w' => e = .returned (.tuple #[.int .i8 0, .int .i64 3]) ∧ w' = w := by
  go_enter Try.func33, Try.ntmps33
  go_wp2_with fail
  refine (place_no_i8 _ _ _ _ _ _ _ _ f hi).mono ?_
  rintro e w1 ⟨rfl, rfl⟩
  go_wp2
  go_ret2
  exact ⟨rfl, rfl⟩
theorem at_ok_i8 (B b : Nat) (h u c : Int) (zs : List Int) (i : Nat) (z : Int) (w : World) (f : Bf .i8 31 81 w B b h u c zs) (hz : zs[i]? = some z) :
    Calls Try.prog 33 #[.pointer (some ⟨B, 0, none⟩), .int .i64 i] w fun e w' => e = .returned (.tuple #[.int .i8 z, .int .i64 0]) ∧ w' = w := by
  have hi : i < zs.length := (List.getElem?_eq_some_iff.1 hz).1
  have hp := place_ok_i8 _ _ _ _ _ _ _ _ f hi
  obtain ⟨n, cap, hB, own⟩ := f
  obtain ⟨cB, fB, zB⟩ := cells_at hB
  obtain ⟨hzl, -, -, hnc, hcm, row, -⟩ := own.facts
  rw [hzl] at hi
  obtain ⟨x, d, hx, hc, -, hzd, -⟩ := row.at hi
  obtain rfl := Option.some.inj hx
  obtain rfl : z = d := by rw [hzd] at hz; exact (Option.some.inj hz).symm
  rw [Addr.add_lit, Nat.zero_add] at hc
  clear hB own row hzl hz hzd hx
  go_enter Try.func33, Try.ntmps33
  go_wp2_with fail
  refine hp.mono ?_
  rintro e w1 ⟨rfl, rfl⟩
  go_wp2
  go_ret2
  exact ⟨rfl, rfl⟩
theorem set_no_i8 (B b : Nat) (h u c : Int) (zs : List Int) (at1 v : Int) (w : World) (f : Bf .i8 31 81 w B b h u c zs) (hi : at1 < 0 ∨ (zs.length : Int) ≤ at1) :
    Calls Try.prog 32 #[.pointer (some ⟨B, 0, none⟩), .int .i64 at1, .int .i8 v] w fun e w' => e = .returned (.int .i64 3) ∧ w' = w := by
  go_enter Try.func32, Try.ntmps32
  go_wp2_with fail
  refine (place_no_i8 _ _ _ _ _ _ _ _ f hi).mono ?_
  rintro e w1 ⟨rfl, rfl⟩
  go_wp2
  go_ret
  exact ⟨rfl, rfl⟩
theorem set_ok_i8 (B b : Nat) (h u c : Int) (zs : List Int) (i : Nat) (v : Int) (w : World) (f : Bf .i8 31 81 w B b h u c zs) (hi : i < zs.length) (hv : (Lit.int .i8 v).wf = true) :
    Calls Try.prog 32 #[.pointer (some ⟨B, 0, none⟩), .int .i64 i, .int .i8 v] w fun e w' => e = .returned (.int .i64 0) ∧ Bf .i8 31 81 w' B b h u c (zs.set i v) ∧ Kept [b] w w' := by
  have hp := place_ok_i8 _ _ _ _ _ _ _ _ f hi
  have f' : Hid (Bf .i8 31 81 (w.setCell ⟨b, i, none⟩ (.int .i8 v)) B b h u c (zs.set i v)) := f.set hv (by decide)
  obtain ⟨n, cap, hB, own⟩ := f
  obtain ⟨cB, fB, zB⟩ := cells_at hB
  obtain ⟨hzl, -, -, hnc, hcm, row, fr⟩ := own.facts
  rw [hzl] at hi
  obtain ⟨x, d, hx, hc, -, -, -⟩ := row.at hi
  obtain rfl := Option.some.inj hx
  rw [Addr.add_lit, Nat.zero_add] at hc
  clear hB own row hzl hx
  go_enter Try.func32, Try.ntmps32
  go_wp2_with fail
  refine hp.mono ?_
  rintro e w1 ⟨rfl, rfl⟩
  go_wp2
  go_ret
  exact ⟨rfl, f'.out, Kept.set⟩
set_option maxHeartbeats 1000000 in
theorem view_no_i8 (B b : Nat) (h u c : Int) (zs : List Int) (p m : Int) (w : World) (f : Bf .i8 31 81 w B b h u c zs) (hi : p < 0 ∨ m < 0 ∨ (zs.length : Int) < p + m) :
    Calls Try.prog 22 #[.pointer (some ⟨B, 0, none⟩), .int .i64 p, .int .i64 m] w fun e w' => e = .returned (.tuple #[.slice none 0 0, .int .i64 3]) ∧ w' = w := by
  obtain ⟨n, cap, hB, own⟩ := f
  obtain ⟨cB, fB, zB⟩ := cells_at hB
  obtain ⟨hzl, -, -, hnc, hcm, -, -⟩ := own.facts
  rw [hzl] at hi
  clear hB own hzl
  by_cases h0 : p < 0
  · go_enter Try.func22, Try.ntmps22
    go_wp2
    go_ret2
    exact ⟨rfl, rfl⟩
  by_cases h1 : (n : Int) < p
  · go_enter Try.func22, Try.ntmps22
    go_wp2
    go_ret2
    exact ⟨rfl, rfl⟩
  by_cases h2 : m < 0
  · go_enter Try.func22, Try.ntmps22
    go_wp2
    go_ret2
    exact ⟨rfl, rfl⟩
  · have h3 : (n : Int) - p < m := by omega
    go_enter Try.func22, Try.ntmps22
    go_wp2
    go_ret2
    exact ⟨rfl, rfl⟩
set_option maxHeartbeats 1000000 in
theorem view_ok_i8 (B b : Nat) (h u c : Int) (zs : List Int) (p m : Nat) (w : World) (f : Bf .i8 31 81 w B b h u c zs) (hi : p + m ≤ zs.length) (hs : zs.length ≤ 1048576) :
    Calls Try.prog 22 #[.pointer (some ⟨B, 0, none⟩), .int .i64 p, .int .i64 m] w fun e w' => ∃ g, e = .returned (.tuple #[.slice (some ⟨g, 0, none⟩) m m, .int .i64 0]) ∧ Own .i8 31 w' w.heap.size (.slice (some ⟨g, 0, none⟩) m m) ((zs.drop p).take m) ∧ Below w.heap.size w w' := by
  obtain ⟨n, cap, hB, own⟩ := f
  obtain ⟨cB, fB, zB⟩ := cells_at hB
  obtain ⟨hzl, -, -, hnc, hcm, row, -⟩ := own.facts
  rw [hzl] at hi hs
  clear hB own hzl
  have row' : Hid (IRow .i8 w (some ⟨b, 0, none⟩) n cap zs) := row
  clear row
  go_enter Try.func22, Try.ntmps22
  go_wp2_with fail
  · have h0 : cap = p := by assumption
    have R := row'.out.cut (a' := some ⟨b, 0, none⟩) hi (fun x _ hx => absurd hx (by omega)) (fun h => by cases h)
    rw [show cap - p = 0 by omega] at R
    refine (copied_i8 _ _ _ _ _ R (by omega)).mono ?_
    rintro e w1 ⟨g, rfl, own1, b1⟩
    have own2 : Hid (Own .i8 31 w1 w.heap.size (.slice (some ⟨g, 0, none⟩) m m) ((zs.drop p).take m)) := own1
    clear own1
    go_wp2
    go_ret2
    exact ⟨g, rfl, own2.out, b1⟩
  · have R := row'.out.cut (a' := some ⟨b, p, none⟩) hi (fun x hx _ => by rw [← Option.some.inj hx, Addr.add_lit, Nat.zero_add]) (fun h => by cases h)
    refine (copied_i8 _ _ _ _ _ R (by omega)).mono ?_
    rintro e w1 ⟨g, rfl, own1, b1⟩
    have own2 : Hid (Own .i8 31 w1 w.heap.size (.slice (some ⟨g, 0, none⟩) m m) ((zs.drop p).take m)) := own1
    clear own1
    go_wp2
    go_ret2
    exact ⟨g, rfl, own2.out, b1⟩
set_option maxHeartbeats 2000000 in
theorem ends_i8 (B b : Nat) (h u c : Int) (zs : List Int) (z0 : Int) (w : World) (f : Bf .i8 31 81 w B b h u c zs) (hz : zs[0]? = some z0) :
    Calls Try.prog 34 #[.pointer (some ⟨B, 0, none⟩)] w fun e w' => e = .returned (.tuple #[.int .i8 (loF z0 zs), .int .i8 (hiF z0 zs), .bool true]) ∧ ∃ n, w' = w.drewN n := by
  have h0 : 0 < zs.length := (List.getElem?_eq_some_iff.1 hz).1
  have hp := len_i8 _ _ _ _ _ _ _ f
  obtain ⟨n, cap, hB, own⟩ := f
  obtain ⟨cB, fB, zB⟩ := cells_at hB
  obtain ⟨hzl, -, -, hnc, hcm, row, -⟩ := own.facts
  rw [hzl] at h0 hp
  have hzl' : Hid (zs.length = n) := hzl
  obtain ⟨x, d, hx, hc, -, hzd, -⟩ := row.at h0
  obtain rfl := Option.some.inj hx
  obtain rfl : z0 = d := by rw [hzd] at hz; exact (Option.some.inj hz).symm
  rw [Addr.add_lit, Nat.zero_add] at hc
  have row' : Hid (IRow .i8 w (some ⟨b, 0, none⟩) n cap zs) := row
  clear hB own row hzl hz hzd hx
  go_enter Try.func34, Try.ntmps34
  go_wp2_with fail
  refine hp.mono ?_
  rintro e w1 ⟨rfl, rfl⟩
  go_wp2
  go_quiet (fail)
  go_wp2
  go_loopw [5, 6, 29] (fun lo hi i wr => ∃ (k q : Nat), k ≤ n ∧ i = .int .i64 k ∧ lo = .int .i8 (loF z0 (zs.take k)) ∧ hi = .int .i8 (hiF z0 (zs.take k)) ∧ wr = w1.drewN q) (fun _ _ i _ => n - (intOf i).toNat)
  case atStart => exact ⟨0, _, Nat.zero_le _, rfl, rfl, rfl, rfl⟩
  case round =>
    obtain ⟨k, q, hk, rfl, rfl, rfl, rfl⟩ := hrel
    by_cases hlt : k < n
    · obtain ⟨x, d, hx, hck, -, hzk, -⟩ := row'.out.at hlt
      obtain rfl := Option.some.inj hx
      rw [Addr.add_lit, Nat.zero_add] at hck
      have hL : Hid (loF z0 (zs.take (k + 1)) = if d < loF z0 (zs.take k) then d else loF z0 (zs.take k)) := loF_step hzk
      have hH : Hid (hiF z0 (zs.take (k + 1)) = if hiF z0 (zs.take k) < d then d else hiF z0 (zs.take k)) := hiF_step hzk
      obtain ⟨l, hl⟩ : ∃ l, loF z0 (zs.take k) = l := ⟨_, rfl⟩
      obtain ⟨m, hm⟩ : ∃ m, hiF z0 (zs.take k) = m := ⟨_, rfl⟩
      rw [hl] at hL ⊢
      rw [hm] at hH ⊢
      clear hl hm hzk hx
      by_cases t1 : d < l
      all_goals by_cases t2 : m < d
      all_goals
        first | rw [Hid, if_pos t1] at hL | rw [Hid, if_neg t1] at hL
        first | rw [Hid, if_pos t2] at hH | rw [Hid, if_neg t2] at hH
        have hL' := (show Hid (_ = _) from hL)
        have hH' := (show Hid (_ = _) from hH)
        clear hL hH
        go_wp2
        go_roundw
        case rel => exact ⟨k + 1, q, by omega, by go_num, by rw [hL'.out], by rw [hH'.out], rfl⟩
        case measure => simp [intOf]; omega
    · have hk' : k = n := by omega
      have hT : Hid (zs.take k = zs) := List.take_of_length_le (by have := hzl'.out; omega)
      rw [hT.out]
      go_wp2
      exact bodyPost_ret (v := .tuple #[.int .i8 (loF z0 zs), .int .i8 (hiF z0 zs), .bool true]) (by simp [results, Try.results34, go_sem]) rfl ⟨rfl, _, rfl⟩
end Go.Proofs.Ytedbcnkgembhbaa
