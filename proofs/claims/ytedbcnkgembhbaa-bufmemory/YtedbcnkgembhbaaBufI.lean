/- The document's buffers: From, Has, View, Ends, Fits. -/
import Derived.Test.YtedbcnkgembhbaaBufF
import Derived.Deep.RegionLawGrows
namespace Go.Proofs.Ytedbcnkgembhbaa
open Go.ChangeShapes Go.WideShapes Go.ChangeAt Go.RowKit
/-- 'append' of some numbers to an empty list, inside a region that draws its order. -/
theorem step_app0 {k : IntKind} {T S : TypeId} {by8 : Nat} (kt : KT k T S by8) {w : World} {ops : Array Oper} {o : Oper} {a : Act} {K : Act → World → Prop} {Q : Exit → Act → World → Prop} {E : Prop} (hgd : o.guard = none) (s x : Operand)
    (ho : o.op = .call { callee := .builtin .append, args := #[s, x], argTypes := #[S, S] })
    (ao : Addr) (hs : a.eval s = .slice (some ao) 0 0) (ad : Option Addr) (m c : Nat) (hx : a.eval x = .slice ad m c) (ys : List Int) (hy : IRow k w ad m c ys) (hm : 0 < m) (hlen : m ≤ 10000000)
    (hK : ∀ v' w', Own k T w' w.heap.size v' ys → Below w.heap.size w w' → K (a.put o.dst v') w') : if Region.wanted o (yielded ops a.tmps) = true then Oper.wp Try.prog o a w K Q else E := by
  obtain ⟨hu, hin, b1, b8⟩ := kt
  obtain ⟨i0, hi, hz0, hz1, hz2⟩ := info_parts hin
  obtain ⟨x0, c0, rfl, -⟩ := hy.at hm
  obtain ⟨hl, hc, hmm, hb, hn, hcell⟩ := hy
  have hby : by8 * m ≤ 8 * m := Nat.mul_le_mul_right _ b8
  refine step_append_grows hgd s x S ho T i0 (.int k 0) 1 by8 hu hi hz0 hz1 hz2 rfl (by omega) (some ao) 0 0 [] hs (fun h => by cases h) rfl (fun _ _ j u hj => by simp at hj) x0 m c (ys.map (Value.int k)) hx (by simp [hl]) ?_ (ints_oneCell _ _) (by omega) (by unfold maxLen; omega) (by rw [Nat.mul_comm]; simp; omega) ?_
  · intro j u hj
    have hj' : j < m := by
      have := (List.getElem?_eq_some_iff.1 hj).1
      simpa [hl] using this
    rw [hcell x0 rfl j hj']
    simp [List.getD, show j < ys.length by omega] at hj ⊢
    exact hj
  · intro v' w' h1 h2
    refine hK v' w' ⟨?_, hb⟩ ⟨h2.os, h2.tape, h2.output, h2.size, fun i hi => h2.block i hi (by simp)⟩
    rw [hl]
    simpa using h1
theorem set4 {N B : Nat} {w0 w : World} {i j k l : Nat} {u v x y : Value} (h : Below N w0 w) (hB : N ≤ B) : Below N w0 ((((w.setCell ⟨B, i, none⟩ u).setCell ⟨B, j, none⟩ v).setCell ⟨B, k, none⟩ x).setCell ⟨B, l, none⟩ y) :=
  (((h.setCell (p := ⟨B, i, none⟩) hB u).setCell (p := ⟨B, j, none⟩) hB v).setCell (p := ⟨B, k, none⟩) hB x).setCell (p := ⟨B, l, none⟩) hB y
theorem Own.some {k : IntKind} {T : TypeId} {w : World} {base : Nat} {v : Value} {zs : List Int} (h : Own k T w base v zs) (hz : 0 < zs.length) : ∃ g cap, v = .slice (.some ⟨g, 0, none⟩) zs.length cap ∧ base ≤ g ∧ g < w.heap.size := by
  rcases h.shape with ⟨_, rfl⟩ | ⟨g, cap, rfl, h1, h2, _⟩
  · simp at hz
  · exact ⟨g, cap, rfl, h1, h2⟩
theorem relems_is (h u c : Int) (w : World) (g : vS h u c = true) :
    Calls Try.prog 12 #[.agg #[.int .i64 h, .int .i64 u, .int .i64 c]] w fun e w' => e = .returned (.int .i64 (h * u * c)) ∧ Below w.heap.size w w' := by
  obtain ⟨⟨h1, h2⟩, ⟨u1, u2⟩, ⟨c1, c2⟩, hq⟩ := vS_yes g
  obtain ⟨p1, p2⟩ := mul_bd h1 h2 u1 u2
  obtain ⟨q1, q2⟩ := mul_bd p1 p2 c1 c2
  clear g
  obtain ⟨p, hp⟩ : ∃ p, h * u = p := ⟨_, rfl⟩
  rw [hp] at p1 p2 q1 q2 hq ⊢
  obtain ⟨q, hq'⟩ : ∃ q, p * c = q := ⟨_, rfl⟩
  rw [hq'] at q1 q2 hq ⊢
  go_enter Try.func12, Try.ntmps12
  go_wp2
  go_ret
  exact ⟨rfl, (St.start w).new.below⟩
theorem rfrom_no (h u c : Int) (a : Option Addr) (len cap : Nat) (w : World) (g : vS h u c = false) :
    Calls Try.prog 11 #[.agg #[.int .i64 h, .int .i64 u, .int .i64 c], .slice a len cap] w fun e w' => e = .returned (.tuple #[.agg #[.int .i64 0, .int .i64 0, .int .i64 0, .slice none 0 0], .int .i64 50]) ∧ Below w.heap.size w w' := by
  have hV := rvalid_any h u c
  rw [g] at hV
  go_enter Try.func11, Try.ntmps11
  go_wp2_with fail
  refine (hV _).mono ?_
  rintro e w1 ⟨rfl, b1⟩
  have s0 := ((St.start w).new (c := #[.int .i64 h, .int .i64 u, .int .i64 c]) (t := 23)).new (c := #[.int .i64 0, .int .i64 0, .int .i64 0, .slice none 0 0]) (t := 36)
  simp only [World.size_alloc] at s0
  have s1 := s0.call b1
  obtain ⟨c1, f1, z1, c2, f2, z2, -⟩ := s1.rules
  have s1' : Hid (Below w.heap.size w w1) := s1.below
  have hN : w.heap.size ≤ w.heap.size + 1 := by omega
  clear b1 hV s0 s1
  go_wp2
  exact bodyPost_ret (v := .tuple #[.agg #[.int .i64 0, .int .i64 0, .int .i64 0, .slice none 0 0], .int .i64 50]) (by simp [results, Try.results11, go_sem, *]) rfl ⟨rfl, set4 s1'.out hN⟩
theorem rfrom_len (h u c : Int) (a : Option Addr) (len cap : Nat) (w : World) (g : vS h u c = true) (hl : len ≠ (h * u * c).toNat) :
    Calls Try.prog 11 #[.agg #[.int .i64 h, .int .i64 u, .int .i64 c], .slice a len cap] w fun e w' => e = .returned (.tuple #[.agg #[.int .i64 0, .int .i64 0, .int .i64 0, .slice none 0 0], .int .i64 70]) ∧ Below w.heap.size w w' := by
  have hV := rvalid_any h u c
  have hE := fun W => relems_is h u c W g
  obtain ⟨n, hn, hn', n1, n2⟩ := elems_nat g
  rw [hn'] at hl
  rw [g] at hV
  rw [hn] at hE
  clear hn hn' g
  have hl' : ¬ (len : Int) = (n : Int) := by omega
  go_enter Try.func11, Try.ntmps11
  go_wp2_with fail
  refine (hV _).mono ?_
  rintro e w1 ⟨rfl, b1⟩
  have s0 := ((St.start w).new (c := #[.int .i64 h, .int .i64 u, .int .i64 c]) (t := 23)).new (c := #[.int .i64 0, .int .i64 0, .int .i64 0, .slice none 0 0]) (t := 36)
  simp only [World.size_alloc] at s0
  have s1 := s0.call b1
  obtain ⟨c1, f1, z1, c2, f2, z2, -⟩ := s1.rules
  clear b1 hV s0
  go_wp2_with fail
  refine (hE _).mono ?_
  rintro e w2 ⟨rfl, b2⟩
  have s2 := s1.call b2
  clear c1 f1 z1 c2 f2 z2 b2 hE s1
  obtain ⟨c1, f1, z1, c2, f2, z2, -⟩ := s2.rules
  have s2' : Hid (Below w.heap.size w w2) := s2.below
  have hN : w.heap.size ≤ w.heap.size + 1 := by omega
  clear s2
  go_wp2
  exact bodyPost_ret (v := .tuple #[.agg #[.int .i64 0, .int .i64 0, .int .i64 0, .slice none 0 0], .int .i64 70]) (by simp [results, Try.results11, go_sem, *]) rfl ⟨rfl, set4 s2'.out hN⟩
set_option maxHeartbeats 1000000 in
theorem rfrom_ok (h u c : Int) (a : Option Addr) (len cap : Nat) (zs : List Int) (w : World) (g : vS h u c = true) (hl : len = (h * u * c).toNat) (hr : IRow .i64 w a len cap zs) :
    Calls Try.prog 11 #[.agg #[.int .i64 h, .int .i64 u, .int .i64 c], .slice a len cap] w fun e w' => ∃ x c', e = .returned (.tuple #[.agg #[.int .i64 h, .int .i64 u, .int .i64 c, .slice (some ⟨x, 0, none⟩) len c'], .int .i64 0]) ∧ Own .i64 2 w' w.heap.size (.slice (some ⟨x, 0, none⟩) len c') zs ∧ Below w.heap.size w w' := by
  have hV := rvalid_any h u c
  have hE := fun W => relems_is h u c W g
  obtain ⟨n, hn, hn', n1, n2⟩ := elems_nat g
  rw [hn'] at hl
  rw [g] at hV
  rw [hn] at hE
  clear hn hn' g
  subst hl
  go_enter Try.func11, Try.ntmps11
  go_wp2_with fail
  refine (hV _).mono ?_
  rintro e w1 ⟨rfl, b1⟩
  have s0 := ((St.start w).new (c := #[.int .i64 h, .int .i64 u, .int .i64 c]) (t := 23)).new (c := #[.int .i64 0, .int .i64 0, .int .i64 0, .slice none 0 0]) (t := 36)
  simp only [World.size_alloc] at s0
  have s1 := s0.call b1
  obtain ⟨c1, f1, z1, c2, f2, z2, -⟩ := s1.rules
  clear b1 hV s0
  go_wp2_with fail
  refine (hE _).mono ?_
  rintro e w2 ⟨rfl, b2⟩
  have s2 := s1.call b2
  clear c1 f1 z1 c2 f2 z2 b2 hE s1
  obtain ⟨c1, f1, z1, c2, f2, z2, -⟩ := s2.rules
  have s2' : Hid (St w w2 [(w.heap.size + 1, #[.int .i64 0, .int .i64 0, .int .i64 0, .slice none 0 0], 36), (w.heap.size, #[.int .i64 h, .int .i64 u, .int .i64 c], 23)]) := s2
  have hr2 : Hid (IRow .i64 (w2.alloc (.cells #[] 2)).drew a len cap zs) := ((hr.below s2.below).below (bal _ _)).below (Below.refl _ _).drew
  clear s2 hr
  go_wp2
  go_region_held3 (fun w' => ∀ i, w'.cell? ⟨w.heap.size, i, none⟩ = #[Value.int .i64 h, .int .i64 u, .int .i64 c][i]?) ((intro i; simp [go_sem, *]))
    (first | (refine step_app0 kt_i64 rfl (.tmp 17) (.tmp 18) rfl ⟨w2.heap.size, 0, none⟩ rfl _ _ _ rfl zs hr2.out (by omega) (by omega) ?_; intro v3 w3 own3 b3; obtain ⟨x3, cc3, rfl, hx1, hx2⟩ := own3.some (by have := hr2.out.1; omega); obtain ⟨c1, f1, z1, c2, f2, z2, -⟩ := ((s2'.out.skip (.cells #[] 2)).drew.call b3).rules))
  have hzl : Hid (zs.length = len) := hr2.out.1
  have H3 : Hid (Own .i64 2 w3 w.heap.size (.slice (some ⟨x3, 0, none⟩) zs.length cc3) zs ∧ x3 ≠ w.heap.size + 1 ∧ Below w.heap.size w w3) := ⟨own3.base (by have := s2'.out.size; simp; omega), by simp at hx1; omega, ((s2'.out.skip (.cells #[] 2)).drew.call b3).below⟩
  have hN : w.heap.size ≤ w.heap.size + 1 := by omega
  clear own3 hx1 hx2 b3 hr2
  go_wp2
  rw [hzl.out] at H3 ⊢
  exact bodyPost_ret (v := .tuple #[.agg #[.int .i64 h, .int .i64 u, .int .i64 c, .slice (some ⟨x3, 0, none⟩) len cc3], .int .i64 0]) (by simp [results, Try.results11, go_sem, *]) rfl ⟨x3, cc3, rfl, H3.out.1.keep (L := [w.heap.size + 1]) (((Kept.set.trans Kept.set).trans Kept.set).trans Kept.set) (by simpa using H3.out.2.1), set4 H3.out.2.2 hN⟩
def hasB (i : Int) (n : Nat) : Bool := decide (0 ≤ i ∧ i < n)
theorem has_is (h u c : Int) (a : Option Addr) (n cap : Nat) (i : Int) (w : World) :
    Calls Try.prog 39 #[.agg #[.int .i64 h, .int .i64 u, .int .i64 c, .slice a n cap], .int .i64 i] w fun e w' => e = .returned (.bool (hasB i n)) ∧ Below w.heap.size w w' := by
  by_cases h0 : 0 ≤ i
  · have HR : Hid (decide (i < n) = hasB i n) := by unfold Hid hasB; simp [h0]
    go_enter Try.func39, Try.ntmps39
    go_wp2
    go_ret
    exact ⟨retB HR.out, (St.start w).new.below⟩
  · have HR : Hid (false = hasB i n) := by unfold Hid hasB; simp [h0]
    go_enter Try.func39, Try.ntmps39
    go_wp2
    go_ret
    exact ⟨retB HR.out, (St.start w).new.below⟩
theorem rview_no (h u c : Int) (a : Option Addr) (n cap : Nat) (p m : Int) (w : World) (hn : (n : Int) ≤ 9223372036854775807) (hi : p < 0 ∨ m < 0 ∨ (n : Int) < p + m) :
    Calls Try.prog 40 #[.agg #[.int .i64 h, .int .i64 u, .int .i64 c, .slice a n cap], .int .i64 p, .int .i64 m] w fun e w' => e = .returned (.tuple #[.slice none 0 0, .int .i64 3]) ∧ Below w.heap.size w w' := by
  by_cases h0 : p < 0
  · go_enter Try.func40, Try.ntmps40
    go_wp2
    go_ret2
    exact ⟨rfl, (St.start w).new.below⟩
  by_cases h2 : m < 0
  · go_enter Try.func40, Try.ntmps40
    go_wp2
    go_ret2
    exact ⟨rfl, (St.start w).new.below⟩
  by_cases h1 : (n : Int) < p
  · go_enter Try.func40, Try.ntmps40
    go_wp2
    go_ret2
    exact ⟨rfl, (St.start w).new.below⟩
  · have h3 : (n : Int) - p < m := by omega
    go_enter Try.func40, Try.ntmps40
    go_wp2
    go_ret2
    exact ⟨rfl, (St.start w).new.below⟩
theorem rview_ok (h u c : Int) (x n cap : Nat) (zs : List Int) (p m : Nat) (w : World) (hr : IRow .i64 w (some ⟨x, 0, none⟩) n cap zs) (hi : p + m ≤ n) :
    Calls Try.prog 40 #[.agg #[.int .i64 h, .int .i64 u, .int .i64 c, .slice (some ⟨x, 0, none⟩) n cap], .int .i64 p, .int .i64 m] w fun e w' => ∃ a c', e = .returned (.tuple #[.slice a m c', .int .i64 0]) ∧ IRow .i64 w' a m c' ((zs.drop p).take m) ∧ Below w.heap.size w w' := by
  have hc := hr.2.1
  have hm := hr.2.2.1
  unfold maxLen at hm
  have row' : Hid (IRow .i64 w (some ⟨x, 0, none⟩) n cap zs) := hr
  clear hr
  go_enter Try.func40, Try.ntmps40
  go_wp2
  all_goals go_ret2
  · have h0 : cap = p := by assumption
    have R := row'.out.cut (a' := some ⟨x, 0, none⟩) hi (fun x _ hx => absurd hx (by omega)) (fun h => by cases h)
    rw [show cap - p = 0 by omega] at R
    exact ⟨_, _, rfl, R.below (bal _ _), (St.start w).new.below⟩
  · have R := row'.out.cut (a' := some ⟨x, p, none⟩) hi (fun x hx _ => by rw [← Option.some.inj hx, Addr.add_lit, Nat.zero_add]) (fun h => by cases h)
    exact ⟨_, _, rfl, R.below (bal _ _), (St.start w).new.below⟩
set_option maxHeartbeats 2000000 in
theorem rends_is (h u c : Int) (x n cap : Nat) (zs : List Int) (z0 : Int) (w : World) (hr : IRow .i64 w (some ⟨x, 0, none⟩) n cap zs) (hz : zs[0]? = some z0) :
    Calls Try.prog 41 #[.agg #[.int .i64 h, .int .i64 u, .int .i64 c, .slice (some ⟨x, 0, none⟩) n cap]] w fun e w' => e = .returned (.tuple #[.int .i64 (loF z0 zs), .int .i64 (hiF z0 zs)]) ∧ Below w.heap.size w w' := by
  have h0 : 0 < zs.length := (List.getElem?_eq_some_iff.1 hz).1
  have hzl' : Hid (zs.length = n) := hr.1
  rw [hr.1] at h0
  have hcc := hr.2.1
  have hm := hr.2.2.1
  unfold maxLen at hm
  have row' : Hid (IRow .i64 (w.alloc (.cells #[.int .i64 h, .int .i64 u, .int .i64 c, .slice (some ⟨x, 0, none⟩) n cap] 36)) (some ⟨x, 0, none⟩) n cap zs) := hr.below (bal _ _)
  obtain ⟨y, d, hx, hc, -, hzd, -⟩ := row'.out.at h0
  obtain rfl := Option.some.inj hx
  obtain rfl : z0 = d := by rw [hzd] at hz; exact (Option.some.inj hz).symm
  rw [Addr.add_lit, Nat.zero_add] at hc
  clear hz hzd hx hr
  obtain ⟨W, hW⟩ : ∃ W, w.alloc (.cells #[.int .i64 h, .int .i64 u, .int .i64 c, .slice (some ⟨x, 0, none⟩) n cap] 36) = W := ⟨_, rfl⟩
  have s0 := (St.start w).new (c := #[.int .i64 h, .int .i64 u, .int .i64 c, .slice (some ⟨x, 0, none⟩) n cap]) (t := 36)
  rw [hW] at row' hc s0
  obtain ⟨c1, f1, z1, -⟩ := s0.rules
  have s0' : Hid (Below w.heap.size w W) := s0.below
  clear s0
  go_enter Try.func41, Try.ntmps41
  go_wp2
  go_quiet (fail)
  go_wp2
  go_loopw [4, 5, 19] (fun lo hi i wr => ∃ (k q : Nat), k ≤ n ∧ i = .int .i64 k ∧ lo = .int .i64 (loF z0 (zs.take k)) ∧ hi = .int .i64 (hiF z0 (zs.take k)) ∧ wr = W.drewN q) (fun _ _ i _ => n - (intOf i).toNat)
  case atStart => exact ⟨0, _, Nat.zero_le _, rfl, rfl, rfl, rfl⟩
  case round =>
    obtain ⟨k, q, hk, rfl, rfl, rfl, rfl⟩ := hrel
    by_cases hlt : k < n
    · obtain ⟨x, d, hx, hck, -, hzk, -⟩ := row'.out.at hlt
      obtain rfl := Option.some.inj hx
      rw [Addr.add_lit, Nat.zero_add] at hck
      have hL : Hid (loF z0 (zs.take (k + 1)) = if d < loF z0 (zs.take k) then d else loF z0 (zs.take k)) := loF_step hzk
      have hH : Hid (hiF z0 (zs.take (k + 1)) = if hiF z0 (zs.take k) < d then d else hiF z0 (zs.take k)) := hiF_step hzk
      obtain ⟨l, hl⟩ : ∃ l, loF z0 (zs.take k) = l := ⟨_, rfl⟩
      obtain ⟨m, hm⟩ : ∃ m, hiF z0 (zs.take k) = m := ⟨_, rfl⟩
      rw [hl] at hL ⊢
      rw [hm] at hH ⊢
      clear hl hm hzk hx
      by_cases t1 : d < l
      all_goals by_cases t2 : m < d
      all_goals
        first | rw [Hid, if_pos t1] at hL | rw [Hid, if_neg t1] at hL
        first | rw [Hid, if_pos t2] at hH | rw [Hid, if_neg t2] at hH
        have hL' := (show Hid (_ = _) from hL)
        have hH' := (show Hid (_ = _) from hH)
        clear hL hH
        go_wp2
        go_roundw
        case rel => exact ⟨k + 1, q, by omega, by go_num, by rw [hL'.out], by rw [hH'.out], rfl⟩
        case measure => simp [intOf]; omega
    · have hk' : k = n := by omega
      have hT : Hid (zs.take k = zs) := List.take_of_length_le (by have := hzl'.out; omega)
      rw [hT.out]
      go_wp2
      go_ret2
      exact ⟨rfl, s0'.out.trans ((dbel W q).mono s0'.out.size)⟩
theorem fits8_is (z : Int) (w : World) : Calls Try.prog 60 #[.int .i64 8, .int .i64 z] w fun e w' => e = .returned (.bool (Lit.int .i8 z).wf) ∧ w' = w := by
  have HW : Hid ((Lit.int .i8 z).wf = decide (-128 ≤ z ∧ z < 128)) := by
    unfold Hid
    by_cases q : -128 ≤ z ∧ z < 128
    · rw [decide_eq_true q]; exact mk_i8 (by omega)
    · rw [decide_eq_false q]; exact Bool.eq_false_iff.2 fun e => q (by have := wf_i8 e; omega)
  by_cases h0 : -128 ≤ z
  · have HR : Hid (decide (z < 128) = (Lit.int .i8 z).wf) := by unfold Hid; rw [HW.out]; simp [h0]
    go_enter Try.func60, Try.ntmps60
    go_wp2
    go_ret
    exact ⟨retB HR.out, rfl⟩
  · have HR : Hid (false = (Lit.int .i8 z).wf) := by unfold Hid; rw [HW.out]; simp [h0]
    go_enter Try.func60, Try.ntmps60
    go_wp2
    go_ret
    exact ⟨retB HR.out, rfl⟩
def wfB (zs : List Int) : Bool := zs.all fun z => (Lit.int .i8 z).wf
theorem wfB_yes {zs : List Int} (h : wfB zs = true) : Wf .i8 zs := fun z hz => by simpa using List.all_eq_true.1 h z hz
theorem wfB_no {zs : List Int} (h : wfB zs = false) : ¬ Wf .i8 zs := fun g => by
  have : wfB zs = true := List.all_eq_true.2 fun z hz => g z hz
  rw [this] at h; cases h
set_option maxHeartbeats 1000000 in
theorem rfits_is (h u c : Int) (a : Option Addr) (n cap : Nat) (zs : List Int) (w : World) (hr : IRow .i64 w a n cap zs) :
    Calls Try.prog 48 #[.agg #[.int .i64 h, .int .i64 u, .int .i64 c, .slice a n cap], .int .i64 8] w fun e w' => e = .returned (.bool (wfB zs)) ∧ Below w.heap.size w w' := by
  have hzl' : Hid (zs.length = n) := hr.1
  have hcc := hr.2.1
  have hm := hr.2.2.1
  unfold maxLen at hm
  have row' : Hid (IRow .i64 (w.alloc (.cells #[.int .i64 h, .int .i64 u, .int .i64 c, .slice a n cap] 36)) a n cap zs) := hr.below (bal _ _)
  clear hr
  go_enter Try.func48, Try.ntmps48
  go_wp2
  go_loop [10] (fun i => ∃ k : Nat, k ≤ n ∧ i = .int .i64 k ∧ wfB (zs.take k) = true) (fun i => n - (intOf i).toNat)
  case atStart => exact ⟨0, Nat.zero_le _, rfl, rfl⟩
  case round =>
    obtain ⟨k, hk, rfl, hwk⟩ := hrel
    have hwk' : Hid (wfB (zs.take k) = true) := hwk
    clear hwk
    by_cases hlt : k < n
    · obtain ⟨x, d, rfl, hck, -, hzk, hdr⟩ := row'.out.at hlt
      have hzk' : Hid (zs[k]? = some d) := hzk
      have hdr' : Hid (zs.drop k = d :: zs.drop (k + 1)) := hdr
      clear hzk hdr
      cases hf : (Lit.int .i8 d).wf with
      | true =>
        have hS : Hid (wfB (zs.take (k + 1)) = true) := by
          unfold Hid
          rw [← take_snoc hzk'.out]
          unfold wfB
          rw [List.all_append]
          simp [hf]
          simpa [wfB] using hwk'.out
        have hF := fits8_is d
        rw [hf] at hF
        clear hf
        go_wp2_with fail
        refine (hF _).mono ?_
        rintro e w1 ⟨rfl, rfl⟩
        go_wp2
        go_round
        case rel => exact ⟨k + 1, by omega, by go_num, hS.out⟩
        case measure => simp [intOf]; omega
      | false =>
        have hS : Hid (false = wfB zs) := by
          unfold Hid wfB
          refine Eq.symm (List.all_eq_false.2 ⟨d, List.mem_of_getElem? hzk'.out, by rw [hf]; simp⟩)
        have hF := fits8_is d
        rw [hf] at hF
        clear hf
        go_wp2_with fail
        refine (hF _).mono ?_
        rintro e w1 ⟨rfl, rfl⟩
        go_wp2
        go_ret
        exact ⟨retB hS.out, bal _ _⟩
    · have hT : Hid (true = wfB zs) := by
        have := hwk'.out
        rw [List.take_of_length_le (by have := hzl'.out; omega)] at this
        exact this.symm
      go_wp2
      go_ret
      exact ⟨retB hT.out, bal _ _⟩
end Go.Proofs.Ytedbcnkgembhbaa
