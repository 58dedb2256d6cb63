/- The document's bytes of a certificate. -/
import Derived.Test.YthlnhodfgmpabaaSelE
namespace Go.Proofs.Ythlnhodfgmpabaa.Sl
open Wr
open Go.ChangeShapes Go.WideShapes Go.ChangeAt Go.RowKit
set_option linter.unusedVariables false
/-- 'append' of bytes to a writer's. -/
theorem wpList_appW {w : World} {ops : Array Oper} {rest : List Oper} {o : Oper} {a : Act} {Q : Exit → Act → World → Prop} (hgd : o.guard = none) (s x : Operand)
    (ho : o.op = .call { callee := .builtin .append, args := #[s, x], argTypes := #[27, 27] })
    (base : Nat) (v : Value) (xs ys : List Int) (hs : a.eval s = v) (hown : Wo w base v xs) (ad : Addr) (m c : Nat) (hx : a.eval x = .slice (some ad) m c) (hy : Wr.Row w (some ad) m c ys) (hm0 : 0 < ys.length)
    (hlen : xs.length + ys.length ≤ 140737488355328) (hbase : base ≤ w.heap.size)
    (hK : ∀ v' w', Wr.Own w' base v' (xs ++ ys) → v' ≠ .slice none 0 0 → Wk0 base w w' → wpList Try.prog ops Q rest (a.put o.dst v') w') : wpList Try.prog ops Q (o :: rest) a w := by
  refine wpList_plain hgd fun K hK' => ?_
  have := step_appW (ops := ops) (o := o) (a := a) (w := w) (K := K) (Q := Q) (E := False) hgd s x ho base v xs ys hs hown ad m c hx hy hm0 hlen hbase (fun v' w' h1 h2 h3 => hK' _ _ (hK v' w' h1 h2 h3))
  rwa [if_pos (by simp [Region.wanted, hgd])] at this
theorem Wk0.refl (base : Nat) (w : World) : Wk0 base w w := ⟨Below.refl _ _, fun _ _ _ _ h => h⟩
theorem Wk0.trans {base : Nat} {a b c : World} (h : Wk0 base a b) (k : Wk0 base b c) : Wk0 base a c := ⟨h.1.trans k.1, fun i cs T h1 h2 => k.2 i cs T h1 (h.2 i cs T h1 h2)⟩
theorem Wk0.of {base : Nat} {w w' : World} (h : Below w.heap.size w w') (hb : base ≤ w.heap.size) : Wk0 base w w' := ⟨h.mono hb, fun k c T _ hk => (h.block k (lt_of_heap hk)).trans hk⟩
theorem Wk0.size {base : Nat} {w w' : World} (h : Wk0 base w w') : w.heap.size ≤ w'.heap.size := h.1.size
theorem own_pos {w : World} {base : Nat} {v : Value} {zs : List Int} (h : Wr.Own w base v zs) (hp : 0 < zs.length) : v ≠ .slice none 0 0 := by
  rcases h.shape with ⟨-, h0⟩ | ⟨g, cap, e, -⟩
  · rw [h0] at hp; simp at hp
  · rw [e]; simp
theorem Wo.ltr {w : World} {base : Nat} {v : Value} {xs : List Int} (h : Wo w base v xs) : ∃ d n cap, v = .slice (some d) n cap := by
  rcases h with ⟨h1, h2⟩ | ⟨d, h1, -⟩
  · exact own_ltr h1 h2
  · exact ⟨d, _, _, h1⟩
theorem own_rw {w : World} {base : Nat} {v : Value} {zs : List Int} (h : Wr.Own w base v zs) (hv : v ≠ .slice none 0 0) : ∃ d n c, v = .slice (some d) n c ∧ Wr.Row w (some d) n c zs := by
  obtain ⟨d, c, e, r⟩ := own_get h hv
  exact ⟨d, _, c, e, r⟩
set_option maxHeartbeats 2000000 in
theorem count_any (base : Nat) (v0 : Value) (xs : List Int) (y : Int) (w : World) (h : Wo w base v0 xs) (hb : base ≤ w.heap.size) (hs : xs.length + 10 ≤ 140737488355328) :
    Calls Try.prog 40 #[v0, .int .i64 y] w fun e w' => ∃ v, e = .returned v ∧ Wr.Own w' base v (xs ++ putR (u64 y)) ∧ v ≠ .slice none 0 0 ∧ Wk0 base w w' := by
  obtain ⟨bd, bn, bc, rfl⟩ := h.ltr
  have H : Hid (Wo w base (.slice (some bd) bn bc) xs) := h
  have hu := u64_lt y
  have hw := u64_wrap y
  have hpos : Hid (0 < ((putR (u64 y))).length) := putR_pos _
  have hput : Hid (((putR (u64 y))).length ≤ 10) := putR_ten (u64_lt y)
  clear h
  go_enter Try.func40, Try.ntmps40
  go_wp2_with fail
  refine (refU_is (u64 y) _ hu).mono ?_
  rintro e w1 ⟨v1, rfl, own1, b1⟩
  obtain ⟨d1, n1, p1, rfl, r1⟩ := own_rw own1 (own_pos own1 hpos.out)
  have T1 : Hid (Wo w1 base (.slice (some bd) bn bc) xs) := H.out.below b1
  have k1 : Hid (Wk0 base w w1) := Wk0.of b1 hb
  have hr1 : Hid (Wr.Row w1 (some d1) n1 p1 (putR (u64 y))) := r1
  have hb1 : Hid (base ≤ w1.heap.size) := Nat.le_trans hb b1.size
  clear own1 b1 r1 H
  go_wp2_with (at_builtin; refine wpList_appW rfl (.tmp 5) (.tmp 8) rfl base (.slice (some bd) bn bc) _ _ rfl T1.out d1 _ _ rfl hr1.out hpos.out (by have := hput.out; omega) hb1.out ?_; intro v2 w2 own2 nn2 kw2)
  have hE : Hid (Wr.Own w2 base v2 (xs ++ putR (u64 y)) ∧ v2 ≠ .slice none 0 0 ∧ Wk0 base w w2) := ⟨own2, nn2, k1.out.trans kw2⟩
  clear own2 nn2 kw2
  go_ret
  exact ⟨_, rfl, hE.out.1, hE.out.2.1, hE.out.2.2⟩
set_option maxHeartbeats 2000000 in
theorem ends_any (base : Nat) (v0 : Value) (xs : List Int) (lo hi : Int) (w : World) (h : Wo w base v0 xs) (hb : base ≤ w.heap.size) (h64 : S64 (lo, hi)) (hs : xs.length + 20 ≤ 140737488355328) :
    Calls Try.prog 41 #[v0, .agg #[.int .i64 lo, .int .i64 hi]] w fun e w' => ∃ v, e = .returned v ∧ Wr.Own w' base v (xs ++ eSp (lo, hi)) ∧ v ≠ .slice none 0 0 ∧ Wk0 base w w' := by
  obtain ⟨bd, bn, bc, rfl⟩ := h.ltr
  have H : Hid (Wo w base (.slice (some bd) bn bc) xs) := h
  have H64 : Hid (S64 (lo, hi)) := h64
  have q1 : Hid (0 < ((putR (foldR lo))).length ∧ (putR (foldR lo)).length ≤ 10) := ⟨putR_pos _, putR_ten (foldR_lt h64.1.1 h64.1.2)⟩
  have q2 : Hid (0 < ((putR (foldR hi))).length ∧ (putR (foldR hi)).length ≤ 10) := ⟨putR_pos _, putR_ten (foldR_lt h64.2.1 h64.2.2)⟩
  have B0 : Hid ((w.alloc (.cells #[.int .i64 lo, .int .i64 hi] 44)).heap[w.heap.size]? = some (.cells #[.int .i64 lo, .int .i64 hi] 44 (0, 0))) := heap_alloc_new w _
  obtain ⟨c1, f1, y1⟩ := cells_at B0.out
  clear h h64
  go_enter Try.func41, Try.ntmps41
  go_wp2_with fail
  refine (refS_is lo _ H64.out.1.1 H64.out.1.2).mono ?_
  rintro e w1 ⟨v1, rfl, own1, b1⟩
  obtain ⟨d1, n1, p1, rfl, r1⟩ := own_rw own1 (own_pos own1 q1.out.1)
  have b01 := bt (bal w (.cells #[.int .i64 lo, .int .i64 hi] 44)) b1
  have T1 : Hid (Wo w1 base (.slice (some bd) bn bc) xs) := H.out.below b01
  have k1 : Hid (Wk0 base w w1) := Wk0.of b01 hb
  have B1 : Hid (w1.heap[w.heap.size]? = some (.cells #[.int .i64 lo, .int .i64 hi] 44 (0, 0))) := (b1.block _ (lt_of_heap B0.out)).trans B0.out
  have hr1 : Hid (Wr.Row w1 (some d1) n1 p1 (putR (foldR lo))) := r1
  have hb1 : Hid (base ≤ w1.heap.size) := Nat.le_trans hb b01.size
  clear own1 b1 r1 H c1 f1 y1 b01 B0
  go_upto_region 2 with (at_builtin; refine wpList_appW rfl (.tmp 5) (.tmp 8) rfl base (.slice (some bd) bn bc) _ _ rfl T1.out d1 _ _ rfl hr1.out q1.out.1 (by have := q1.out; omega) hb1.out ?_; intro v2 w2 own2 nn2 kw2; obtain ⟨ad2, an2, ac2, rfl⟩ := own_ltr own2 nn2)
  have T2 : Hid (Wo w2 base (.slice (some ad2) an2 ac2) (xs ++ putR (foldR lo))) := .inl ⟨own2, nn2⟩
  have k2 : Hid (Wk0 base w w2) := k1.out.trans kw2
  have B2 : Hid (w2.heap[w.heap.size]? = some (.cells #[.int .i64 lo, .int .i64 hi] 44 (0, 0))) := kw2.2 _ _ _ (by decide) B1.out
  have hb2 : Hid (base ≤ w2.heap.size) := Nat.le_trans hb1.out kw2.size
  obtain ⟨c1, f1, y1⟩ := cells_at B2.out
  clear own2 nn2 kw2 T1 k1 B1 hr1 hb1
  go_wp2_with fail
  refine (refS_is hi _ H64.out.2.1 H64.out.2.2).mono ?_
  rintro e w3 ⟨v3, rfl, own3, b3⟩
  obtain ⟨d3, n3, p3, rfl, r3⟩ := own_rw own3 (own_pos own3 q2.out.1)
  have T3 : Hid (Wo w3 base (.slice (some ad2) an2 ac2) (xs ++ putR (foldR lo))) := T2.out.below b3
  have k3 : Hid (Wk0 base w w3) := k2.out.trans (Wk0.of b3 hb2.out)
  have hr3 : Hid (Wr.Row w3 (some d3) n3 p3 (putR (foldR hi))) := r3
  have hb3 : Hid (base ≤ w3.heap.size) := Nat.le_trans hb2.out b3.size
  clear own3 b3 r3 T2 c1 f1 y1 k2 B2
  go_wp2_with (at_builtin; refine wpList_appW rfl (.tmp 10) (.tmp 13) rfl base (.slice (some ad2) an2 ac2) _ _ rfl T3.out d3 _ _ rfl hr3.out q2.out.1 (by have := q1.out; have := q2.out; rw [List.length_append]; omega) hb3.out ?_; intro v4 w4 own4 nn4 kw4)
  have hE : Hid (Wr.Own w4 base v4 (xs ++ eSp (lo, hi)) ∧ v4 ≠ .slice none 0 0 ∧ Wk0 base w w4) := ⟨by unfold eSp; rw [← List.append_assoc]; exact own4, nn4, k3.out.trans kw4⟩
  clear own4 nn4 kw4
  go_ret
  exact ⟨_, rfl, hE.out.1, hE.out.2.1, hE.out.2.2⟩
set_option maxHeartbeats 8000000 in
set_option maxRecDepth 100000 in
theorem rbytes_any (ra : Option Addr) (rn rc : Nat) (R : List (Int × Int)) (pa : Option Addr) (pn pc : Nat) (P : List (List Pl)) (W : World) (hR : ERow 2 scs W ra rn rc R) (hP : QRow W pa pn pc P) (hF : CeF (R, P)) :
    Calls Try.prog 23 #[.agg #[.slice ra rn rc, .slice pa pn pc]] W fun e w' => ∃ v, e = .returned v ∧ Wr.Own w' W.heap.size v (eAll (R, P)) ∧ v ≠ .slice none 0 0 ∧ Below W.heap.size W w' := by
  have hr1 := hR.2.1
  have hr2 := hR.2.2.1
  have hp1 := hP.2.1
  have hp2 := hP.2.2.1
  unfold maxLen at hr2 hp2
  have hrn : Hid (R.length = rn) := hR.1
  have hpn : Hid (P.length = pn) := hP.1
  have brn : rn ≤ 65 := by have := hF.1.1; have := hrn.out; simp only at *; omega
  have bpn : pn ≤ 64 := by have := hF.2.1; have := hpn.out; simp only at *; omega
  have HR : Hid (ERow 2 scs W ra rn rc R) := hR
  have HP : Hid (QRow W pa pn pc P) := hP
  have HF : Hid (CeF (R, P)) := hF
  have e1 : Hid ((putR rn).length ≤ 10) := put_small (by omega)
  have e2 : Hid ((R.flatMap eSp).length ≤ 20 * rn) := by have := flat_le (en := eSp) (c := 20) R (fun s hs => eSp_le (hF.1.2 s hs)); rw [hrn.out] at this; exact this
  have e3 : Hid ((putR pn).length ≤ 10) := put_small (by omega)
  have e4 : Hid (head4.length = 4) := rfl
  have u1 : Hid (Go.Proofs.Ythlnhodfgmpabaa.u64 (rn : Int) = rn) := u64_nat (by omega)
  have u2 : Hid (Go.Proofs.Ythlnhodfgmpabaa.u64 (pn : Int) = pn) := u64_nat (by omega)
  have cv := cv2
  have s1 := ((St.start W).new (c := #[.slice ra rn rc, .slice pa pn pc]) (t := 25)).skip (.cells #[.int .u8 83, .int .u8 87, .int .u8 67, .int .u8 49] 5 (4, 5))
  have hM := row_mark (W.alloc (.cells #[.slice ra rn rc, .slice pa pn pc] 25)) head4 head_byt (by unfold maxLen; simp [head4]) (4, 5)
  simp only [World.size_alloc] at hM s1
  obtain ⟨w1, hw1⟩ : ∃ w1, w1 = (W.alloc (.cells #[.slice ra rn rc, .slice pa pn pc] 25)).alloc (.cells #[.int .u8 83, .int .u8 87, .int .u8 67, .int .u8 49] 5 (4, 5)) := ⟨_, rfl⟩
  have T1 : Hid (Wo w1 W.heap.size (.slice (some ⟨W.heap.size + 1, 0, none⟩) 4 4) head4) := by rw [hw1]; exact .inr ⟨_, rfl, hM⟩
  rw [← hw1] at s1
  have S1 : Hid (St W w1 _) := s1
  have zW : W.heap.size ≤ w1.heap.size := s1.size
  clear hM hR hP hF
  go_enter Try.func23, Try.ntmps23
  go_wp2_with fail
  rw [← hw1]
  clear hw1 cv
  refine (count_any W.heap.size _ head4 (rn : Int) _ T1.out zW (by simp [head4])).mono ?_
  rintro e w2 ⟨v2, rfl, own2, nn2, K2⟩
  obtain ⟨ad2, an2, ac2, rfl⟩ := own_ltr own2 nn2
  have k2 : Hid (Wk0 W.heap.size w1 w2) := K2
  have B2 : Hid (w2.heap[W.heap.size]? = some (.cells #[.slice ra rn rc, .slice pa pn pc] 25 (0, 0))) := K2.2 _ _ _ (by decide) S1.out.h1
  have t2 : Hid (Wr.Own w2 W.heap.size (.slice (some ad2) an2 ac2) ((head4 ++ putR rn) ++ (R.take 0).flatMap eSp)) := by unfold Hid; rw [u1.out] at own2; simpa using own2
  obtain ⟨c1, f1, y1⟩ := cells_at B2.out
  clear own2 nn2 K2 s1 T1
  go_wp2
  go_loopw [3, 19] (fun b i wr => ∃ k : Nat, k ≤ rn ∧ i = .int .i64 k ∧ Wr.Own wr W.heap.size b ((head4 ++ putR rn) ++ (R.take k).flatMap eSp) ∧ b ≠ .slice none 0 0 ∧ Wk0 W.heap.size w1 wr) (fun _ i _ => rn - (intOf i).toNat)
  case atStart => exact ⟨0, Nat.zero_le _, rfl, t2.out, by simp, k2.out⟩
  case round =>
    clear t2 k2 B2 c1 f1 y1
    obtain ⟨k, hk, rfl, hT, hnn, hK⟩ := hrel
    obtain ⟨ad, an, ac, rfl⟩ := own_ltr hT hnn
    have hT' : Hid (Wo wr W.heap.size (.slice (some ad) an ac) ((head4 ++ putR rn) ++ (R.take k).flatMap eSp)) := .inl ⟨hT, hnn⟩
    have hK' : Hid (Wk0 W.heap.size w1 wr) := hK
    have zr := hK.size
    have hlen : Hid (((head4 ++ putR rn) ++ (R.take k).flatMap eSp).length ≤ 14 + 20 * k) := by
      have := flat_front (k := k) (en := eSp) (c := 20) (l := R) (fun s hs => eSp_le (HF.out.1.2 s hs)); have := e1.out; have := e4.out; unfold Hid; simp only [List.length_append]; omega
    by_cases hlk : k < rn
    · obtain ⟨x, p, rfl, hp, -, hcx⟩ := (HR.out.below (S1.out.below.trans hK.1)).at hlk
      obtain ⟨lo, hi⟩ := p
      have hS64 : Hid (S64 (lo, hi)) := HF.out.1.2 _ (List.mem_of_getElem? hp)
      have hcell : Hid (∀ j v, [Value.int .i64 lo, .int .i64 hi][j]? = some v → wr.cell? ((x.add (k * 2)).add j) = some v) := hcx
      have hnext : Hid ((head4 ++ putR rn) ++ (R.take k).flatMap eSp ++ eSp (lo, hi) = (head4 ++ putR rn) ++ (R.take (k + 1)).flatMap eSp) := by
        unfold Hid; rw [take_more hp, List.flatMap_append]; simp
      have B0 : Hid ((wr.alloc (.cells #[.int .i64 lo, .int .i64 hi] 44)).heap[wr.heap.size]? = some (.cells #[.int .i64 lo, .int .i64 hi] 44 (0, 0))) := heap_alloc_new wr _
      obtain ⟨c1, f1, y1⟩ := cells_at B0.out
      clear hT hnn hK hp hcx
      go_wp2_with (first
        | (refine wpList_load_any rfl 44 (.tmp 21) rfl _ rfl [.int .i64 lo, .int .i64 hi] _ hcell.out Try.underlying44 rfl (by kernel_rfl) ?_)
        | (refine wpList_st_new rfl 44 (.tmp 5) (.tmp 22) rfl wr _ #[.int .i64 lo, .int .i64 hi] rfl rfl (by kernel_rfl) rfl (by simp [Value.oneCell']) ?_))
      refine (ends_any W.heap.size _ _ lo hi _ (hT'.out.below (bal _ _)) (by simp; omega) hS64.out (by have := hlen.out; omega)).mono ?_
      rintro e w3 ⟨v3, rfl, own3, nn3, K3⟩
      have hE : Hid (Wr.Own w3 W.heap.size v3 ((head4 ++ putR rn) ++ (R.take (k + 1)).flatMap eSp) ∧ v3 ≠ .slice none 0 0 ∧ Wk0 W.heap.size w1 w3) := ⟨hnext.out ▸ own3, nn3, hK'.out.trans ((Wk0.of (bal _ _) (by omega)).trans K3)⟩
      clear own3 nn3 K3 hT' B0 c1 f1 y1
      go_wp2
      go_roundw
      case rel => exact ⟨k + 1, by omega, by go_num, hE.out.1, hE.out.2.1, hE.out.2.2⟩
      case measure => simp [intOf]; omega
    · have B3 : Hid (wr.heap[W.heap.size]? = some (.cells #[.slice ra rn rc, .slice pa pn pc] 25 (0, 0))) := hK.2 _ _ _ (by decide) S1.out.h1
      have t3 : Hid (Wo wr W.heap.size (.slice (some ad) an ac) (head4 ++ (putR rn ++ R.flatMap eSp))) := by
        unfold Hid; rw [List.take_of_length_le (by rw [hrn.out]; omega), List.append_assoc] at hT; exact .inl ⟨hT, hnn⟩
      obtain ⟨c1, f1, y1⟩ := cells_at B3.out
      clear hT hnn hT' hlen
      go_wp2_with fail
      refine (count_any W.heap.size _ _ (pn : Int) _ t3.out (by omega) (by have := e1.out; have := e2.out; have := e4.out; simp only [List.length_append]; omega)).mono ?_
      rintro e w4 ⟨v4, rfl, own4, nn4, K4⟩
      obtain ⟨ad4, an4, ac4, rfl⟩ := own_ltr own4 nn4
      have k4 : Hid (Wk0 W.heap.size w1 w4) := hK'.out.trans K4
      have B4 : Hid (w4.heap[W.heap.size]? = some (.cells #[.slice ra rn rc, .slice pa pn pc] 25 (0, 0))) := K4.2 _ _ _ (by decide) B3.out
      have t4 : Hid (Wr.Own w4 W.heap.size (.slice (some ad4) an4 ac4) ((head4 ++ (putR rn ++ (R.flatMap eSp ++ putR pn))) ++ (P.take 0).flatMap eLi)) := by unfold Hid; rw [u2.out] at own4; simpa using own4
      clear own4 nn4 K4 t3 B3 hK hK' c1 f1 y1
      obtain ⟨c1, f1, y1⟩ := cells_at B4.out
      go_wp2
      go_loopw [3, 35] (fun b i wr => ∃ k : Nat, k ≤ pn ∧ i = .int .i64 k ∧ Wr.Own wr W.heap.size b ((head4 ++ (putR rn ++ (R.flatMap eSp ++ putR pn))) ++ (P.take k).flatMap eLi) ∧ b ≠ .slice none 0 0 ∧ Wk0 W.heap.size w1 wr) (fun _ i _ => pn - (intOf i).toNat)
      case atStart => exact ⟨0, Nat.zero_le _, rfl, t4.out, by simp, k4.out⟩
      case round =>
        clear t4 k4 B4 c1 f1 y1
        obtain ⟨k, hk, rfl, hT, hnn, hK⟩ := hrel
        obtain ⟨ad, an, ac, rfl⟩ := own_ltr hT hnn
        have hT' : Hid (Wo wr W.heap.size (.slice (some ad) an ac) ((head4 ++ (putR rn ++ (R.flatMap eSp ++ putR pn))) ++ (P.take k).flatMap eLi)) := .inl ⟨hT, hnn⟩
        have hK' : Hid (Wk0 W.heap.size w1 wr) := hK
        have zr := hK.size
        have hlen : Hid (((head4 ++ (putR rn ++ (R.flatMap eSp ++ putR pn))) ++ (P.take k).flatMap eLi).length ≤ 2000 + 70000 * k) := by
          have := flat_front (k := k) (en := eLi) (c := 70000) (l := P) (fun l hl => eLi_le (fun p hp => ((HF.out.2.2 l hl).2 p hp).2) (HF.out.2.2 l hl).1); have := e1.out; have := e2.out; have := e3.out; have := e4.out; unfold Hid; simp only [List.length_append]; omega
        by_cases hlk : k < pn
        rotate_left
        · have t5 : Hid (Wr.Own wr W.heap.size (.slice (some ad) an ac) (eAll (R, P))) := by
            unfold Hid eAll eCe; rw [List.take_of_length_le (by rw [hpn.out]; omega)] at hT
            simp only
            rw [hrn.out, hpn.out]
            simpa using hT
          have hb5 : Hid (Below W.heap.size W wr) := S1.out.below.trans hK.1
          clear hT hnn hK hT' hlen
          go_wp2
          go_ret
          exact ⟨_, rfl, t5.out, by simp, hb5.out⟩
        · obtain ⟨x, l, ca, cc, rfl, hPk, -, hcl, hE0, hlr⟩ := HP.out.at hlk
          have hcl' := ((S1.out.below.trans hK.1).cell (World.block_lt_of_cell? W _ hcl)).trans hcl
          obtain ⟨ln, hln⟩ : ∃ ln, l.length = ln := ⟨_, rfl⟩
          rw [hln] at hcl' hE0
          have HLN : Hid (l.length = ln) := hln
          have HLF : Hid (LiF l) := HF.out.2.2 l (List.mem_of_getElem? hPk)
          have HE : Hid (ERow 6 pcs W ca ln cc l) := hE0
          have bln : ln ≤ 1024 := by have := HLF.out.1; rw [hln] at this; exact this
          have lc1 := hE0.2.1
          have lc2 := hE0.2.2.1
          unfold maxLen at lc2
          have hnext : Hid ((head4 ++ (putR rn ++ (R.flatMap eSp ++ putR pn)) ++ (P.take k).flatMap eLi ++ putR ln) ++ l.flatMap ePl = (head4 ++ (putR rn ++ (R.flatMap eSp ++ putR pn))) ++ (P.take (k + 1)).flatMap eLi) := by
            unfold Hid; rw [take_more hPk, List.flatMap_append, ← hln]; simp [eLi]
          have u3 : Hid (Go.Proofs.Ythlnhodfgmpabaa.u64 (ln : Int) = ln) := u64_nat (by omega)
          have e5 : Hid ((putR ln).length ≤ 10) := put_small (by omega)
          clear hT hnn hK hPk hE0 hln hlr hcl
          go_wp2_with fail
          refine (count_any W.heap.size _ _ (ln : Int) _ hT'.out (by omega) (by have := hlen.out; omega)).mono ?_
          rintro e w6 ⟨v6, rfl, own6, nn6, K6⟩
          obtain ⟨ad6, an6, ac6, rfl⟩ := own_ltr own6 nn6
          have k6 : Hid (Wk0 W.heap.size w1 w6) := hK'.out.trans K6
          have t6 : Hid (Wr.Own w6 W.heap.size (.slice (some ad6) an6 ac6) ((head4 ++ (putR rn ++ (R.flatMap eSp ++ putR pn)) ++ (P.take k).flatMap eLi ++ putR ln) ++ (l.take 0).flatMap ePl)) := by unfold Hid; rw [u3.out] at own6; simpa using own6
          clear own6 nn6 K6 hT' hK' hcl'
          go_wp2
          go_loopw [3, 45] (fun b i wr => ∃ j : Nat, j ≤ ln ∧ i = .int .i64 j ∧ Wr.Own wr W.heap.size b ((head4 ++ (putR rn ++ (R.flatMap eSp ++ putR pn)) ++ (P.take k).flatMap eLi ++ putR ln) ++ (l.take j).flatMap ePl) ∧ b ≠ .slice none 0 0 ∧ Wk0 W.heap.size w1 wr) (fun _ i _ => ln - (intOf i).toNat)
          case atStart => exact ⟨0, Nat.zero_le _, rfl, t6.out, by simp, k6.out⟩
          case round =>
            clear t6 k6
            obtain ⟨j, hj, rfl, hT, hnn, hK⟩ := hrel
            obtain ⟨ad, an, ac, rfl⟩ := own_ltr hT hnn
            have hT' : Hid (Wo wr W.heap.size (.slice (some ad) an ac) ((head4 ++ (putR rn ++ (R.flatMap eSp ++ putR pn)) ++ (P.take k).flatMap eLi ++ putR ln) ++ (l.take j).flatMap ePl)) := .inl ⟨hT, hnn⟩
            have hK' : Hid (Wk0 W.heap.size w1 wr) := hK
            have zr2 := hK.size
            by_cases hlj : j < ln
            rotate_left
            · have t7 : Hid (Wr.Own wr W.heap.size (.slice (some ad) an ac) ((head4 ++ (putR rn ++ (R.flatMap eSp ++ putR pn))) ++ (P.take (k + 1)).flatMap eLi)) := by
                unfold Hid; rw [show l.take j = l from List.take_of_length_le (by rw [HLN.out]; omega), hnext.out] at hT; exact hT
              clear hT hnn hK hT'
              go_wp2
              go_roundw
              case rel => exact ⟨k + 1, by omega, by go_num, t7.out, by simp, hK'.out⟩
              case measure => simp [intOf]; omega
            · obtain ⟨y, p, rfl, hp, -, hcx⟩ := (HE.out.below (S1.out.below.trans hK.1)).at hlj
              obtain ⟨p1, p2, p3, p4, p5, p6⟩ := p
              have hP64 : Hid (P64 (p1, p2, p3, p4, p5, p6)) := (HLF.out.2 _ (List.mem_of_getElem? hp)).2
              have hcell : Hid (∀ q v, [.int .i64 p1, .int .i64 p2, .int .i64 p3, .int .i64 p4, .int .i64 p5, .int .i64 p6][q]? = some v → wr.cell? ((y.add (j * 6)).add q) = some v) := hcx
              have hlen2 : Hid (((head4 ++ (putR rn ++ (R.flatMap eSp ++ putR pn)) ++ (P.take k).flatMap eLi ++ putR ln) ++ (l.take j).flatMap ePl).length ≤ 2010 + 70000 * k + 60 * j) := by
                have := flat_front (k := j) (en := ePl) (c := 60) (l := l) (fun s hs => ePl_le ((HLF.out.2 s hs).2)); have := hlen.out; have := e5.out; unfold Hid; simp only [List.length_append] at *; omega
              have hnx2 : Hid ((head4 ++ (putR rn ++ (R.flatMap eSp ++ putR pn)) ++ (P.take k).flatMap eLi ++ putR ln) ++ (l.take j).flatMap ePl ++ putR (Go.Proofs.Ythlnhodfgmpabaa.u64 p1) ++ putR (Go.Proofs.Ythlnhodfgmpabaa.u64 p2) ++ eSp (p3, p4) ++ eSp (p5, p6) = (head4 ++ (putR rn ++ (R.flatMap eSp ++ putR pn)) ++ (P.take k).flatMap eLi ++ putR ln) ++ (l.take (j + 1)).flatMap ePl) := by
                unfold Hid; rw [take_more hp, List.flatMap_append]; simp [ePl]
              have q1 : Hid ((putR (Go.Proofs.Ythlnhodfgmpabaa.u64 p1)).length ≤ 10) := putR_ten (u64_lt p1)
              have q2 : Hid ((putR (Go.Proofs.Ythlnhodfgmpabaa.u64 p2)).length ≤ 10) := putR_ten (u64_lt p2)
              have q3 : Hid ((eSp (p3, p4)).length ≤ 20) := eSp_le hP64.out.1
              have B0 : Hid ((wr.alloc (.cells #[.int .i64 p1, .int .i64 p2, .int .i64 p3, .int .i64 p4, .int .i64 p5, .int .i64 p6] 47)).heap[wr.heap.size]? = some (.cells #[.int .i64 p1, .int .i64 p2, .int .i64 p3, .int .i64 p4, .int .i64 p5, .int .i64 p6] 47 (0, 0))) := heap_alloc_new wr _
              obtain ⟨c1, f1, y1⟩ := cells_at B0.out
              clear hT hnn hK hp hcx
              go_wp2_with (first
                | (refine wpList_load_any rfl 47 (.tmp 47) rfl _ rfl [.int .i64 p1, .int .i64 p2, .int .i64 p3, .int .i64 p4, .int .i64 p5, .int .i64 p6] _ hcell.out Try.underlying47 rfl (by kernel_rfl) ?_)
                | (refine wpList_st_new rfl 47 (.tmp 9) (.tmp 48) rfl wr _ #[.int .i64 p1, .int .i64 p2, .int .i64 p3, .int .i64 p4, .int .i64 p5, .int .i64 p6] rfl rfl (by kernel_rfl) rfl (by simp [Value.oneCell']) ?_))
              refine (count_any W.heap.size _ _ p1 _ (hT'.out.below (bal _ _)) (by simp; omega) (by have := hlen2.out; omega)).mono ?_
              rintro e w7 ⟨v7, rfl, own7, nn7, K7⟩
              obtain ⟨ad7, an7, ac7, rfl⟩ := own_ltr own7 nn7
              have B7 : Hid (w7.heap[wr.heap.size]? = some (.cells #[.int .i64 p1, .int .i64 p2, .int .i64 p3, .int .i64 p4, .int .i64 p5, .int .i64 p6] 47 (0, 0))) := K7.2 _ _ _ (by decide) B0.out
              have t7 : Hid (Wo w7 W.heap.size (.slice (some ad7) an7 ac7) _) := .inl ⟨own7, nn7⟩
              have k7 : Hid (Wk0 W.heap.size w1 w7) := hK'.out.trans ((Wk0.of (bal _ _) (by omega)).trans K7)
              have zz7 := k7.out.size
              clear own7 nn7 K7 hT' B0 c1 f1 y1
              obtain ⟨c1, f1, y1⟩ := cells_at B7.out
              go_wp2_with fail
              refine (count_any W.heap.size _ _ p2 _ t7.out (by omega) (by have := hlen2.out; have := q1.out; rw [List.length_append]; omega)).mono ?_
              rintro e w8 ⟨v8, rfl, own8, nn8, K8⟩
              obtain ⟨ad8, an8, ac8, rfl⟩ := own_ltr own8 nn8
              have B8 : Hid (w8.heap[wr.heap.size]? = some (.cells #[.int .i64 p1, .int .i64 p2, .int .i64 p3, .int .i64 p4, .int .i64 p5, .int .i64 p6] 47 (0, 0))) := K8.2 _ _ _ (by decide) B7.out
              have t8 : Hid (Wo w8 W.heap.size (.slice (some ad8) an8 ac8) _) := .inl ⟨own8, nn8⟩
              have k8 : Hid (Wk0 W.heap.size w1 w8) := k7.out.trans K8
              have zz8 := k8.out.size
              clear own8 nn8 K8 t7 B7 k7 c1 f1 y1
              obtain ⟨c1, f1, y1⟩ := cells_at B8.out
              go_wp2_with fail
              refine (ends_any W.heap.size _ _ p3 p4 _ t8.out (by omega) hP64.out.1 (by have := hlen2.out; have := q1.out; have := q2.out; simp only [List.length_append] at *; omega)).mono ?_
              rintro e w9 ⟨v9, rfl, own9, nn9, K9⟩
              obtain ⟨ad9, an9, ac9, rfl⟩ := own_ltr own9 nn9
              have B9 : Hid (w9.heap[wr.heap.size]? = some (.cells #[.int .i64 p1, .int .i64 p2, .int .i64 p3, .int .i64 p4, .int .i64 p5, .int .i64 p6] 47 (0, 0))) := K9.2 _ _ _ (by decide) B8.out
              have t9 : Hid (Wo w9 W.heap.size (.slice (some ad9) an9 ac9) _) := .inl ⟨own9, nn9⟩
              have k9 : Hid (Wk0 W.heap.size w1 w9) := k8.out.trans K9
              have zz9 := k9.out.size
              clear own9 nn9 K9 t8 B8 k8 c1 f1 y1
              obtain ⟨c1, f1, y1⟩ := cells_at B9.out
              go_wp2_with fail
              refine (ends_any W.heap.size _ _ p5 p6 _ t9.out (by omega) hP64.out.2 (by have := hlen2.out; have := q1.out; have := q2.out; have := q3.out; simp only [List.length_append] at *; omega)).mono ?_
              rintro e w10 ⟨v10, rfl, own10, nn10, K10⟩
              have hE : Hid (Wr.Own w10 W.heap.size v10 ((head4 ++ (putR rn ++ (R.flatMap eSp ++ putR pn)) ++ (P.take k).flatMap eLi ++ putR ln) ++ (l.take (j + 1)).flatMap ePl) ∧ v10 ≠ .slice none 0 0 ∧ Wk0 W.heap.size w1 w10) := ⟨hnx2.out ▸ own10, nn10, k9.out.trans K10⟩
              clear own10 nn10 K10 t9 B9 k9 c1 f1 y1
              go_wp2
              go_roundw
              case rel => exact ⟨j + 1, by omega, by go_num, hE.out.1, hE.out.2.1, hE.out.2.2⟩
              case measure => simp [intOf]; omega
end Go.Proofs.Ythlnhodfgmpabaa.Sl
