/- The writer of package seal: plans, a certificate. -/
import Derived.Test.YthlnhodfgmpabaaSelW
namespace Go.Proofs.Ythlnhodfgmpabaa.Sl
open Wr
open Go.ChangeShapes Go.WideShapes Go.ChangeAt Go.RowKit
set_option linter.unusedVariables false
theorem u64_nat {n : Nat} (h : n < 18446744073709551616) : u64 (n : Int) = n := by rw [u64_of (by omega) (by omega), Int.toNat_natCast]
/-- Spans that lie in one block. -/
theorem erow_two {w : World} {b : Nat} {T : TypeId} {a1 a2 b1 b2 : Int} (h : w.heap[b]? = some (.cells #[.int .i64 a1, .int .i64 a2, .int .i64 b1, .int .i64 b2] T (0, 0))) : ERow 2 scs w (some ⟨b, 0, none⟩) 2 2 [(a1, a2), (b1, b2)] := by
  refine ⟨rfl, Nat.le_refl _, by unfold maxLen; omega, fun h => (by cases h), fun x hx i p hp j v hv => ?_⟩
  cases hx
  rw [Addr.add_lit, Nat.zero_add, Addr.add_lit, (cells_at h).1]
  match i, hp with
  | 0, hp =>
    simp only [List.getElem?_cons_zero, Option.some.injEq] at hp
    subst hp
    match j, hv with
    | 0, hv => simpa [scs] using hv
    | 1, hv => simpa [scs] using hv
    | j + 2, hv => simp [scs] at hv
  | 1, hp =>
    simp only [List.getElem?_cons_succ, List.getElem?_cons_zero, Option.some.injEq] at hp
    subst hp
    match j, hv with
    | 0, hv => simpa [scs] using hv
    | 1, hv => simpa [scs] using hv
    | j + 2, hv => simp [scs] at hv
  | i + 2, hp => simp at hp
set_option maxHeartbeats 2000000 in
set_option maxRecDepth 100000 in
theorem plans_any (Wb base : Nat) (xs : List Int) (a : Option Addr) (n c : Nat) (l : List Pl) (w : World) (h : WtO w Wb base xs) (hb : base ≤ Wb) (hE : ∀ w', Wk base Wb w w' → ERow 6 pcs w' a n c l) (h64 : ∀ p ∈ l, P64 p) (hn2 : n ≤ 1024) (hs : xs.length + 100000 ≤ 140737488355328) :
    Calls Try.prog 39 #[(.pointer (some ⟨Wb, 0, none⟩)), .slice a n c] w fun e w' => e = .returned (.tuple #[]) ∧ WtO w' Wb base (xs ++ eLi l) ∧ Wk base Wb w w' := by
  have hlt := h.lt
  have HE : Hid (∀ w', Wk base Wb w w' → ERow 6 pcs w' a n c l) := hE
  have hl : Hid (l.length = n) := (hE w (Wk.refl _ _ _)).1
  have hc0 := (hE w (Wk.refl _ _ _)).2.1
  have hc1 := (hE w (Wk.refl _ _ _)).2.2.1
  unfold maxLen at hc1
  have H64 : Hid (∀ p ∈ l, P64 p) := h64
  have T0 : Hid (WtO w Wb base xs) := h
  have hpl : Hid ((putR n).length ≤ 10) := put_small (by omega)
  have hu : Hid (u64 (n : Int) = n) := u64_nat (by omega)
  clear h hE h64
  go_enter Try.func39, Try.ntmps39
  go_wp2_with fail
  refine (unsigned_any Wb base xs (n : Int) _ T0.out.wt hb (by omega)).mono ?_
  rintro e w0 ⟨rfl, T1, K1⟩
  have t0 : Hid (WtO w0 Wb base (xs ++ (putR n ++ (l.take 0).flatMap ePl))) := by unfold Hid; rw [hu.out] at T1; simpa using T1
  have k0 : Hid (Wk base Wb w w0) := K1
  have hlt0 := t0.out.lt
  clear T1 K1 T0
  go_wp2
  go_loopw [12] (fun i wr => ∃ k : Nat, k ≤ n ∧ i = .int .i64 k ∧ WtO wr Wb base (xs ++ (putR n ++ (l.take k).flatMap ePl)) ∧ Wk base Wb w wr) (fun i _ => n - (intOf i).toNat)
  case atStart => exact ⟨0, Nat.zero_le _, rfl, t0.out, k0.out⟩
  case round =>
    obtain ⟨k, hk, rfl, hT, hK⟩ := hrel
    clear t0
    have hltr := hT.lt
    have hT' : Hid (WtO wr Wb base (xs ++ (putR n ++ (l.take k).flatMap ePl))) := hT
    have hK' : Hid (Wk base Wb w wr) := hK
    by_cases hlk : k < n
    · obtain ⟨x, p, rfl, hp, -, hcx⟩ := (HE.out _ hK).at hlk
      obtain ⟨p1, p2, p3, p4, p5, p6⟩ := p
      have hP64 : Hid (P64 (p1, p2, p3, p4, p5, p6)) := H64.out _ (List.mem_of_getElem? hp)
      have hcell : Hid (∀ j v, [.int .i64 p1, .int .i64 p2, .int .i64 p3, .int .i64 p4, .int .i64 p5, .int .i64 p6][j]? = some v → wr.cell? ((x.add (k * 6)).add j) = some v) := hcx
      have hlen : Hid ((xs ++ (putR n ++ (l.take k).flatMap ePl)).length ≤ xs.length + 10 + 60 * k) := by
        have := flat_front (k := k) (en := ePl) (c := 60) (l := l) (fun s hs => ePl_le (H64.out s hs)); have := hpl.out; unfold Hid; simp only [List.length_append]; omega
      have hnext : Hid (xs ++ (putR n ++ (l.take k).flatMap ePl) ++ putR (u64 p1) ++ putR (u64 p2) ++ [(p3, p4), (p5, p6)].flatMap eSp = xs ++ (putR n ++ (l.take (k + 1)).flatMap ePl)) := by
        unfold Hid; rw [take_more hp, List.flatMap_append]; simp [ePl]
      have q1 : Hid ((putR (u64 p1)).length ≤ 10) := putR_ten (u64_lt p1)
      have q2 : Hid ((putR (u64 p2)).length ≤ 10) := putR_ten (u64_lt p2)
      have B0 : Hid ((wr.alloc (.cells #[.int .i64 p1, .int .i64 p2, .int .i64 p3, .int .i64 p4, .int .i64 p5, .int .i64 p6] 47)).heap[wr.heap.size]? = some (.cells #[.int .i64 p1, .int .i64 p2, .int .i64 p3, .int .i64 p4, .int .i64 p5, .int .i64 p6] 47 (0, 0))) := heap_alloc_new wr _
      obtain ⟨c1, f1, y1⟩ := cells_at B0.out
      clear hT hK hp hcx
      go_wp2_with (first
        | (refine wpList_load_any rfl 47 (.tmp 14) rfl _ rfl [.int .i64 p1, .int .i64 p2, .int .i64 p3, .int .i64 p4, .int .i64 p5, .int .i64 p6] _ hcell.out Try.underlying47 rfl (by kernel_rfl) ?_)
        | (refine wpList_st_new rfl 47 (.tmp 5) (.tmp 15) rfl wr _ #[.int .i64 p1, .int .i64 p2, .int .i64 p3, .int .i64 p4, .int .i64 p5, .int .i64 p6] rfl rfl (by kernel_rfl) rfl (by simp [Value.oneCell']) ?_))
      refine (unsigned_any Wb base _ p1 _ (hT'.out.al _).wt hb (by have := hlen.out; omega)).mono ?_
      rintro e w1 ⟨rfl, T1, K1⟩
      have B1 : Hid (w1.heap[wr.heap.size]? = some (.cells #[.int .i64 p1, .int .i64 p2, .int .i64 p3, .int .i64 p4, .int .i64 p5, .int .i64 p6] 47 (0, 0))) := K1.2 _ _ _ (by omega) (by decide) B0.out
      have t1 : Hid (WtO w1 Wb base _) := T1
      have k1 : Hid (Wk base Wb w w1) := hK'.out.trans ((wk_al _ (by omega)).trans K1)
      clear T1 K1 hT' B0 c1 f1 y1
      obtain ⟨c1, f1, y1⟩ := cells_at B1.out
      go_wp2_with fail
      refine (unsigned_any Wb base _ p2 _ t1.out.wt hb (by have := hlen.out; have := q1.out; rw [List.length_append]; omega)).mono ?_
      rintro e w2 ⟨rfl, T2, K2⟩
      have B2 : Hid (w2.heap[wr.heap.size]? = some (.cells #[.int .i64 p1, .int .i64 p2, .int .i64 p3, .int .i64 p4, .int .i64 p5, .int .i64 p6] 47 (0, 0))) := K2.2 _ _ _ (by omega) (by decide) B1.out
      have t2 : Hid (WtO w2 Wb base _) := T2
      have k2 : Hid (Wk base Wb w w2) := k1.out.trans K2
      have hlt2 := t2.out.lt
      clear T2 K2 t1 k1 B1 c1 f1 y1
      obtain ⟨c1, f1, y1⟩ := cells_at B2.out
      have Bn : Hid ((w2.alloc (.cells #[.int .i64 p3, .int .i64 p4, .int .i64 p5, .int .i64 p6] 44)).heap[w2.heap.size]? = some (.cells #[.int .i64 p3, .int .i64 p4, .int .i64 p5, .int .i64 p6] 44 (0, 0))) := heap_alloc_new w2 _
      go_wp2_with fail
      refine (spans_any Wb base _ (some ⟨w2.heap.size, 0, none⟩) 2 2 [(p3, p4), (p5, p6)] (w2.alloc (.cells #[.int .i64 p3, .int .i64 p4, .int .i64 p5, .int .i64 p6] 44)) (t2.out.al _) hb (fun w' kw => erow_two (kw.2 _ _ _ (by omega) (by decide) Bn.out)) (fun s hs => by simp only [List.mem_cons, List.not_mem_nil, or_false] at hs; rcases hs with rfl | rfl; exact hP64.out.1; exact hP64.out.2) (by omega) (by have := hlen.out; have := q1.out; have := q2.out; simp only [List.length_append] at *; omega)).mono ?_
      rintro e w3 ⟨rfl, T3, K3⟩
      have t3 : Hid (WtO w3 Wb base (xs ++ (putR n ++ (l.take (k + 1)).flatMap ePl))) := hnext.out ▸ T3
      have k3 : Hid (Wk base Wb w w3) := k2.out.trans ((wk_al _ (by omega)).trans K3)
      clear T3 K3 t2 B2 Bn c1 f1 y1
      go_wp2
      go_roundw
      case rel => exact ⟨k + 1, by omega, by go_num, t3.out, k3.out⟩
      case measure => simp [intOf]; omega
    · have t2 : Hid (WtO wr Wb base (xs ++ eLi l)) := by
        unfold Hid eLi; rw [List.take_of_length_le (by rw [hl.out]; omega)] at hT; rw [hl.out]; exact hT
      clear hT hK hT'
      go_wp2
      go_end0
      exact ⟨rfl, t2.out, hK'.out⟩
set_option maxHeartbeats 4000000 in
set_option maxRecDepth 100000 in
theorem wcert_any (Wb : Nat) (xs : List Int) (ra : Option Addr) (rn rc : Nat) (R : List (Int × Int)) (pa : Option Addr) (pn pc : Nat) (P : List (List Pl)) (W V : World) (hT : Wt V Wb W.heap.size xs) (hW : Below W.heap.size W V) (hb : W.heap.size ≤ Wb)
    (hR : ERow 2 scs W ra rn rc R) (hP : QRow W pa pn pc P) (hF : CeF (R, P)) (hs : xs.length ≤ 1000) :
    Calls Try.prog 21 #[(.pointer (some ⟨Wb, 0, none⟩)), .agg #[.slice ra rn rc, .slice pa pn pc]] V fun e w' => e = .returned (.tuple #[]) ∧ WtO w' Wb W.heap.size (xs ++ eCe (R, P)) ∧ Wk W.heap.size Wb V w' := by
  have hlt := hT.lt
  have hr1 := hR.2.1
  have hr2 := hR.2.2.1
  have hp1 := hP.2.1
  have hp2 := hP.2.2.1
  unfold maxLen at hr2 hp2
  have hrn : Hid (R.length = rn) := hR.1
  have hpn : Hid (P.length = pn) := hP.1
  have brn : rn ≤ 65 := by have := hF.1.1; have := hrn.out; simp only at *; omega
  have bpn : pn ≤ 64 := by have := hF.2.1; have := hpn.out; simp only at *; omega
  have HR : Hid (ERow 2 scs W ra rn rc R) := hR
  have HP : Hid (QRow W pa pn pc P) := hP
  have HF : Hid (CeF (R, P)) := hF
  have HW : Hid (Below W.heap.size W V) := hW
  have H : Hid (Wt V Wb W.heap.size xs) := hT
  have e1 : Hid ((putR rn).length ≤ 10) := put_small (by omega)
  have e2 : Hid ((R.flatMap eSp).length ≤ 20 * rn) := by have := flat_le (en := eSp) (c := 20) R (fun s hs => eSp_le (hF.1.2 s hs)); rw [hrn.out] at this; exact this
  have e3 : Hid ((putR pn).length ≤ 10) := put_small (by omega)
  have u1 : Hid (u64 (rn : Int) = rn) := u64_nat (by omega)
  have u2 : Hid (u64 (pn : Int) = pn) := u64_nat (by omega)
  have k0 : Hid (Wk W.heap.size Wb V (V.alloc (.cells #[.slice ra rn rc, .slice pa pn pc] 25))) := wk_al _ (by omega)
  have B0 : Hid ((V.alloc (.cells #[.slice ra rn rc, .slice pa pn pc] 25)).heap[V.heap.size]? = some (.cells #[.slice ra rn rc, .slice pa pn pc] 25 (0, 0))) := heap_alloc_new V _
  obtain ⟨c1, f1, y1⟩ := cells_at B0.out
  clear hT hW hR hP hF
  go_enter Try.func21, Try.ntmps21
  go_wp2_with fail
  refine (unsigned_any Wb W.heap.size xs (rn : Int) _ (H.out.al _) hb (by omega)).mono ?_
  rintro e w1 ⟨rfl, T1, K1⟩
  have k1 : Hid (Wk W.heap.size Wb V w1) := k0.out.trans K1
  have B1 : Hid (w1.heap[V.heap.size]? = some (.cells #[.slice ra rn rc, .slice pa pn pc] 25 (0, 0))) := K1.2 _ _ _ (by omega) (by decide) B0.out
  have t1 : Hid (WtO w1 Wb W.heap.size (xs ++ putR rn)) := by unfold Hid; rw [u1.out] at T1; exact T1
  clear K1 T1 c1 f1 y1 k0 B0
  obtain ⟨c1, f1, y1⟩ := cells_at B1.out
  go_wp2_with fail
  refine (spans_any Wb W.heap.size _ ra rn rc R _ t1.out hb (fun w' kw => HR.out.below ((HW.out.trans k1.out.1).trans kw.1)) HF.out.1.2 (by omega) (by have := e1.out; simp only [List.length_append]; omega)).mono ?_
  rintro e w2 ⟨rfl, T2, K2⟩
  have k2 : Hid (Wk W.heap.size Wb V w2) := k1.out.trans K2
  have B2 : Hid (w2.heap[V.heap.size]? = some (.cells #[.slice ra rn rc, .slice pa pn pc] 25 (0, 0))) := K2.2 _ _ _ (by omega) (by decide) B1.out
  have t2 : Hid (WtO w2 Wb W.heap.size (xs ++ putR rn ++ R.flatMap eSp)) := T2
  clear K2 T2 c1 f1 y1 k1 B1 t1
  obtain ⟨c1, f1, y1⟩ := cells_at B2.out
  go_wp2_with fail
  refine (unsigned_any Wb W.heap.size _ (pn : Int) _ t2.out.wt hb (by have := e1.out; have := e2.out; simp only [List.length_append]; omega)).mono ?_
  rintro e w3 ⟨rfl, T3, K3⟩
  have k3 : Hid (Wk W.heap.size Wb V w3) := k2.out.trans K3
  have B3 : Hid (w3.heap[V.heap.size]? = some (.cells #[.slice ra rn rc, .slice pa pn pc] 25 (0, 0))) := K3.2 _ _ _ (by omega) (by decide) B2.out
  have t3 : Hid (WtO w3 Wb W.heap.size (xs ++ (putR rn ++ (R.flatMap eSp ++ (putR pn ++ (P.take 0).flatMap eLi))))) := by
    unfold Hid; rw [u2.out] at T3; simpa using T3
  clear K3 T3 c1 f1 y1 k2 B2 t2
  obtain ⟨c1, f1, y1⟩ := cells_at B3.out
  go_wp2
  go_loopw [23] (fun i wr => ∃ k : Nat, k ≤ pn ∧ i = .int .i64 k ∧ WtO wr Wb W.heap.size (xs ++ (putR rn ++ (R.flatMap eSp ++ (putR pn ++ (P.take k).flatMap eLi)))) ∧ Wk W.heap.size Wb V wr) (fun i _ => pn - (intOf i).toNat)
  case atStart => exact ⟨0, Nat.zero_le _, rfl, t3.out, k3.out⟩
  case round =>
    obtain ⟨k, hk, rfl, hT, hK⟩ := hrel
    clear t3 k3 B3 c1 f1 y1
    have hltr := hT.lt
    have hT' : Hid (WtO wr Wb W.heap.size _) := hT
    have hK' : Hid (Wk W.heap.size Wb V wr) := hK
    have hlen : Hid (((P.take k).flatMap eLi).length ≤ 70000 * k) := flat_front (fun l hl => eLi_le (fun p hp => ((HF.out.2.2 l hl).2 p hp).2) (HF.out.2.2 l hl).1)
    by_cases hlk : k < pn
    · obtain ⟨x, l, ca, cc, rfl, hPk, -, hcl, hE, hlr⟩ := (HP.out.below (HW.out.trans hK.1)).at hlk
      obtain ⟨ln, hln⟩ : ∃ ln, l.length = ln := ⟨_, rfl⟩
      rw [hln] at hcl hE
      have HLN : Hid (l.length = ln) := hln
      have HLF : Hid (LiF l) := HF.out.2.2 l (List.mem_of_getElem? hPk)
      have HE : Hid (∀ w', Wk W.heap.size Wb wr w' → ERow 6 pcs w' ca ln cc l) := fun w' kw => by
        obtain ⟨x', l', ca', cc', hx', hPk', -, hcl', hE', -⟩ := (HP.out.below ((HW.out.trans hK.1).trans kw.1)).at hlk
        cases hx'
        rw [hPk] at hPk'
        cases hPk'
        have hq := World.block_lt_of_cell? wr _ hcl
        obtain ⟨x0, l0, ca0, cc0, hx0, hPk0, -, hcl0, hE0, -⟩ := HP.out.at hlk
        cases hx0
        rw [hPk] at hPk0
        cases hPk0
        have e0 := ((HW.out.trans hK.1).cell (World.block_lt_of_cell? W _ hcl0)).trans hcl0
        rw [hcl, hln] at e0
        simp only [Option.some.injEq, Value.slice.injEq, true_and] at e0
        obtain ⟨rfl, rfl⟩ := e0
        rw [hln] at hE0
        exact hE0.below ((HW.out.trans hK.1).trans kw.1)
      have hnext : Hid (xs ++ (putR rn ++ (R.flatMap eSp ++ (putR pn ++ (P.take k).flatMap eLi))) ++ eLi l = xs ++ (putR rn ++ (R.flatMap eSp ++ (putR pn ++ (P.take (k + 1)).flatMap eLi)))) := by
        unfold Hid; rw [take_more hPk, List.flatMap_append]; simp
      have bln : ln ≤ 1024 := by have := HLF.out.1; rw [hln] at this; exact this
      clear hT hK hPk hE hln hlr
      go_wp2_with fail
      refine (plans_any Wb W.heap.size _ ca ln cc l _ hT'.out hb HE.out (fun p hp => (HLF.out.2 p hp).2) bln (by have := hlen.out; have := e1.out; have := e2.out; have := e3.out; simp only [List.length_append]; omega)).mono ?_
      rintro e w4 ⟨rfl, T4, K4⟩
      have t4 : Hid (WtO w4 Wb W.heap.size _) := hnext.out ▸ T4
      have k4 : Hid (Wk W.heap.size Wb V w4) := hK'.out.trans K4
      clear T4 K4 hT' hcl
      go_wp2
      go_roundw
      case rel => exact ⟨k + 1, by omega, by go_num, t4.out, k4.out⟩
      case measure => simp [intOf]; omega
    · have t5 : Hid (WtO wr Wb W.heap.size (xs ++ eCe (R, P))) := by
        unfold Hid eCe; rw [List.take_of_length_le (by rw [hpn.out]; omega)] at hT
        simp only
        rw [hrn.out, hpn.out]
        exact hT
      clear hT hK hT'
      go_wp2
      go_end0
      exact ⟨rfl, t5.out, hK'.out⟩
end Go.Proofs.Ythlnhodfgmpabaa.Sl
