/- What the document's own functions of an op return: Length, Positions, weight, Bias. What the document's small functions of layer 13 return: Ends, plus, begin, take. What the document's Taps returns, of a position that is there. What the document's Terms returns, of a Dense. -/
import Derived.Test.YtcphealigifdiaaGreatGr13
import Derived.Test.YtcphealigifdiaaGreatGr15
import Derived.Test.YtcphealigifdiaaGreatGr16
import Derived.Test.YtcphealigifdiaaGreatGr21
import Derived.Test.YtcphealigifdiaaGreatGr23
/- What the document's own functions of an op return: Length, Positions, weight, Bias. -/
namespace Go.Proofs.YtcphealigifdiaaGreat
open Go.ChangeShapes Go.WideShapes Go.ChangeAt Go.RowKit
set_option linter.unusedVariables false
theorem list_cells {w : World} {B : Nat} {cs : Array Value} {T : TypeId} (h : w.heap[B]? = some (.cells cs T (0, 0))) {l : List Value} (hl : ∀ (q : Nat) (v : Value), l[q]? = some v → cs[q]? = some v) : ∀ (q : Nat) (v : Value), l[q]? = some v → w.cell? ((⟨B, 0, none⟩ : Addr).add q) = some v := fun q v hq => by
  rw [Addr.add_lit, Nat.zero_add, (cells_at h).1]
  exact hl q v hq
theorem front_get (l r : List Value) : ∀ (q : Nat) (v : Value), l[q]? = some v → (l ++ r).toArray[q]? = some v := fun q v hq => by
  have := (List.getElem?_eq_some_iff.1 hq).1
  rw [List.getElem?_toArray, List.getElem?_append_left this]
  exact hq
set_option maxRecDepth 100000 in
set_option maxHeartbeats 2000000 in
theorem rlen_any (k a b m kh kw sh sw tp lf bt rt : Int) (wa : Option Addr) (lw wc : Nat) (ba : Option Addr) (lb bc : Nat) (sm ss um us z p lo hi h w c H V C : Int) (W : World) (s : Sit k kh kw sh sw tp lf bt rt h w c H V C lw lb) :
    Calls Tryz.prog 15 #[.agg #[Jv k, Jv a, Jv b, Jv m, Jv kh, Jv kw, Jv sh, Jv sw, Jv tp, Jv lf, Jv bt, Jv rt, .slice wa lw wc, .slice ba lb bc, Jv sm, Jv ss, Jv um, Jv us, Jv z, Jv p, Jv lo, Jv hi, Jv h, Jv w, Jv c, Jv H, Jv V, Jv C]] W fun e w' => e = .returned (Jv (stR k kh kw h w c)) ∧ Below W.heap.size W w' := by
  have s0 := (St.start W).new (c := #[Jv k, Jv a, Jv b, Jv m, Jv kh, Jv kw, Jv sh, Jv sw, Jv tp, Jv lf, Jv bt, Jv rt, .slice wa lw wc, .slice ba lb bc, Jv sm, Jv ss, Jv um, Jv us, Jv z, Jv p, Jv lo, Jv hi, Jv h, Jv w, Jv c, Jv H, Jv V, Jv C]) (t := 44)
  have hL : Hid (∀ W', _) := fun W' => length_any k a b m kh kw sh sw tp lf bt rt wa lw wc ba lb bc sm ss um us z p lo hi h w c W' (decide_eq_true s.1) s.2.1 (fun q => s.2.2.2.2.2.1 (by omega))
  have hC : Hid (∀ q v, [Jv k, Jv a, Jv b, Jv m, Jv kh, Jv kw, Jv sh, Jv sw, Jv tp, Jv lf, Jv bt, Jv rt, .slice wa lw wc, .slice ba lb bc, Jv sm, Jv ss, Jv um, Jv us, Jv z, Jv p, Jv lo, Jv hi][q]? = some v → (W.alloc (.cells #[Jv k, Jv a, Jv b, Jv m, Jv kh, Jv kw, Jv sh, Jv sw, Jv tp, Jv lf, Jv bt, Jv rt, .slice wa lw wc, .slice ba lb bc, Jv sm, Jv ss, Jv um, Jv us, Jv z, Jv p, Jv lo, Jv hi, Jv h, Jv w, Jv c, Jv H, Jv V, Jv C] 44)).cell? ((⟨W.heap.size, 0, none⟩ : Addr).add q) = some v) := list_cells (heap_alloc_new W _) (front_get [Jv k, Jv a, Jv b, Jv m, Jv kh, Jv kw, Jv sh, Jv sw, Jv tp, Jv lf, Jv bt, Jv rt, .slice wa lw wc, .slice ba lb bc, Jv sm, Jv ss, Jv um, Jv us, Jv z, Jv p, Jv lo, Jv hi] [Jv h, Jv w, Jv c, Jv H, Jv V, Jv C])
  clear s
  go_enter Tryz.func15, Tryz.ntmps15
  go_wp2_with (refine wpList_load_any rfl 42 (.tmp 3) rfl _ rfl [Jv k, Jv a, Jv b, Jv m, Jv kh, Jv kw, Jv sh, Jv sw, Jv tp, Jv lf, Jv bt, Jv rt, .slice wa lw wc, .slice ba lb bc, Jv sm, Jv ss, Jv um, Jv us, Jv z, Jv p, Jv lo, Jv hi] _ hC.out Tryz.underlying42 rfl (by kernel_rfl) ?_)
  refine (hL.out _).mono ?_
  rintro e w1 ⟨rfl, hb⟩
  have s1 := s0.call hb
  clear hb
  go_wp2
  go_ret
  exact ⟨rfl, s1.below⟩
set_option maxHeartbeats 2000000 in
theorem rpos_any (k a b m kh kw sh sw tp lf bt rt : Int) (wa : Option Addr) (lw wc : Nat) (ba : Option Addr) (lb bc : Nat) (sm ss um us z p lo hi h w c H V C : Int) (W : World) (g : vS H V C = true) :
    Calls Tryz.prog 42 #[.agg #[Jv k, Jv a, Jv b, Jv m, Jv kh, Jv kw, Jv sh, Jv sw, Jv tp, Jv lf, Jv bt, Jv rt, .slice wa lw wc, .slice ba lb bc, Jv sm, Jv ss, Jv um, Jv us, Jv z, Jv p, Jv lo, Jv hi, Jv h, Jv w, Jv c, Jv H, Jv V, Jv C]] W fun e w' => e = .returned (Jv (H * V)) ∧ Below W.heap.size W w' := by
  have s0 := (St.start W).new (c := #[Jv k, Jv a, Jv b, Jv m, Jv kh, Jv kw, Jv sh, Jv sw, Jv tp, Jv lf, Jv bt, Jv rt, .slice wa lw wc, .slice ba lb bc, Jv sm, Jv ss, Jv um, Jv us, Jv z, Jv p, Jv lo, Jv hi, Jv h, Jv w, Jv c, Jv H, Jv V, Jv C]) (t := 44)
  have p3 := vS_bd g
  clear g
  go_enter Tryz.func42, Tryz.ntmps42
  go_wp2
  go_ret
  exact ⟨rfl, s0.below⟩
set_option maxHeartbeats 2000000 in
theorem rbias_any (k a b m kh kw sh sw tp lf bt rt : Int) (wa : Option Addr) (lw wc : Nat) (ba : Option Addr) (lb bc : Nat) (sm ss um us z p lo hi h w c H V C : Int) (W : World) (bs : List Int) (hB : IRow .i32 W ba lb bc bs) (s : Sit k kh kw sh sw tp lf bt rt h w c H V C lw lb) (ch : Int) (hc : 1 ≤ ch ∧ ch ≤ C) :
    Calls Tryz.prog 45 #[.agg #[Jv k, Jv a, Jv b, Jv m, Jv kh, Jv kw, Jv sh, Jv sw, Jv tp, Jv lf, Jv bt, Jv rt, .slice wa lw wc, .slice ba lb bc, Jv sm, Jv ss, Jv um, Jv us, Jv z, Jv p, Jv lo, Jv hi, Jv h, Jv w, Jv c, Jv H, Jv V, Jv C], Jv ch] W fun e w' => e = .returned (Jv (biA k ch bs)) ∧ Below W.heap.size W w' := by
  have s0 := (St.start W).new (c := #[Jv k, Jv a, Jv b, Jv m, Jv kh, Jv kw, Jv sh, Jv sw, Jv tp, Jv lf, Jv bt, Jv rt, .slice wa lw wc, .slice ba lb bc, Jv sm, Jv ss, Jv um, Jv us, Jv z, Jv p, Jv lo, Jv hi, Jv h, Jv w, Jv c, Jv H, Jv V, Jv C]) (t := 44)
  obtain ⟨hk, -, hv, -, -, -, hl, -⟩ := s
  have hC := (vS_yes hv).2.2.1
  by_cases k4 : k = 4
  · subst k4
    rw [show biA 4 ch bs = 0 from if_pos rfl]
    go_enter Tryz.func45, Tryz.ntmps45
    go_wp2
    go_ret
    exact ⟨rfl, s0.below⟩
  · rw [show biA k ch bs = bs.getD (ch - 1).toNat 0 from if_neg k4]
    have hl2 := (hl (by omega)).2
    obtain ⟨n, rfl⟩ : ∃ n : Nat, ch = (n : Int) + 1 := ⟨(ch - 1).toNat, by omega⟩
    have hm := hB.2.2.1
    have hcc := hB.2.1
    unfold maxLen at hm
    obtain ⟨x, u, rfl, hu, hwf, hz, -⟩ := (hB.below s0.below).at (show n < lb by omega)
    obtain ⟨u1, u2⟩ := wf_i32 hwf
    have e : bs.getD ((n : Int) + 1 - 1).toNat 0 = u := by rw [show ((n : Int) + 1 - 1).toNat = n by omega, List.getD_eq_getElem?_getD, hz]; rfl
    rw [e]
    have k4' : (k == 4) = false := by simp [k4]
    have HB : Hid (Below W.heap.size W _) := s0.below
    obtain ⟨c1, f1, z1, -⟩ := s0.rules
    clear e hz hwf hB hl
    go_enter Tryz.func45, Tryz.ntmps45
    go_wp2
    go_ret
    exact ⟨rfl, HB.out⟩
set_option maxRecDepth 100000 in
set_option maxHeartbeats 4000000 in
theorem rwei_any (k a b m kh kw sh sw tp lf bt rt : Int) (wa : Option Addr) (lw wc : Nat) (ba : Option Addr) (lb bc : Nat) (sm ss um us z p lo hi h w c H V C : Int) (W : World) (zs : List Int) (hZ : IRow .i16 W wa lw wc zs) (s : Sit k kh kw sh sw tp lf bt rt h w c H V C lw lb) (ch : Int) (hc : 1 ≤ ch ∧ ch ≤ C) (i : Nat) (hi0 : (i : Int) < stR k kh kw h w c) :
    Calls Tryz.prog 60 #[.agg #[Jv k, Jv a, Jv b, Jv m, Jv kh, Jv kw, Jv sh, Jv sw, Jv tp, Jv lf, Jv bt, Jv rt, .slice wa lw wc, .slice ba lb bc, Jv sm, Jv ss, Jv um, Jv us, Jv z, Jv p, Jv lo, Jv hi, Jv h, Jv w, Jv c, Jv H, Jv V, Jv C], Jv ch, Jv i] W fun e w' => e = .returned (Jv (wgA k ch (stR k kh kw h w c) zs i)) ∧ Below W.heap.size W w' := by
  have hL : Hid (∀ W', Calls Tryz.prog 15 #[.agg #[Jv k, Jv a, Jv b, Jv m, Jv kh, Jv kw, Jv sh, Jv sw, Jv tp, Jv lf, Jv bt, Jv rt, .slice wa lw wc, .slice ba lb bc, Jv sm, Jv ss, Jv um, Jv us, Jv z, Jv p, Jv lo, Jv hi, Jv h, Jv w, Jv c, Jv H, Jv V, Jv C]] W' fun e w' => e = .returned (Jv (stR k kh kw h w c)) ∧ Below W'.heap.size W' w') := fun W' => rlen_any k a b m kh kw sh sw tp lf bt rt wa lw wc ba lb bc sm ss um us z p lo hi h w c H V C W' s
  have s0 := (St.start W).new (c := #[Jv k, Jv a, Jv b, Jv m, Jv kh, Jv kw, Jv sh, Jv sw, Jv tp, Jv lf, Jv bt, Jv rt, .slice wa lw wc, .slice ba lb bc, Jv sm, Jv ss, Jv um, Jv us, Jv z, Jv p, Jv lo, Jv hi, Jv h, Jv w, Jv c, Jv H, Jv V, Jv C]) (t := 44)
  obtain ⟨hk, -, hv, -, -, -, hl, -, hst0, hst1⟩ := s
  have hC := (vS_yes hv).2.2.1
  obtain ⟨st, hst⟩ : ∃ st, stR k kh kw h w c = st := ⟨_, rfl⟩
  rw [hst] at hL hl hst0 hst1 hi0 ⊢
  clear hst hv
  by_cases k4 : k = 4
  · subst k4
    rw [show wgA 4 ch st zs i = 1 from if_pos rfl]
    go_enter Tryz.func60, Tryz.ntmps60
    go_wp2
    go_ret
    exact ⟨rfl, s0.below⟩
  · rw [show wgA k ch st zs i = zs.getD ((ch - 1) * st + i).toNat 0 from if_neg k4]
    have hl2 := (hl (by omega)).1
    obtain ⟨d, rfl⟩ : ∃ d : Nat, ch = (d : Int) + 1 := ⟨(ch - 1).toNat, by omega⟩
    have hm := hZ.2.2.1
    have hcc := hZ.2.1
    unfold maxLen at hm
    have p1 : 0 ≤ (d : Int) * st := Int.mul_nonneg (by omega) (by omega)
    have p2 : (d : Int) * st + st ≤ C * st := by
      have := Int.mul_le_mul_of_nonneg_right (show (d : Int) + 1 ≤ C by omega) (show 0 ≤ st by omega)
      rwa [Int.add_mul, Int.one_mul] at this
    obtain ⟨p', ep⟩ : ∃ p', (d : Int) * st = p' := ⟨_, rfl⟩
    rw [show (d : Int) + 1 - 1 = d by omega, ep]
    rw [ep] at p1 p2
    rw [← hl2] at p2
    obtain ⟨N, eN⟩ : ∃ N : Nat, p' + (i : Int) = (N : Int) := ⟨(p' + i).toNat, by omega⟩
    rw [eN]
    have hN : N < lw := by omega
    have hZ2 := hZ.below s0.below
    obtain ⟨x, u, rfl, hu, hwf, hz, -⟩ := hZ2.at hN
    obtain ⟨u1, u2⟩ := wf_i16 hwf
    have e : zs.getD ((N : Int)).toNat 0 = u := by rw [Int.toNat_natCast, List.getD_eq_getElem?_getD, hz]; rfl
    rw [e]
    have k4' : (k == 4) = false := by simp [k4]
    have hd1 : (d : Int) + 1 ≤ 1024 := by omega
    have hi2 : (i : Int) ≤ 512 := by omega
    have hNl : (N : Int) < (lw : Int) := by omega
    clear e hz hwf hl hl2 hC hc hZ hZ2
    go_enter Tryz.func60, Tryz.ntmps60
    go_upto_region 3 with fail
    obtain ⟨wv, hwv⟩ : ∃ wv, W.alloc (.cells #[Jv k, Jv a, Jv b, Jv m, Jv kh, Jv kw, Jv sh, Jv sw, Jv tp, Jv lf, Jv bt, Jv rt, .slice (some x) lw wc, .slice ba lb bc, Jv sm, Jv ss, Jv um, Jv us, Jv z, Jv p, Jv lo, Jv hi, Jv h, Jv w, Jv c, Jv H, Jv V, Jv C] 44) = wv := ⟨_, rfl⟩
    rw [hwv] at s0 hu ⊢
    have hbel : Hid (Below W.heap.size W wv) := s0.below
    have hG := s0.h1
    have hGz := lt_of_heap hG
    have hux : Hid ((x.add N).block < wv.heap.size) := World.block_lt_of_cell? _ _ hu
    clear s0 hwv
    refine regionC (fun w' => Below wv.heap.size wv w') (by kernel_rfl) ?_
    obtain ⟨wd, hwd⟩ : ∃ wd, wv.drew = wd := ⟨_, rfl⟩
    have HD : Hid (Below wv.heap.size wv wd) := by unfold Hid; rw [← hwd]; exact (Below.refl _ _).drew
    rw [hwd]
    clear hwd
    refine takeC 0 (v := .pointer (some ⟨W.heap.size, 0, none⟩)) rfl rfl (by kernel_rfl) (by kernel_rfl) (by kernel_rfl) (fun _ _ _ h => h) (fun _ => rfl) rfl (fun w' hw' => by go_simp) ?_
    refine takeC 1 (v := .pointer (some ⟨W.heap.size, 12, none⟩)) rfl rfl (by kernel_rfl) (by kernel_rfl) (by kernel_rfl) (fun _ _ _ h => h) (fun _ => rfl) rfl (fun w' hw' => by go_simp) ?_
    refine takeC 2 (v := .slice (some x) lw wc) rfl rfl (by kernel_rfl) (by kernel_rfl) (by kernel_rfl) (fun _ _ _ h => h) (fun _ => rfl) rfl (fun w' hw' => by have hc := (cells_at ((hw'.block _ hGz).trans hG)).1 12; go_simp) ?_
    refine takeC 3 (v := Jv ((d : Int) + 1)) rfl rfl (by kernel_rfl) (by kernel_rfl) (by kernel_rfl) (fun _ _ _ h => h) (fun _ => rfl) rfl (fun w' hw' => by go_simp) ?_
    refine takeC 4 (v := Jv (d : Int)) rfl rfl (by kernel_rfl) (by kernel_rfl) (by kernel_rfl) (fun _ _ _ h => h) (fun _ => rfl) rfl (fun w' hw' => by go_simp; rw [IntKind.wrap_i64]; omega) ?_
    refine takeC 5 (v := .agg #[Jv k, Jv a, Jv b, Jv m, Jv kh, Jv kw, Jv sh, Jv sw, Jv tp, Jv lf, Jv bt, Jv rt, .slice (some x) lw wc, .slice ba lb bc, Jv sm, Jv ss, Jv um, Jv us, Jv z, Jv p, Jv lo, Jv hi, Jv h, Jv w, Jv c, Jv H, Jv V, Jv C]) rfl rfl (by kernel_rfl) (by kernel_rfl) (by kernel_rfl) (fun _ _ _ h => h) (fun _ => rfl) rfl (fun w' hw' => run_la 44 (.tmp 3) rfl ⟨W.heap.size, 0, none⟩ (by kernel_rfl) [Jv k, Jv a, Jv b, Jv m, Jv kh, Jv kw, Jv sh, Jv sw, Jv tp, Jv lf, Jv bt, Jv rt, .slice (some x) lw wc, .slice ba lb bc, Jv sm, Jv ss, Jv um, Jv us, Jv z, Jv p, Jv lo, Jv hi, Jv h, Jv w, Jv c, Jv H, Jv V, Jv C] _ (list_cells ((hw'.block _ hGz).trans hG) (fun q v hq => by simpa using hq)) Tryz.underlying44 rfl (by kernel_rfl)) ?_
    refine takeC 8 (v := Jv (i : Int)) rfl rfl (by kernel_rfl) (by kernel_rfl) (by kernel_rfl) (fun _ _ _ h => h) (fun _ => rfl) rfl (fun w' hw' => by go_simp) ?_
    refine stepC 6 HD.out (by kernel_rfl) rfl (fun K hK => step_wp rfl ?_)
    go_simp
    refine (hL.out _).mono ?_
    rintro e w3 ⟨rfl, hb3⟩
    refine hK _ _ ?_
    clear hK K
    have H3 : Hid (Below wv.heap.size wv w3) := HD.out.trans (hb3.mono HD.out.size)
    clear hb3 HD
    refine takeC 7 (v := Jv p') rfl rfl (by kernel_rfl) (by kernel_rfl) (by kernel_rfl) (fun _ _ _ h => h) (fun _ => rfl) rfl (fun w' hw' => by go_simp; try (rw [IntKind.wrap_i64]; omega)) ?_
    refine takeC 9 (v := Jv (N : Int)) rfl rfl (by kernel_rfl) (by kernel_rfl) (by kernel_rfl) (fun _ _ _ h => h) (fun _ => rfl) rfl (fun w' hw' => by go_simp; try (rw [IntKind.wrap_i64]; omega)) ?_
    refine takeC 10 (v := .pointer (some (x.add N))) rfl rfl (by kernel_rfl) (by kernel_rfl) (by kernel_rfl) (fun _ _ _ h => h) (fun _ => rfl) rfl (fun w' hw' => by go_simp) ?_
    refine takeC 11 (v := .int .i16 u) rfl rfl (by kernel_rfl) (by kernel_rfl) (by kernel_rfl) (fun _ _ _ h => h) (fun _ => rfl) rfl (fun w' hw' => by have hc := (hw'.cell hux.out).trans hu; go_simp) ?_
    refine takeC 12 (v := Jv u) rfl rfl (by kernel_rfl) (by kernel_rfl) (by kernel_rfl) (fun _ _ _ h => h) (fun _ => rfl) rfl (fun w' hw' => by go_simp; try (rw [IntKind.wrap_i64]; omega)) ?_
    refine takeC 13 (v := Jv u) rfl rfl (by kernel_rfl) (by kernel_rfl) (by kernel_rfl) (fun _ _ _ h => h) (fun _ => rfl) rfl (fun w' hw' => by go_simp) ?_
    refine doneC H3.out (by kernel_rfl) ?_ _
    go_wp2
    go_ret
    exact ⟨rfl, hbel.out.trans (H3.out.mono hbel.out.size)⟩
end Go.Proofs.YtcphealigifdiaaGreat

/- What the document's small functions of layer 13 return: Ends, plus, begin, take. -/
namespace Go.Proofs.YtcphealigifdiaaGreat
open Go.ChangeShapes Go.WideShapes Go.ChangeAt Go.RowKit
set_option linter.unusedVariables false
theorem max2b (x y M : Int) (h : xmx x y = M) : ∀ (W : World) (ts : Array TypeId) (t : TypeId), (Builtin.max_ ts t #[Jv x, Jv y]).run Tryz.prog W = .ok (Jv M) W := by
  intro W ts t
  subst h
  simp [Builtin.max_, Builtin.max2, xmx]
  repeat' split
  all_goals first | rfl | omega
theorem ends_in {slo shi k : Int} (hs : slo ≤ shi) : xti slo shi k = (xmn (k * slo) (k * shi), xmx (k * slo) (k * shi)) := by
  unfold xti
  rw [Int.mul_comm k slo, Int.mul_comm k shi]
  by_cases g : k < 0
  · rw [if_pos g]
    have := Int.mul_le_mul_of_nonpos_right hs (show k ≤ 0 by omega)
    unfold xmn xmx
    refine Prod.ext ?_ ?_ <;> simp only <;> split <;> omega
  · rw [if_neg g]
    have := Int.mul_le_mul_of_nonneg_right hs (show 0 ≤ k by omega)
    unfold xmn xmx
    refine Prod.ext ?_ ?_ <;> simp only <;> split <;> omega
set_option maxRecDepth 100000 in
set_option maxHeartbeats 2000000 in
theorem rends_any (k a b m kh kw sh sw tp lf bt rt : Int) (wa : Option Addr) (lw wc : Nat) (ba : Option Addr) (lb bc : Nat) (sm ss um us z p lo hi h w c H V C : Int) (W : World) (t : Int × Int) (slo shi : Int) (hs : -128 ≤ slo ∧ slo ≤ shi ∧ shi ≤ 127) (hp : -128 ≤ p ∧ p ≤ 127) (ht : -32768 ≤ t.1 ∧ t.1 ≤ 32767) :
    Calls Tryz.prog 44 #[.agg #[Jv k, Jv a, Jv b, Jv m, Jv kh, Jv kw, Jv sh, Jv sw, Jv tp, Jv lf, Jv bt, Jv rt, .slice wa lw wc, .slice ba lb bc, Jv sm, Jv ss, Jv um, Jv us, Jv z, Jv p, Jv lo, Jv hi, Jv h, Jv w, Jv c, Jv H, Jv V, Jv C], .agg #[Jv t.1, Jv t.2], .agg #[Jv slo, Jv shi]] W fun e w' => e = .returned (.agg #[Jv (tmE slo shi p t).1, Jv (tmE slo shi p t).2]) ∧ Below W.heap.size W w' := by
  obtain ⟨t1, t2⟩ := t
  simp only at ht
  have b1 := prod_bd (a := slo) (by omega) ht
  have b2 := prod_bd (a := shi) (by omega) ht
  have b3 := prod_bd hp ht
  rw [Int.mul_comm] at b1 b2 b3
  have HX : Hid (xti slo shi t1 = (xmn (t1 * slo) (t1 * shi), xmx (t1 * slo) (t1 * shi))) := ends_in hs.2.1
  obtain ⟨A, hA⟩ : ∃ A, t1 * slo = A := ⟨_, rfl⟩
  obtain ⟨Bb, hBb⟩ : ∃ B, t1 * shi = B := ⟨_, rfl⟩
  obtain ⟨Cc, hCc⟩ : ∃ C, t1 * p = C := ⟨_, rfl⟩
  rw [hA] at b1
  rw [hBb] at b2
  rw [hCc] at b3
  rw [hA, hBb] at HX
  have w1 : IntKind.i64.wrap A = A := by rw [IntKind.wrap_i64]; omega
  have w2 : IntKind.i64.wrap Bb = Bb := by rw [IntKind.wrap_i64]; omega
  have w3 : IntKind.i64.wrap Cc = Cc := by rw [IntKind.wrap_i64]; omega
  have s0 := ((((St.start W).new (c := #[Jv k, Jv a, Jv b, Jv m, Jv kh, Jv kw, Jv sh, Jv sw, Jv tp, Jv lf, Jv bt, Jv rt, .slice wa lw wc, .slice ba lb bc, Jv sm, Jv ss, Jv um, Jv us, Jv z, Jv p, Jv lo, Jv hi, Jv h, Jv w, Jv c, Jv H, Jv V, Jv C]) (t := 44)).new (c := #[Jv t1, Jv t2]) (t := 91)).new (c := #[Jv slo, Jv shi]) (t := 28)).new (c := #[Jv 0, Jv 0]) (t := 28)
  simp only [World.size_alloc] at s0
  by_cases neg : t2 < 0
  · have HE : Hid (tmE slo shi p (t1, t2) = (Cc, Cc)) := by unfold Hid tmE; rw [if_pos neg]; simp only; rw [Int.mul_comm p t1, hCc]
    rw [HE.out]
    have m1 := min2 Cc Cc Cc (by unfold xmn; simp)
    have m2 := max2b Cc Cc Cc (by unfold xmx; simp)
    clear HX HE hs hp ht
    go_enter Tryz.func44, Tryz.ntmps44
    go_upto_region 1 with fail
    obtain ⟨w0, hw0⟩ : ∃ w0, (((W.alloc (.cells #[Jv k, Jv a, Jv b, Jv m, Jv kh, Jv kw, Jv sh, Jv sw, Jv tp, Jv lf, Jv bt, Jv rt, .slice wa lw wc, .slice ba lb bc, Jv sm, Jv ss, Jv um, Jv us, Jv z, Jv p, Jv lo, Jv hi, Jv h, Jv w, Jv c, Jv H, Jv V, Jv C] 44)).alloc (.cells #[Jv t1, Jv t2] 91)).alloc (.cells #[Jv slo, Jv shi] 28)).alloc (.cells #[Jv 0, Jv 0] 28) = w0 := ⟨_, rfl⟩
    rw [hw0] at s0 ⊢
    obtain ⟨c1, f1, z1, c2, f2, z2, c3, f3, z3, c4, f4, z4, -⟩ := s0.rules
    clear hw0
    go_quiet (fail)
    have S1 : Hid (∀ k, Below W.heap.size W _) := fun k => (s0.call (dbel w0 k)).out2 (i := 0) (j := 1) (u := Jv Cc) (v := Jv Cc)
    clear s0
    go_wp2
    exact bodyPost_ret (v := .agg #[Jv Cc, Jv Cc]) (by simp [results, Tryz.results44, go_sem, c1]) rfl ⟨rfl, S1.out _⟩
  · have HE : Hid (tmE slo shi p (t1, t2) = (xmn A Bb, xmx A Bb)) := by unfold Hid tmE; rw [if_neg neg]; exact HX.out
    rw [HE.out]
    obtain ⟨M1, hM1⟩ : ∃ M, xmn A Bb = M := ⟨_, rfl⟩
    obtain ⟨M2, hM2⟩ : ∃ M, xmx A Bb = M := ⟨_, rfl⟩
    have m1 := min2 A Bb M1 hM1
    have m2 := max2b A Bb M2 hM2
    rw [hM1, hM2]
    clear HX HE hs hp ht hM1 hM2
    go_enter Tryz.func44, Tryz.ntmps44
    go_upto_region 1 with fail
    obtain ⟨w0, hw0⟩ : ∃ w0, (((W.alloc (.cells #[Jv k, Jv a, Jv b, Jv m, Jv kh, Jv kw, Jv sh, Jv sw, Jv tp, Jv lf, Jv bt, Jv rt, .slice wa lw wc, .slice ba lb bc, Jv sm, Jv ss, Jv um, Jv us, Jv z, Jv p, Jv lo, Jv hi, Jv h, Jv w, Jv c, Jv H, Jv V, Jv C] 44)).alloc (.cells #[Jv t1, Jv t2] 91)).alloc (.cells #[Jv slo, Jv shi] 28)).alloc (.cells #[Jv 0, Jv 0] 28) = w0 := ⟨_, rfl⟩
    rw [hw0] at s0 ⊢
    obtain ⟨c1, f1, z1, c2, f2, z2, c3, f3, z3, c4, f4, z4, -⟩ := s0.rules
    clear hw0
    go_quiet (fail)
    have S1 : Hid (∀ k, Below W.heap.size W _) := fun k => (s0.call (dbel w0 k)).out2 (i := 0) (j := 1) (u := Jv M1) (v := Jv M2)
    clear s0
    go_wp2
    exact bodyPost_ret (v := .agg #[Jv M1, Jv M2]) (by simp [results, Tryz.results44, go_sem, c1]) rfl ⟨rfl, S1.out _⟩
set_option maxHeartbeats 1000000 in
theorem rplus_any (a b : Int × Int) (W : World) (ha : Vd 10000000000 a) (hb : Vd 10000000000 b) : Calls Tryz.prog 27 #[.agg #[Jv a.1, Jv a.2], .agg #[Jv b.1, Jv b.2]] W fun e w' => e = .returned (.agg #[Jv (plS a b).1, Jv (plS a b).2]) ∧ Below W.heap.size W w' := by
  obtain ⟨a1, a2⟩ := a
  obtain ⟨b1, b2⟩ := b
  obtain ⟨⟨h1, h2⟩, ⟨h3, h4⟩, h5⟩ := ha.sm (by omega)
  obtain ⟨⟨g1, g2⟩, ⟨g3, g4⟩, g5⟩ := hb.sm (by omega)
  simp only at h1 h2 h3 h4 g1 g2 g3 g4
  clear ha hb h5 g5
  simp only [plS]
  have s0 := ((St.start W).new (c := #[Jv a1, Jv a2]) (t := 28)).new (c := #[Jv b1, Jv b2]) (t := 28) |>.new (c := #[Jv (a1 + b1), Jv (a2 + b2)]) (t := 28)
  go_enter Tryz.func27, Tryz.ntmps27
  go_wp2
  exact bodyPost_ret (v := .agg #[Jv (a1 + b1), Jv (a2 + b2)]) (by simp [results, Tryz.results27, go_sem]) rfl ⟨rfl, s0.below⟩
set_option maxRecDepth 100000 in
set_option maxHeartbeats 2000000 in
theorem rbeg_any (k a b m kh kw sh sw tp lf bt rt : Int) (wa : Option Addr) (lw wc : Nat) (ba : Option Addr) (lb bc : Nat) (sm ss um us z p lo hi h w c H V C : Int) (W : World) (bi ch : Int) (hB : ∀ W', Below W.heap.size W W' → Calls Tryz.prog 45 #[.agg #[Jv k, Jv a, Jv b, Jv m, Jv kh, Jv kw, Jv sh, Jv sw, Jv tp, Jv lf, Jv bt, Jv rt, .slice wa lw wc, .slice ba lb bc, Jv sm, Jv ss, Jv um, Jv us, Jv z, Jv p, Jv lo, Jv hi, Jv h, Jv w, Jv c, Jv H, Jv V, Jv C], Jv ch] W' fun e w' => e = .returned (Jv bi) ∧ Below W'.heap.size W' w') :
    Calls Tryz.prog 26 #[.agg #[Jv k, Jv a, Jv b, Jv m, Jv kh, Jv kw, Jv sh, Jv sw, Jv tp, Jv lf, Jv bt, Jv rt, .slice wa lw wc, .slice ba lb bc, Jv sm, Jv ss, Jv um, Jv us, Jv z, Jv p, Jv lo, Jv hi, Jv h, Jv w, Jv c, Jv H, Jv V, Jv C], Jv ch] W fun e w' => e = .returned (.agg #[Jv bi, Jv bi]) ∧ Below W.heap.size W w' := by
  have HB : Hid (∀ W', Below W.heap.size W W' → _) := hB
  have s0 := ((St.start W).new (c := #[Jv k, Jv a, Jv b, Jv m, Jv kh, Jv kw, Jv sh, Jv sw, Jv tp, Jv lf, Jv bt, Jv rt, .slice wa lw wc, .slice ba lb bc, Jv sm, Jv ss, Jv um, Jv us, Jv z, Jv p, Jv lo, Jv hi, Jv h, Jv w, Jv c, Jv H, Jv V, Jv C]) (t := 44)).new (c := #[Jv 0, Jv 0]) (t := 28)
  simp only [World.size_alloc] at s0
  clear hB
  go_enter Tryz.func26, Tryz.ntmps26
  go_upto_region 1 with fail
  obtain ⟨w0, hw0⟩ : ∃ w0, (W.alloc (.cells #[Jv k, Jv a, Jv b, Jv m, Jv kh, Jv kw, Jv sh, Jv sw, Jv tp, Jv lf, Jv bt, Jv rt, .slice wa lw wc, .slice ba lb bc, Jv sm, Jv ss, Jv um, Jv us, Jv z, Jv p, Jv lo, Jv hi, Jv h, Jv w, Jv c, Jv H, Jv V, Jv C] 44)).alloc (.cells #[Jv 0, Jv 0] 28) = w0 := ⟨_, rfl⟩
  rw [hw0] at s0 ⊢
  clear hw0
  refine regionC (fun w' => St W w' [(W.heap.size, #[Jv k, Jv a, Jv b, Jv m, Jv kh, Jv kw, Jv sh, Jv sw, Jv tp, Jv lf, Jv bt, Jv rt, .slice wa lw wc, .slice ba lb bc, Jv sm, Jv ss, Jv um, Jv us, Jv z, Jv p, Jv lo, Jv hi, Jv h, Jv w, Jv c, Jv H, Jv V, Jv C], 44)]) (by kernel_rfl) ?_
  have s1 := s0.drew
  obtain ⟨w1, hw1⟩ : ∃ w1, w0.drew = w1 := ⟨_, rfl⟩
  rw [hw1] at s1 ⊢
  clear hw1 s0
  have HLD : Hid (∀ w', St W w' [(W.heap.size, #[Jv k, Jv a, Jv b, Jv m, Jv kh, Jv kw, Jv sh, Jv sw, Jv tp, Jv lf, Jv bt, Jv rt, .slice wa lw wc, .slice ba lb bc, Jv sm, Jv ss, Jv um, Jv us, Jv z, Jv p, Jv lo, Jv hi, Jv h, Jv w, Jv c, Jv H, Jv V, Jv C], 44)] → ∀ (q : Nat) (v : Value), (#[Jv k, Jv a, Jv b, Jv m, Jv kh, Jv kw, Jv sh, Jv sw, Jv tp, Jv lf, Jv bt, Jv rt, .slice wa lw wc, .slice ba lb bc, Jv sm, Jv ss, Jv um, Jv us, Jv z, Jv p, Jv lo, Jv hi, Jv h, Jv w, Jv c, Jv H, Jv V, Jv C]).toList[q]? = some v → w'.cell? ((⟨W.heap.size, 0, none⟩ : Addr).add q) = some v) := fun w' hw' q v hq => by rw [Addr.add_lit, Nat.zero_add, (cells_at hw'.h1).1]; simpa using hq
  refine takeC 0 (v := .agg #[Jv k, Jv a, Jv b, Jv m, Jv kh, Jv kw, Jv sh, Jv sw, Jv tp, Jv lf, Jv bt, Jv rt, .slice wa lw wc, .slice ba lb bc, Jv sm, Jv ss, Jv um, Jv us, Jv z, Jv p, Jv lo, Jv hi, Jv h, Jv w, Jv c, Jv H, Jv V, Jv C]) rfl rfl (by kernel_rfl) (by kernel_rfl) (by kernel_rfl) (fun _ _ _ h => h) (fun _ => rfl) rfl (fun w' hw' => run_la 44 (.tmp 2) rfl ⟨W.heap.size, 0, none⟩ (by kernel_rfl) (#[Jv k, Jv a, Jv b, Jv m, Jv kh, Jv kw, Jv sh, Jv sw, Jv tp, Jv lf, Jv bt, Jv rt, .slice wa lw wc, .slice ba lb bc, Jv sm, Jv ss, Jv um, Jv us, Jv z, Jv p, Jv lo, Jv hi, Jv h, Jv w, Jv c, Jv H, Jv V, Jv C]).toList _ (HLD.out w' hw') Tryz.underlying44 rfl (by kernel_rfl)) ?_
  refine takeC 1 (v := Jv ch) rfl rfl (by kernel_rfl) (by kernel_rfl) (by kernel_rfl) (fun _ _ _ h => h) (fun _ => rfl) rfl (fun w' hw' => by go_simp) ?_
  refine takeC 3 (v := .agg #[Jv k, Jv a, Jv b, Jv m, Jv kh, Jv kw, Jv sh, Jv sw, Jv tp, Jv lf, Jv bt, Jv rt, .slice wa lw wc, .slice ba lb bc, Jv sm, Jv ss, Jv um, Jv us, Jv z, Jv p, Jv lo, Jv hi, Jv h, Jv w, Jv c, Jv H, Jv V, Jv C]) rfl rfl (by kernel_rfl) (by kernel_rfl) (by kernel_rfl) (fun _ _ _ h => h) (fun _ => rfl) rfl (fun w' hw' => run_la 44 (.tmp 2) rfl ⟨W.heap.size, 0, none⟩ (by kernel_rfl) (#[Jv k, Jv a, Jv b, Jv m, Jv kh, Jv kw, Jv sh, Jv sw, Jv tp, Jv lf, Jv bt, Jv rt, .slice wa lw wc, .slice ba lb bc, Jv sm, Jv ss, Jv um, Jv us, Jv z, Jv p, Jv lo, Jv hi, Jv h, Jv w, Jv c, Jv H, Jv V, Jv C]).toList _ (HLD.out w' hw') Tryz.underlying44 rfl (by kernel_rfl)) ?_
  refine takeC 4 (v := Jv ch) rfl rfl (by kernel_rfl) (by kernel_rfl) (by kernel_rfl) (fun _ _ _ h => h) (fun _ => rfl) rfl (fun w' hw' => by go_simp) ?_
  refine yK 2 s1.tail (by kernel_rfl) rfl rfl 45 #[.agg #[Jv k, Jv a, Jv b, Jv m, Jv kh, Jv kw, Jv sh, Jv sw, Jv tp, Jv lf, Jv bt, Jv rt, .slice wa lw wc, .slice ba lb bc, Jv sm, Jv ss, Jv um, Jv us, Jv z, Jv p, Jv lo, Jv hi, Jv h, Jv w, Jv c, Jv H, Jv V, Jv C], Jv ch] (by kernel_rfl) (HB.out w1 s1.below) ?_
  rintro e w2 ⟨rfl, hb⟩
  refine ⟨_, rfl, ?_⟩
  have s2 := s1.call hb
  refine yK 5 s2.tail (by kernel_rfl) rfl rfl 45 #[.agg #[Jv k, Jv a, Jv b, Jv m, Jv kh, Jv kw, Jv sh, Jv sw, Jv tp, Jv lf, Jv bt, Jv rt, .slice wa lw wc, .slice ba lb bc, Jv sm, Jv ss, Jv um, Jv us, Jv z, Jv p, Jv lo, Jv hi, Jv h, Jv w, Jv c, Jv H, Jv V, Jv C], Jv ch] (by kernel_rfl) (HB.out w2 s2.below) ?_
  rintro e w3 ⟨rfl, hb3⟩
  refine ⟨_, rfl, ?_⟩
  have s3 := s2.call hb3
  refine takeC 6 (v := .agg #[Jv bi, Jv bi]) rfl rfl (by kernel_rfl) (by kernel_rfl) (by kernel_rfl) (fun _ _ _ h => h) (fun _ => rfl) rfl (fun w' hw' => by go_simp) ?_
  refine yS 7 s3.tail (by kernel_rfl) rfl rfl 28 (.tmp 4) (.tmp 11) rfl (W.heap.size + 1) #[Jv bi, Jv bi] (by kernel_rfl) (by kernel_rfl) 28 #[Jv 0, Jv 0] s3.h1 (by kernel_rfl) rfl (by simp [Value.oneCell']) ?_
  have s4 := s3.rowset (c' := #[Jv bi, Jv bi]) (by simp)
  obtain ⟨w4, hw4⟩ : ∃ w4, w3.setRow (W.heap.size + 1) #[Jv bi, Jv bi] = w4 := ⟨_, rfl⟩
  rw [hw4] at s4 ⊢
  refine doneC s4.tail (by kernel_rfl) ?_ _
  obtain ⟨c1, -⟩ := s4.rules
  have HS : Hid (Below W.heap.size W w4) := s4.below
  clear s1 s2 s3 s4 hw4 hb hb3 HLD
  go_wp2
  exact bodyPost_ret (v := .agg #[Jv bi, Jv bi]) (by simp [results, Tryz.results26, go_sem, c1]) (by kernel_rfl) ⟨rfl, HS.out⟩
/-! ### A hull that grows -/
theorem gb_first {W w1 : World} {B i : Nat} {v : Value} (h : Below W.heap.size W w1) : W.grownBy (w1.setCell ⟨B, i, none⟩ v) (some B) :=
  ⟨h.os, h.tape, h.output, by simp; exact h.size, fun k hk hne => (Below.heap_setCell _ _ _ _ (fun e => hne (by rw [e]))).trans (h.block k hk)⟩
theorem gb_set {W w1 : World} {B i : Nat} {v : Value} (h : W.grownBy w1 (some B)) : W.grownBy (w1.setCell ⟨B, i, none⟩ v) (some B) :=
  ⟨h.os, h.tape, h.output, by simp; exact h.size, fun k hk hne => (Below.heap_setCell _ _ _ _ (fun e => hne (by rw [e]))).trans (h.block k hk hne)⟩
theorem gb_drew {W w1 : World} {B : Nat} (h : W.grownBy w1 (some B)) : W.grownBy w1.drew (some B) := ⟨h.os, h.tape, h.output, h.size, h.block⟩
/-- What lies in it: behind so many spans. -/
def huV (L : List (Int × Int)) : Array Value := #[Jv (huA L).1, Jv (huA L).2, .bool (!L.isEmpty)]
theorem huV_0 : huV [] = #[Jv 0, Jv 0, .bool false] := rfl
theorem huV_first (x : Int × Int) : huV [x] = #[Jv x.1, Jv x.2, .bool true] := rfl
theorem huV_more {L : List (Int × Int)} (h : L ≠ []) (x : Int × Int) : huV (L ++ [x]) = #[Jv (xmn (huA L).1 x.1), Jv (xmx (huA L).2 x.2), .bool true] := by
  unfold huV
  rw [huA_snoc h]
  simp [hul]
set_option maxHeartbeats 2000000 in
theorem rtake_any (B : Nat) (L : List (Int × Int)) (x : Int × Int) (W : World) (hB : W.heap[B]? = some (.cells (huV L) 65 (0, 0))) :
    Calls Tryz.prog 28 #[.pointer (some ⟨B, 0, none⟩), .agg #[Jv x.1, Jv x.2]] W fun e w' => (∃ v, e = .returned v) ∧ W.grownBy w' (some B) ∧ w'.heap[B]? = some (.cells (huV (L ++ [x])) 65 (0, 0)) := by
  obtain ⟨x1, x2⟩ := x
  have hz := lt_of_heap hB
  by_cases hL : L = []
  · subst hL
    rw [huV_0] at hB
    rw [List.nil_append, huV_first]
    have hb := bal W (.cells #[Jv x1, Jv x2] 28)
    have h1 := (hb.block B hz).trans hB
    obtain ⟨y1, y2, y3⟩ := cells_at hB
    go_enter Tryz.func28, Tryz.ntmps28
    go_upto_region 2 with fail
    have h2 := heap_alloc_new W (.cells #[Jv x1, Jv x2] 28)
    obtain ⟨w1, hw1⟩ : ∃ w1, W.alloc (.cells #[Jv x1, Jv x2] 28) = w1 := ⟨_, rfl⟩
    rw [hw1] at hb h1 h2 ⊢
    clear hw1 y1 y2 y3 hB
    obtain ⟨y1, y2, y3⟩ := cells_at h1
    obtain ⟨x1', -, -⟩ := cells_at h2
    have HW : Hid ((((w1.setCell ⟨B, 0, none⟩ (Jv x1)).setCell ⟨B, 1, none⟩ (Jv x2)).setCell ⟨B, 2, none⟩ (.bool true)).heap[B]? = some (.cells #[Jv x1, Jv x2, .bool true] 65 (0, 0))) := heap_setCell_at (heap_setCell_at (heap_setCell_at h1))
    have HG : Hid (W.grownBy (((w1.setCell ⟨B, 0, none⟩ (Jv x1)).setCell ⟨B, 1, none⟩ (Jv x2)).setCell ⟨B, 2, none⟩ (.bool true)) (some B)) := gb_set (gb_set (gb_first hb))
    clear hb h1 h2
    go_wp2
    refine bodyPost_ret (results_none rfl _ _ _) rfl ?_
    exact ⟨⟨_, rfl⟩, HG.out, HW.out⟩
  · rw [huV_more hL]
    have e0 : huV L = #[Jv (huA L).1, Jv (huA L).2, .bool true] := by unfold huV; cases L with
      | nil => exact absurd rfl hL
      | cons a l => rfl
    rw [e0] at hB
    obtain ⟨m1, m2, hm⟩ : ∃ m1 m2, huA L = (m1, m2) := ⟨_, _, rfl⟩
    rw [hm] at hB ⊢
    simp only at hB ⊢
    clear e0 hm hL
    obtain ⟨n1, hn1⟩ : ∃ n1, xmn m1 x1 = n1 := ⟨_, rfl⟩
    obtain ⟨n2, hn2⟩ : ∃ n2, xmx m2 x2 = n2 := ⟨_, rfl⟩
    have q1 := min2 m1 x1 n1 hn1
    have q2 := max2b m2 x2 n2 hn2
    rw [hn1, hn2]
    clear hn1 hn2
    have hb := bal W (.cells #[Jv x1, Jv x2] 28)
    have h1 := (hb.block B hz).trans hB
    have h2 := heap_alloc_new W (.cells #[Jv x1, Jv x2] 28)
    have hzB : B < W.heap.size := hz
    go_enter Tryz.func28, Tryz.ntmps28
    obtain ⟨y1, y2, y3⟩ := cells_at hB
    go_upto_region 4 with fail
    obtain ⟨w1, hw1⟩ : ∃ w1, W.alloc (.cells #[Jv x1, Jv x2] 28) = w1 := ⟨_, rfl⟩
    rw [hw1] at hb h1 h2 ⊢
    clear hw1 y1 y2 y3 hB
    have hfn : ∀ f, Fence.wide.fn f := fun _ => trivial
    have hdp : Fence.wide.depth = none := rfl
    have hne : Nonempty (Wn w1) := ⟨Wn.mk w1 (Below.refl _ _)⟩
    have e1 := Wn.rule h1
    have e2 := Wn.rule h2
    refine (wpIn_wide (n := 3)).1 ?_
    refine region_tail_at 12 (C := fun w' => ∃ n : Wn w1, w' = n.w) rfl rfl (by kernel_rfl) (by kernel_rfl) ⟨Wn.mk _ (Below.refl _ _).drew, rfl⟩ ?_
    simp only [List.take_succ_cons, List.take_zero, List.drop_succ_cons, List.drop_zero]
    repeat (gi_big_quiet_step (fail))
    refine wpQuietIn_nil ?_
    rintro _ ⟨nn, rfl⟩
    have g1 := (nn.h.block B (lt_of_heap h1)).trans h1
    have g2 := (nn.h.block W.heap.size (lt_of_heap h2)).trans h2
    have hbn := hb.trans (nn.h.mono hb.size)
    obtain ⟨wn, hwn⟩ : ∃ wn, nn.w = wn := ⟨_, rfl⟩
    rw [hwn] at g1 g2 hbn ⊢
    clear e1 e2 hne h1 h2 hb hwn
    obtain ⟨y1, y2, y3⟩ := cells_at g1
    have k1 := heap_setCell_at (i := 0) (v := Jv n1) g1
    have k2 : (wn.setCell ⟨B, 0, none⟩ (Jv n1)).heap[W.heap.size]? = some (.cells #[Jv x1, Jv x2] 28 (0, 0)) := (Below.heap_setCell _ _ _ _ (by show W.heap.size ≠ B; omega)).trans g2
    have HG1 : Hid (W.grownBy (wn.setCell ⟨B, 0, none⟩ (Jv n1)) (some B)) := gb_first hbn
    gi_wp2
    obtain ⟨w2, hw2⟩ : ∃ w2, wn.setCell ⟨B, 0, none⟩ (Jv n1) = w2 := ⟨_, rfl⟩
    rw [hw2] at k1 k2 HG1 ⊢
    clear hw2 y1 y2 y3 g1 g2 hbn
    have hne : Nonempty (Wn w2) := ⟨Wn.mk w2 (Below.refl _ _)⟩
    have e1 := Wn.rule k1
    have e2 := Wn.rule k2
    simp only [List.setIfInBounds_toArray, List.set_cons_zero] at e1 k1
    refine (wpIn_wide (n := 3)).1 ?_
    refine region_tail_at 12 (C := fun w' => ∃ n : Wn w2, w' = n.w) rfl rfl (by kernel_rfl) (by kernel_rfl) ⟨Wn.mk _ (Below.refl _ _).drew, rfl⟩ ?_
    simp only [List.take_succ_cons, List.take_zero, List.drop_succ_cons, List.drop_zero]
    repeat (gi_big_quiet_step (fail))
    refine wpQuietIn_nil ?_
    rintro _ ⟨nn, rfl⟩
    have g1 := (nn.h.block B (lt_of_heap k1)).trans k1
    have HG2 : Hid (W.grownBy (nn.w.setCell ⟨B, 1, none⟩ (Jv n2)) (some B)) := gb_set ⟨nn.h.os.trans HG1.out.os, nn.h.tape.trans HG1.out.tape, nn.h.output.trans HG1.out.output, Nat.le_trans HG1.out.size nn.h.size, fun k hk hne => (nn.h.block k (Nat.lt_of_lt_of_le hk HG1.out.size)).trans (HG1.out.block k hk hne)⟩
    obtain ⟨wn2, hwn2⟩ : ∃ wn, nn.w = wn := ⟨_, rfl⟩
    rw [hwn2] at g1 HG2 ⊢
    clear e1 e2 hne k1 k2 HG1 hwn2
    obtain ⟨y1, y2, y3⟩ := cells_at g1
    have HW : Hid ((wn2.setCell ⟨B, 1, none⟩ (Jv n2)).heap[B]? = some (.cells #[Jv n1, Jv n2, .bool true] 65 (0, 0))) := heap_setCell_at g1
    clear g1
    gi_wp2
    go_end0
    exact ⟨⟨_, rfl⟩, HG2.out, HW.out⟩
end Go.Proofs.YtcphealigifdiaaGreat

/- What the document's Taps returns, of a position that is there. -/
namespace Go.Proofs.YtcphealigifdiaaGreat.Nx
open Go.ChangeShapes Go.WideShapes Go.ChangeAt Go.RowKit
/-- What the first n taps cover. -/
def covL (h w kw t l : Int) (n : Nat) : List Int := (List.range n).map fun (k : Nat) => plc h w (t + (k : Int) / kw) (l + (k : Int) % kw)
theorem covL_len (h w kw t l : Int) (n : Nat) : (covL h w kw t l n).length = n := by simp [covL]
theorem covL_succ (h w t l : Int) {q y x : Nat} (hx : x < q) : covL h w q t l (y * q + x + 1) = covL h w q t l (y * q + x) ++ [plc h w (t + y) (l + x)] := by
  have := spot_at (y := y) hx
  simp only [Prod.mk.injEq] at this
  simp only [covL, List.range_succ, List.map_append, List.map_cons, List.map_nil, this.1, this.2]
theorem Own.grow {w w' w0 : World} {base : Nat} {v : Value} {zs : List Int} (h : Own w base v zs) (hb : Below base w0 w) (k : w.grownBy w' v.ownBlock) (hB : base ≤ w.heap.size) : Below base w0 w' := hb.grown k hB fun _ hb => h.block hb
set_option maxRecDepth 100000 in
set_option maxHeartbeats 8000000 in
theorem rtaps_any (h w c kh kw sh sw tp lf bt rt n t u : Int) (W : World) (hc : coR h w c kh kw sh sw tp lf bt rt n = (t, u, 0)) :
    Calls Tryz.prog 61 #[.agg #[Jv h, Jv w, Jv c], .agg #[Jv kh, Jv kw, Jv sh, Jv sw, Jv tp, Jv lf, Jv bt, Jv rt], Jv n] W fun e w' => (∃ v, e = .returned v ∧ Own w' W.heap.size v (covL h w kw t u (kh * kw).toNat)) ∧ Below W.heap.size W w' := by
  rcases coR_cases h w c kh kw sh sw tp lf bt rt n with ⟨e, he, h2⟩ | ⟨r, q, he, hf, hn, hc'⟩
  · rw [he] at hc; simp at hc; omega
  rw [hc'] at hc
  simp only [Prod.mk.injEq, and_true] at hc
  obtain ⟨hct, hcu⟩ := hc
  have hcor := cor_of hf hn
  rw [hct, hcu] at hcor
  obtain ⟨⟨h1, v1, q9⟩, ⟨k1, k2, k3, k4, k5, k6, k7, k8⟩, r1, q1, z1, z2⟩ := hf
  obtain ⟨-, -, -, -, -, t1, u1⟩ := hcor
  have HO : Hid (ouR h w c kh kw sh sw tp lf bt rt = (r, q, 0)) := he
  have a1 := Int.ediv_nonneg (show 0 ≤ n by omega) (show 0 ≤ q by omega)
  have a2 : n / q < r := Int.ediv_lt_of_lt_mul (by omega) (by omega)
  have b1 := Int.emod_nonneg n (show q ≠ 0 by omega)
  have b2 := Int.emod_lt_of_pos n (show 0 < q by omega)
  have t2 := td (c := q) (show 0 ≤ n by omega)
  have t3 := tm (c := q) (show 0 ≤ n by omega)
  obtain ⟨d, hd⟩ : ∃ d, n / q = d := ⟨_, rfl⟩
  obtain ⟨o, ho⟩ : ∃ o, n % q = o := ⟨_, rfl⟩
  rw [hd] at a1 a2 t2 hct
  rw [ho] at b1 b2 t3 hcu
  have n1 := hn.1
  clear hd ho he hc' z1 z2 hn
  have c3 := Int.mul_nonneg a1 (show 0 ≤ sh by omega)
  have c4 := Int.mul_nonneg b1 (show 0 ≤ sw by omega)
  obtain ⟨p, hp⟩ : ∃ p, d * sh = p := ⟨_, rfl⟩
  obtain ⟨v, hv⟩ : ∃ v, o * sw = v := ⟨_, rfl⟩
  rw [hp] at c3 hct
  rw [hv] at c4 hcu
  have e3 : p = t + tp := by omega
  have e4 : v = u + lf := by omega
  subst e3 e4
  have q0 : ¬ q = 0 := by omega
  obtain ⟨KH, hKH⟩ : ∃ K : Nat, kh = K := ⟨kh.toNat, by omega⟩
  obtain ⟨KW, hKW⟩ : ∃ K : Nat, kw = K := ⟨kw.toNat, by omega⟩
  subst hKH hKW
  have HN : Hid (((KH : Int) * (KW : Int)).toNat = KH * KW) := by unfold Hid; rw [← Int.natCast_mul]; rfl
  rw [HN.out]
  clear hct hcu
  go_enter Tryz.func61, Tryz.ntmps61
  go_wp2_with fail
  refine (rout_any _ _ _ _ _ _ _ _ _ _ _ _).mono ?_
  rintro e w1 ⟨rfl, hb'⟩
  have s1 := (St.start W).new.new.call hb'
  clear hb'
  try simp only [World.size_setCell] at s1
  try simp only [World.size_alloc] at s1
  obtain ⟨c1, f1, zw1_1, c2, f2, zw1_2, -⟩ := s1.rules
  rw [HO.out]
  go_wp2
  go_quiet (fail)
  have s2 := s1.call (drewN_below w1 nq)
  clear c1 f1 c2 f2
  obtain ⟨w2, hw2⟩ : ∃ w2, w1.drewN nq = w2 := ⟨_, rfl⟩
  rw [hw2] at s2
  rw [hw2]
  clear hw2 zw1_1 zw1_2 s1
  go_wp2
  have hs2 := s2.size
  go_loopw [12, 13] (fun out ky wr => ∃ y : Nat, y ≤ KH ∧ ky = Jv y ∧ Own wr w2.heap.size out (covL h w KW t u (y * KW)) ∧ Below w2.heap.size w2 wr)
    (fun _ ky _ => KH - (intOf ky).toNat)
  case atStart => exact ⟨0, Nat.zero_le _, rfl, by simpa [covL] using own_none _ _, Below.refl _ _⟩
  case round =>
    obtain ⟨y, hy, rfl, hown, hb⟩ := hrel
    have s3 := s2.call hb
    obtain ⟨c1, f1, zr1, c2, f2, zr2, -⟩ := s3.rules
    by_cases hlt : y < KH
    · go_wp2
      go_loopw [12, 14] (fun out kx wr' => ∃ x : Nat, x ≤ KW ∧ kx = Jv x ∧ Own wr' w2.heap.size out (covL h w KW t u (y * KW + x)) ∧ Below w2.heap.size w2 wr')
        (fun _ kx _ => KW - (intOf kx).toNat)
      case atStart => exact ⟨0, Nat.zero_le _, rfl, hown, hb⟩
      case round =>
        obtain ⟨x, hx, rfl, hown2, hb2⟩ := hrel
        clear c1 f1 c2 f2 zr1 zr2
        have s4 := s2.call hb2
        obtain ⟨c1, f1, zr1, c2, f2, zr2, -⟩ := s4.rules
        have hbs := hb2.size
        by_cases hlt2 : x < KW
        · have HS := covL_succ h w t u (y := y) hlt2
          have HL := covL_len h w KW t u (y * KW + x)
          have HX : Hid ((covL h w KW t u (y * KW + x)).length + 1 ≤ 10000000) := by
            unfold Hid
            rw [HL]
            have := Nat.mul_le_mul (show y ≤ 32 by omega) (show KW ≤ 32 by omega)
            omega
          have HS' : Hid (covL h w KW t u (y * KW + x + 1) = covL h w KW t u (y * KW + x) ++ [plc h w (t + y) (u + x)]) := HS
          clear HS HL
          obtain ⟨L, hL⟩ : ∃ L, covL h w KW t u (y * KW + x) = L := ⟨_, rfl⟩
          rw [hL] at HX HS' hown2
          clear hL
          by_cases k1 : t + y < 0
          · have HP : Hid (plc h w (t + y) (u + x) = -1) := plc_out (by omega)
            rw [HP.out] at HS'
            have own3 := hown2.alloc (.cells #[Jv (-1)] 3)
            have b3 := hb2.alloc hb2.size (.cells #[Jv (-1)] 3)
            go_wp2_with (at_builtin; refine wpList_app rfl (.tmp 78) (.tmp 79) rfl w2.heap.size _ _ [(-1 : Int)] rfl own3 _ _ _ rfl (row_one _ _) HX.out b3.size ?_; intro v4 w4 own4 gr4)
            go_roundw
            case rel => exact ⟨x + 1, by omega, by go_num, by rw [← Nat.add_assoc, HS'.out]; exact own4, own3.grow b3 gr4 b3.size⟩
            case measure => simp [intOf]; omega
          by_cases k2 : h ≤ t + y
          · have HP : Hid (plc h w (t + y) (u + x) = -1) := plc_out (by omega)
            rw [HP.out] at HS'
            have own3 := hown2.alloc (.cells #[Jv (-1)] 3)
            have b3 := hb2.alloc hb2.size (.cells #[Jv (-1)] 3)
            go_wp2_with (at_builtin; refine wpList_app rfl (.tmp 78) (.tmp 79) rfl w2.heap.size _ _ [(-1 : Int)] rfl own3 _ _ _ rfl (row_one _ _) HX.out b3.size ?_; intro v4 w4 own4 gr4)
            go_roundw
            case rel => exact ⟨x + 1, by omega, by go_num, by rw [← Nat.add_assoc, HS'.out]; exact own4, own3.grow b3 gr4 b3.size⟩
            case measure => simp [intOf]; omega
          by_cases k3 : u + x < 0
          · have HP : Hid (plc h w (t + y) (u + x) = -1) := plc_out (by omega)
            rw [HP.out] at HS'
            have own3 := hown2.alloc (.cells #[Jv (-1)] 3)
            have b3 := hb2.alloc hb2.size (.cells #[Jv (-1)] 3)
            go_wp2_with (at_builtin; refine wpList_app rfl (.tmp 78) (.tmp 79) rfl w2.heap.size _ _ [(-1 : Int)] rfl own3 _ _ _ rfl (row_one _ _) HX.out b3.size ?_; intro v4 w4 own4 gr4)
            go_roundw
            case rel => exact ⟨x + 1, by omega, by go_num, by rw [← Nat.add_assoc, HS'.out]; exact own4, own3.grow b3 gr4 b3.size⟩
            case measure => simp [intOf]; omega
          by_cases k4 : w ≤ u + x
          · have HP : Hid (plc h w (t + y) (u + x) = -1) := plc_out (by omega)
            rw [HP.out] at HS'
            have own3 := hown2.alloc (.cells #[Jv (-1)] 3)
            have b3 := hb2.alloc hb2.size (.cells #[Jv (-1)] 3)
            go_wp2_with (at_builtin; refine wpList_app rfl (.tmp 78) (.tmp 79) rfl w2.heap.size _ _ [(-1 : Int)] rfl own3 _ _ _ rfl (row_one _ _) HX.out b3.size ?_; intro v4 w4 own4 gr4)
            go_roundw
            case rel => exact ⟨x + 1, by omega, by go_num, by rw [← Nat.add_assoc, HS'.out]; exact own4, own3.grow b3 gr4 b3.size⟩
            case measure => simp [intOf]; omega
          have HP : Hid (plc h w (t + y) (u + x) = (t + y) * w + (u + x)) := plc_in (by omega)
          rw [HP.out] at HS'
          obtain ⟨p1, p2⟩ := rowbd (by omega : t + y < h) (by omega : 0 ≤ t + (y : Int)) (by omega : 0 ≤ u + (x : Int)) (by omega : u + x < w)
          obtain ⟨-, m2⟩ := mul_bd h1.1 h1.2 v1.1 v1.2
          obtain ⟨m, hm⟩ : ∃ m, h * w = m := ⟨_, rfl⟩
          rw [hm] at p2 m2
          clear hm
          obtain ⟨p, hp'⟩ : ∃ p, (t + (y : Int)) * w = p := ⟨_, rfl⟩
          rw [hp'] at p1 p2 HS'
          have own3 := hown2.alloc (.cells #[Jv (p + (u + x))] 3)
          have b3 := hb2.alloc hb2.size (.cells #[Jv (p + (u + x))] 3)
          go_wp2_with (at_builtin; refine wpList_app rfl (.tmp 81) (.tmp 88) rfl w2.heap.size _ _ [p + (u + (x : Int))] rfl own3 _ _ _ rfl (row_one _ _) HX.out b3.size ?_; intro v4 w4 own4 gr4)
          go_roundw
          case rel => exact ⟨x + 1, by omega, by go_num, by rw [← Nat.add_assoc, HS'.out]; exact own4, own3.grow b3 gr4 b3.size⟩
          case measure => simp [intOf]; omega
        · obtain rfl : x = KW := by omega
          go_wp2
          go_roundw
          case rel => exact ⟨y + 1, by omega, by go_num, by rw [Nat.add_mul, Nat.one_mul]; exact hown2, hb2⟩
          case measure => simp [intOf]; omega
    · obtain rfl : y = KH := by omega
      go_wp2
      go_ret
      exact ⟨⟨_, rfl, hown.base (by omega)⟩, s2.below.trans (hb.mono (by omega))⟩
end Go.Proofs.YtcphealigifdiaaGreat.Nx

/- What the document's Terms returns, of a Dense. -/
namespace Go.Proofs.YtcphealigifdiaaGreat
open Go.ChangeShapes Go.WideShapes Go.ChangeAt Go.RowKit
set_option linter.unusedVariables false
theorem OTm.grow {w w' w0 : World} {base : Nat} {v : Value} {L : List (Int × Int)} (h : OTm w base v L) (hb : Below base w0 w) (k : w.grownBy w' v.ownBlock) (hB : base ≤ w.heap.size) : Below base w0 w' := hb.grown k hB fun b e => h.lt b e
theorem plA_1 (C ch h w kw t u i : Int) : plA 1 C ch h w kw t u i = i := if_pos rfl
set_option maxRecDepth 100000 in
set_option maxHeartbeats 4000000 in
theorem rterms_1 (a b m kh kw sh sw tp lf bt rt : Int) (wa : Option Addr) (lw wc : Nat) (ba : Option Addr) (lb bc : Nat) (sm ss um us z p lo hi h w c H V C : Int) (W : World) (zs : List Int) (hZ : IRow .i16 W wa lw wc zs) (s : Sit 1 kh kw sh sw tp lf bt rt h w c H V C lw lb) (ch at' t u : Int) (hch : 1 ≤ ch ∧ ch ≤ C) (st : Nat) (hst : stR 1 kh kw h w c = (st : Int)) :
    Calls Tryz.prog 43 #[.agg #[Jv 1, Jv a, Jv b, Jv m, Jv kh, Jv kw, Jv sh, Jv sw, Jv tp, Jv lf, Jv bt, Jv rt, .slice wa lw wc, .slice ba lb bc, Jv sm, Jv ss, Jv um, Jv us, Jv z, Jv p, Jv lo, Jv hi, Jv h, Jv w, Jv c, Jv H, Jv V, Jv C], Jv ch, Jv at'] W fun e w' => (∃ v, e = .returned v ∧ OTm w' W.heap.size v (tmL 1 c ch h w kw t u st zs st)) ∧ Below W.heap.size W w' := by
  have hLe : Hid (∀ W', Calls Tryz.prog 15 #[.agg #[Jv 1, Jv a, Jv b, Jv m, Jv kh, Jv kw, Jv sh, Jv sw, Jv tp, Jv lf, Jv bt, Jv rt, .slice wa lw wc, .slice ba lb bc, Jv sm, Jv ss, Jv um, Jv us, Jv z, Jv p, Jv lo, Jv hi, Jv h, Jv w, Jv c, Jv H, Jv V, Jv C]] W' fun e w' => e = .returned (Jv st) ∧ Below W'.heap.size W' w') := fun W' => by rw [← hst]; exact rlen_any 1 a b m kh kw sh sw tp lf bt rt wa lw wc ba lb bc sm ss um us z p lo hi h w c H V C W' s
  have hWg : Hid (∀ (w' : World) (i : Nat), i < st → Below W.heap.size W w' → Calls Tryz.prog 60 #[.agg #[Jv 1, Jv a, Jv b, Jv m, Jv kh, Jv kw, Jv sh, Jv sw, Jv tp, Jv lf, Jv bt, Jv rt, .slice wa lw wc, .slice ba lb bc, Jv sm, Jv ss, Jv um, Jv us, Jv z, Jv p, Jv lo, Jv hi, Jv h, Jv w, Jv c, Jv H, Jv V, Jv C], Jv ch, Jv i] w' fun e w'' => e = .returned (Jv (wgA 1 ch st zs i)) ∧ Below w'.heap.size w' w'') := fun w' i hj hb => by
    have := rwei_any 1 a b m kh kw sh sw tp lf bt rt wa lw wc ba lb bc sm ss um us z p lo hi h w c H V C w' zs (hZ.below hb) s ch hch i (by rw [hst]; omega)
    rw [hst] at this
    exact this
  have hlen : st ≤ 512 := by have := s.2.2.2.2.2.2.2.2.2; rw [hst] at this; omega
  clear hst hZ s
  have s0 := (St.start W).new (c := #[Jv 1, Jv a, Jv b, Jv m, Jv kh, Jv kw, Jv sh, Jv sw, Jv tp, Jv lf, Jv bt, Jv rt, .slice wa lw wc, .slice ba lb bc, Jv sm, Jv ss, Jv um, Jv us, Jv z, Jv p, Jv lo, Jv hi, Jv h, Jv w, Jv c, Jv H, Jv V, Jv C]) (t := 44)
  go_enter Tryz.func43, Tryz.ntmps43
  go_wp2_with (refine wpList_load_row rfl 44 (.tmp 3) rfl W.heap.size rfl 44 _ (0, 0) _ s0.h1 Tryz.underlying44 rfl (by kernel_rfl) ?_)
  refine (hLe.out _).mono ?_
  rintro e w1 ⟨rfl, hb⟩
  have s1 := s0.call hb
  obtain ⟨c1, f1, z1, -⟩ := s1.rules
  have S1 : Hid (St W w1 _) := s1
  clear hb s0 s1
  go_wp2
  clear c1 f1
  go_loopw [7, 9] (fun v i wr => ∃ y : Nat, y ≤ st ∧ i = Jv y ∧ OTm wr w1.heap.size v (tmL 1 c ch h w kw t u st zs y) ∧ Below w1.heap.size w1 wr) (fun _ i _ => st - (intOf i).toNat)
  case atStart => exact ⟨0, Nat.zero_le _, rfl, OTm.nil _ _, Below.refl _ _⟩
  case round =>
    obtain ⟨y, hy, rfl, hO, hb⟩ := hrel
    have s2 := S1.out.call hb
    obtain ⟨va, vc, hve⟩ := hO.slice
    rw [tmL_len] at hve
    subst hve
    have HO : Hid (OTm _ _ _ _) := hO
    have hbz := hb.size
    clear hO
    by_cases hlt : y < st
    · have h1 := s2.h1
      go_wp2_with (refine wpList_load_row rfl 44 (.tmp 3) rfl W.heap.size rfl 44 _ (0, 0) _ h1 Tryz.underlying44 rfl (by kernel_rfl) ?_)
      refine (hWg.out _ y hlt s2.below).mono ?_
      rintro e w3 ⟨rfl, hb3⟩
      have HO3 : Hid (OTm _ _ _ _) := (HO.out.below hb3).below (bal w3 (.cells #[Jv (wgA 1 ch st zs y), Jv y] 91))
      have B3 : Hid (Below w1.heap.size w1 _) := (hb.trans (hb3.mono hbz)).alloc (Nat.le_trans hbz hb3.size) (.cells #[Jv (wgA 1 ch st zs y), Jv y] 91)
      have hz3 : w1.heap.size ≤ w3.heap.size := Nat.le_trans hbz hb3.size
      have HS : Hid (tmL 1 c ch h w kw t u st zs (y + 1) = tmL 1 c ch h w kw t u st zs y ++ [(wgA 1 ch st zs y, (y : Int))]) := by unfold Hid; rw [tmL_succ, plA_1]
      have HLn : Hid ((tmL 1 c ch h w kw t u st zs y).length + 1 ≤ 1000000) := by unfold Hid; rw [tmL_len]; omega
      clear hb3 hb s2 HO h1
      go_wp2_with (at_builtin; refine wpList_apT rfl (.tmp 26) (.tmp 33) rfl w1.heap.size _ _ [(wgA 1 ch st zs y, (y : Int))] rfl HO3.out w3.heap.size 1 1 rfl rfl (term_one w3 _ _) HLn.out (by simp; omega) ?_; intro v4 w4 own4 gr4; have B4 : Hid (Below w1.heap.size w1 w4) := HO3.out.grow B3.out gr4 (by simp; omega))
      go_roundw
      case rel => exact ⟨y + 1, by omega, by go_num, by rw [HS.out]; exact own4, B4.out⟩
      case measure => simp [intOf]; omega
    · obtain rfl : y = st := by omega
      have hS1 := S1.out.below
      go_wp2
      go_ret
      exact ⟨⟨_, rfl, HO.out.base hS1.size⟩, hS1.trans (hb.mono hS1.size)⟩
end Go.Proofs.YtcphealigifdiaaGreat
