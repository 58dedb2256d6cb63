/- same and front of law08: what each returns. -/
import Derived.Test.YtfgbolekenlheaaMdlH
import Derived.Test.YtfgbolekenlheaaMdlV
import Derived.BigQuiet
namespace Go.Proofs.Ytfgbolekenlheaa
open Go.ChangeShapes Go.WideShapes Go.ChangeAt Go.RowKit
set_option linter.unusedVariables false
/-- A slice of shapes. -/
def SV (w : World) (v : Value) (L : List (Int × Int × Int)) : Prop :=
  ∃ a cap, v = .slice a L.length cap ∧ L.length ≤ cap ∧ cap ≤ maxLen ∧ (0 < L.length → ∃ g, a = some ⟨g, 0, none⟩ ∧ ∀ i, i < L.length →
    w.cell? ⟨g, i * 3, none⟩ = some (.int .i64 (L.getD i (0, 0, 0)).1) ∧ w.cell? ⟨g, i * 3 + 1, none⟩ = some (.int .i64 (L.getD i (0, 0, 0)).2.1) ∧ w.cell? ⟨g, i * 3 + 2, none⟩ = some (.int .i64 (L.getD i (0, 0, 0)).2.2))
theorem SV.below {w w' : World} {v : Value} {L : List (Int × Int × Int)} (h : SV w v L) (q : Below w.heap.size w w') : SV w' v L := by
  obtain ⟨a, cap, h1, h2, h3, h4⟩ := h
  refine ⟨a, cap, h1, h2, h3, fun h0 => ?_⟩
  obtain ⟨g, e, hc⟩ := h4 h0
  refine ⟨g, e, fun i hi => ?_⟩
  obtain ⟨c1, c2, c3⟩ := hc i hi
  exact ⟨(q.cell (World.block_lt_of_cell? w _ c1)).trans c1, (q.cell (World.block_lt_of_cell? w _ c2)).trans c2, (q.cell (World.block_lt_of_cell? w _ c3)).trans c3⟩
theorem sv_cu {w : World} {g cap : Nat} {cur : Array Value} {T : TypeId} {L M : List (Int × Int × Int)} (h : w.heap[g]? = some (.cells cur T (0, 0))) (hC : Cu cur cap L) (hm : cap ≤ maxLen) (n : Nat) (hn : n ≤ L.length) (hM : M = L.take n) : SV w (.slice (some ⟨g, 0, none⟩) n cap) M := by
  have hl : M.length = n := by rw [hM, List.length_take]; omega
  have hc := hC.2.1
  refine ⟨some ⟨g, 0, none⟩, cap, by rw [hl], by omega, hm, fun _ => ⟨g, rfl, fun i hi => ?_⟩⟩
  obtain ⟨a1, a2, a3⟩ := hC.at (i := i) (by omega)
  have e : M.getD i (0, 0, 0) = L.getD i (0, 0, 0) := by rw [hM]; simp [List.getD, show i < n by omega]
  rw [e]
  simp only [(cells_at h).1]
  exact ⟨a1, a2, a3⟩
theorem Shp.sv {w : World} {base : Nat} {v : Value} {L : List (Int × Int × Int)} (h : Shp w base v L) : SV w v L := by
  rcases h with ⟨rfl, rfl⟩ | ⟨g, cap, cur, rfl, h2, h3, h4, h5⟩
  · exact ⟨none, 0, rfl, Nat.le_refl _, by unfold maxLen; omega, fun h => by cases h⟩
  · exact sv_cu h3 h4 (by unfold maxLen; omega) L.length (Nat.le_refl _) (by simp)
theorem l3_step {xs ys : List (Int × Int × Int)} {k : Nat} {c d : Int × Int × Int} (kx : xs.getD k (0, 0, 0) = c) (ky : ys.getD k (0, 0, 0) = d) (hx : k < xs.length) (hy : k < ys.length) (he : xs.take k = ys.take k) : (c = d → xs.take (k + 1) = ys.take (k + 1)) ∧ (c ≠ d → decide (xs = ys) = false) := by
  rw [List.getD_eq_getElem?_getD, List.getElem?_eq_getElem hx, Option.getD_some] at kx
  rw [List.getD_eq_getElem?_getD, List.getElem?_eq_getElem hy, Option.getD_some] at ky
  constructor
  · intro h
    rw [List.take_add_one, List.take_add_one, he, List.getElem?_eq_getElem hx, List.getElem?_eq_getElem hy, kx, ky, h]
  · intro h
    refine decide_eq_false fun e => h ?_
    subst e
    rw [← kx, ← ky]
theorem l3_end {xs ys : List (Int × Int × Int)} {k n : Nat} (hx : xs.length = n) (hy : ys.length = n) (hk : n ≤ k) (he : xs.take k = ys.take k) : decide (xs = ys) = true := by
  rw [List.take_of_length_le (by omega), List.take_of_length_le (by omega)] at he
  exact decide_eq_true he
theorem retb {a b : Bool} (h : a = b) : Ending.returned (.bool a) = .returned (.bool b) := by rw [h]
set_option maxHeartbeats 1000000 in
theorem same_any (u v : Value) (xs ys : List (Int × Int × Int)) (W : World) (hu : SV W u xs) (hv : SV W v ys) :
    Calls Try.prog 13 #[u, v] W fun e w' => e = .returned (.bool (decide (xs = ys))) ∧ Below W.heap.size W w' := by
  obtain ⟨a, ca, rfl, a1, a2, a3⟩ := hu
  obtain ⟨b, cb, rfl, b1, b2, b3⟩ := hv
  unfold maxLen at a2 b2
  obtain ⟨la, hla⟩ : ∃ la, xs.length = la := ⟨_, rfl⟩
  obtain ⟨lb, hlb⟩ : ∃ lb, ys.length = lb := ⟨_, rfl⟩
  rw [hla] at a1 a3 ⊢
  rw [hlb] at b1 b3 ⊢
  have hxl : Hid (xs.length = la) := hla
  have hyl : Hid (ys.length = lb) := hlb
  have ha : Hid (0 < la → _) := a3
  have hb : Hid (0 < lb → _) := b3
  clear hla hlb a3 b3
  by_cases hlen : la = lb
  · subst hlen
    go_enter Try.func13, Try.ntmps13
    go_wp2
    go_loopw [13] (fun i wr => ∃ k n : Nat, k ≤ la ∧ i = .int .i64 k ∧ xs.take k = ys.take k ∧ wr = W.drewN n) (fun i _ => la - (intOf i).toNat)
    case atStart => exact ⟨0, 0, Nat.zero_le _, rfl, rfl, rfl⟩
    case round =>
      obtain ⟨k, n, hk, rfl, he, rfl⟩ := hrel
      have he' : Hid (xs.take k = ys.take k) := he
      clear he
      by_cases hlt : k < la
      · obtain ⟨g, rfl, hc⟩ := ha.out (by omega)
        obtain ⟨f, rfl, hd⟩ := hb.out (by omega)
        obtain ⟨p1, p2, p3⟩ := hc k hlt
        obtain ⟨q1, q2, q3⟩ := hd k hlt
        obtain ⟨A1, A2, A3, hA⟩ : ∃ A1 A2 A3, xs.getD k (0, 0, 0) = (A1, A2, A3) := ⟨_, _, _, rfl⟩
        obtain ⟨B1, B2, B3, hB⟩ : ∃ B1 B2 B3, ys.getD k (0, 0, 0) = (B1, B2, B3) := ⟨_, _, _, rfl⟩
        rw [hA] at p1 p2 p3
        rw [hB] at q1 q2 q3
        simp only at p1 p2 p3 q1 q2 q3
        have hstep : Hid _ := l3_step hA hB (by rw [hxl.out]; exact hlt) (by rw [hyl.out]; exact hlt) he'.out
        clear ha hb hc hd hA hB
        by_cases hcd : A1 = B1 ∧ A2 = B2 ∧ A3 = B3
        · obtain ⟨rfl, rfl, rfl⟩ := hcd
          have qn := ne3 23 rfl A1 A2 A3 A1 A2 A3 true (by simp)
          have he2 : Hid (xs.take (k + 1) = ys.take (k + 1)) := hstep.out.1 rfl
          clear hstep
          go_wp2
          go_quiet (fail)
          go_wp2
          go_roundw
          case rel => exact ⟨k + 1, _, by omega, by go_num, he2.out, rfl⟩
          case measure => simp [intOf]; omega
        · have qn := ne3 23 rfl A1 A2 A3 B1 B2 B3 false (decide_eq_false hcd)
          have hD : Hid (decide (xs = ys) = false) := hstep.out.2 (fun q => hcd (by simpa using q))
          go_wp2
          go_quiet (fail)
          go_wp2
          go_ret
          exact ⟨retb hD.out.symm, by rw [World.drewN_drewN]; exact dbel _ _⟩
      · clear ha hb
        have hD : Hid (decide (xs = ys) = true) := l3_end hxl.out hyl.out (by omega) he'.out
        go_wp2
        go_ret
        exact ⟨retb hD.out.symm, dbel _ _⟩
  · have hne : xs ≠ ys := fun e => hlen (by rw [← hxl.out, ← hyl.out, e])
    have hD : Hid (decide (xs = ys) = false) := by simp [Hid, hne]
    have hl : ((la : Int) == (lb : Int)) = false := by simp; omega
    clear ha hb hne
    go_enter Try.func13, Try.ntmps13
    go_wp2
    go_ret
    exact ⟨retb hD.out.symm, Below.refl _ _⟩
/-! ### front -/
theorem St.grown {w0 w w' : World} {l : List (Nat × Array Value × TypeId)} {row : Option Nat} (h : St w0 w l) (g : w.grownBy w' row) (hr : ∀ k, row = some k → w0.heap.size ≤ k) (hl : ∀ x ∈ l, some x.1 ≠ row) : St w0 w' l :=
  ⟨h.1.grown g h.1.size hr, fun x hx => ⟨by rw [g.block _ (lt_of_heap (h.2 x hx).1) (hl x hx)]; exact (h.2 x hx).1, (h.2 x hx).2⟩⟩
/-- The cells that lie there. -/
def mc (w : World) (x : Addr) (n : Nat) : List Value := (List.range n).map fun q => (w.cell? (x.add q)).getD (.bool false)
theorem mc_len (w : World) (x : Addr) (n : Nat) : (mc w x n).length = n := by simp [mc]
theorem mc_at {w : World} {x : Addr} {n q : Nat} {v : Value} (h : q < n) (hc : w.cell? (x.add q) = some v) : (mc w x n)[q]? = some v := by simp [mc, h, hc]
theorem opl_len (o : Nat → Int) (wa : Option Addr) (lw cw : Nat) (ba : Option Addr) (lb cb : Nat) : (opl o wa lw cw ba lb cb).length = 22 := rfl
theorem opl_one (o : Nat → Int) (wa : Option Addr) (lw cw : Nat) (ba : Option Addr) (lb cb : Nat) : ∀ v ∈ opl o wa lw cw ba lb cb, v.oneCell' = true := by simp [opl, Value.oneCell']
theorem MRow.cell {w : World} {x : Addr} {on oc : Nat} {O : Nat → Nat → Int} (h : MRow w (some x) on oc O) {q : Nat} (hq : q < on * 22) : ∃ v, w.cell? (x.add q) = some v ∧ v.oneCell' = true := by
  obtain ⟨wa, lw, cw, ba, lb, cb, -, -, h3⟩ := h.2.2.2 x rfl (q / 22) (by omega)
  have hj : q % 22 < (opl (O (q / 22)) wa lw cw ba lb cb).length := by rw [opl_len]; omega
  have := h3 (q % 22) _ (List.getElem?_eq_getElem hj)
  rw [show q / 22 * 22 + q % 22 = q by omega] at this
  exact ⟨_, this, opl_one _ _ _ _ _ _ _ _ (List.getElem_mem hj)⟩
theorem mc_of {w : World} {x : Addr} {on oc k : Nat} {O : Nat → Nat → Int} (h : MRow w (some x) on oc O) (hk : k ≤ on) : (∀ j u, (mc w x (k * 22))[j]? = some u → w.cell? (x.add j) = some u) ∧ ∀ u ∈ mc w x (k * 22), u.oneCell' = true := by
  constructor
  · intro j u hj
    have hj' : j < k * 22 := by have := (List.getElem?_eq_some_iff.1 hj).1; rwa [mc_len] at this
    obtain ⟨v, hv, -⟩ := h.cell (q := j) (by omega)
    rw [mc_at hj' hv] at hj
    rw [hv, hj]
  · intro u hu
    obtain ⟨j, hj⟩ := List.getElem?_of_mem hu
    have hj' : j < k * 22 := by have := (List.getElem?_eq_some_iff.1 hj).1; rwa [mc_len] at this
    obtain ⟨v, hv, h1⟩ := h.cell (q := j) (by omega)
    rw [mc_at hj' hv] at hj
    cases hj
    exact h1
theorem mrow_copy {w w' : World} {x : Addr} {on oc k base : Nat} {v : Value} {O : Nat → Nat → Int} (h : MRow w (some x) on oc O) (hk : k ≤ on) (hown : w'.ownsRow base 54 22 v k (mc w x (k * 22))) (hv : v ≠ .slice none 0 0) :
    ∃ g cap cur, v = .slice (some ⟨g, 0, none⟩) k cap ∧ base ≤ g ∧ w'.heap[g]? = some (.cells cur 54 (0, 0)) ∧ MRow w' (some ⟨g, 0, none⟩) k cap O := by
  rcases hown.2 with ⟨h0, -⟩ | ⟨g, cap, cur, h1, h2, h3, h4, h5, h6, h7⟩
  · exact absurd h0 hv
  · refine ⟨g, cap, cur, h1, h2, h3, h4, h5, fun q => (by cases q), fun y hy i hi => ?_⟩
    cases hy
    obtain ⟨wa, lw, cw, ba, lb, cb, e1, e2, e3⟩ := h.2.2.2 x rfl i (by omega)
    refine ⟨wa, lw, cw, ba, lb, cb, e1, e2, fun j u hj => ?_⟩
    have hj' : j < 22 := (List.getElem?_eq_some_iff.1 hj).1
    exact hown.cells (by rw [h1]; rfl) _ _ (mc_at (by omega) (e3 j u hj))
theorem MRow.heap {w w' : World} {g k cap : Nat} {O : Nat → Nat → Int} (h : MRow w (some ⟨g, 0, none⟩) k cap O) (e : w'.heap[g]? = w.heap[g]?) : MRow w' (some ⟨g, 0, none⟩) k cap O :=
  ⟨h.1, h.2.1, h.2.2.1, fun x hx i hi => by
    obtain ⟨wa, lw, cw, ba, lb, cb, h1, h2, h3⟩ := h.2.2.2 x hx i hi
    exact ⟨wa, lw, cw, ba, lb, cb, h1, h2, fun j v hj => (World.cell?_of_block (by rw [add_block]; cases hx; exact e)).trans (h3 j v hj)⟩⟩
theorem ne_of_ty {w : World} {a b : Nat} {c d : Array Value} {t u : TypeId} (h : w.heap[a]? = some (.cells c t (0, 0))) (k : w.heap[b]? = some (.cells d u (0, 0))) (q : t ≠ u) : a ≠ b := fun e => by
  subst e
  rw [h] at k
  simp only [Option.some.injEq, Obj.cells.injEq] at k
  exact q k.2.1
set_option maxHeartbeats 1000000 in
theorem front_any (h w c lo hi ot : Int) (oa : Option Addr) (on oc k : Nat) (O : Nat → Nat → Int) (W : World) (hM : MRow W oa on oc O) (hk : k ≤ on) (h64 : on ≤ 64) :
    Calls Try.prog 17 #[.agg #[.int .i64 h, .int .i64 w, .int .i64 c, .int .i64 lo, .int .i64 hi, .slice oa on oc, .int .i64 ot], .int .i64 (k : Int)] W fun e w' => ∃ g cap, e = .returned (.agg #[.int .i64 h, .int .i64 w, .int .i64 c, .int .i64 lo, .int .i64 hi, .slice (some ⟨g, 0, none⟩) k cap, .int .i64 (k : Int)]) ∧ W.heap.size ≤ g ∧ MRow w' (some ⟨g, 0, none⟩) k cap O ∧ Below W.heap.size W w' := by
  have hocc := hM.1
  have hocm := hM.2.1
  unfold maxLen at hocm
  obtain ⟨i0, hi0, hz0, hz1, hz2⟩ := info_parts (show (Try.prog.info? 54).map (fun i => (i.zero, i.size, i.bytes)) = some (some (.agg #[.int .i64 0, .int .i64 0, .int .i64 0, .int .i64 0, .int .i64 0, .int .i64 0, .int .i64 0, .int .i64 0, .int .i64 0, .int .i64 0, .int .i64 0, .int .i64 0, .slice none 0 0, .slice none 0 0, .int .i64 0, .int .i64 0, .int .i64 0, .int .i64 0, .int .i64 0, .int .i64 0, .int .i64 0, .int .i64 0]), 22, 208) by kernel_rfl)
  have z0 := ((St.start W).new (c := #[.int .i64 h, .int .i64 w, .int .i64 c, .int .i64 lo, .int .i64 hi, .slice oa on oc, .int .i64 ot]) (t := 26)).new (c := #[.int .i64 0, .int .i64 0, .int .i64 0, .int .i64 0, .int .i64 0, .slice none 0 0, .int .i64 0]) (t := 26)
  have s0 := z0.new (c := #[]) (t := 54)
  simp only [World.size_alloc] at s0 z0
  have hown0 : ∀ w' : World, w'.heap[W.heap.size + 1 + 1]? = some (.cells #[] 54 (0, 0)) → w'.ownsRow W.heap.size 54 22 (.slice (some ⟨W.heap.size + 1 + 1, 0, none⟩) 0 0) 0 [] := fun w' hw => ⟨rfl, .inr ⟨W.heap.size + 1 + 1, 0, #[], rfl, by omega, hw, Nat.le_refl _, by unfold maxLen; omega, rfl, rfl⟩⟩
  have b1 : (0 : Int) ≤ (k : Int) := by omega
  have b2 : (k : Int) ≤ (oc : Int) := by omega
  cases oa with
  | none =>
    obtain rfl : oc = 0 := hM.2.2.1 rfl
    obtain rfl : on = 0 := by omega
    obtain rfl : k = 0 := by omega
    go_enter Try.func17, Try.ntmps17
    go_wp2_with (at_builtin; refine wpList_append_own_none rfl (.tmp 5) (.tmp 9) 24 rfl W.heap.size 54 i0 22 Try.underlying24 hi0 _ 0 [] rfl (hown0 _ s0.h1) rfl ?_)
    exact bodyPost_ret (v := .agg #[.int .i64 h, .int .i64 w, .int .i64 c, .int .i64 lo, .int .i64 hi, .slice (some ⟨W.heap.size + 1 + 1, 0, none⟩) 0 0, .int .i64 0]) (by simp [results, Try.results17, go_sem, *]) rfl ⟨_, _, rfl, by omega, ⟨Nat.le_refl _, by unfold maxLen; omega, fun q => (by cases q), fun y hy i hi => by omega⟩, (St.start W).new.new.new.below⟩
  | some x =>
    have hMH : Hid (MRow _ (some x) on oc O) := hM.below s0.below
    clear hM
    go_enter Try.func17, Try.ntmps17
    go_wp2_with (at_builtin; refine wpList_append_own _ rfl (.tmp 5) (.tmp 9) 24 rfl W.heap.size 54 i0 _ 22 208 Try.underlying24 hi0 hz0 hz1 hz2 rfl (by decide) (.slice (some ⟨W.heap.size + 1 + 1, 0, none⟩) 0 0) 0 [] rfl (hown0 _ s0.h1) x k oc (mc _ x (k * 22)) rfl (mc_len _ _ _) (mc_of hMH.out hk).1 (mc_of hMH.out hk).2 (by unfold maxLen; omega) (by omega) (by simp; omega) ?_; intro v' w3 hown hgr hnn; rw [Nat.zero_add, List.nil_append] at hown; obtain ⟨g, cap, cur, rfl, hgb, hgc, hM3⟩ := mrow_copy hMH.out hk hown (fun e => by have := (hnn.1 e).1; cases this); have s1 := s0.tail.grown hgr (fun q e => by simp [Value.ownBlock] at e; omega) (by simp [Value.ownBlock]; omega); have ng1 : g ≠ W.heap.size := ne_of_ty hgc s1.h2 (by decide); have ng2 : g ≠ W.heap.size + 1 := ne_of_ty hgc s1.h1 (by decide); have hM4 : Hid (MRow w3 (some ⟨g, 0, none⟩) k cap O) := hM3; clear hM3 hgc hown hgr hnn s0 z0 hown0 hMH; obtain ⟨c1, f1, y1, c2, f2, y2, -⟩ := s1.rules)
    refine bodyPost_ret (v := .agg #[.int .i64 h, .int .i64 w, .int .i64 c, .int .i64 lo, .int .i64 hi, .slice (some ⟨g, 0, none⟩) k cap, .int .i64 (k : Int)]) (by simp [results, Try.results17, go_sem, *]) rfl ⟨g, cap, rfl, hgb, hM4.out.heap ?_, ?_⟩
    · have e1 : ∀ (w : World) (i : Nat) (v : Value), (w.setCell ⟨W.heap.size, i, none⟩ v).heap[g]? = w.heap[g]? := fun w i v => Below.heap_setCell w ⟨W.heap.size, i, none⟩ v g ng1
      have e2 : ∀ (w : World) (i : Nat) (v : Value), (w.setCell ⟨W.heap.size + 1, i, none⟩ v).heap[g]? = w.heap[g]? := fun w i v => Below.heap_setCell w ⟨W.heap.size + 1, i, none⟩ v g ng2
      simp only [e1, e2]
    · repeat refine Below.setCell (p := ⟨_, _, none⟩) ?_ (by simp) _
      exact s1.below
end Go.Proofs.Ytfgbolekenlheaa
