/- What Tensors of package plain returns. What Eval of package plain returns. What Totals of package plain returns. -/
import Derived.Test.YtdknofbnhjdfjaaGr26
/- What Tensors of package plain returns. -/
namespace Go.Proofs.Ytdknofbnhjdfjaa
open Go.ChangeShapes Go.WideShapes Go.ChangeAt Go.RowKit
set_option linter.unusedVariables false
set_option maxHeartbeats 2000000 in
theorem tensors_bad (h w c lo hi ot : Int) (oa : Option Addr) (on oc : Nat) (O : Nat → Nat → Int) (Z B : Nat → List Int) (W : World) (hL : LRow W oa on oc O Z B) (ad : Option Addr) (n cap : Nat) (xs : List Int) (hX : IRow .i8 W ad n cap xs) (Re Ra Rw : Int) (RL : List (Int × Int × Int)) (hR : gtR O h w c lo hi ot on = (Re, Ra, RL, Rw)) (he : Re ≠ 0) :
    Calls Try.prog 10 #[.agg #[.int .i64 h, .int .i64 w, .int .i64 c, .int .i64 lo, .int .i64 hi, .slice oa on oc, .int .i64 ot], .slice ad n cap] W fun e w' => e = .returned (.tuple #[.slice none 0 0, .agg #[.int .i64 Re, .int .i64 Ra, .int .i64 0]]) ∧ Below W.heap.size W w' := by
  have hS : Hid (∀ W, MRow W oa on oc O → _) := fun W hW => shapes_any h w c lo hi ot oa on oc O W hW
  rw [hR] at hS
  simp only at hS
  have hM2 : Hid (MRow W oa on oc O) := hL.m
  have he' : (Re == 0) = false := by simp [he]
  have s0 := ((St.start W).new (c := #[.int .i64 h, .int .i64 w, .int .i64 c, .int .i64 lo, .int .i64 hi, .slice oa on oc, .int .i64 ot]) (t := 26)).new (c := #[.int .i64 0, .int .i64 0, .int .i64 0]) (t := 51)
  simp only [World.size_alloc] at s0
  clear hL hX hR
  go_enter Try.func10, Try.ntmps10
  go_wp2_with fail
  refine Calls.mono (hS.out _ (hM2.out.below s0.below)) ?_
  rintro e w1 ⟨v, rfl, hSh, hb⟩
  obtain ⟨va, vc, rfl⟩ := hSh.slice
  have s1 := (s0.call hb).new (c := #[.int .i64 Re, .int .i64 Ra, .int .i64 0]) (t := 51)
  obtain ⟨c1, f1, z1, c2, f2, z2, -⟩ := (s0.call hb).rules
  clear hb hSh hS hM2 s0
  go_upto_region 2 with fail
  obtain ⟨w2, hw2⟩ : ∃ w2, w1.alloc (.cells #[.int .i64 Re, .int .i64 Ra, .int .i64 0] 51) = w2 := ⟨_, rfl⟩
  rw [hw2] at s1 ⊢
  clear hw2 c1 f1 z1 c2 f2 z2
  obtain ⟨c1, f1, z1, c2, f2, z2, -⟩ := s1.rules
  have S1 : Hid (St W w2 _) := s1
  clear s1
  go_wp2
  go_region_law (fail)
  all_goals
    go_wp2
    exact bodyPost_ret (v := .tuple #[.slice none 0 0, .agg #[.int .i64 Re, .int .i64 Ra, .int .i64 0]]) (by simp [results, Try.results10, go_sem, *]) rfl ⟨rfl, by first | exact set3b S1.out.below (by omega) | exact set3b S1.out.drew.below (by omega)⟩
set_option maxHeartbeats 2000000 in
theorem tensors_in (h w c lo hi ot : Int) (oa : Option Addr) (on oc : Nat) (O : Nat → Nat → Int) (Z B : Nat → List Int) (W : World) (hL : LRow W oa on oc O Z B) (ad : Option Addr) (n cap : Nat) (xs : List Int) (hX : IRow .i8 W ad n cap xs) (Rw : Int) (RL : List (Int × Int × Int)) (hR : gtR O h w c lo hi ot on = (0, 0, RL, Rw)) (hin : inB h w c lo hi xs = false) :
    Calls Try.prog 10 #[.agg #[.int .i64 h, .int .i64 w, .int .i64 c, .int .i64 lo, .int .i64 hi, .slice oa on oc, .int .i64 ot], .slice ad n cap] W fun e w' => e = .returned (.tuple #[.slice none 0 0, .agg #[.int .i64 220, .int .i64 0, .int .i64 0]]) ∧ Below W.heap.size W w' := by
  have hS : Hid (∀ W, MRow W oa on oc O → _) := fun W hW => shapes_any h w c lo hi ot oa on oc O W hW
  rw [hR] at hS
  simp only at hS
  obtain ⟨-, hRl, ho64, -, -, -⟩ := gtR_ok hR
  have hvs : vS h w c = true := (ouE_0 (gtR_st hR).1).1
  have hI : Hid (∀ W', Below W.heap.size W W' → _) := fun W' hb => isinput_any h w c lo hi ot oa on oc ad n cap xs W' (hX.below hb) hvs
  rw [hin] at hI
  have hM2 : Hid (MRow W oa on oc O) := hL.m
  have s0 := ((St.start W).new (c := #[.int .i64 h, .int .i64 w, .int .i64 c, .int .i64 lo, .int .i64 hi, .slice oa on oc, .int .i64 ot]) (t := 26)).new (c := #[.int .i64 0, .int .i64 0, .int .i64 0]) (t := 51)
  simp only [World.size_alloc] at s0
  clear hL hX hR hvs
  go_enter Try.func10, Try.ntmps10
  go_wp2_with fail
  refine Calls.mono (hS.out _ (hM2.out.below s0.below)) ?_
  rintro e w1 ⟨v, rfl, hSh, hb⟩
  obtain ⟨va, vc, rfl⟩ := hSh.slice
  have s1 := (s0.call hb).new (c := #[.int .i64 0, .int .i64 0, .int .i64 0]) (t := 51)
  obtain ⟨c1, f1, z1, c2, f2, z2, -⟩ := (s0.call hb).rules
  clear hb hSh hS hM2 s0
  go_upto_region 2 with fail
  obtain ⟨w2, hw2⟩ : ∃ w2, w1.alloc (.cells #[.int .i64 0, .int .i64 0, .int .i64 0] 51) = w2 := ⟨_, rfl⟩
  rw [hw2] at s1 ⊢
  clear hw2 c1 f1 z1 c2 f2 z2
  obtain ⟨c1, f1, z1, c2, f2, z2, c3, f3, z3, -⟩ := s1.rules
  have S1 : Hid (St W w2 _) := s1
  clear s1
  go_wp2_with fail
  refine (hI.out _ S1.out.below).mono ?_
  rintro e w3 ⟨rfl, hb3⟩
  have s3 := S1.out.call hb3
  clear c1 f1 z1 c2 f2 z2 c3 f3 z3
  obtain ⟨c1, f1, z1, c2, f2, z2, -⟩ := s3.rules
  have S3 : Hid (St W w3 _) := s3
  clear s3 hb3 S1
  go_wp2
  exact bodyPost_ret (v := .tuple #[.slice none 0 0, .agg #[.int .i64 220, .int .i64 0, .int .i64 0]]) (by simp [results, Try.results10, go_sem, *]) rfl ⟨rfl, set3b S3.out.below (by omega)⟩
theorem LG.ne8 {w : World} {g cap : Nat} {ss : List Value} (h : LG w g cap ss) : ∀ c, w.heap[g]? ≠ some (.cells c 62 (0, 0)) := fun c e => by
  obtain ⟨cur, h1, -⟩ := h
  rw [h1] at e
  simp at e
theorem St.setL {w0 w : World} {l : List (Nat × Array Value × TypeId)} {g cap i : Nat} {v : Value} {ss : List Value} (h : St w0 w l) (hL : LG w g cap ss) (hb : w0.heap.size ≤ g) (hT : ∀ x ∈ l, x.2.2 ≠ 27) : St w0 (w.setCell ⟨g, i, none⟩ v) l := by
  obtain ⟨cur, h1, -⟩ := hL
  refine h.setX hb fun x hx e => ?_
  have := (h.2 x hx).1
  rw [e, h1] at this
  simp only [Option.some.injEq, Obj.cells.injEq] at this
  exact hT x hx this.2.1.symm
theorem LLs.set {w : World} {base N i : Nat} {v u : Value} {Ts : List (List Int)} {c : Array Value} {T : TypeId} (h : LLs w base v Ts) (hN : w.heap[N]? = some (.cells c T (0, 0))) (h1 : T ≠ 27) (h2 : T ≠ 62) : LLs (w.setCell ⟨N, i, none⟩ u) base v Ts := by
  obtain ⟨ss, q1, q2⟩ := h
  refine ⟨ss, ?_, q2.grown (grown_set w N i u) fun b hb c' e => ?_⟩
  · refine World.ownsRow.kept q1 (grown_set w N i u) ?_
    have := own_ne q1 hN h1
    cases e : v.ownBlock with
    | none => exact .inl rfl
    | some b => exact .inr (fun q => this (by rw [e, q]))
  · cases hb
    rw [hN] at e
    simp only [Option.some.injEq, Obj.cells.injEq] at e
    exact h2 e.2.1
theorem St.boxes {w0 w : World} {g : Nat} {cur : Array Value} {t : TypeId} {l : List (Nat × Array Value × TypeId)} (h : St w0 w l) (hg : w.heap[g]? = some (.cells cur t (0, 0))) (hb : w0.heap.size ≤ g) : St w0 w ((g, cur, t) :: l) := h.ad hg hb
set_option maxRecDepth 100000 in
set_option maxHeartbeats 8000000 in
theorem tensors_ok (h w c lo hi ot : Int) (oa : Option Addr) (on oc : Nat) (O : Nat → Nat → Int) (Z B : Nat → List Int) (W : World) (hL : LRow W oa on oc O Z B) (ad : Option Addr) (n cap : Nat) (xs : List Int) (hX : IRow .i8 W ad n cap xs) (Rw : Int) (RL : List (Int × Int × Int)) (hR : gtR O h w c lo hi ot on = (0, 0, RL, Rw)) (hin : inB h w c lo hi xs = true) :
    Calls Try.prog 10 #[.agg #[.int .i64 h, .int .i64 w, .int .i64 c, .int .i64 lo, .int .i64 hi, .slice oa on oc, .int .i64 ot], .slice ad n cap] W fun e w' => (∃ v, e = .returned (.tuple #[v, .agg #[.int .i64 0, .int .i64 0, .int .i64 0]]) ∧ LLs w' W.heap.size v (tnL O Z B RL xs on)) ∧ Below W.heap.size W w' := by
  obtain ⟨hxn, hxr⟩ := inB_yes hin
  have hS : Hid (∀ W, MRow W oa on oc O → _) := fun W hW => shapes_any h w c lo hi ot oa on oc O W hW
  rw [hR] at hS
  simp only at hS
  obtain ⟨-, hRl, ho64, -, -, -⟩ := gtR_ok hR
  have hvs : vS h w c = true := (ouE_0 (gtR_st hR).1).1
  have hI : Hid (∀ W', Below W.heap.size W W' → _) := fun W' hb => isinput_any h w c lo hi ot oa on oc ad n cap xs W' (hX.below hb) hvs
  rw [hin] at hI
  have hM2 : Hid (MRow W oa on oc O) := hL.m
  have s0 := ((St.start W).new (c := #[.int .i64 h, .int .i64 w, .int .i64 c, .int .i64 lo, .int .i64 hi, .slice oa on oc, .int .i64 ot]) (t := 26)).new (c := #[.int .i64 0, .int .i64 0, .int .i64 0]) (t := 51)
  simp only [World.size_alloc] at s0
  have hxl := hX.1
  have p3 := (vS_bd hvs).2
  have hn6 : n ≤ 1000000 := by omega
  have hn1 : 1 ≤ n := by omega
  obtain ⟨xa, rfl⟩ : ∃ xa, ad = some xa := by
    cases ad with
    | none => have := hX.2.2.2.2.1 rfl; have := hX.2.1; omega
    | some xa => exact ⟨xa, rfl⟩
  have HX : Hid (IRow .i8 W (some xa) n cap xs) := hX
  have HL : Hid (LRow W oa on oc O Z B) := hL
  have HR : Hid (gtR O h w c lo hi ot on = (0, 0, RL, Rw)) := hR
  have HF : Hid (∀ i, i ≤ on → _) := tn_facts (Z := Z) (B := B) hR hxn hX.i8
  have hocm := hL.1
  have hocx := hL.2.1
  unfold maxLen at hocx
  clear hL hX hR hvs hxn hxr hxl p3
  go_enter Try.func10, Try.ntmps10
  go_wp2_with fail
  refine Calls.mono (hS.out _ (hM2.out.below s0.below)) ?_
  rintro e w1 ⟨v, rfl, hSh, hb⟩
  obtain ⟨gs, caps, curs, rfl, hgb, hgc, hCu, hcaps⟩ : ∃ g cap cur, v = .slice (some ⟨g, 0, none⟩) (on + 1) cap ∧ W.heap.size ≤ g ∧ w1.heap[g]? = some (.cells cur 23 (0, 0)) ∧ Cu cur cap RL ∧ cap ≤ 1000 := by
    rcases hSh with ⟨-, q⟩ | ⟨g, cap, cur, q1, q2, q3, q4, q5⟩
    · rw [q] at hRl; simp at hRl
    · exact ⟨g, cap, cur, by rw [q1, hRl], by simp at q2; omega, q3, q4, q5⟩
  have hcap2 := hCu.2.1
  rw [hRl] at hcap2
  have s1 := ((s0.call hb).ad hgc hgb).new (c := #[.int .i64 0, .int .i64 0, .int .i64 0]) (t := 51)
  obtain ⟨c1, f1, z1, c2, f2, z2, -⟩ := (s0.call hb).rules
  have HCu : Hid (Cu curs caps RL) := hCu
  clear hb hSh hS hM2 s0 hgc hCu
  go_upto_region 2 with fail
  obtain ⟨w2, hw2⟩ : ∃ w2, w1.alloc (.cells #[.int .i64 0, .int .i64 0, .int .i64 0] 51) = w2 := ⟨_, rfl⟩
  rw [hw2] at s1 ⊢
  clear hw2 c1 f1 z1 c2 f2 z2
  obtain ⟨bf, hbf⟩ : ∃ bf, w1.heap.size = bf := ⟨_, rfl⟩
  rw [hbf] at s1 ⊢
  clear hbf
  have S1 : Hid (St W w2 ((bf, #[.int .i64 0, .int .i64 0, .int .i64 0], 51) :: (gs, curs, 23) :: (W.heap.size + 1, #[.int .i64 0, .int .i64 0, .int .i64 0], 51) :: (W.heap.size, #[.int .i64 h, .int .i64 w, .int .i64 c, .int .i64 lo, .int .i64 hi, .slice oa on oc, .int .i64 ot], 26) :: [])) := s1
  obtain ⟨c1, f1, z1, -, -, z2, c3, f3, z3, c4, f4, z4, -⟩ := s1.rules
  clear s1
  go_wp2_with fail
  refine (hI.out _ S1.out.below).mono ?_
  rintro e w3 ⟨rfl, hb3⟩
  have S3 : Hid (St W w3 ((bf, #[.int .i64 0, .int .i64 0, .int .i64 0], 51) :: (gs, curs, 23) :: (W.heap.size + 1, #[.int .i64 0, .int .i64 0, .int .i64 0], 51) :: (W.heap.size, #[.int .i64 h, .int .i64 w, .int .i64 c, .int .i64 lo, .int .i64 hi, .slice oa on oc, .int .i64 ot], 26) :: [])) := S1.out.call hb3
  clear c1 f1 z1 z2 c3 f3 z3 c4 f4 z4 hb3 S1 hI
  obtain ⟨-, -, -, -, -, -, -, -, -, c4, f4, z4, -⟩ := S3.out.rules
  go_upto_region 7 with (at_make; refine wpList_mkR rfl _ _ rfl (on + 1) _ rfl rfl (by omega) (by omega) ?_; intro w4 hLG hb4; have S4 : Hid (St W w4 ((bf, #[.int .i64 0, .int .i64 0, .int .i64 0], 51) :: (gs, curs, 23) :: (W.heap.size + 1, #[.int .i64 0, .int .i64 0, .int .i64 0], 51) :: (W.heap.size, #[.int .i64 h, .int .i64 w, .int .i64 c, .int .i64 lo, .int .i64 hi, .slice oa on oc, .int .i64 ot], 26) :: [])) := S3.out.call hb4; have HLG4 : Hid (LG w4 w3.heap.size (on + 1) []) := hLG; clear hLG hb4 c4 f4 z4)
  obtain ⟨g, hg⟩ : ∃ g, w3.heap.size = g := ⟨_, rfl⟩
  have hgW : Hid (W.heap.size ≤ g) := by unfold Hid; rw [← hg]; exact S3.out.size
  rw [hg] at HLG4 ⊢
  clear hg S3
  go_wp2_with fail
  refine (clone8_any xa n cap xs w4 (HX.out.below S4.out.below) hn6).mono ?_
  rintro e w5 ⟨⟨sv, rfl, hO5⟩, hb5⟩
  obtain ⟨va5, vc5, rfl, -, -⟩ := hO5.row
  have hE5 : Hid (Ells w5 W.heap.size [.slice va5 xs.length vc5] (tnL O Z B RL xs 0)) := (Ells.nil w4 W.heap.size).add hb5 hO5 S4.out.size
  have S5 : Hid (St W w5 ((bf, #[.int .i64 0, .int .i64 0, .int .i64 0], 51) :: (gs, curs, 23) :: (W.heap.size + 1, #[.int .i64 0, .int .i64 0, .int .i64 0], 51) :: (W.heap.size, #[.int .i64 h, .int .i64 w, .int .i64 c, .int .i64 lo, .int .i64 hi, .slice oa on oc, .int .i64 ot], 26) :: [])) := S4.out.call hb5
  have HLG5 : Hid (LG w5 g (on + 1) []) := HLG4.out.below hb5
  clear hO5 hb5 S4 HLG4
  go_upto_region 8 with (at_builtin; refine wpList_apR rfl (.tmp 31) (.tmp 34) rfl g (on + 1) [] 0 rfl rfl w5.heap.size (.slice va5 xs.length vc5) rfl (heap_alloc_new w5 _) rfl (HLG5.out.below (bal _ _)) (by omega) ?_; have S6 : Hid (St W _ ((bf, #[.int .i64 0, .int .i64 0, .int .i64 0], 51) :: (gs, curs, 23) :: (W.heap.size + 1, #[.int .i64 0, .int .i64 0, .int .i64 0], 51) :: (W.heap.size, #[.int .i64 h, .int .i64 w, .int .i64 c, .int .i64 lo, .int .i64 hi, .slice oa on oc, .int .i64 ot], 26) :: [])) := (S5.out.skip (.cells #[.slice va5 xs.length vc5] 27)).setL (i := 0) (v := .slice va5 xs.length vc5) (HLG5.out.below (bal _ _)) hgW.out (by simp); have HLG6 : Hid (LG _ g (on + 1) [.slice va5 xs.length vc5]) := (HLG5.out.below (bal w5 (.cells #[.slice va5 xs.length vc5] 27))).add (by simp) (.slice va5 xs.length vc5); have hE6 : Hid (Ells _ W.heap.size [.slice va5 xs.length vc5] (tnL O Z B RL xs 0)) := (hE5.out.below (bal w5 (.cells #[.slice va5 xs.length vc5] 27))).grown (grown_set _ g 0 (.slice va5 xs.length vc5)) (fun b hb => by cases hb; exact (HLG5.out.below (bal w5 (.cells #[.slice va5 xs.length vc5] 27))).ne8))
  have HLG6' : Hid (LG ((w5.alloc (.cells #[.slice va5 xs.length vc5] 27)).setCell ⟨g, 0, none⟩ (.slice va5 xs.length vc5)) g (on + 1) [.slice va5 xs.length vc5]) := HLG6.out
  obtain ⟨w6, hw6⟩ : ∃ w6, (w5.alloc (.cells #[.slice va5 xs.length vc5] 27)).setCell ⟨g, 0, none⟩ (.slice va5 xs.length vc5) = w6 := ⟨_, rfl⟩
  rw [hw6] at S6 HLG6' hE6 ⊢
  clear hw6 HLG6 HLG5 hE5 S5
  obtain ⟨-, -, -, -, -, -, -, -, -, c4, f4, z4, -⟩ := S6.out.rules
  go_wp2
  go_loopw [8, 39] (fun v i wr => ∃ (y : Nat) (ss : List Value), y ≤ on ∧ i = .int .i64 y ∧ v = .slice (some ⟨g, 0, none⟩) (y + 1) (on + 1) ∧ ss.length = y + 1 ∧ LG wr g (on + 1) ss ∧ Ells wr W.heap.size ss (tnL O Z B RL xs y) ∧ St W wr ((bf, #[.int .i64 0, .int .i64 0, .int .i64 0], 51) :: (gs, curs, 23) :: (W.heap.size + 1, #[.int .i64 0, .int .i64 0, .int .i64 0], 51) :: (W.heap.size, #[.int .i64 h, .int .i64 w, .int .i64 c, .int .i64 lo, .int .i64 hi, .slice oa on oc, .int .i64 ot], 26) :: [])) (fun _ i _ => on - (intOf i).toNat)
  case atStart => exact ⟨0, _, Nat.zero_le _, rfl, rfl, rfl, HLG6'.out, hE6.out, S6.out⟩
  case round =>
    obtain ⟨y, ss, hy, rfl, rfl, hsl, hLG, hEl, sr⟩ := hrel
    clear S6 HLG6' hE6 c4 f4 z4
    have HSL : Hid (ss.length = y + 1) := hsl
    have HLG : Hid (LG wr g (on + 1) ss) := hLG
    have HEl : Hid (Ells wr W.heap.size ss (tnL O Z B RL xs y)) := hEl
    have SR : Hid (St W wr ((bf, #[.int .i64 0, .int .i64 0, .int .i64 0], 51) :: (gs, curs, 23) :: (W.heap.size + 1, #[.int .i64 0, .int .i64 0, .int .i64 0], 51) :: (W.heap.size, #[.int .i64 h, .int .i64 w, .int .i64 c, .int .i64 lo, .int .i64 hi, .slice oa on oc, .int .i64 ot], 26) :: [])) := sr
    clear hsl hLG hEl sr
    by_cases hlt : y < on
    · obtain ⟨x, rfl, hop⟩ := (HL.out.below SR.out.below).at hlt
      obtain ⟨wa, lw, cw, ba, lb, cb, e12, e13, hcell, hz, hb, hlw, hlb⟩ := hop
      obtain ⟨ja, jb, e1, hja, e3, hjb, hO⟩ := opd_of HR.out hlt
      obtain ⟨x0, y0, z0, hA⟩ : ∃ x0 y0 z0, RL.getD ja (0, 0, 0) = (x0, y0, z0) := ⟨_, _, _, rfl⟩
      obtain ⟨H, V, C, hB⟩ : ∃ H V C, RL.getD (y + 1) (0, 0, 0) = (H, V, C) := ⟨_, _, _, rfl⟩
      obtain ⟨hOpd, hb6⟩ := hO _ _ _ _ _ _ hA hB
      rw [e12, e13, Int.toNat_natCast, Int.toNat_natCast] at hOpd
      obtain ⟨a1, a2, a3⟩ := HCu.out.at (show ja < RL.length by omega)
      obtain ⟨b1, b2, b3⟩ := HCu.out.at (show y + 1 < RL.length by omega)
      rw [hA] at a1 a2 a3
      rw [hB] at b1 b2 b3
      simp only at a1 a2 a3 b1 b2 b3
      have hfa := HF.out ja (by omega)
      have hfb := HF.out jb (by omega)
      rw [hA] at hfa
      have hsucc := tnA_succ (Z := Z) (B := B) (L := RL) (x := xs) e1 e3 hja hjb
      rw [hA, hB] at hsucc
      have HTn : Hid (tnL O Z B RL xs (y + 1) = tnL O Z B RL xs y ++ [opT (O y) (Z y) (B y) (x0, y0, z0) (H, V, C) (tnA O Z B RL xs ja) (tnA O Z B RL xs jb)]) := by
        unfold Hid; rw [tnL_succ, hsucc]
      have hoa := HEl.out.2.1 ja (by rw [HSL.out]; omega)
      have hob := HEl.out.2.1 jb (by rw [HSL.out]; omega)
      rw [tnL_get _ _ _ _ _ hja] at hoa
      rw [tnL_get _ _ _ _ _ hjb] at hob
      obtain ⟨aa, ca, eA, hra, -⟩ := hoa.row
      obtain ⟨ab, cb', eB, hrb, -⟩ := hob.row
      have hcA := HLG.out.at (show ja < ss.length by rw [HSL.out]; omega)
      have hcB := HLG.out.at (show jb < ss.length by rw [HSL.out]; omega)
      rw [eA] at hcA
      rw [eB] at hcB
      obtain ⟨na, hna⟩ : ∃ na, (tnA O Z B RL xs ja).length = na := ⟨_, rfl⟩
      obtain ⟨nb, hnb⟩ : ∃ nb, (tnA O Z B RL xs jb).length = nb := ⟨_, rfl⟩
      rw [hna] at hcA hra hfa
      rw [hnb] at hcB hrb hfb
      have hnab : O y 0 = 6 → nb = na := fun q => by
        have h6 := hb6 q
        have h7 := hfb.1
        rw [h6] at h7
        have h8 := hfa.1
        simp only at h7 h8
        omega
      have HT : Hid (∀ (w' : World) (r : Nat), w'.heap[r]? = some (.cells #[.int .i64 (O y 0), .int .i64 (O y 1), .int .i64 (O y 2), .int .i64 (O y 3), .int .i64 (O y 4), .int .i64 (O y 5), .int .i64 (O y 6), .int .i64 (O y 7), .int .i64 (O y 8), .int .i64 (O y 9), .int .i64 (O y 10), .int .i64 (O y 11), .slice wa lw cw, .slice ba lb cb, .int .i64 (O y 14), .int .i64 (O y 15), .int .i64 (O y 16), .int .i64 (O y 17), .int .i64 (O y 18), .int .i64 (O y 19), .int .i64 (O y 20), .int .i64 (O y 21), .int .i64 x0, .int .i64 y0, .int .i64 z0, .int .i64 H, .int .i64 V, .int .i64 C] 76 (0, 0)) → Below wr.heap.size wr w' → _) := fun w' r hr hbw => tensor_any (O y 0) (O y 1) (O y 2) (O y 3) (O y 4) (O y 5) (O y 6) (O y 7) (O y 8) (O y 9) (O y 10) (O y 11) wa lw cw ba lb cb (O y 14) (O y 15) (O y 16) (O y 17) (O y 18) (O y 19) (O y 20) (O y 21) x0 y0 z0 H V C r w' hr hOpd (Z y) (B y) (hz.below hbw) (hb.below hbw) hlw hlb aa na ca (tnA O Z B RL xs ja) (hra.below hbw) hfa.1 ab nb cb' (tnA O Z B RL xs jb) (hrb.below hbw) hnab
      have hopl : Hid (∀ q v, [.int .i64 (O y 0), .int .i64 (O y 1), .int .i64 (O y 2), .int .i64 (O y 3), .int .i64 (O y 4), .int .i64 (O y 5), .int .i64 (O y 6), .int .i64 (O y 7), .int .i64 (O y 8), .int .i64 (O y 9), .int .i64 (O y 10), .int .i64 (O y 11), .slice wa lw cw, .slice ba lb cb, .int .i64 (O y 14), .int .i64 (O y 15), .int .i64 (O y 16), .int .i64 (O y 17), .int .i64 (O y 18), .int .i64 (O y 19), .int .i64 (O y 20), .int .i64 (O y 21)][q]? = some v → wr.cell? ((x.add (y * 22)).add q) = some v) := hcell
      have HD1 : Hid (O y 1 = (ja : Int)) := e1
      have HD2 : Hid (O y 2 = (jb : Int)) := e3
      have hcA' : Hid (wr.cell? ⟨g, ja, none⟩ = some (.slice aa na ca)) := hcA
      have hcB' : Hid (wr.cell? ⟨g, jb, none⟩ = some (.slice ab nb cb')) := hcB
      have s7 := SR.out.new (c := #[.int .i64 (O y 0), .int .i64 (O y 1), .int .i64 (O y 2), .int .i64 (O y 3), .int .i64 (O y 4), .int .i64 (O y 5), .int .i64 (O y 6), .int .i64 (O y 7), .int .i64 (O y 8), .int .i64 (O y 9), .int .i64 (O y 10), .int .i64 (O y 11), .slice wa lw cw, .slice ba lb cb, .int .i64 (O y 14), .int .i64 (O y 15), .int .i64 (O y 16), .int .i64 (O y 17), .int .i64 (O y 18), .int .i64 (O y 19), .int .i64 (O y 20), .int .i64 (O y 21)]) (t := 39)
      have HA3 : Hid (curs[ja * 3]? = some (.int .i64 x0) ∧ curs[ja * 3 + 1]? = some (.int .i64 y0) ∧ curs[ja * 3 + 2]? = some (.int .i64 z0)) := ⟨a1, a2, a3⟩
      have HB3 : Hid (curs[(y + 1) * 3]? = some (.int .i64 H) ∧ curs[(y + 1) * 3 + 1]? = some (.int .i64 V) ∧ curs[(y + 1) * 3 + 2]? = some (.int .i64 C)) := ⟨b1, b2, b3⟩
      clear hcell hz hb e1 e3 hO hOpd hb6 a1 a2 a3 b1 b2 b3 hfa hfb hsucc hoa hob hra hrb eA eB hcA hcB hA hB hnab e12 e13 hlw hlb HF
      obtain ⟨vo, hvo⟩ : ∃ vo, Value.agg #[.int .i64 (O y 0), .int .i64 (O y 1), .int .i64 (O y 2), .int .i64 (O y 3), .int .i64 (O y 4), .int .i64 (O y 5), .int .i64 (O y 6), .int .i64 (O y 7), .int .i64 (O y 8), .int .i64 (O y 9), .int .i64 (O y 10), .int .i64 (O y 11), .slice wa lw cw, .slice ba lb cb, .int .i64 (O y 14), .int .i64 (O y 15), .int .i64 (O y 16), .int .i64 (O y 17), .int .i64 (O y 18), .int .i64 (O y 19), .int .i64 (O y 20), .int .i64 (O y 21)] = vo := ⟨_, rfl⟩
      have HVO : Hid (Value.agg #[.int .i64 (O y 0), .int .i64 (O y 1), .int .i64 (O y 2), .int .i64 (O y 3), .int .i64 (O y 4), .int .i64 (O y 5), .int .i64 (O y 6), .int .i64 (O y 7), .int .i64 (O y 8), .int .i64 (O y 9), .int .i64 (O y 10), .int .i64 (O y 11), .slice wa lw cw, .slice ba lb cb, .int .i64 (O y 14), .int .i64 (O y 15), .int .i64 (O y 16), .int .i64 (O y 17), .int .i64 (O y 18), .int .i64 (O y 19), .int .i64 (O y 20), .int .i64 (O y 21)] = vo) := hvo
      go_upto_region 11 with ((refine wpList_load_any rfl 39 (.tmp 42) rfl _ rfl [.int .i64 (O y 0), .int .i64 (O y 1), .int .i64 (O y 2), .int .i64 (O y 3), .int .i64 (O y 4), .int .i64 (O y 5), .int .i64 (O y 6), .int .i64 (O y 7), .int .i64 (O y 8), .int .i64 (O y 9), .int .i64 (O y 10), .int .i64 (O y 11), .slice wa lw cw, .slice ba lb cb, .int .i64 (O y 14), .int .i64 (O y 15), .int .i64 (O y 16), .int .i64 (O y 17), .int .i64 (O y 18), .int .i64 (O y 19), .int .i64 (O y 20), .int .i64 (O y 21)] _ hopl.out Try.underlying39 rfl (by kernel_rfl) ?_; (show wpList _ _ _ _ (Act.put _ _ (Value.agg #[.int .i64 (O y 0), .int .i64 (O y 1), .int .i64 (O y 2), .int .i64 (O y 3), .int .i64 (O y 4), .int .i64 (O y 5), .int .i64 (O y 6), .int .i64 (O y 7), .int .i64 (O y 8), .int .i64 (O y 9), .int .i64 (O y 10), .int .i64 (O y 11), .slice wa lw cw, .slice ba lb cb, .int .i64 (O y 14), .int .i64 (O y 15), .int .i64 (O y 16), .int .i64 (O y 17), .int .i64 (O y 18), .int .i64 (O y 19), .int .i64 (O y 20), .int .i64 (O y 21)])) _); rw [hvo]; clear hvo; refine wpList_run1 rfl (some 10) rfl (.pointer (some ⟨wr.heap.size, 0, none⟩)) (wr.alloc (.cells #[.int .i64 0, .int .i64 0, .int .i64 0, .int .i64 0, .int .i64 0, .int .i64 0, .int .i64 0, .int .i64 0, .int .i64 0, .int .i64 0, .int .i64 0, .int .i64 0, .slice none 0 0, .slice none 0 0, .int .i64 0, .int .i64 0, .int .i64 0, .int .i64 0, .int .i64 0, .int .i64 0, .int .i64 0, .int .i64 0] 39)) (by kernel_rfl) ?_; refine wpList_run1 rfl (some 9) rfl (.int .i64 (y : Int)) (wr.alloc (.cells #[.int .i64 0, .int .i64 0, .int .i64 0, .int .i64 0, .int .i64 0, .int .i64 0, .int .i64 0, .int .i64 0, .int .i64 0, .int .i64 0, .int .i64 0, .int .i64 0, .slice none 0 0, .slice none 0 0, .int .i64 0, .int .i64 0, .int .i64 0, .int .i64 0, .int .i64 0, .int .i64 0, .int .i64 0, .int .i64 0] 39)) (by kernel_rfl) ?_; refine wpList_st_new rfl 39 (.tmp 10) (.tmp 43) rfl wr #[.int .i64 0, .int .i64 0, .int .i64 0, .int .i64 0, .int .i64 0, .int .i64 0, .int .i64 0, .int .i64 0, .int .i64 0, .int .i64 0, .int .i64 0, .int .i64 0, .slice none 0 0, .slice none 0 0, .int .i64 0, .int .i64 0, .int .i64 0, .int .i64 0, .int .i64 0, .int .i64 0, .int .i64 0, .int .i64 0] #[.int .i64 (O y 0), .int .i64 (O y 1), .int .i64 (O y 2), .int .i64 (O y 3), .int .i64 (O y 4), .int .i64 (O y 5), .int .i64 (O y 6), .int .i64 (O y 7), .int .i64 (O y 8), .int .i64 (O y 9), .int .i64 (O y 10), .int .i64 (O y 11), .slice wa lw cw, .slice ba lb cb, .int .i64 (O y 14), .int .i64 (O y 15), .int .i64 (O y 16), .int .i64 (O y 17), .int .i64 (O y 18), .int .i64 (O y 19), .int .i64 (O y 20), .int .i64 (O y 21)] (by kernel_rfl) (Eq.trans (by kernel_rfl : _ = vo) HVO.out.symm) (by kernel_rfl) rfl (by simp [Value.oneCell']) ?_))
      obtain ⟨w7, hw7⟩ : ∃ w7, wr.alloc (.cells #[.int .i64 (O y 0), .int .i64 (O y 1), .int .i64 (O y 2), .int .i64 (O y 3), .int .i64 (O y 4), .int .i64 (O y 5), .int .i64 (O y 6), .int .i64 (O y 7), .int .i64 (O y 8), .int .i64 (O y 9), .int .i64 (O y 10), .int .i64 (O y 11), .slice wa lw cw, .slice ba lb cb, .int .i64 (O y 14), .int .i64 (O y 15), .int .i64 (O y 16), .int .i64 (O y 17), .int .i64 (O y 18), .int .i64 (O y 19), .int .i64 (O y 20), .int .i64 (O y 21)] 39) = w7 := ⟨_, rfl⟩
      have HB7 : Hid (Below wr.heap.size wr w7) := by unfold Hid; rw [← hw7]; exact bal _ _
      rw [hw7] at s7 ⊢
      obtain ⟨ob, hob⟩ : ∃ ob, wr.heap.size = ob := ⟨_, rfl⟩
      rw [hob] at s7 ⊢
      have S7 : Hid (St W w7 _) := s7
      have hG1 := s7.h1
      have hobg : Hid (ob ≠ g) := fun e => by
        obtain ⟨cur, q, -⟩ := HLG.out.below HB7.out
        rw [← e, hG1] at q
        simp at q
      have hG3 := s7.h3
      clear hw7 hob s7
      refine regionC (fun w' => Below w7.heap.size w7 w') (by kernel_rfl) ?_
      obtain ⟨wd, hwd⟩ : ∃ wd, w7.drew = wd := ⟨_, rfl⟩
      have HD : Hid (Below w7.heap.size w7 wd) := by unfold Hid; rw [← hwd]; exact (Below.refl _ _).drew
      rw [hwd]
      clear hwd
      have HC0 : Hid (∀ w', Below w7.heap.size w7 w' → ∀ q v, [.int .i64 (O y 0), .int .i64 (O y 1), .int .i64 (O y 2), .int .i64 (O y 3), .int .i64 (O y 4), .int .i64 (O y 5), .int .i64 (O y 6), .int .i64 (O y 7), .int .i64 (O y 8), .int .i64 (O y 9), .int .i64 (O y 10), .int .i64 (O y 11), .slice wa lw cw, .slice ba lb cb, .int .i64 (O y 14), .int .i64 (O y 15), .int .i64 (O y 16), .int .i64 (O y 17), .int .i64 (O y 18), .int .i64 (O y 19), .int .i64 (O y 20), .int .i64 (O y 21)][q]? = some v → w'.cell? ((⟨ob, 0, none⟩ : Addr).add q) = some v) := fun w' hw' => lcells ((hw'.block _ (lt_of_heap hG1)).trans hG1) (fget [.int .i64 (O y 0), .int .i64 (O y 1), .int .i64 (O y 2), .int .i64 (O y 3), .int .i64 (O y 4), .int .i64 (O y 5), .int .i64 (O y 6), .int .i64 (O y 7), .int .i64 (O y 8), .int .i64 (O y 9), .int .i64 (O y 10), .int .i64 (O y 11), .slice wa lw cw, .slice ba lb cb, .int .i64 (O y 14), .int .i64 (O y 15), .int .i64 (O y 16), .int .i64 (O y 17), .int .i64 (O y 18), .int .i64 (O y 19), .int .i64 (O y 20), .int .i64 (O y 21)] [])
      have HC1 : Hid (∀ w', Below w7.heap.size w7 w' → w'.cell? ⟨ob, 1, none⟩ = some (.int .i64 (ja : Int))) := fun w' hw' => by rw [← HD1.out]; exact ((cells_at ((hw'.block _ (lt_of_heap hG1)).trans hG1)).1 1).trans rfl
      have HC2 : Hid (∀ w', Below w7.heap.size w7 w' → ∀ q v, [.int .i64 x0, .int .i64 y0, .int .i64 z0][q]? = some v → w'.cell? ((⟨gs, ja * 3, none⟩ : Addr).add q) = some v) := fun w' hw' => three_at ((hw'.block _ (lt_of_heap hG3)).trans hG3) HA3.out.1 HA3.out.2.1 HA3.out.2.2
      have HC3 : Hid (∀ w', Below w7.heap.size w7 w' → ∀ q v, [.int .i64 H, .int .i64 V, .int .i64 C][q]? = some v → w'.cell? ((⟨gs, (y + 1) * 3, none⟩ : Addr).add q) = some v) := fun w' hw' => three_at ((hw'.block _ (lt_of_heap hG3)).trans hG3) HB3.out.1 HB3.out.2.1 HB3.out.2.2
      have HC4 : Hid (∀ w', Below w7.heap.size w7 w' → w'.cell? ⟨ob, 2, none⟩ = some (.int .i64 (jb : Int))) := fun w' hw' => by rw [← HD2.out]; exact ((cells_at ((hw'.block _ (lt_of_heap hG1)).trans hG1)).1 2).trans rfl
      clear hG1 hG3 HA3 HB3 HVO hopl
      refine takeC 0 (v := .agg #[.int .i64 (O y 0), .int .i64 (O y 1), .int .i64 (O y 2), .int .i64 (O y 3), .int .i64 (O y 4), .int .i64 (O y 5), .int .i64 (O y 6), .int .i64 (O y 7), .int .i64 (O y 8), .int .i64 (O y 9), .int .i64 (O y 10), .int .i64 (O y 11), .slice wa lw cw, .slice ba lb cb, .int .i64 (O y 14), .int .i64 (O y 15), .int .i64 (O y 16), .int .i64 (O y 17), .int .i64 (O y 18), .int .i64 (O y 19), .int .i64 (O y 20), .int .i64 (O y 21)]) rfl rfl (by kernel_rfl) (by kernel_rfl) (by kernel_rfl) (fun _ _ _ h => h) (fun _ => rfl) rfl (fun w' hw' => run_la 39 (.tmp 10) rfl ⟨ob, 0, none⟩ (by kernel_rfl) [.int .i64 (O y 0), .int .i64 (O y 1), .int .i64 (O y 2), .int .i64 (O y 3), .int .i64 (O y 4), .int .i64 (O y 5), .int .i64 (O y 6), .int .i64 (O y 7), .int .i64 (O y 8), .int .i64 (O y 9), .int .i64 (O y 10), .int .i64 (O y 11), .slice wa lw cw, .slice ba lb cb, .int .i64 (O y 14), .int .i64 (O y 15), .int .i64 (O y 16), .int .i64 (O y 17), .int .i64 (O y 18), .int .i64 (O y 19), .int .i64 (O y 20), .int .i64 (O y 21)] _ (HC0.out w' hw') Try.underlying39 rfl (by kernel_rfl)) ?_
      refine takeC 1 (v := .slice (some ⟨gs, 0, none⟩) (on + 1) caps) rfl rfl (by kernel_rfl) (by kernel_rfl) (by kernel_rfl) (fun _ _ _ h => h) (fun _ => rfl) rfl (fun w' hw' => by go_simp) ?_
      refine takeC 2 (v := .pointer (some ⟨ob, 1, none⟩)) rfl rfl (by kernel_rfl) (by kernel_rfl) (by kernel_rfl) (fun _ _ _ h => h) (fun _ => rfl) rfl (fun w' hw' => by go_simp) ?_
      refine takeC 3 (v := .int .i64 (ja : Int)) rfl rfl (by kernel_rfl) (by kernel_rfl) (by kernel_rfl) (fun _ _ _ h => h) (fun _ => rfl) rfl (fun w' hw' => by have hc := HC1.out w' hw'; go_simp) ?_
      refine takeC 4 (v := .pointer (some ⟨gs, ja * 3, none⟩)) rfl rfl (by kernel_rfl) (by kernel_rfl) (by kernel_rfl) (fun _ _ _ h => h) (fun _ => rfl) rfl (fun w' hw' => by go_simp; try (intro q; omega)) ?_
      refine takeC 5 (v := .agg #[.int .i64 x0, .int .i64 y0, .int .i64 z0]) rfl rfl (by kernel_rfl) (by kernel_rfl) (by kernel_rfl) (fun _ _ _ h => h) (fun _ => rfl) rfl (fun w' hw' => run_la 23 (.tmp 48) rfl ⟨gs, ja * 3, none⟩ (by kernel_rfl) [.int .i64 x0, .int .i64 y0, .int .i64 z0] _ (HC2.out w' hw') Try.underlying23 rfl (by kernel_rfl)) ?_
      refine takeC 6 (v := .slice (some ⟨gs, 0, none⟩) (on + 1) caps) rfl rfl (by kernel_rfl) (by kernel_rfl) (by kernel_rfl) (fun _ _ _ h => h) (fun _ => rfl) rfl (fun w' hw' => by go_simp) ?_
      refine takeC 7 (v := .int .i64 (y : Int)) rfl rfl (by kernel_rfl) (by kernel_rfl) (by kernel_rfl) (fun _ _ _ h => h) (fun _ => rfl) rfl (fun w' hw' => by go_simp) ?_
      refine takeC 8 (v := .int .i64 ((y : Int) + 1)) rfl rfl (by kernel_rfl) (by kernel_rfl) (by kernel_rfl) (fun _ _ _ h => h) (fun _ => rfl) rfl (fun w' hw' => by go_simp; rw [IntKind.wrap_i64]; omega) ?_
      refine takeC 9 (v := .pointer (some ⟨gs, (y + 1) * 3, none⟩)) rfl rfl (by kernel_rfl) (by kernel_rfl) (by kernel_rfl) (fun _ _ _ h => h) (fun _ => rfl) rfl (fun w' hw' => by go_simp; try (intro q; omega)) ?_
      refine takeC 10 (v := .agg #[.int .i64 H, .int .i64 V, .int .i64 C]) rfl rfl (by kernel_rfl) (by kernel_rfl) (by kernel_rfl) (fun _ _ _ h => h) (fun _ => rfl) rfl (fun w' hw' => run_la 23 (.tmp 53) rfl ⟨gs, (y + 1) * 3, none⟩ (by kernel_rfl) [.int .i64 H, .int .i64 V, .int .i64 C] _ (HC3.out w' hw') Try.underlying23 rfl (by kernel_rfl)) ?_
      refine takeC 11 (v := .agg #[.int .i64 (O y 0), .int .i64 (O y 1), .int .i64 (O y 2), .int .i64 (O y 3), .int .i64 (O y 4), .int .i64 (O y 5), .int .i64 (O y 6), .int .i64 (O y 7), .int .i64 (O y 8), .int .i64 (O y 9), .int .i64 (O y 10), .int .i64 (O y 11), .slice wa lw cw, .slice ba lb cb, .int .i64 (O y 14), .int .i64 (O y 15), .int .i64 (O y 16), .int .i64 (O y 17), .int .i64 (O y 18), .int .i64 (O y 19), .int .i64 (O y 20), .int .i64 (O y 21), .int .i64 x0, .int .i64 y0, .int .i64 z0, .int .i64 H, .int .i64 V, .int .i64 C]) rfl rfl (by kernel_rfl) (by kernel_rfl) (by kernel_rfl) (fun _ _ _ h => h) (fun _ => rfl) rfl (fun w' hw' => by kernel_rfl) ?_
      refine stepR 12 HD.out (by kernel_rfl) rfl rfl (.pointer (some ⟨wd.heap.size, 0, none⟩)) (wd.alloc (.cells #[.int .i64 0, .int .i64 0, .int .i64 0, .int .i64 0, .int .i64 0, .int .i64 0, .int .i64 0, .int .i64 0, .int .i64 0, .int .i64 0, .int .i64 0, .int .i64 0, .slice none 0 0, .slice none 0 0, .int .i64 0, .int .i64 0, .int .i64 0, .int .i64 0, .int .i64 0, .int .i64 0, .int .i64 0, .int .i64 0, .int .i64 0, .int .i64 0, .int .i64 0, .int .i64 0, .int .i64 0, .int .i64 0] 76)) (by kernel_rfl) ?_
      refine stepS 13 (HD.out.alloc HD.out.size _) (by kernel_rfl) rfl rfl 76 (.tmp 11) (.tmp 55) rfl wd.heap.size #[.int .i64 (O y 0), .int .i64 (O y 1), .int .i64 (O y 2), .int .i64 (O y 3), .int .i64 (O y 4), .int .i64 (O y 5), .int .i64 (O y 6), .int .i64 (O y 7), .int .i64 (O y 8), .int .i64 (O y 9), .int .i64 (O y 10), .int .i64 (O y 11), .slice wa lw cw, .slice ba lb cb, .int .i64 (O y 14), .int .i64 (O y 15), .int .i64 (O y 16), .int .i64 (O y 17), .int .i64 (O y 18), .int .i64 (O y 19), .int .i64 (O y 20), .int .i64 (O y 21), .int .i64 x0, .int .i64 y0, .int .i64 z0, .int .i64 H, .int .i64 V, .int .i64 C] (by kernel_rfl) (by kernel_rfl) 76 #[.int .i64 0, .int .i64 0, .int .i64 0, .int .i64 0, .int .i64 0, .int .i64 0, .int .i64 0, .int .i64 0, .int .i64 0, .int .i64 0, .int .i64 0, .int .i64 0, .slice none 0 0, .slice none 0 0, .int .i64 0, .int .i64 0, .int .i64 0, .int .i64 0, .int .i64 0, .int .i64 0, .int .i64 0, .int .i64 0, .int .i64 0, .int .i64 0, .int .i64 0, .int .i64 0, .int .i64 0, .int .i64 0] (heap_alloc_new wd _) (by kernel_rfl) rfl (by simp [Value.oneCell']) ?_
      rw [World.setRow_alloc_new]
      have HD8 : Hid (Below w7.heap.size w7 (wd.alloc (.cells #[.int .i64 (O y 0), .int .i64 (O y 1), .int .i64 (O y 2), .int .i64 (O y 3), .int .i64 (O y 4), .int .i64 (O y 5), .int .i64 (O y 6), .int .i64 (O y 7), .int .i64 (O y 8), .int .i64 (O y 9), .int .i64 (O y 10), .int .i64 (O y 11), .slice wa lw cw, .slice ba lb cb, .int .i64 (O y 14), .int .i64 (O y 15), .int .i64 (O y 16), .int .i64 (O y 17), .int .i64 (O y 18), .int .i64 (O y 19), .int .i64 (O y 20), .int .i64 (O y 21), .int .i64 x0, .int .i64 y0, .int .i64 z0, .int .i64 H, .int .i64 V, .int .i64 C] 76))) := HD.out.alloc HD.out.size _
      have hst8 := heap_alloc_new wd (.cells #[.int .i64 (O y 0), .int .i64 (O y 1), .int .i64 (O y 2), .int .i64 (O y 3), .int .i64 (O y 4), .int .i64 (O y 5), .int .i64 (O y 6), .int .i64 (O y 7), .int .i64 (O y 8), .int .i64 (O y 9), .int .i64 (O y 10), .int .i64 (O y 11), .slice wa lw cw, .slice ba lb cb, .int .i64 (O y 14), .int .i64 (O y 15), .int .i64 (O y 16), .int .i64 (O y 17), .int .i64 (O y 18), .int .i64 (O y 19), .int .i64 (O y 20), .int .i64 (O y 21), .int .i64 x0, .int .i64 y0, .int .i64 z0, .int .i64 H, .int .i64 V, .int .i64 C] 76)
      obtain ⟨w8, hw8⟩ : ∃ w8, wd.alloc (.cells #[.int .i64 (O y 0), .int .i64 (O y 1), .int .i64 (O y 2), .int .i64 (O y 3), .int .i64 (O y 4), .int .i64 (O y 5), .int .i64 (O y 6), .int .i64 (O y 7), .int .i64 (O y 8), .int .i64 (O y 9), .int .i64 (O y 10), .int .i64 (O y 11), .slice wa lw cw, .slice ba lb cb, .int .i64 (O y 14), .int .i64 (O y 15), .int .i64 (O y 16), .int .i64 (O y 17), .int .i64 (O y 18), .int .i64 (O y 19), .int .i64 (O y 20), .int .i64 (O y 21), .int .i64 x0, .int .i64 y0, .int .i64 z0, .int .i64 H, .int .i64 V, .int .i64 C] 76) = w8 := ⟨_, rfl⟩
      rw [hw8] at HD8 hst8 ⊢
      obtain ⟨sb, hsb⟩ : ∃ sb, wd.heap.size = sb := ⟨_, rfl⟩
      rw [hsb] at hst8 ⊢
      have HS8 : Hid (w8.heap[sb]? = some (.cells #[.int .i64 (O y 0), .int .i64 (O y 1), .int .i64 (O y 2), .int .i64 (O y 3), .int .i64 (O y 4), .int .i64 (O y 5), .int .i64 (O y 6), .int .i64 (O y 7), .int .i64 (O y 8), .int .i64 (O y 9), .int .i64 (O y 10), .int .i64 (O y 11), .slice wa lw cw, .slice ba lb cb, .int .i64 (O y 14), .int .i64 (O y 15), .int .i64 (O y 16), .int .i64 (O y 17), .int .i64 (O y 18), .int .i64 (O y 19), .int .i64 (O y 20), .int .i64 (O y 21), .int .i64 x0, .int .i64 y0, .int .i64 z0, .int .i64 H, .int .i64 V, .int .i64 C] 76 (0, 0))) := hst8
      clear hw8 hsb hst8
      refine doneC HD8.out (by kernel_rfl) ?_ _
      have S8 : Hid (St W w8 _) := S7.out.call HD8.out
      clear HC0 HC2 HC3 S7
      go_upto_region 12 with fail
      have HW8 : Hid (Below wr.heap.size wr w8) := btr HB7.out HD8.out
      refine regionC (fun w' => (w'.cell? ⟨ob, 1, none⟩ = some (.int .i64 (ja : Int)) ∧ w'.cell? ⟨ob, 2, none⟩ = some (.int .i64 (jb : Int))) ∧ w'.cell? ⟨g, ja, none⟩ = some (.slice aa na ca) ∧ w'.cell? ⟨g, jb, none⟩ = some (.slice ab nb cb')) (by kernel_rfl) ?_
      obtain ⟨we, hwe⟩ : ∃ we, w8.drew = we := ⟨_, rfl⟩
      have HBe : Hid (Below w8.heap.size w8 we) := by unfold Hid; rw [← hwe]; exact (Below.refl _ _).drew
      rw [hwe]
      clear hwe
      have HCl : Hid (∀ w', Below we.heap.size we w' → (w'.cell? ⟨ob, 1, none⟩ = some (.int .i64 (ja : Int)) ∧ w'.cell? ⟨ob, 2, none⟩ = some (.int .i64 (jb : Int))) ∧ w'.cell? ⟨g, ja, none⟩ = some (.slice aa na ca) ∧ w'.cell? ⟨g, jb, none⟩ = some (.slice ab nb cb')) := fun w' hw' => by
        have h1 : Below w7.heap.size w7 w' := btr (btr HD8.out HBe.out) hw'
        have h2 : Below wr.heap.size wr w' := btr HB7.out h1
        exact ⟨⟨HC1.out w' h1, HC4.out w' h1⟩, (h2.cell (World.block_lt_of_cell? wr _ hcA'.out)).trans hcA'.out, (h2.cell (World.block_lt_of_cell? wr _ hcB'.out)).trans hcB'.out⟩
      refine takeC 0 (v := .slice (some ⟨g, 0, none⟩) (y + 1) (on + 1)) rfl rfl (by kernel_rfl) (by kernel_rfl) (by kernel_rfl) (fun _ _ _ h => h) (fun _ => rfl) rfl (fun w' hw' => by go_simp) ?_
      refine takeC 1 (v := .slice (some ⟨g, 0, none⟩) (y + 1) (on + 1)) rfl rfl (by kernel_rfl) (by kernel_rfl) (by kernel_rfl) (fun _ _ _ h => h) (fun _ => rfl) rfl (fun w' hw' => by go_simp) ?_
      refine takeC 2 (v := .pointer (some ⟨ob, 1, none⟩)) rfl rfl (by kernel_rfl) (by kernel_rfl) (by kernel_rfl) (fun _ _ _ h => h) (fun _ => rfl) rfl (fun w' hw' => by go_simp) ?_
      refine takeC 3 (v := .int .i64 (ja : Int)) rfl rfl (by kernel_rfl) (by kernel_rfl) (by kernel_rfl) (fun _ _ _ h => h) (fun _ => rfl) rfl (fun w' hw' => by have hc := hw'.1.1; go_simp) ?_
      refine takeC 4 (v := .pointer (some ⟨g, ja, none⟩)) rfl rfl (by kernel_rfl) (by kernel_rfl) (by kernel_rfl) (fun _ _ _ h => h) (fun _ => rfl) rfl (fun w' hw' => by go_simp; try (intro q; omega)) ?_
      refine takeC 5 (v := .slice aa na ca) rfl rfl (by kernel_rfl) (by kernel_rfl) (by kernel_rfl) (fun _ _ _ h => h) (fun _ => rfl) rfl (fun w' hw' => by have hc := hw'.2.1; go_simp) ?_
      refine takeC 6 (v := .slice (some ⟨g, 0, none⟩) (y + 1) (on + 1)) rfl rfl (by kernel_rfl) (by kernel_rfl) (by kernel_rfl) (fun _ _ _ h => h) (fun _ => rfl) rfl (fun w' hw' => by go_simp) ?_
      refine takeC 7 (v := .pointer (some ⟨ob, 2, none⟩)) rfl rfl (by kernel_rfl) (by kernel_rfl) (by kernel_rfl) (fun _ _ _ h => h) (fun _ => rfl) rfl (fun w' hw' => by go_simp) ?_
      refine takeC 8 (v := .int .i64 (jb : Int)) rfl rfl (by kernel_rfl) (by kernel_rfl) (by kernel_rfl) (fun _ _ _ h => h) (fun _ => rfl) rfl (fun w' hw' => by have hc := hw'.1.2; go_simp) ?_
      refine takeC 9 (v := .pointer (some ⟨g, jb, none⟩)) rfl rfl (by kernel_rfl) (by kernel_rfl) (by kernel_rfl) (fun _ _ _ h => h) (fun _ => rfl) rfl (fun w' hw' => by go_simp; try (intro q; omega)) ?_
      refine takeC 10 (v := .slice ab nb cb') rfl rfl (by kernel_rfl) (by kernel_rfl) (by kernel_rfl) (fun _ _ _ h => h) (fun _ => rfl) rfl (fun w' hw' => by have hc := hw'.2.2; go_simp) ?_
      have HWe : Hid (Below wr.heap.size wr we) := btr HW8.out HBe.out
      refine stepK 11 (HCl.out _ (Below.refl _ _)) (by kernel_rfl) rfl rfl 30 #[.pointer (some ⟨sb, 0, none⟩), .slice aa na ca, .slice ab nb cb'] (by kernel_rfl) (HT.out we sb ((HBe.out.block sb (lt_of_heap HS8.out)).trans HS8.out) HWe.out) ?_
      rintro e w9 ⟨⟨sv, rfl, hO9⟩, hb9⟩
      obtain ⟨va9, vc9, rfl, -, -⟩ := hO9.row
      obtain ⟨X, hXe⟩ : ∃ X, opT (O y) (Z y) (B y) (x0, y0, z0) (H, V, C) (tnA O Z B RL xs ja) (tnA O Z B RL xs jb) = X := ⟨_, rfl⟩
      have hO9' : Own .i8 62 w9 we.heap.size (.slice va9 X.length vc9) X := by rw [← hXe]; exact hO9
      have hval : Value.slice va9 (teL (O y 0) (O y 4) (O y 5) (O y 6) (O y 7) (O y 8) (O y 9) (O y 10) (O y 11) (O y 14) (O y 15) (O y 16) (O y 17) (O y 18) (O y 19) (O y 20) (O y 21) x0 y0 z0 H V C (Z y) (B y) (tnA O Z B RL xs ja) (tnA O Z B RL xs jb)).length vc9 = .slice va9 X.length vc9 := by rw [← hXe]; rfl
      rw [hXe] at HTn
      refine ⟨_, rfl, ?_⟩
      rw [hval]
      have HO9 : Hid (Own .i8 62 w9 we.heap.size (.slice va9 X.length vc9) X) := hO9'
      have Hb9 : Hid (Below we.heap.size we w9) := hb9
      clear hO9 hO9' hval hXe hb9 HT
      obtain ⟨NX, hNX⟩ : ∃ NX, X.length = NX := ⟨_, rfl⟩
      rw [hNX] at HO9 ⊢
      clear hNX
      refine stepR 12 (HCl.out _ Hb9.out) (by kernel_rfl) rfl rfl (.slice (some ⟨w9.heap.size, 0, none⟩) 1 1) (w9.alloc (.cells #[.slice va9 NX vc9] 27)) (by kernel_rfl) ?_
      obtain ⟨sv, hsv⟩ : ∃ sv, Value.slice va9 NX vc9 = sv := ⟨_, rfl⟩
      have hone : sv.oneCell' = true := by rw [← hsv]; rfl
      rw [hsv] at HO9 ⊢
      clear hsv
      have HB10 : Hid (Below we.heap.size we (w9.alloc (.cells #[sv] 27))) := btr Hb9.out (bal _ _)
      have HLG10 : Hid (LG (w9.alloc (.cells #[sv] 27)) g (on + 1) ss) := HLG.out.below (btr HWe.out HB10.out)
      have hE10 : Hid (Ells (w9.alloc (.cells #[sv] 27)) W.heap.size (ss ++ [sv]) (tnL O Z B RL xs (y + 1))) := by
        unfold Hid
        rw [HTn.out]
        exact ((HEl.out.below HWe.out).add Hb9.out HO9.out (Nat.le_trans SR.out.size HWe.out.size)).below (bal _ _)
      have S10 : Hid (St W (w9.alloc (.cells #[sv] 27)) ((bf, #[.int .i64 0, .int .i64 0, .int .i64 0], 51) :: (gs, curs, 23) :: (W.heap.size + 1, #[.int .i64 0, .int .i64 0, .int .i64 0], 51) :: (W.heap.size, #[.int .i64 h, .int .i64 w, .int .i64 c, .int .i64 lo, .int .i64 hi, .slice (some x) on oc, .int .i64 ot], 26) :: [])) := (SR.out.call HWe.out).call HB10.out
      have hnw : Hid ((w9.alloc (.cells #[sv] 27)).heap[w9.heap.size]? = some (.cells #[sv] 27 (0, 0))) := heap_alloc_new w9 _
      obtain ⟨w10, hw10⟩ : ∃ w10, w9.alloc (.cells #[sv] 27) = w10 := ⟨_, rfl⟩
      rw [hw10] at HB10 HLG10 hE10 S10 hnw ⊢
      clear hw10
      refine stepA 13 (HCl.out _ HB10.out) (by kernel_rfl) rfl rfl (.tmp 56) (.tmp 68) rfl g (on + 1) ss (y + 1) HSL.out (by kernel_rfl) w9.heap.size sv (by kernel_rfl) hnw.out hone HLG10.out (by omega) ?_
      have S11 : Hid (St W (w10.setCell ⟨g, y + 1, none⟩ sv) ((bf, #[.int .i64 0, .int .i64 0, .int .i64 0], 51) :: (gs, curs, 23) :: (W.heap.size + 1, #[.int .i64 0, .int .i64 0, .int .i64 0], 51) :: (W.heap.size, #[.int .i64 h, .int .i64 w, .int .i64 c, .int .i64 lo, .int .i64 hi, .slice (some x) on oc, .int .i64 ot], 26) :: [])) := S10.out.setL HLG10.out hgW.out (by simp)
      have HLG11 : Hid (LG (w10.setCell ⟨g, y + 1, none⟩ sv) g (on + 1) (ss ++ [sv])) := by
        have := HLG10.out.add (by rw [HSL.out]; omega) sv
        rw [HSL.out] at this
        exact this
      have hE11 : Hid (Ells (w10.setCell ⟨g, y + 1, none⟩ sv) W.heap.size (ss ++ [sv]) (tnL O Z B RL xs (y + 1))) := hE10.out.grown (grown_set _ g (y + 1) sv) (fun b hb => by cases hb; exact HLG10.out.ne8)
      have hC11 : ((w10.setCell ⟨g, y + 1, none⟩ sv).cell? ⟨ob, 1, none⟩ = some (.int .i64 (ja : Int)) ∧ (w10.setCell ⟨g, y + 1, none⟩ sv).cell? ⟨ob, 2, none⟩ = some (.int .i64 (jb : Int))) ∧ (w10.setCell ⟨g, y + 1, none⟩ sv).cell? ⟨g, ja, none⟩ = some (.slice aa na ca) ∧ (w10.setCell ⟨g, y + 1, none⟩ sv).cell? ⟨g, jb, none⟩ = some (.slice ab nb cb') := by
        have q := HCl.out _ HB10.out
        have ne : ∀ (a : Addr), a ≠ ⟨g, y + 1, none⟩ → (w10.setCell ⟨g, y + 1, none⟩ sv).cell? a = w10.cell? a := fun a ha => World.cell?_setCell_other _ _ _ _ (fun e => ha e.symm)
        have n1 : ob ≠ g := hobg.out
        exact ⟨⟨(ne _ (fun e => n1 (by cases e; rfl))).trans q.1.1, (ne _ (fun e => n1 (by cases e; rfl))).trans q.1.2⟩, (ne _ (fun e => by simp only [Addr.mk.injEq, true_and, and_true] at e; omega)).trans q.2.1, (ne _ (fun e => by simp only [Addr.mk.injEq, true_and, and_true] at e; omega)).trans q.2.2⟩
      obtain ⟨w11, hw11⟩ : ∃ w11, w10.setCell ⟨g, y + 1, none⟩ sv = w11 := ⟨_, rfl⟩
      rw [hw11] at S11 HLG11 hE11 hC11 ⊢
      clear hw11 HLG10 hE10 S10 HCl
      refine stepR 14 hC11 (by kernel_rfl) rfl rfl (.slice (some ⟨g, 0, none⟩) (y + 1 + 1) (on + 1)) w11 (by kernel_rfl) ?_
      refine doneC hC11 (by kernel_rfl) ?_ _
      clear hC11
      go_wp2
      go_roundw
      case rel => exact ⟨y + 1, ss ++ [sv], by omega, by go_num, rfl, by rw [List.length_append, HSL.out]; rfl, HLG11.out, hE11.out, S11.out⟩
      case measure => simp [intOf]; omega
    · obtain rfl : y = on := by omega
      have hLL : Hid (LLs wr W.heap.size (.slice (some ⟨g, 0, none⟩) (y + 1) (y + 1)) (tnL O Z B RL xs y)) := by
        have := HLG.out.own hgW.out (by omega)
        rw [HSL.out] at this
        exact ⟨ss, this, HEl.out⟩
      obtain ⟨-, -, -, -, -, -, c3, f3, z3, -⟩ := SR.out.rules
      have hb3 := SR.out.below
      have SR3 := SR.out.up2
      have HLs : Hid (∀ u v t, LLs (((wr.setCell ⟨W.heap.size + 1, 0, none⟩ u).setCell ⟨W.heap.size + 1, 1, none⟩ v).setCell ⟨W.heap.size + 1, 2, none⟩ t) W.heap.size (.slice (some ⟨g, 0, none⟩) (y + 1) (y + 1)) (tnL O Z B RL xs y)) := fun u v t => ((hLL.out.set SR3.h1 (by decide) (by decide)).set (heap_setCell_at SR3.h1) (by decide) (by decide)).set (heap_setCell_at (heap_setCell_at SR3.h1)) (by decide) (by decide)
      clear HLG HEl
      go_wp2
      exact bodyPost_ret (v := .tuple #[.slice (some ⟨g, 0, none⟩) (y + 1) (y + 1), .agg #[.int .i64 0, .int .i64 0, .int .i64 0]]) (by simp [results, Try.results10, go_sem, *]) rfl ⟨⟨_, rfl, HLs.out _ _ _⟩, set3b hb3 (by omega)⟩
end Go.Proofs.Ytdknofbnhjdfjaa

/- What Eval of package plain returns. -/
namespace Go.Proofs.Ytdknofbnhjdfjaa
open Go.ChangeShapes Go.WideShapes Go.ChangeAt Go.RowKit
set_option linter.unusedVariables false
set_option maxHeartbeats 2000000 in
theorem eval_bad (h w c lo hi ot : Int) (oa : Option Addr) (on oc : Nat) (W : World) (ad : Option Addr) (n cap : Nat) (E A : Int) (he : E ≠ 0) (hT : Hid (∀ W', Below W.heap.size W W' → Calls Try.prog 10 #[.agg #[.int .i64 h, .int .i64 w, .int .i64 c, .int .i64 lo, .int .i64 hi, .slice oa on oc, .int .i64 ot], .slice ad n cap] W' fun e w' => e = .returned (.tuple #[.slice none 0 0, .agg #[.int .i64 E, .int .i64 A, .int .i64 0]]) ∧ Below W'.heap.size W' w')) :
    Calls Try.prog 18 #[.agg #[.int .i64 h, .int .i64 w, .int .i64 c, .int .i64 lo, .int .i64 hi, .slice oa on oc, .int .i64 ot], .slice ad n cap] W fun e w' => e = .returned (.tuple #[.slice none 0 0, .agg #[.int .i64 E, .int .i64 A, .int .i64 0]]) ∧ Below W.heap.size W w' := by
  have he' : (E == 0) = false := by simp [he]
  have s0 := ((St.start W).new (c := #[.int .i64 h, .int .i64 w, .int .i64 c, .int .i64 lo, .int .i64 hi, .slice oa on oc, .int .i64 ot]) (t := 26)).new (c := #[.int .i64 0, .int .i64 0, .int .i64 0]) (t := 51)
  simp only [World.size_alloc] at s0
  go_enter Try.func18, Try.ntmps18
  go_wp2_with fail
  refine Calls.mono (hT.out _ s0.below) ?_
  rintro e w1 ⟨rfl, hb⟩
  have s1 := (s0.call hb).new (c := #[.int .i64 E, .int .i64 A, .int .i64 0]) (t := 51)
  obtain ⟨c1, f1, z1, c2, f2, z2, -⟩ := (s0.call hb).rules
  clear hb hT s0
  go_upto_region 2 with fail
  obtain ⟨w2, hw2⟩ : ∃ w2, w1.alloc (.cells #[.int .i64 E, .int .i64 A, .int .i64 0] 51) = w2 := ⟨_, rfl⟩
  rw [hw2] at s1 ⊢
  clear hw2 c1 f1 z1 c2 f2 z2
  obtain ⟨c1, f1, z1, c2, f2, z2, -⟩ := s1.rules
  have S1 : Hid (St W w2 _) := s1
  clear s1
  go_wp2
  go_region_law (fail)
  all_goals
    go_wp2
    exact bodyPost_ret (v := .tuple #[.slice none 0 0, .agg #[.int .i64 E, .int .i64 A, .int .i64 0]]) (by simp [results, Try.results18, go_sem, *]) rfl ⟨rfl, by first | exact set3b S1.out.below (by omega) | exact set3b S1.out.drew.below (by omega)⟩
theorem own_set3 {k : IntKind} {T U : TypeId} {w : World} {base N : Nat} {v a b c : Value} {zs : List Int} {cs : Array Value} (h : Own k T w base v zs) (hN : w.heap[N]? = some (.cells cs U (0, 0))) (q : U ≠ T) : Own k T (((w.setCell ⟨N, 0, none⟩ a).setCell ⟨N, 1, none⟩ b).setCell ⟨N, 2, none⟩ c) base v zs := by
  have one : ∀ {w : World} {cs : Array Value} (i : Nat) (u : Value), Own k T w base v zs → w.heap[N]? = some (.cells cs U (0, 0)) → Own k T (w.setCell ⟨N, i, none⟩ u) base v zs := fun {w cs} i u h hN => h.grown (grown_set w N i u) fun b hb c' e => by
    cases hb
    rw [hN] at e
    simp only [Option.some.injEq, Obj.cells.injEq] at e
    exact q e.2.1
  exact one 2 c (one 1 b (one 0 a h hN) (heap_setCell_at hN)) (heap_setCell_at (heap_setCell_at hN))
set_option maxHeartbeats 2000000 in
theorem eval_ok (h w c lo hi ot : Int) (oa : Option Addr) (on oc : Nat) (O : Nat → Nat → Int) (Z B : Nat → List Int) (W : World) (hL : LRow W oa on oc O Z B) (ad : Option Addr) (n cap : Nat) (xs : List Int) (hX : IRow .i8 W ad n cap xs) (Rw : Int) (RL : List (Int × Int × Int)) (hR : gtR O h w c lo hi ot on = (0, 0, RL, Rw)) (hin : inB h w c lo hi xs = true) (io : Nat) (hio : ot = (io : Int)) (hio2 : io ≤ on) :
    Calls Try.prog 18 #[.agg #[.int .i64 h, .int .i64 w, .int .i64 c, .int .i64 lo, .int .i64 hi, .slice oa on oc, .int .i64 ot], .slice ad n cap] W fun e w' => (∃ v, e = .returned (.tuple #[v, .agg #[.int .i64 0, .int .i64 0, .int .i64 0]]) ∧ Own .i8 62 w' W.heap.size v (tnA O Z B RL xs io)) ∧ Below W.heap.size W w' := by
  subst hio
  have hT : Hid (∀ W', Below W.heap.size W W' → _) := fun W' hb => tensors_ok h w c lo hi io oa on oc O Z B W' (hL.below hb) ad n cap xs (hX.below hb) Rw RL hR hin
  have HTl : Hid ((tnL O Z B RL xs on).length = on + 1) := tnL_len _ _ _ _ _ _
  have HTg : Hid ((tnL O Z B RL xs on).getD io [] = tnA O Z B RL xs io) := tnL_get _ _ _ _ _ hio2
  have ho64 := (gtR_ok hR).2.2.1
  have s0 := ((St.start W).new (c := #[.int .i64 h, .int .i64 w, .int .i64 c, .int .i64 lo, .int .i64 hi, .slice oa on oc, .int .i64 (io : Int)]) (t := 26)).new (c := #[.int .i64 0, .int .i64 0, .int .i64 0]) (t := 51)
  simp only [World.size_alloc] at s0
  clear hL hX hR hin
  obtain ⟨TL, hTL⟩ : ∃ TL, tnL O Z B RL xs on = TL := ⟨_, rfl⟩
  obtain ⟨TA, hTA⟩ : ∃ TA, tnA O Z B RL xs io = TA := ⟨_, rfl⟩
  rw [hTL] at hT HTl HTg
  rw [hTA] at HTg ⊢
  clear hTL hTA
  go_enter Try.func18, Try.ntmps18
  go_wp2_with fail
  refine Calls.mono (hT.out _ s0.below) ?_
  rintro e w1 ⟨⟨v, rfl, hLL⟩, hb⟩
  obtain ⟨ss, q1, q2⟩ := hLL
  have hsl : ss.length = on + 1 := by rw [q2.1]; exact HTl.out
  obtain ⟨g, gc, rfl, hgb, hgl, hgc, hgm, hcell, -⟩ := q1.at (by omega)
  have hown := q2.2.1 io (by omega)
  rw [HTg.out] at hown
  have hcx := hcell io (by omega)
  rw [hsl] at hgc ⊢
  obtain ⟨sv, hsv⟩ : ∃ sv, ss.getD io (.slice none 0 0) = sv := ⟨_, rfl⟩
  rw [hsv] at hown hcx
  obtain ⟨va, vc, rfl, -, -⟩ := hown.row
  obtain ⟨nn, hnn⟩ : ∃ nn, TA.length = nn := ⟨_, rfl⟩
  rw [hnn] at hown hcx
  unfold maxLen at hgm
  have s1 := (s0.call hb).new (c := #[.int .i64 0, .int .i64 0, .int .i64 0]) (t := 51)
  obtain ⟨c1, f1, z1, c2, f2, z2, -⟩ := (s0.call hb).rules
  have HO1 : Hid (Own .i8 62 (w1.alloc (.cells #[.int .i64 0, .int .i64 0, .int .i64 0] 51)) W.heap.size (.slice va nn vc) TA) := (hown.base (by simp; omega)).alloc _
  have HC1 : Hid ((w1.alloc (.cells #[.int .i64 0, .int .i64 0, .int .i64 0] 51)).cell? ⟨g, io, none⟩ = some (.slice va nn vc)) := ((bal w1 _).cell (World.block_lt_of_cell? w1 _ hcx)).trans hcx
  clear hb hT s0 hown hcx hcell q1 q2 hsv hnn hgb hgl
  go_upto_region 2 with fail
  obtain ⟨w2, hw2⟩ : ∃ w2, w1.alloc (.cells #[.int .i64 0, .int .i64 0, .int .i64 0] 51) = w2 := ⟨_, rfl⟩
  rw [hw2] at s1 HO1 HC1 ⊢
  clear hw2 c1 f1 z1 c2 f2 z2
  obtain ⟨c1, f1, z1, c2, f2, z2, c3, f3, z3, -⟩ := s1.rules
  have S1 : Hid (St W w2 _) := s1
  have hcx := HC1.out
  clear s1
  go_wp2
  exact bodyPost_ret (v := .tuple #[.slice va nn vc, .agg #[.int .i64 0, .int .i64 0, .int .i64 0]]) (by simp [results, Try.results18, go_sem, *]) rfl ⟨⟨_, rfl, own_set3 HO1.out S1.out.h2 (by decide)⟩, set3b S1.out.below (by omega)⟩
end Go.Proofs.Ytdknofbnhjdfjaa

/- What Totals of package plain returns. -/
namespace Go.Proofs.Ytdknofbnhjdfjaa
open Go.ChangeShapes Go.WideShapes Go.ChangeAt Go.RowKit
set_option linter.unusedVariables false
set_option maxHeartbeats 2000000 in
theorem totals_e (h w c lo hi ot op : Int) (oa : Option Addr) (on oc : Nat) (O : Nat → Nat → Int) (W : World) (hM : MRow W oa on oc O) (Re Ra Rw : Int) (RL : List (Int × Int × Int)) (hR : gtR O h w c lo hi ot on = (Re, Ra, RL, Rw)) (he : Re ≠ 0) (ad : Option Addr) (n cap' : Nat) :
    Calls Try.prog 6 #[.agg #[.int .i64 h, .int .i64 w, .int .i64 c, .int .i64 lo, .int .i64 hi, .slice oa on oc, .int .i64 ot], .int .i64 op, .slice ad n cap'] W fun e w' => e = .returned (.tuple #[.slice none 0 0, .int .i64 Re]) ∧ Below W.heap.size W w' := by
  have hS : Hid (∀ W, MRow W oa on oc O → _) := fun W hW => shapes_any h w c lo hi ot oa on oc O W hW
  rw [hR] at hS
  simp only at hS
  have hM2 : Hid (MRow W oa on oc O) := hM
  have he' : (Re == 0) = false := by simp [he]
  clear hR hM
  have s0 := (St.start W).new (c := #[.int .i64 h, .int .i64 w, .int .i64 c, .int .i64 lo, .int .i64 hi, .slice oa on oc, .int .i64 ot]) (t := 26)
  go_enter Try.func6, Try.ntmps6
  go_wp2_with fail
  refine Calls.mono (hS.out _ (hM2.out.below s0.below)) ?_
  rintro e w1 ⟨v, rfl, hSh, hb⟩
  obtain ⟨va, vc, rfl⟩ := hSh.slice
  have s1 := (s0.call hb).new (c := #[.int .i64 Re, .int .i64 Ra, .int .i64 0]) (t := 51)
  obtain ⟨c1, f1, z1, -⟩ := (s0.call hb).rules
  clear hb hSh hS hM2 s0
  go_upto_region 2 with fail
  obtain ⟨w2, hw2⟩ : ∃ w2, w1.alloc (.cells #[.int .i64 Re, .int .i64 Ra, .int .i64 0] 51) = w2 := ⟨_, rfl⟩
  rw [hw2] at s1 ⊢
  clear hw2 c1 f1 z1
  obtain ⟨c1, f1, z1, -⟩ := s1.rules
  have S1 : Hid (St W w2 _) := s1
  clear s1
  go_wp2
  go_quiet (fail)
  go_wp2
  go_ret2
  exact ⟨rfl, btr S1.out.below (dbel _ _)⟩
set_option maxHeartbeats 2000000 in
theorem totals_3 (h w c lo hi ot op : Int) (oa : Option Addr) (on oc : Nat) (O : Nat → Nat → Int) (W : World) (hM : MRow W oa on oc O) (Ra Rw : Int) (RL : List (Int × Int × Int)) (hR : gtR O h w c lo hi ot on = (0, Ra, RL, Rw)) (ho : ¬ (1 ≤ op ∧ op ≤ (on : Int))) (ad : Option Addr) (n cap' : Nat) :
    Calls Try.prog 6 #[.agg #[.int .i64 h, .int .i64 w, .int .i64 c, .int .i64 lo, .int .i64 hi, .slice oa on oc, .int .i64 ot], .int .i64 op, .slice ad n cap'] W fun e w' => e = .returned (.tuple #[.slice none 0 0, .int .i64 3]) ∧ Below W.heap.size W w' := by
  have hS : Hid (∀ W, MRow W oa on oc O → _) := fun W hW => shapes_any h w c lo hi ot oa on oc O W hW
  rw [hR] at hS
  simp only at hS
  have hM2 : Hid (MRow W oa on oc O) := hM
  have hocm := hM.1
  have hocx := hM.2.1
  unfold maxLen at hocx
  clear hR hM
  have s0 := (St.start W).new (c := #[.int .i64 h, .int .i64 w, .int .i64 c, .int .i64 lo, .int .i64 hi, .slice oa on oc, .int .i64 ot]) (t := 26)
  by_cases o1 : op < 1
  all_goals
    try have o2 : (on : Int) < op := by omega
    clear ho
    go_enter Try.func6, Try.ntmps6
    go_wp2_with fail
    refine Calls.mono (hS.out _ (hM2.out.below s0.below)) ?_
    rintro e w1 ⟨v, rfl, hSh, hb⟩
    obtain ⟨va, vc, rfl⟩ := hSh.slice
    have s1 := (s0.call hb).new (c := #[.int .i64 0, .int .i64 Ra, .int .i64 0]) (t := 51)
    obtain ⟨c1, f1, z1, -⟩ := (s0.call hb).rules
    clear hb hSh hS hM2 s0
    go_upto_region 2 with fail
    obtain ⟨w2, hw2⟩ : ∃ w2, w1.alloc (.cells #[.int .i64 0, .int .i64 Ra, .int .i64 0] 51) = w2 := ⟨_, rfl⟩
    rw [hw2] at s1 ⊢
    clear hw2 c1 f1 z1
    obtain ⟨c1, f1, z1, c2, f2, z2, -⟩ := s1.rules
    have S1 : Hid (St W w2 _) := s1
    clear s1
    go_wp2
    go_ret2
    exact ⟨rfl, S1.out.below⟩
set_option maxRecDepth 100000 in
set_option maxHeartbeats 8000000 in
theorem totals_r (h w c lo hi ot : Int) (x : Addr) (on oc i : Nat) (O : Nat → Nat → Int) (W : World) (hM : MRow W (some x) on oc O) (hi0 : i < on) (wa : Option Addr) (lw cw : Nat) (ba : Option Addr) (lb cb : Nat)
    (hcell : ∀ q v, [.int .i64 (O i 0), .int .i64 (O i 1), .int .i64 (O i 2), .int .i64 (O i 3), .int .i64 (O i 4), .int .i64 (O i 5), .int .i64 (O i 6), .int .i64 (O i 7), .int .i64 (O i 8), .int .i64 (O i 9), .int .i64 (O i 10), .int .i64 (O i 11), .slice wa lw cw, .slice ba lb cb, .int .i64 (O i 14), .int .i64 (O i 15), .int .i64 (O i 16), .int .i64 (O i 17), .int .i64 (O i 18), .int .i64 (O i 19), .int .i64 (O i 20), .int .i64 (O i 21)][q]? = some v → W.cell? ((x.add (i * 22)).add q) = some v) (Rw : Int) (RL : List (Int × Int × Int)) (hR : gtR O h w c lo hi ot on = (0, 0, RL, Rw)) (hj0 : 0 ≤ O i 1) (hj1 : O i 1 ≤ (i : Int))
    (x0 y0 z0 H V C : Int) (hA : RL.getD (O i 1).toNat (0, 0, 0) = (x0, y0, z0)) (hB : RL.getD (i + 1) (0, 0, 0) = (H, V, C)) (rb : Bool) (hrb : rdB (O i 0) = rb) (ad : Option Addr) (n cap' : Nat) (hn9 : n ≤ 9223372036854775807) (hv0 : rb = true → vS x0 y0 z0 = true) (SS : List Int)
    (hS9 : Hid (rb = true → (n : Int) = x0 * y0 * z0 → ∀ (w' : World) (r : Nat), w'.heap[r]? = some (.cells #[.int .i64 (O i 0), .int .i64 (O i 1), .int .i64 (O i 2), .int .i64 (O i 3), .int .i64 (O i 4), .int .i64 (O i 5), .int .i64 (O i 6), .int .i64 (O i 7), .int .i64 (O i 8), .int .i64 (O i 9), .int .i64 (O i 10), .int .i64 (O i 11), .slice wa lw cw, .slice ba lb cb, .int .i64 (O i 14), .int .i64 (O i 15), .int .i64 (O i 16), .int .i64 (O i 17), .int .i64 (O i 18), .int .i64 (O i 19), .int .i64 (O i 20), .int .i64 (O i 21), .int .i64 x0, .int .i64 y0, .int .i64 z0, .int .i64 H, .int .i64 V, .int .i64 C] 76 (0, 0)) → Below W.heap.size W w' → Calls Try.prog 22 #[.pointer (some ⟨r, 0, none⟩), .slice ad n cap'] w' fun e w'' => (∃ v, e = .returned v ∧ Own .i64 2 w'' w'.heap.size v SS) ∧ Below w'.heap.size w' w'')) :
    Calls Try.prog 6 #[.agg #[.int .i64 h, .int .i64 w, .int .i64 c, .int .i64 lo, .int .i64 hi, .slice (some x) on oc, .int .i64 ot], .int .i64 ((i : Int) + 1), .slice ad n cap'] W fun e w' => (if rb = true then (if (n : Int) = x0 * y0 * z0 then ∃ v, e = .returned (.tuple #[v, .int .i64 0]) ∧ Own .i64 2 w' W.heap.size v SS else e = .returned (.tuple #[.slice none 0 0, .int .i64 70])) else e = .returned (.tuple #[.slice none 0 0, .int .i64 81])) ∧ Below W.heap.size W w' := by
  have HP0 : Hid (rb = true → ∀ W, Calls Try.prog 21 #[.agg #[.int .i64 x0, .int .i64 y0, .int .i64 z0]] W fun e w' => e = .returned (.int .i64 (x0 * y0 * z0)) ∧ Below W.heap.size W w') := fun q W => places_plain x0 y0 z0 W (hv0 q)
  have HP9 : Hid (rb = true → 1 ≤ x0 * y0 * z0 ∧ x0 * y0 * z0 ≤ 16384) := fun q => (vS_bd (hv0 q)).2
  obtain ⟨N, hN⟩ : ∃ N, x0 * y0 * z0 = N := ⟨_, rfl⟩
  rw [hN] at HP0 HP9 hS9 ⊢
  clear hv0 hN
  have hS : Hid (∀ W, MRow W (some x) on oc O → _) := fun W hW => shapes_any h w c lo hi ot (some x) on oc O W hW
  rw [hR] at hS
  simp only at hS
  obtain ⟨-, hRl, ho64, -, -, -⟩ := gtR_ok hR
  have hM2 : Hid (MRow W (some x) on oc O) := hM
  have hocm := hM.1
  have hocx := hM.2.1
  unfold maxLen at hocx
  have Hc : Hid (∀ q v, [.int .i64 (O i 0), .int .i64 (O i 1), .int .i64 (O i 2), .int .i64 (O i 3), .int .i64 (O i 4), .int .i64 (O i 5), .int .i64 (O i 6), .int .i64 (O i 7), .int .i64 (O i 8), .int .i64 (O i 9), .int .i64 (O i 10), .int .i64 (O i 11), .slice wa lw cw, .slice ba lb cb, .int .i64 (O i 14), .int .i64 (O i 15), .int .i64 (O i 16), .int .i64 (O i 17), .int .i64 (O i 18), .int .i64 (O i 19), .int .i64 (O i 20), .int .i64 (O i 21)][q]? = some v → W.cell? ((x.add (i * 22)).add q) = some v) := hcell
  clear hR hM hcell
  have s0 := (St.start W).new (c := #[.int .i64 h, .int .i64 w, .int .i64 c, .int .i64 lo, .int .i64 hi, .slice (some x) on oc, .int .i64 ot]) (t := 26)
  go_enter Try.func6, Try.ntmps6
  go_wp2_with fail
  refine Calls.mono (hS.out _ (hM2.out.below s0.below)) ?_
  rintro e w1 ⟨v, rfl, hSh, hb⟩
  have s1 := (s0.call hb).new (c := #[.int .i64 0, .int .i64 0, .int .i64 0]) (t := 51)
  obtain ⟨g, cap, cur, rfl, hgb, hgc, hCu⟩ : ∃ g cap cur, v = .slice (some ⟨g, 0, none⟩) (on + 1) cap ∧ W.heap.size ≤ g ∧ w1.heap[g]? = some (.cells cur 23 (0, 0)) ∧ Cu cur cap RL := by
    rcases hSh with ⟨-, q⟩ | ⟨g, cap, cur, q1, q2, q3, q4, -⟩
    · rw [q] at hRl; simp at hRl
    · exact ⟨g, cap, cur, by rw [q1, hRl], by simp at q2; omega, q3, q4⟩
  have hcap := hCu.2.1
  obtain ⟨b1, b2, b3⟩ := hCu.at (show i + 1 < RL.length by omega)
  obtain ⟨a1, a2, a3⟩ := hCu.at (show (O i 1).toNat < RL.length by omega)
  rw [hB] at b1 b2 b3
  rw [hA] at a1 a2 a3
  simp only at a1 a2 a3 b1 b2 b3
  have hgz := lt_of_heap hgc
  have hgc2 : Hid ((w1.alloc (.cells #[.int .i64 0, .int .i64 0, .int .i64 0] 51)).heap[g]? = some (.cells cur 23 (0, 0))) := (heap_alloc_old w1 _ hgz).trans hgc
  obtain ⟨c1, f1, z1, -⟩ := (s0.call hb).rules
  clear hb hSh hCu hgc hS hM2
  go_wp2
  obtain ⟨w2, hw2⟩ : ∃ w2, w1.alloc (.cells #[.int .i64 0, .int .i64 0, .int .i64 0] 51) = w2 := ⟨_, rfl⟩
  rw [hw2] at s1 hgc2 ⊢
  have hw2z : w2.heap.size = w1.heap.size + 1 := by rw [← hw2]; simp
  have S1 : Hid (St W w2 _) := s1
  have hG := s1.h2
  have HC2 : Hid (∀ q v, [.int .i64 (O i 0), .int .i64 (O i 1), .int .i64 (O i 2), .int .i64 (O i 3), .int .i64 (O i 4), .int .i64 (O i 5), .int .i64 (O i 6), .int .i64 (O i 7), .int .i64 (O i 8), .int .i64 (O i 9), .int .i64 (O i 10), .int .i64 (O i 11), .slice wa lw cw, .slice ba lb cb, .int .i64 (O i 14), .int .i64 (O i 15), .int .i64 (O i 16), .int .i64 (O i 17), .int .i64 (O i 18), .int .i64 (O i 19), .int .i64 (O i 20), .int .i64 (O i 21)][q]? = some v → w2.cell? ((x.add (i * 22)).add q) = some v) := fun q v hq => (s1.below.cell (World.block_lt_of_cell? W _ (Hc.out q v hq))).trans (Hc.out q v hq)
  clear hw2 s0 s1 c1 f1
  refine regionC (fun w' => Below w2.heap.size w2 w') (by kernel_rfl) ?_
  obtain ⟨wd, hwd⟩ : ∃ wd, w2.drew = wd := ⟨_, rfl⟩
  have hdB : Below w2.heap.size w2 wd := by rw [← hwd]; exact (Below.refl _ _).drew
  have S2 : Hid (St W wd _) := S1.out.call hdB
  rw [hwd]
  have hwz : Hid (wd.heap.size = w1.heap.size + 1) := by unfold Hid; rw [← hwd]; exact hw2z
  clear hw2z
  have HD : Hid (Below w2.heap.size w2 wd) := hdB
  clear hwd hdB
  refine takeC 0 (v := .pointer (some ⟨W.heap.size, 5, none⟩)) rfl rfl (by kernel_rfl) (by kernel_rfl) (by kernel_rfl) (fun _ _ _ h => h) (fun _ => rfl) rfl (fun w' hw' => by go_simp) ?_
  refine takeC 1 (v := .slice (some x) on oc) rfl rfl (by kernel_rfl) (by kernel_rfl) (by kernel_rfl) (fun _ _ _ h => h) (fun _ => rfl) rfl (fun w' hw' => by have hc := (cells_at ((hw'.block _ (lt_of_heap hG)).trans hG)).1 5; go_simp) ?_
  refine takeC 2 (v := .int .i64 ((i : Int) + 1)) rfl rfl (by kernel_rfl) (by kernel_rfl) (by kernel_rfl) (fun _ _ _ h => h) (fun _ => rfl) rfl (fun w' hw' => by go_simp) ?_
  refine takeC 3 (v := .int .i64 (i : Int)) rfl rfl (by kernel_rfl) (by kernel_rfl) (by kernel_rfl) (fun _ _ _ h => h) (fun _ => rfl) rfl (fun w' hw' => by go_simp; rw [IntKind.wrap_i64]; omega) ?_
  refine takeC 4 (v := .pointer (some (x.add (i * 22)))) rfl rfl (by kernel_rfl) (by kernel_rfl) (by kernel_rfl) (fun _ _ _ h => h) (fun _ => rfl) rfl (fun w' hw' => by go_simp) ?_
  refine takeC 5 (v := .agg #[.int .i64 (O i 0), .int .i64 (O i 1), .int .i64 (O i 2), .int .i64 (O i 3), .int .i64 (O i 4), .int .i64 (O i 5), .int .i64 (O i 6), .int .i64 (O i 7), .int .i64 (O i 8), .int .i64 (O i 9), .int .i64 (O i 10), .int .i64 (O i 11), .slice wa lw cw, .slice ba lb cb, .int .i64 (O i 14), .int .i64 (O i 15), .int .i64 (O i 16), .int .i64 (O i 17), .int .i64 (O i 18), .int .i64 (O i 19), .int .i64 (O i 20), .int .i64 (O i 21)]) rfl rfl (by kernel_rfl) (by kernel_rfl) (by kernel_rfl) (fun _ _ _ h => h) (fun _ => rfl) rfl (fun w' hw' => run_la 39 (.tmp 34) rfl (x.add (i * 22)) (by kernel_rfl) [.int .i64 (O i 0), .int .i64 (O i 1), .int .i64 (O i 2), .int .i64 (O i 3), .int .i64 (O i 4), .int .i64 (O i 5), .int .i64 (O i 6), .int .i64 (O i 7), .int .i64 (O i 8), .int .i64 (O i 9), .int .i64 (O i 10), .int .i64 (O i 11), .slice wa lw cw, .slice ba lb cb, .int .i64 (O i 14), .int .i64 (O i 15), .int .i64 (O i 16), .int .i64 (O i 17), .int .i64 (O i 18), .int .i64 (O i 19), .int .i64 (O i 20), .int .i64 (O i 21)] _ (fun q v hq => (hw'.cell (World.block_lt_of_cell? _ _ (HC2.out q v hq))).trans (HC2.out q v hq)) Try.underlying39 rfl (by kernel_rfl)) ?_
  refine takeC 6 (v := .slice (some ⟨g, 0, none⟩) (on + 1) cap) rfl rfl (by kernel_rfl) (by kernel_rfl) (by kernel_rfl) (fun _ _ _ h => h) (fun _ => rfl) rfl (fun w' hw' => by go_simp) ?_
  refine takeC 7 (v := .int .i64 ((i : Int) + 1)) rfl rfl (by kernel_rfl) (by kernel_rfl) (by kernel_rfl) (fun _ _ _ h => h) (fun _ => rfl) rfl (fun w' hw' => by go_simp) ?_
  refine takeC 8 (v := .pointer (some ⟨g, (i + 1) * 3, none⟩)) rfl rfl (by kernel_rfl) (by kernel_rfl) (by kernel_rfl) (fun _ _ _ h => h) (fun _ => rfl) rfl (fun w' hw' => by go_simp; intro q; omega) ?_
  refine takeC 9 (v := .agg #[.int .i64 H, .int .i64 V, .int .i64 C]) rfl rfl (by kernel_rfl) (by kernel_rfl) (by kernel_rfl) (fun _ _ _ h => h) (fun _ => rfl) rfl (fun w' hw' => run_la 23 (.tmp 38) rfl ⟨g, (i + 1) * 3, none⟩ (by kernel_rfl) [.int .i64 H, .int .i64 V, .int .i64 C] _ (three_at ((hw'.block _ (lt_of_heap hgc2.out)).trans hgc2.out) b1 b2 b3) Try.underlying23 rfl (by kernel_rfl)) ?_
  refine takeC 10 (v := .agg #[.int .i64 (O i 0), .int .i64 (O i 1), .int .i64 (O i 2), .int .i64 (O i 3), .int .i64 (O i 4), .int .i64 (O i 5), .int .i64 (O i 6), .int .i64 (O i 7), .int .i64 (O i 8), .int .i64 (O i 9), .int .i64 (O i 10), .int .i64 (O i 11), .slice wa lw cw, .slice ba lb cb, .int .i64 (O i 14), .int .i64 (O i 15), .int .i64 (O i 16), .int .i64 (O i 17), .int .i64 (O i 18), .int .i64 (O i 19), .int .i64 (O i 20), .int .i64 (O i 21), .int .i64 0, .int .i64 0, .int .i64 0, .int .i64 H, .int .i64 V, .int .i64 C]) rfl rfl (by kernel_rfl) (by kernel_rfl) (by kernel_rfl) (fun _ _ _ h => h) (fun _ => rfl) rfl (fun w' hw' => by kernel_rfl) ?_
  refine stepC 11 HD.out (by kernel_rfl) rfl (fun K hK => step_wp rfl ?_)
  go_simp
  refine hK _ _ ?_
  clear hK K
  have HA : Hid (Below w2.heap.size w2 (wd.alloc (.cells #[.int .i64 0, .int .i64 0, .int .i64 0, .int .i64 0, .int .i64 0, .int .i64 0, .int .i64 0, .int .i64 0, .int .i64 0, .int .i64 0, .int .i64 0, .int .i64 0, .slice none 0 0, .slice none 0 0, .int .i64 0, .int .i64 0, .int .i64 0, .int .i64 0, .int .i64 0, .int .i64 0, .int .i64 0, .int .i64 0, .int .i64 0, .int .i64 0, .int .i64 0, .int .i64 0, .int .i64 0, .int .i64 0] 76))) := HD.out.alloc HD.out.size _
  refine stepC 12 HA.out (by kernel_rfl) rfl (fun K hK => step_wp rfl (wp_store_row 76 (.tmp 10) (.tmp 40) rfl wd.heap.size #[.int .i64 (O i 0), .int .i64 (O i 1), .int .i64 (O i 2), .int .i64 (O i 3), .int .i64 (O i 4), .int .i64 (O i 5), .int .i64 (O i 6), .int .i64 (O i 7), .int .i64 (O i 8), .int .i64 (O i 9), .int .i64 (O i 10), .int .i64 (O i 11), .slice wa lw cw, .slice ba lb cb, .int .i64 (O i 14), .int .i64 (O i 15), .int .i64 (O i 16), .int .i64 (O i 17), .int .i64 (O i 18), .int .i64 (O i 19), .int .i64 (O i 20), .int .i64 (O i 21), .int .i64 0, .int .i64 0, .int .i64 0, .int .i64 H, .int .i64 V, .int .i64 C] (by kernel_rfl) (by kernel_rfl) 76 #[.int .i64 0, .int .i64 0, .int .i64 0, .int .i64 0, .int .i64 0, .int .i64 0, .int .i64 0, .int .i64 0, .int .i64 0, .int .i64 0, .int .i64 0, .int .i64 0, .slice none 0 0, .slice none 0 0, .int .i64 0, .int .i64 0, .int .i64 0, .int .i64 0, .int .i64 0, .int .i64 0, .int .i64 0, .int .i64 0, .int .i64 0, .int .i64 0, .int .i64 0, .int .i64 0, .int .i64 0, .int .i64 0] (heap_alloc_new wd _) (by kernel_rfl) rfl (by simp [Value.oneCell']) (hK _ _ ?_)))
  rw [World.setRow_alloc_new]
  refine doneC (HD.out.alloc HD.out.size _) (by kernel_rfl) ?_ _
  have s3 := S2.out.new (c := #[.int .i64 (O i 0), .int .i64 (O i 1), .int .i64 (O i 2), .int .i64 (O i 3), .int .i64 (O i 4), .int .i64 (O i 5), .int .i64 (O i 6), .int .i64 (O i 7), .int .i64 (O i 8), .int .i64 (O i 9), .int .i64 (O i 10), .int .i64 (O i 11), .slice wa lw cw, .slice ba lb cb, .int .i64 (O i 14), .int .i64 (O i 15), .int .i64 (O i 16), .int .i64 (O i 17), .int .i64 (O i 18), .int .i64 (O i 19), .int .i64 (O i 20), .int .i64 (O i 21), .int .i64 0, .int .i64 0, .int .i64 0, .int .i64 H, .int .i64 V, .int .i64 C]) (t := 76)
  have hgc3 : Hid ((wd.alloc (.cells #[.int .i64 (O i 0), .int .i64 (O i 1), .int .i64 (O i 2), .int .i64 (O i 3), .int .i64 (O i 4), .int .i64 (O i 5), .int .i64 (O i 6), .int .i64 (O i 7), .int .i64 (O i 8), .int .i64 (O i 9), .int .i64 (O i 10), .int .i64 (O i 11), .slice wa lw cw, .slice ba lb cb, .int .i64 (O i 14), .int .i64 (O i 15), .int .i64 (O i 16), .int .i64 (O i 17), .int .i64 (O i 18), .int .i64 (O i 19), .int .i64 (O i 20), .int .i64 (O i 21), .int .i64 0, .int .i64 0, .int .i64 0, .int .i64 H, .int .i64 V, .int .i64 C] 76)).heap[g]? = some (.cells cur 23 (0, 0))) := ((HD.out.alloc HD.out.size _).block g (lt_of_heap hgc2.out)).trans hgc2.out
  obtain ⟨w4, hw4⟩ : ∃ w4, wd.alloc (.cells #[.int .i64 (O i 0), .int .i64 (O i 1), .int .i64 (O i 2), .int .i64 (O i 3), .int .i64 (O i 4), .int .i64 (O i 5), .int .i64 (O i 6), .int .i64 (O i 7), .int .i64 (O i 8), .int .i64 (O i 9), .int .i64 (O i 10), .int .i64 (O i 11), .slice wa lw cw, .slice ba lb cb, .int .i64 (O i 14), .int .i64 (O i 15), .int .i64 (O i 16), .int .i64 (O i 17), .int .i64 (O i 18), .int .i64 (O i 19), .int .i64 (O i 20), .int .i64 (O i 21), .int .i64 0, .int .i64 0, .int .i64 0, .int .i64 H, .int .i64 V, .int .i64 C] 76) = w4 := ⟨_, rfl⟩
  rw [hw4] at s3 hgc3 ⊢
  have S3 : Hid (St W w4 _) := s3
  obtain ⟨c1, f1, z1, -⟩ := s3.rules
  clear hw4 S1 S2 HD HA hgc2 HC2 Hc s3 hG
  go_wp2_with fail
  refine (red_any _ _).mono ?_
  rintro e w' ⟨rfl, hw'⟩
  have hw'' := hw'.symm
  subst hw''
  rw [hrb]
  have hz : w1.heap.size < wd.heap.size := by have := hwz.out; omega
  have z0' : Hid (W.heap.size ≤ wd.heap.size) := (S3.out.2 _ List.mem_cons_self).2
  cases rb with
  | false =>
    clear c1 f1
    go_wp2
    exact bodyPost_ret (v := .tuple #[.slice none 0 0, .int .i64 81]) (by simp [results, Try.results6, go_sem]) rfl ⟨by simp, S3.out.below⟩
  | true =>
    have a1' : w4.cell? ⟨g, (O i 1).toNat * 3, none⟩ = some (.int .i64 x0) := by rw [(cells_at hgc3.out).1]; exact a1
    have a2' : w4.cell? ⟨g, (O i 1).toNat * 3 + 1, none⟩ = some (.int .i64 y0) := by rw [(cells_at hgc3.out).1]; exact a2
    have a3' : w4.cell? ⟨g, (O i 1).toNat * 3 + 2, none⟩ = some (.int .i64 z0) := by rw [(cells_at hgc3.out).1]; exact a3
    clear a1 a2 a3 b1 b2 b3
    go_upto_region 10 with fail
    have hR1 : (((w4.setCell ⟨wd.heap.size, 22, none⟩ (.int .i64 x0)).setCell ⟨wd.heap.size, 23, none⟩ (.int .i64 y0)).setCell ⟨wd.heap.size, 24, none⟩ (.int .i64 z0)).heap[wd.heap.size]? = some (.cells #[.int .i64 (O i 0), .int .i64 (O i 1), .int .i64 (O i 2), .int .i64 (O i 3), .int .i64 (O i 4), .int .i64 (O i 5), .int .i64 (O i 6), .int .i64 (O i 7), .int .i64 (O i 8), .int .i64 (O i 9), .int .i64 (O i 10), .int .i64 (O i 11), .slice wa lw cw, .slice ba lb cb, .int .i64 (O i 14), .int .i64 (O i 15), .int .i64 (O i 16), .int .i64 (O i 17), .int .i64 (O i 18), .int .i64 (O i 19), .int .i64 (O i 20), .int .i64 (O i 21), .int .i64 x0, .int .i64 y0, .int .i64 z0, .int .i64 H, .int .i64 V, .int .i64 C] 76 (0, 0)) := heap_setCell_at (heap_setCell_at (heap_setCell_at S3.out.h1))
    have hB1 : Hid (Below W.heap.size W (((w4.setCell ⟨wd.heap.size, 22, none⟩ (.int .i64 x0)).setCell ⟨wd.heap.size, 23, none⟩ (.int .i64 y0)).setCell ⟨wd.heap.size, 24, none⟩ (.int .i64 z0))) := ((S3.out.below.setCell (p := ⟨wd.heap.size, 22, none⟩) (by show W.heap.size ≤ wd.heap.size; have := z0'.out; omega) _).setCell (p := ⟨wd.heap.size, 23, none⟩) (by show W.heap.size ≤ wd.heap.size; have := z0'.out; omega) _).setCell (p := ⟨wd.heap.size, 24, none⟩) (by show W.heap.size ≤ wd.heap.size; have := z0'.out; omega) _
    obtain ⟨w5, hw5⟩ : ∃ w5, ((w4.setCell ⟨wd.heap.size, 22, none⟩ (.int .i64 x0)).setCell ⟨wd.heap.size, 23, none⟩ (.int .i64 y0)).setCell ⟨wd.heap.size, 24, none⟩ (.int .i64 z0) = w5 := ⟨_, rfl⟩
    rw [hw5] at hR1 hB1 ⊢
    obtain ⟨r, hr⟩ : ∃ r, wd.heap.size = r := ⟨_, rfl⟩
    rw [hr] at hR1 ⊢
    have HR1 : Hid (w5.heap[r]? = some (.cells #[.int .i64 (O i 0), .int .i64 (O i 1), .int .i64 (O i 2), .int .i64 (O i 3), .int .i64 (O i 4), .int .i64 (O i 5), .int .i64 (O i 6), .int .i64 (O i 7), .int .i64 (O i 8), .int .i64 (O i 9), .int .i64 (O i 10), .int .i64 (O i 11), .slice wa lw cw, .slice ba lb cb, .int .i64 (O i 14), .int .i64 (O i 15), .int .i64 (O i 16), .int .i64 (O i 17), .int .i64 (O i 18), .int .i64 (O i 19), .int .i64 (O i 20), .int .i64 (O i 21), .int .i64 x0, .int .i64 y0, .int .i64 z0, .int .i64 H, .int .i64 V, .int .i64 C] 76 (0, 0))) := hR1
    have HP : Hid (∀ W, Calls Try.prog 21 #[.agg #[.int .i64 x0, .int .i64 y0, .int .i64 z0]] W fun e w' => e = .returned (.int .i64 N) ∧ Below W.heap.size W w') := HP0.out (by simp)
    have p9 := HP9.out (by simp)
    clear hw5 hr c1 f1 a1' a2' a3' S3 hgc3 hwz hz hR1 HP0 HP9
    obtain ⟨c1, f1, z1'⟩ := cells_at HR1.out
    go_wp2_with fail
    refine (HP.out _).mono ?_
    rintro e w6 ⟨rfl, hb6⟩
    have HB6 : Hid (Below W.heap.size W w6) := btr hB1.out hb6
    have HR6 : Hid (w6.heap[r]? = some (.cells #[.int .i64 (O i 0), .int .i64 (O i 1), .int .i64 (O i 2), .int .i64 (O i 3), .int .i64 (O i 4), .int .i64 (O i 5), .int .i64 (O i 6), .int .i64 (O i 7), .int .i64 (O i 8), .int .i64 (O i 9), .int .i64 (O i 10), .int .i64 (O i 11), .slice wa lw cw, .slice ba lb cb, .int .i64 (O i 14), .int .i64 (O i 15), .int .i64 (O i 16), .int .i64 (O i 17), .int .i64 (O i 18), .int .i64 (O i 19), .int .i64 (O i 20), .int .i64 (O i 21), .int .i64 x0, .int .i64 y0, .int .i64 z0, .int .i64 H, .int .i64 V, .int .i64 C] 76 (0, 0))) := (hb6.block r (lt_of_heap HR1.out)).trans HR1.out
    clear hb6 c1 f1 z1' HR1 hB1 HP
    by_cases hnN : (n : Int) = N
    · have hS8 : Hid _ := hS9.out (by simp) hnN w6 r HR6.out HB6.out
      have hnN' : Hid ((n : Int) = N) := hnN
      have hq : ((n : Int) == N) = true := by simp [hnN]
      have hq2 : ((n : Int) != N) = false := by simp [hnN]
      clear hS9 hnN
      go_wp2_with fail
      refine Calls.mono hS8.out ?_
      rintro e w7 ⟨⟨v, rfl, hO⟩, hb7⟩
      have HO : Hid (Own .i64 2 w7 W.heap.size v SS) := hO.base HB6.out.size
      have HB7 : Hid (Below W.heap.size W w7) := btr HB6.out hb7
      clear hO hb7
      go_wp2
      exact bodyPost_ret (v := .tuple #[v, .int .i64 0]) (by simp [results, Try.results6, go_sem]) rfl ⟨by first | exact ⟨_, rfl, HO.out⟩ | (rw [if_pos hnN'.out]; exact ⟨_, rfl, HO.out⟩) | (rw [if_pos rfl, if_pos hnN'.out]; exact ⟨_, rfl, HO.out⟩), HB7.out⟩
    · have hnN' : Hid (¬ (n : Int) = N) := hnN
      have hq : ((n : Int) == N) = false := by simp [hnN]
      clear hS9
      go_wp2
      exact bodyPost_ret (v := .tuple #[.slice none 0 0, .int .i64 70]) (by simp [results, Try.results6, go_sem]) rfl ⟨rfl, HB6.out⟩
/-- The error of Totals. -/
def toE (O : Nat → Nat → Int) (h w c lo hi ot : Int) (on : Nat) (op : Int) (n x0 y0 z0 : Int) : Int := if fiE O h w c lo hi ot on op ≠ 0 then fiE O h w c lo hi ot on op else if n = x0 * y0 * z0 then 0 else 70
theorem totals_bad (h w c lo hi ot : Int) (oa : Option Addr) (on oc : Nat) (O : Nat → Nat → Int) (Z B : Nat → List Int) (W : World) (hL : LRow W oa on oc O Z B) (op E : Int) (hf : fiE O h w c lo hi ot on op = E) (hE : E ≠ 0) (ad : Option Addr) (n cap' : Nat) (hn9 : n ≤ 9223372036854775807) :
    Calls Try.prog 6 #[.agg #[.int .i64 h, .int .i64 w, .int .i64 c, .int .i64 lo, .int .i64 hi, .slice oa on oc, .int .i64 ot], .int .i64 op, .slice ad n cap'] W fun e w' => e = .returned (.tuple #[.slice none 0 0, .int .i64 E]) ∧ Below W.heap.size W w' := by
  obtain ⟨Re, Ra, RL, Rw, hR⟩ : ∃ Re Ra RL Rw, gtR O h w c lo hi ot on = (Re, Ra, RL, Rw) := ⟨_, _, _, _, rfl⟩
  by_cases q : Re = 0
  · subst q
    by_cases ho : 1 ≤ op ∧ op ≤ (on : Int)
    · obtain ⟨rfl, hl, h64, -, -, -⟩ := gtR_ok hR
      obtain ⟨i, rfl⟩ : ∃ i : Nat, op = (i : Int) + 1 := ⟨(op - 1).toNat, by omega⟩
      have hi0 : i < on := by omega
      cases hk : rdB (O i 0) with
      | true => rw [fiE_0 (by rw [hR]) hi0 hk] at hf; exact absurd hf.symm hE
      | false =>
        rw [fiE_81 (by rw [hR]) hi0 hk] at hf
        subst hf
        obtain ⟨x, rfl⟩ : ∃ x, oa = some x := by
          cases oa with
          | none => have h1 := hL.2.2.1 rfl; have h2 := hL.1; omega
          | some x => exact ⟨x, rfl⟩
        obtain ⟨wa, lw, cw, ba, lb, cb, e12, e13, hcell, hz, hb, -, -⟩ := hL.2.2.2 x rfl i hi0
        obtain ⟨j, hj, hji, -⟩ := (gtR_at hR).2 i hi0
        refine (totals_r h w c lo hi ot x on oc i O W hL.m hi0 wa lw cw ba lb cb hcell Rw RL hR (by omega) (by omega) _ _ _ _ _ _ rfl rfl false hk ad n cap' hn9 (fun q => by cases q) [] (fun q => by cases q)).mono ?_
        rintro e w' ⟨h1, h2⟩
        exact ⟨by simpa using h1, h2⟩
    · rw [fiE_3 (by rw [hR]) ho] at hf
      subst hf
      exact totals_3 h w c lo hi ot op oa on oc O W hL.m Ra Rw RL hR ho ad n cap'
  · rw [fiE_err (by rw [hR]) q] at hf
    subst hf
    exact totals_e h w c lo hi ot op oa on oc O W hL.m _ Ra Rw RL hR hE ad n cap'
/-- An op that is there: the sums, or ErrLens. -/
theorem totals_ok (h w c lo hi ot : Int) (oa : Option Addr) (on oc : Nat) (O : Nat → Nat → Int) (Z B : Nat → List Int) (W : World) (hL : LRow W oa on oc O Z B) (RL : List (Int × Int × Int)) (Rw : Int) (hR : gtR O h w c lo hi ot on = (0, 0, RL, Rw))
    (i : Nat) (x : Addr) (wa : Option Addr) (lw cw : Nat) (ba : Option Addr) (lb cb : Nat) (x0 y0 z0 H V C : Int) (hF : Fnd W oa on O Z B RL i x wa lw cw ba lb cb x0 y0 z0 H V C) (ad : Option Addr) (n cap' : Nat) (xs : List Int) (hX : IRow .i8 W ad n cap' xs) :
    Calls Try.prog 6 #[.agg #[.int .i64 h, .int .i64 w, .int .i64 c, .int .i64 lo, .int .i64 hi, .slice oa on oc, .int .i64 ot], .int .i64 ((i : Int) + 1), .slice ad n cap'] W fun e w' => (if (n : Int) = x0 * y0 * z0 then ∃ v, e = .returned (.tuple #[v, .int .i64 0]) ∧ Own .i64 2 w' W.heap.size v (suL (O i 0) (O i 4) (O i 5) (O i 6) (O i 7) (O i 8) (O i 9) (O i 10) (O i 11) x0 y0 z0 C (O i 19) (Z i) (B i) xs (H * V * C).toNat) else e = .returned (.tuple #[.slice none 0 0, .int .i64 70])) ∧ Below W.heap.size W w' := by
  obtain ⟨h1, rfl, h3, h4, h5, h6, h7, h8, h9, h10, h11, h12⟩ := hF
  obtain ⟨ja, jb, e1, hja, e3, hjb, hO⟩ := opd_of hR h1
  obtain ⟨hOpd, -⟩ := hO x0 y0 z0 H V C (by rw [← h8, e1, Int.toNat_natCast]) h9
  rw [h3, h4, Int.toNat_natCast, Int.toNat_natCast] at hOpd
  have hk := of_decide_eq_true h12
  obtain ⟨wa', lw', cw', ba', lb', cb', e12, e13, -, -, -, hlw, hlb⟩ := hL.2.2.2 x rfl i h1
  have elw : lw' = lw := by omega
  have elb : lb' = lb := by omega
  subst elw elb
  have hcm := hX.2.2.1
  have hcc := hX.2.1
  unfold maxLen at hcm
  refine (totals_r h w c lo hi ot x on oc i O W hL.m h1 wa lw' cw ba lb' cb h5 Rw RL hR h11.1 h11.2 _ _ _ _ _ _ h8 h9 true h12 ad n cap' (by omega) (fun _ => hOpd.hA) (suL (O i 0) (O i 4) (O i 5) (O i 6) (O i 7) (O i 8) (O i 9) (O i 10) (O i 11) x0 y0 z0 C (O i 19) (Z i) (B i) xs (H * V * C).toNat) (fun _ hn w' r hr hb => sums_any (O i 0) (O i 1) (O i 2) (O i 3) (O i 4) (O i 5) (O i 6) (O i 7) (O i 8) (O i 9) (O i 10) (O i 11) wa lw' cw ba lb' cb (O i 14) (O i 15) (O i 16) (O i 17) (O i 18) (O i 19) (O i 20) (O i 21) x0 y0 z0 H V C r w' hr hOpd hk.2 (Z i) (B i) (h6.below hb) (h7.below hb) hlw hlb ad n cap' xs (hX.below hb) hn)).mono ?_
  rintro e w' ⟨q1, q2⟩
  exact ⟨by simpa using q1, q2⟩
end Go.Proofs.Ytdknofbnhjdfjaa
