/- Plans that differ in what they claim; plans of 32 bits alone (plain). The law's own model and fixed answers of layer 21. The document's Copy of layer 15: what it returns. The walk of KernWide. -/
import Derived.Test.YtgofmooidlejlaaGr21
import Derived.Test.YtgofmooidlejlaaGr25
import Derived.Test.YtgofmooidlejlaaGr26
/- Plans that differ in what they claim; plans of 32 bits alone (plain). -/
namespace Go.Proofs.Ytgofmooidlejlaa.Kr
open Go.ChangeShapes Go.WideShapes Go.ChangeAt Go.RowKit
set_option linter.unusedVariables false
/-- The same plan with another claim. -/
def cm (l u : Int) (q : Pl) : Pl := (q.1, q.2.1, l, u, l, u)
theorem deE_cm (l u n : Int) (q : Pl) : deE (cm l u q) n = deE q n := rfl
theorem pfE_cm (l u op n : Int) : ∀ (P : List Pl) (i : Nat), pfE op n (P.map (cm l u)) i = pfE op n P i
  | [], _ => rfl
  | q :: P, i => by
    simp only [List.map_cons, pfE, deE_cm, pfE_cm l u op n P (i + 1)]
theorem pcA_cm (l u : Int) (P : List Pl) (ch : Int) : (pcA (P.map (cm l u)) ch).1 = (pcA P ch).1 ∧ (pcA (P.map (cm l u)) ch).2.1 = (pcA P ch).2.1 := by
  unfold pcA
  simp only [List.getD_eq_getElem?_getD, List.getElem?_map]
  cases P[(ch - 1).toNat]? with
  | none => exact ⟨rfl, rfl⟩
  | some q => exact ⟨rfl, rfl⟩
theorem dsF_cm (l u : Int) (k kh kw sh sw tp lf bt rt h w c C p : Int) (zs bs x : List Int) (P : List Pl) (ch at' : Int) : dsF k kh kw sh sw tp lf bt rt h w c C p zs bs x (P.map (cm l u)) ch at' = dsF k kh kw sh sw tp lf bt rt h w c C p zs bs x P ch at' := by
  unfold dsF
  rw [(pcA_cm l u P ch).1, (pcA_cm l u P ch).2]
theorem dsL_cm (l u : Int) (k kh kw sh sw tp lf bt rt h w c C p : Int) (zs bs x : List Int) (P : List Pl) (n : Nat) : dsL k kh kw sh sw tp lf bt rt h w c C p zs bs x (P.map (cm l u)) n = dsL k kh kw sh sw tp lf bt rt h w c C p zs bs x P n := by
  unfold dsL
  simp only [dsF_cm]
theorem dsT_cm (l u : Int) (k kh kw sh sw tp lf bt rt h w c C p : Int) (zs bs x : List Int) (P : List Pl) : ∀ n : Nat, dsT k kh kw sh sw tp lf bt rt h w c C p zs bs x (P.map (cm l u)) n = dsT k kh kw sh sw tp lf bt rt h w c C p zs bs x P n
  | 0 => rfl
  | n + 1 => by simp only [dsT, dsF_cm, dsT_cm l u k kh kw sh sw tp lf bt rt h w c C p zs bs x P n]
theorem oLn_cm (l u : Int) (O : Nat → Nat → Int) (RL : List (Int × Int × Int)) (i n pl nb : Nat) (P : List Pl) : oLn O RL i n pl nb (P.map (cm l u)) = oLn O RL i n pl nb P := by
  unfold oLn lnE
  rw [pfE_cm]
theorem oTk_cm (l u : Int) (o : Nat → Int) (A Q : Int × Int × Int) (zs bs xs : List Int) (P : List Pl) : oTk o A Q zs bs xs (P.map (cm l u)) = oTk o A Q zs bs xs P := by
  unfold oTk
  simp only [dsT_cm]
theorem oNm_cm (l u : Int) (o : Nat → Int) (A Q : Int × Int × Int) (zs bs xs ys : List Int) (P : List Pl) : oNm o A Q zs bs xs ys (P.map (cm l u)) = oNm o A Q zs bs xs ys P := by
  unfold oNm
  simp only [dsL_cm]
/-! ### Wide plans alone -/
theorem gaT_ma {N : Int} : ∀ (ps : List Int) (t : Ty) (r : Int), t.m = t.a → (gaT N t r ps).1.m = (gaT N t r ps).1.a
  | [], _, _, h => h
  | p :: ps, t, r, h => gaT_ma ps (t.ma N r p) _ (by
    show t.m + 1 = t.a + 1
    omega)
/-- No sums of 16 bits. -/
def Tr.wd (t : Tr) : Prop := t.m = 0 ∧ t.a = 0 ∧ t.l = 0 ∧ t.h = 0 ∧ t.m2 = t.a2
theorem Tr.wd_z : Tr.z.wd := ⟨rfl, rfl, rfl, rfl, rfl⟩
theorem Tr.wd.jn {s t : Tr} (h : s.wd) (g : t.wd) : (s.jn t).wd := by
  obtain ⟨h1, h2, h3, h4, h5⟩ := h
  obtain ⟨g1, g2, g3, g4, g5⟩ := g
  refine ⟨?_, ?_, ?_, ?_, ?_⟩
  · show s.m + t.m = 0; omega
  · show s.a + t.a = 0; omega
  · show loE s.a s.l t.a t.l = 0
    unfold loE; rw [if_pos h2, if_pos g2]
  · show hiE s.a s.h t.a t.h = 0
    unfold hiE; rw [if_pos h2, if_pos g2]
  · show s.m2 + t.m2 = s.a2 + t.a2; omega
theorem dsF_wd (k kh kw sh sw tp lf bt rt h w c C p : Int) (zs bs x : List Int) (P : List Pl) (ch at' : Int) (hq : (pcA P ch).1 = 32) : (Tr.of (dsF k kh kw sh sw tp lf bt rt h w c C p zs bs x P ch at').1 (dsF k kh kw sh sw tp lf bt rt h w c C p zs bs x P ch at').2.1).wd := by
  unfold dsF dtR
  rw [if_pos hq]
  exact ⟨rfl, rfl, rfl, rfl, gaT_ma _ _ _ rfl⟩
theorem dsT_wd (k kh kw sh sw tp lf bt rt h w c C p : Int) (zs bs x : List Int) (P : List Pl) (hC : 0 < C) (hq : ∀ ch, 1 ≤ ch ∧ ch ≤ C → (pcA P ch).1 = 32) : ∀ n : Nat, (dsT k kh kw sh sw tp lf bt rt h w c C p zs bs x P n).wd
  | 0 => Tr.wd_z
  | n + 1 => by
    have e1 := Int.emod_nonneg (n : Int) (show C ≠ 0 by omega)
    have e2 := Int.emod_lt_of_pos (n : Int) hC
    exact (dsT_wd k kh kw sh sw tp lf bt rt h w c C p zs bs x P hC hq n).jn (dsF_wd k kh kw sh sw tp lf bt rt h w c C p zs bs x P _ _ (hq _ ⟨by omega, by omega⟩))
theorem pcA_32 {P : List Pl} {C : Int} (hl : (P.length : Int) = C) (h : ∀ q ∈ P, q.1 = 32) : ∀ ch, 1 ≤ ch ∧ ch ≤ C → (pcA P ch).1 = 32 := fun ch hc => by
  obtain ⟨h1, h2⟩ := hc
  rw [← hl] at h2
  have : (ch - 1).toNat < P.length := by omega
  unfold pcA
  rw [List.getD_eq_getElem?_getD, List.getElem?_eq_getElem this]
  exact h _ (List.getElem_mem this)
end Go.Proofs.Ytgofmooidlejlaa.Kr

/- The law's own model and fixed answers of layer 21. -/
namespace Go.Proofs.Ytgofmooidlejlaa.Kr
open Go.ChangeShapes Go.WideShapes Go.ChangeAt Go.RowKit
set_option linter.unusedVariables false
def twO (_ : Nat) (j : Nat) : Int := [1, 0, 0, 1, 0, 0, 0, 0, 0, 0, 0, 0, 2, 1, 1, 9, 0, 0, 0, 0, -128, 127].getD j 0
def twZ (_ : Nat) : List Int := [200, 200]
def twB (_ : Nat) : List Int := [0]
theorem tw_0 : gtR twO 1 1 2 0 127 1 1 = (0, 0, [(1, 1, 2), (1, 1, 1)], 2) := by decide
theorem tw_lrow {w : World} {g p q : Nat} (h : w.heap[g]? = some (.cells #[.int .i64 1, .int .i64 0, .int .i64 0, .int .i64 1, .int .i64 0, .int .i64 0, .int .i64 0, .int .i64 0, .int .i64 0, .int .i64 0, .int .i64 0, .int .i64 0, .slice (some ⟨p, 0, none⟩) 2 2, .slice (some ⟨q, 0, none⟩) 1 1, .int .i64 1, .int .i64 9, .int .i64 0, .int .i64 0, .int .i64 0, .int .i64 0, .int .i64 (-128), .int .i64 127] 48 (0, 0))) (hp : w.heap[p]? = some (.cells #[.int .i16 200, .int .i16 200] 82 (0, 0))) (hq : w.heap[q]? = some (.cells #[.int .i32 0] 21 (0, 0))) : LRow w (some ⟨g, 0, none⟩) 1 1 twO twZ twB := by
  refine ⟨Nat.le_refl _, by unfold maxLen; omega, fun h => (by cases h), fun x hx i hi => ?_⟩
  cases hx
  obtain rfl : i = 0 := by omega
  refine ⟨some ⟨p, 0, none⟩, 2, 2, some ⟨q, 0, none⟩, 1, 1, rfl, rfl, fun j v hj => ?_, irow_blk [200, 200] hp (fun z hz => ?_) (by simp), irow_blk [0] hq (fun z hz => ?_) (by simp), by omega, by omega⟩
  · rw [Nat.zero_mul, Addr.add_lit, Addr.add_lit, (cells_at h).1, ← hj]
    simp [opl, twO]
  · simp only [List.mem_cons, List.not_mem_nil, or_false] at hz
    rcases hz with rfl | rfl <;> rfl
  · simp only [List.mem_cons, List.not_mem_nil, or_false] at hz
    subst hz; rfl
theorem two_any (W : World) :
    Calls Try.prog 11 #[] W fun e w' => ∃ g : Nat, e = .returned (.agg #[.int .i64 1, .int .i64 1, .int .i64 2, .int .i64 0, .int .i64 127, .slice (some ⟨g, 0, none⟩) 1 1, .int .i64 1]) ∧ LRow w' (some ⟨g, 0, none⟩) 1 1 twO twZ twB ∧ Below W.heap.size W w' := by
  go_enter Try.func11, Try.ntmps11
  go_wp2
  have s1 := (((St.start W).new (c := #[.int .i64 1, .int .i64 1, .int .i64 2, .int .i64 0, .int .i64 127, .slice (some ⟨W.heap.size + 1 + 1 + 1, 0, none⟩) 1 1, .int .i64 1]) (t := 26)).new (c := #[.int .i16 200, .int .i16 200]) (t := 82)).new (c := #[.int .i32 0]) (t := 21)
  simp only [World.size_alloc] at s1
  have s2 := s1.new (c := #[.int .i64 1, .int .i64 0, .int .i64 0, .int .i64 1, .int .i64 0, .int .i64 0, .int .i64 0, .int .i64 0, .int .i64 0, .int .i64 0, .int .i64 0, .int .i64 0, .slice (some ⟨W.heap.size + 1, 0, none⟩) 2 2, .slice (some ⟨W.heap.size + 1 + 1, 0, none⟩) 1 1, .int .i64 1, .int .i64 9, .int .i64 0, .int .i64 0, .int .i64 0, .int .i64 0, .int .i64 (-128), .int .i64 127]) (t := 48)
  simp only [World.size_alloc] at s2
  exact bodyPost_ret (v := .agg #[.int .i64 1, .int .i64 1, .int .i64 2, .int .i64 0, .int .i64 127, .slice (some ⟨W.heap.size + 1 + 1 + 1, 0, none⟩) 1 1, .int .i64 1]) (by simp [results, Try.results11, go_sem]) rfl ⟨W.heap.size + 1 + 1 + 1, rfl, tw_lrow (p := W.heap.size + 1) (q := W.heap.size + 1 + 1) s2.h1 s2.h3 s2.h2, s2.below⟩
theorem erow_one {w : World} {B : Nat} {q : Pl} (h : w.heap[B]? = some (.cells (pcs q).toArray 61 (0, 0))) : ERow 6 pcs w (some ⟨B, 0, none⟩) 1 1 [q] := by
  refine ⟨rfl, Nat.le_refl _, by unfold maxLen; omega, fun e => (by cases e), fun x hx i p hp j v hv => ?_⟩
  cases hx
  have hi : i < 1 := (List.getElem?_eq_some_iff.1 hp).1
  obtain rfl : i = 0 := by omega
  simp only [List.getElem?_cons_zero, Option.some.injEq] at hp
  subst hp
  rw [Nat.zero_mul, Addr.add_lit, Addr.add_lit, (cells_at h).1]
  simpa using hv
theorem fx_e1 : oLn twO [(1, 1, 2), (1, 1, 1)] 0 2 1 0 [(16, 1, 0, 0, 0, 0)] = (0, 0, 0) := by decide
theorem fx_e2 : oLn twO [(1, 1, 2), (1, 1, 1)] 0 2 1 0 [(16, 2, 0, 0, 0, 0)] = (0, 0, 0) := by decide
theorem fx_e3 : oLn twO [(1, 1, 2), (1, 1, 1)] 0 2 0 0 [] = (70, 1, 0) := by decide
theorem fx_n1 : oNm (twO 0) (([(1, 1, 2), (1, 1, 1)] : List (Int × Int × Int)).getD (twO 0 1).toNat (0, 0, 0)) (([(1, 1, 2), (1, 1, 1)] : List (Int × Int × Int)).getD (0 + 1) (0, 0, 0)) (twZ 0) (twB 0) [127, 127] [] [(16, 1, 0, 0, 0, 0)] = [99] := by kernel_rfl
theorem fx_n2 : oNm (twO 0) (([(1, 1, 2), (1, 1, 1)] : List (Int × Int × Int)).getD (twO 0 1).toNat (0, 0, 0)) (([(1, 1, 2), (1, 1, 1)] : List (Int × Int × Int)).getD (0 + 1) (0, 0, 0)) (twZ 0) (twB 0) [127, 127] [] [(16, 2, 0, 0, 0, 0)] = [-29] := by kernel_rfl
theorem fx_t1 : (oTk (twO 0) (([(1, 1, 2), (1, 1, 1)] : List (Int × Int × Int)).getD (twO 0 1).toNat (0, 0, 0)) (([(1, 1, 2), (1, 1, 1)] : List (Int × Int × Int)).getD (0 + 1) (0, 0, 0)) (twZ 0) (twB 0) [127, 127] [(16, 1, 0, 0, 0, 0)]).cs = #[.int .i64 2, .int .i64 2, .int .i64 0, .int .i64 2, .int .i64 0, .int .i64 25400, .int .i64 25400, .int .i64 25400, .int .i64 50800] := by kernel_rfl
theorem fx_t2 : (oTk (twO 0) (([(1, 1, 2), (1, 1, 1)] : List (Int × Int × Int)).getD (twO 0 1).toNat (0, 0, 0)) (([(1, 1, 2), (1, 1, 1)] : List (Int × Int × Int)).getD (0 + 1) (0, 0, 0)) (twZ 0) (twB 0) [127, 127] [(16, 2, 0, 0, 0, 0)]).cs = #[.int .i64 2, .int .i64 2, .int .i64 0, .int .i64 1, .int .i64 1, .int .i64 (-14736), .int .i64 25400, .int .i64 (-14736), .int .i64 (-14736)] := by kernel_rfl
theorem op_fx1 (w : World) (g : Nat) (hL : LRow w (some ⟨g, 0, none⟩) 1 1 twO twZ twB) (B D : Nat) (hb : w.heap[B]? = some (.cells #[.int .i64 16, .int .i64 1, .int .i64 0, .int .i64 0, .int .i64 0, .int .i64 0] 61 (0, 0))) (hd : w.heap[D]? = some (.cells #[.int .i8 127, .int .i8 127] 63 (0, 0))) :
    Calls Try.prog 8 #[.agg #[.int .i64 1, .int .i64 1, .int .i64 2, .int .i64 0, .int .i64 127, .slice (some ⟨g, 0, none⟩) 1 1, .int .i64 1], .int .i64 1, .slice (some ⟨B, 0, none⟩) 1 1, .slice (some ⟨D, 0, none⟩) 2 2, .slice none 0 0] w fun e w' => (∃ v, e = .returned (.tuple #[v, .agg #[.int .i64 2, .int .i64 2, .int .i64 0, .int .i64 2, .int .i64 0, .int .i64 25400, .int .i64 25400, .int .i64 25400, .int .i64 50800], .agg #[.int .i64 0, .int .i64 0, .int .i64 0]]) ∧ Own .i8 63 w' w.heap.size v [99]) ∧ Below w.heap.size w w' := by
  refine (op_i 1 1 2 0 127 1 (some ⟨g, 0, none⟩) 1 1 twO twZ twB w hL 1 _ 1 1 [(16, 1, 0, 0, 0, 0)] _ 2 2 [127, 127] none 0 0 [] (erow_one hb) (irow_blk [127, 127] hd (fun z hz => ?_) (by simp)) (irow_nil _ _) _ _ tw_0 0 (by omega) rfl 0 0 0 fx_e1).mono ?_
  · simp only [List.mem_cons, List.not_mem_nil, or_false] at hz
    rcases hz with rfl | rfl <;> rfl
  · rintro e w' ⟨⟨v, T, rfl, h⟩, hb2⟩
    rcases h with ⟨h0, -⟩ | ⟨-, hO, rfl⟩
    · exact absurd rfl h0
    · rw [fx_n1] at hO
      rw [fx_t1]
      exact ⟨⟨v, rfl, hO⟩, hb2⟩
theorem op_fx2 (w : World) (g : Nat) (hL : LRow w (some ⟨g, 0, none⟩) 1 1 twO twZ twB) (B D : Nat) (hb : w.heap[B]? = some (.cells #[.int .i64 16, .int .i64 2, .int .i64 0, .int .i64 0, .int .i64 0, .int .i64 0] 61 (0, 0))) (hd : w.heap[D]? = some (.cells #[.int .i8 127, .int .i8 127] 63 (0, 0))) :
    Calls Try.prog 8 #[.agg #[.int .i64 1, .int .i64 1, .int .i64 2, .int .i64 0, .int .i64 127, .slice (some ⟨g, 0, none⟩) 1 1, .int .i64 1], .int .i64 1, .slice (some ⟨B, 0, none⟩) 1 1, .slice (some ⟨D, 0, none⟩) 2 2, .slice none 0 0] w fun e w' => (∃ v, e = .returned (.tuple #[v, .agg #[.int .i64 2, .int .i64 2, .int .i64 0, .int .i64 1, .int .i64 1, .int .i64 (-14736), .int .i64 25400, .int .i64 (-14736), .int .i64 (-14736)], .agg #[.int .i64 0, .int .i64 0, .int .i64 0]]) ∧ Own .i8 63 w' w.heap.size v [-29]) ∧ Below w.heap.size w w' := by
  refine (op_i 1 1 2 0 127 1 (some ⟨g, 0, none⟩) 1 1 twO twZ twB w hL 1 _ 1 1 [(16, 2, 0, 0, 0, 0)] _ 2 2 [127, 127] none 0 0 [] (erow_one hb) (irow_blk [127, 127] hd (fun z hz => ?_) (by simp)) (irow_nil _ _) _ _ tw_0 0 (by omega) rfl 0 0 0 fx_e2).mono ?_
  · simp only [List.mem_cons, List.not_mem_nil, or_false] at hz
    rcases hz with rfl | rfl <;> rfl
  · rintro e w' ⟨⟨v, T, rfl, h⟩, hb2⟩
    rcases h with ⟨h0, -⟩ | ⟨-, hO, rfl⟩
    · exact absurd rfl h0
    · rw [fx_n2] at hO
      rw [fx_t2]
      exact ⟨⟨v, rfl, hO⟩, hb2⟩
theorem op_fx3 (w : World) (g : Nat) (hL : LRow w (some ⟨g, 0, none⟩) 1 1 twO twZ twB) (D : Nat) (hd : w.heap[D]? = some (.cells #[.int .i8 127, .int .i8 127] 63 (0, 0))) :
    Calls Try.prog 8 #[.agg #[.int .i64 1, .int .i64 1, .int .i64 2, .int .i64 0, .int .i64 127, .slice (some ⟨g, 0, none⟩) 1 1, .int .i64 1], .int .i64 1, .slice none 0 0, .slice (some ⟨D, 0, none⟩) 2 2, .slice none 0 0] w fun e w' => e = .returned (.tuple #[.slice none 0 0, .agg #[.int .i64 0, .int .i64 0, .int .i64 0, .int .i64 0, .int .i64 0, .int .i64 0, .int .i64 0, .int .i64 0, .int .i64 0], .agg #[.int .i64 70, .int .i64 1, .int .i64 0]]) ∧ Below w.heap.size w w' := by
  refine (op_i 1 1 2 0 127 1 (some ⟨g, 0, none⟩) 1 1 twO twZ twB w hL 1 _ 0 0 [] _ 2 2 [127, 127] none 0 0 [] (erow_nil _ _ _) (irow_blk [127, 127] hd (fun z hz => ?_) (by simp)) (irow_nil _ _) _ _ tw_0 0 (by omega) rfl 70 1 0 fx_e3).mono ?_
  · simp only [List.mem_cons, List.not_mem_nil, or_false] at hz
    rcases hz with rfl | rfl <;> rfl
  · rintro e w' ⟨⟨v, T, rfl, h⟩, hb2⟩
    rcases h with ⟨-, rfl, rfl⟩ | ⟨h0, -⟩
    · exact ⟨rfl, hb2⟩
    · cases h0
set_option maxHeartbeats 4000000 in
set_option maxRecDepth 100000 in
theorem fixed_any (W : World) : Calls Try.prog 6 #[] W fun e w' => e = .returned (.bool true) ∧ Below W.heap.size W w' := by
  have HF1 : Hid (∀ w g hL B D hb hd, _) := op_fx1
  have HF2 : Hid (∀ w g hL B D hb hd, _) := op_fx2
  have HF3 : Hid (∀ w g hL D hd, _) := op_fx3
  have HTW : Hid (∀ W, _) := two_any
  go_enter Try.func6, Try.ntmps6
  go_wp2_with fail
  refine (HTW.out _).mono ?_
  rintro e w1 ⟨g, rfl, hL, b1⟩
  have s1 := (((St.start W).call b1).new (c := #[.int .i64 16, .int .i64 1, .int .i64 0, .int .i64 0, .int .i64 0, .int .i64 0]) (t := 61)).new (c := #[.int .i8 127, .int .i8 127]) (t := 63)
  simp only [World.size_alloc] at s1
  have L1 : Hid (LRow ((w1.alloc (.cells #[.int .i64 16, .int .i64 1, .int .i64 0, .int .i64 0, .int .i64 0, .int .i64 0] 61)).alloc (.cells #[.int .i8 127, .int .i8 127] 63)) (some ⟨g, 0, none⟩) 1 1 twO twZ twB) := (hL.below (bal _ _)).below (bal _ _)
  have S1 : Hid (St W _ _) := s1
  clear s1 hL b1
  go_wp2_with fail
  refine (HF1.out _ g L1.out (w1.heap.size) (w1.heap.size + 1) S1.out.h2 S1.out.h1).mono ?_
  rintro e w2 ⟨⟨v, rfl, hO⟩, b2⟩
  obtain ⟨va, vc, rfl, hrow, -⟩ := hO.row
  obtain ⟨xa, u, rfl, hu, -, huz, -⟩ := hrow.at (show 0 < [(99 : Int)].length by decide)
  simp only [List.getElem?_cons_zero, Option.some.injEq] at huz
  subst huz
  have s2 := (((S1.out.call b2).sub (l' := []) (by simp)).new (c := #[.int .i64 2, .int .i64 2, .int .i64 0, .int .i64 2, .int .i64 0, .int .i64 25400, .int .i64 25400, .int .i64 25400, .int .i64 50800]) (t := 50)).new (c := #[.int .i64 0, .int .i64 0, .int .i64 0]) (t := 38)
  simp only [World.size_alloc] at s2
  have hc2 : ((w2.alloc (.cells #[.int .i64 2, .int .i64 2, .int .i64 0, .int .i64 2, .int .i64 0, .int .i64 25400, .int .i64 25400, .int .i64 25400, .int .i64 50800] 50)).alloc (.cells #[.int .i64 0, .int .i64 0, .int .i64 0] 38)).cell? xa = some (.int .i8 99) := by
    have h0 : w2.cell? xa = some (.int .i8 99) := by rwa [Addr.add_zero'] at hu
    exact ((bt (bal w2 _) (bal _ _)).cell (World.block_lt_of_cell? w2 _ h0)).trans h0
  clear hO hrow hu b2 L1 S1
  go_upto_region 2 with fail
  obtain ⟨t1, ht1⟩ : ∃ t1, w2.heap.size = t1 := ⟨_, rfl⟩
  obtain ⟨w3, hw3⟩ : ∃ w3, (w2.alloc (.cells #[.int .i64 2, .int .i64 2, .int .i64 0, .int .i64 2, .int .i64 0, .int .i64 25400, .int .i64 25400, .int .i64 25400, .int .i64 50800] 50)).alloc (.cells #[.int .i64 0, .int .i64 0, .int .i64 0] 38) = w3 := ⟨_, rfl⟩
  rw [hw3, ht1] at s2
  rw [hw3] at hc2
  rw [hw3, ht1]
  have S3 : Hid (St W w3 [(t1 + 1, #[.int .i64 0, .int .i64 0, .int .i64 0], 38), (t1, #[.int .i64 2, .int .i64 2, .int .i64 0, .int .i64 2, .int .i64 0, .int .i64 25400, .int .i64 25400, .int .i64 25400, .int .i64 50800], 50)]) := s2
  have C3 : Hid (w3.cell? xa = some (.int .i8 99)) := hc2
  clear hw3 ht1 s2 hc2
  go_wp2_with fail
  refine (HTW.out _).mono ?_
  rintro e w4 ⟨g4, rfl, hL, b4⟩
  have s4 := ((S3.out.call b4).new (c := #[.int .i64 16, .int .i64 2, .int .i64 0, .int .i64 0, .int .i64 0, .int .i64 0]) (t := 61)).new (c := #[.int .i8 127, .int .i8 127]) (t := 63)
  simp only [World.size_alloc] at s4
  have L4 : Hid (LRow ((w4.alloc (.cells #[.int .i64 16, .int .i64 2, .int .i64 0, .int .i64 0, .int .i64 0, .int .i64 0] 61)).alloc (.cells #[.int .i8 127, .int .i8 127] 63)) (some ⟨g4, 0, none⟩) 1 1 twO twZ twB) := (hL.below (bal _ _)).below (bal _ _)
  have S4 : Hid (St W _ _) := s4
  have C4 : Hid (((w4.alloc (.cells #[.int .i64 16, .int .i64 2, .int .i64 0, .int .i64 0, .int .i64 0, .int .i64 0] 61)).alloc (.cells #[.int .i8 127, .int .i8 127] 63)).cell? xa = some (.int .i8 99)) := ((bt b4 (bt (bal w4 _) (bal _ _))).cell (World.block_lt_of_cell? w3 _ C3.out)).trans C3.out
  clear s4 hL b4 S3 C3
  go_wp2_with fail
  refine (HF2.out _ g4 L4.out (w4.heap.size) (w4.heap.size + 1) S4.out.h2 S4.out.h1).mono ?_
  rintro e w5 ⟨⟨v, rfl, hO⟩, b5⟩
  obtain ⟨vb, vd, rfl, hrow, -⟩ := hO.row
  obtain ⟨xb, u, rfl, hu, -, huz, -⟩ := hrow.at (show 0 < [(-29 : Int)].length by decide)
  simp only [List.getElem?_cons_zero, Option.some.injEq] at huz
  subst huz
  have s5 := (((S4.out.call b5).sub (l' := [(t1 + 1, #[.int .i64 0, .int .i64 0, .int .i64 0], 38), (t1, #[.int .i64 2, .int .i64 2, .int .i64 0, .int .i64 2, .int .i64 0, .int .i64 25400, .int .i64 25400, .int .i64 25400, .int .i64 50800], 50)]) (by simp)).new (c := #[.int .i64 2, .int .i64 2, .int .i64 0, .int .i64 1, .int .i64 1, .int .i64 (-14736), .int .i64 25400, .int .i64 (-14736), .int .i64 (-14736)]) (t := 50)).new (c := #[.int .i64 0, .int .i64 0, .int .i64 0]) (t := 38)
  simp only [World.size_alloc] at s5
  have bw : Below w5.heap.size w5 ((w5.alloc (.cells #[.int .i64 2, .int .i64 2, .int .i64 0, .int .i64 1, .int .i64 1, .int .i64 (-14736), .int .i64 25400, .int .i64 (-14736), .int .i64 (-14736)] 50)).alloc (.cells #[.int .i64 0, .int .i64 0, .int .i64 0] 38)) := bt (bal w5 _) (bal _ _)
  have hb5 : ((w5.alloc (.cells #[.int .i64 2, .int .i64 2, .int .i64 0, .int .i64 1, .int .i64 1, .int .i64 (-14736), .int .i64 25400, .int .i64 (-14736), .int .i64 (-14736)] 50)).alloc (.cells #[.int .i64 0, .int .i64 0, .int .i64 0] 38)).cell? xb = some (.int .i8 (-29)) := by
    have h0 : w5.cell? xb = some (.int .i8 (-29)) := by rwa [Addr.add_zero'] at hu
    exact (bw.cell (World.block_lt_of_cell? w5 _ h0)).trans h0
  have hc5 : ((w5.alloc (.cells #[.int .i64 2, .int .i64 2, .int .i64 0, .int .i64 1, .int .i64 1, .int .i64 (-14736), .int .i64 25400, .int .i64 (-14736), .int .i64 (-14736)] 50)).alloc (.cells #[.int .i64 0, .int .i64 0, .int .i64 0] 38)).cell? xa = some (.int .i8 99) := ((bt b5 bw).cell (World.block_lt_of_cell? _ _ C4.out)).trans C4.out
  clear hO hrow hu b5 L4 S4 C4 bw
  go_upto_region 3 with fail
  obtain ⟨t2, ht2⟩ : ∃ t2, w5.heap.size = t2 := ⟨_, rfl⟩
  obtain ⟨w6, hw6⟩ : ∃ w6, (w5.alloc (.cells #[.int .i64 2, .int .i64 2, .int .i64 0, .int .i64 1, .int .i64 1, .int .i64 (-14736), .int .i64 25400, .int .i64 (-14736), .int .i64 (-14736)] 50)).alloc (.cells #[.int .i64 0, .int .i64 0, .int .i64 0] 38) = w6 := ⟨_, rfl⟩
  rw [hw6, ht2] at s5
  rw [hw6] at hb5 hc5
  rw [hw6, ht2]
  have S6 : Hid (St W w6 [(t2 + 1, #[.int .i64 0, .int .i64 0, .int .i64 0], 38), (t2, #[.int .i64 2, .int .i64 2, .int .i64 0, .int .i64 1, .int .i64 1, .int .i64 (-14736), .int .i64 25400, .int .i64 (-14736), .int .i64 (-14736)], 50), (t1 + 1, #[.int .i64 0, .int .i64 0, .int .i64 0], 38), (t1, #[.int .i64 2, .int .i64 2, .int .i64 0, .int .i64 2, .int .i64 0, .int .i64 25400, .int .i64 25400, .int .i64 25400, .int .i64 50800], 50)]) := s5
  have C6 : Hid (w6.cell? xa = some (.int .i8 99)) := hc5
  have B6 : Hid (w6.cell? xb = some (.int .i8 (-29))) := hb5
  clear hw6 ht2 s5 hc5 hb5
  go_wp2_with fail
  refine (HTW.out _).mono ?_
  rintro e w7 ⟨g7, rfl, hL, b7⟩
  have L7 : Hid (LRow (w7.alloc (.cells #[.int .i8 127, .int .i8 127] 63)) (some ⟨g7, 0, none⟩) 1 1 twO twZ twB) := hL.below (bal _ _)
  have S7 : Hid (St W w7 _) := S6.out.call b7
  have hb67 := b7
  clear hL b7
  go_wp2_with fail
  refine (HF3.out _ g7 L7.out (w7.heap.size) (heap_alloc_new w7 _)).mono ?_
  rintro e w8 ⟨rfl, b8⟩
  have bw : Below w6.heap.size w6 ((w8.alloc (.cells #[.int .i64 0, .int .i64 0, .int .i64 0, .int .i64 0, .int .i64 0, .int .i64 0, .int .i64 0, .int .i64 0, .int .i64 0] 50)).alloc (.cells #[.int .i64 70, .int .i64 1, .int .i64 0] 38)) := bt hb67 (bt (bal w7 (.cells #[.int .i8 127, .int .i8 127] 63)) (bt b8 (bt (bal w8 _) (bal _ _))))
  have s9 := S6.out.call bw
  have hn9 := heap_alloc_new (w8.alloc (.cells #[.int .i64 0, .int .i64 0, .int .i64 0, .int .i64 0, .int .i64 0, .int .i64 0, .int .i64 0, .int .i64 0, .int .i64 0] 50)) (.cells #[.int .i64 70, .int .i64 1, .int .i64 0] 38)
  simp only [World.size_alloc] at hn9
  have hc9 := (bw.cell (World.block_lt_of_cell? _ _ C6.out)).trans C6.out
  have hb9 := (bw.cell (World.block_lt_of_cell? _ _ B6.out)).trans B6.out
  clear b8 hb67 L7 S7 S6 C6 B6 bw
  go_upto_region 4 with fail
  obtain ⟨t3, ht3⟩ : ∃ t3, w8.heap.size = t3 := ⟨_, rfl⟩
  obtain ⟨w9, hw9⟩ : ∃ w9, (w8.alloc (.cells #[.int .i64 0, .int .i64 0, .int .i64 0, .int .i64 0, .int .i64 0, .int .i64 0, .int .i64 0, .int .i64 0, .int .i64 0] 50)).alloc (.cells #[.int .i64 70, .int .i64 1, .int .i64 0] 38) = w9 := ⟨_, rfl⟩
  rw [hw9] at s9 hc9 hb9
  rw [hw9, ht3] at hn9
  rw [hw9, ht3]
  clear hw9 ht3
  have D9 : Hid (Below W.heap.size W w9) := s9.below
  obtain ⟨q1, g1, y1, q2, g2, y2, q3, g3, y3, q4, g4', y4, -⟩ := s9.rules
  obtain ⟨q5, g5, y5⟩ := cells_at hn9
  have e1 := eqFt 0 0 0 0 0 0 true (by decide)
  have e2 := eqFt 70 1 0 70 1 0 true (by decide)
  clear s9 hn9
  go_wp2
  go_ret
  exact ⟨rfl, D9.out⟩
end Go.Proofs.Ytgofmooidlejlaa.Kr

/- The document's Copy of layer 15: what it returns. -/
namespace Go.Proofs.Ytgofmooidlejlaa
open Go.ChangeShapes Go.WideShapes Go.ChangeAt Go.RowKit
set_option linter.unusedVariables false
theorem flat_len {α : Type} {nc : Nat} {E : α → List Value} (hE : ∀ p, (E p).length = nc) : ∀ ys : List α, (ys.flatMap E).length = ys.length * nc
  | [] => by simp
  | p :: r => by rw [List.flatMap_cons, List.length_append, hE, flat_len hE r, List.length_cons, Nat.add_mul, Nat.one_mul, Nat.add_comm]
theorem flat_at {α : Type} {nc : Nat} {E : α → List Value} (hE : ∀ p, (E p).length = nc) : ∀ (ys : List α) (j : Nat) (u : Value), (ys.flatMap E)[j]? = some u → ∃ i p q, ys[i]? = some p ∧ (E p)[q]? = some u ∧ j = i * nc + q
  | [], j, u, h => by simp at h
  | p :: r, j, u, h => by
    rw [List.flatMap_cons] at h
    rcases Nat.lt_or_ge j nc with g | g
    · rw [List.getElem?_append_left (by rw [hE]; exact g)] at h
      exact ⟨0, p, j, rfl, h, by omega⟩
    · rw [List.getElem?_append_right (by rw [hE]; exact g), hE] at h
      obtain ⟨i, p', q, h1, h2, h3⟩ := flat_at hE r _ u h
      exact ⟨i + 1, p', q, by simpa using h1, h2, by rw [Nat.add_mul, Nat.one_mul]; omega⟩
theorem flat_of {α : Type} {nc : Nat} {E : α → List Value} (hE : ∀ p, (E p).length = nc) : ∀ (ys : List α) (i : Nat) (p : α) (q : Nat) (u : Value), ys[i]? = some p → (E p)[q]? = some u → (ys.flatMap E)[i * nc + q]? = some u
  | [], i, p, q, u, h, _ => by simp at h
  | p' :: r, 0, p, q, u, h, hq => by
    simp only [List.getElem?_cons_zero, Option.some.injEq] at h
    subst h
    rw [List.flatMap_cons, Nat.zero_mul, Nat.zero_add, List.getElem?_append_left (List.getElem?_eq_some_iff.1 hq).1]
    exact hq
  | p' :: r, i + 1, p, q, u, h, hq => by
    rw [List.flatMap_cons, List.getElem?_append_right (by rw [hE, Nat.add_mul]; omega), hE, show (i + 1) * nc + q - nc = i * nc + q by rw [Nat.add_mul]; omega]
    exact flat_of hE r i p q u (by simpa using h) hq
theorem scs_len (p : Int × Int) : (scs p).length = 2 := rfl
theorem pcs_len (p : Pl) : (pcs p).length = 6 := rfl
theorem scs_one (p : Int × Int) : ∀ u ∈ scs p, u.oneCell' = true := by simp [scs, Value.oneCell']
theorem pcs_one (p : Pl) : ∀ u ∈ pcs p, u.oneCell' = true := by simp [pcs, Value.oneCell']
/-- What is owned is read. -/
theorem owns_erow {α : Type} {nc : Nat} {E : α → List Value} (hE : ∀ p, (E p).length = nc) {w : World} {base : Nat} {T : TypeId} {a : Option Addr} {n cap : Nat} {ys : List α} (h : w.ownsRow base T nc (.slice a n cap) n (ys.flatMap E)) (hl : ys.length = n) : ERow nc E w a n cap ys := by
  rcases h.2 with ⟨e, e0⟩ | ⟨g, cap', cur, e, hb, hg, hn, hm, hs, ht⟩
  · cases e
    exact ⟨hl, Nat.le_refl _, by unfold maxLen; omega, fun _ => rfl, fun x hx => by cases hx⟩
  · cases e
    refine ⟨hl, hn, hm, fun q => (by cases q), fun x hx i p hp j v hv => ?_⟩
    cases hx
    rw [Addr.add_add]
    exact h.cells rfl _ _ (flat_of hE ys i p j v hp hv)
/-- 'append' to an empty list of the call's own, from whatever slice of flat structs. -/
theorem wpList_appE {α : Type} {nc by8 : Nat} {T S : TypeId} {zv : Value} (E : α → List Value) (hE : ∀ p, (E p).length = nc) (h1 : ∀ p, ∀ u ∈ E p, u.oneCell' = true) (hu : Try.prog.underlying S = some (.slice T)) (hin : (Try.prog.info? T).map (fun i => (i.zero, i.size, i.bytes)) = some (some zv, nc, by8)) (hzs : zv.cells.size = nc) (hnc : 0 < nc) (hby : 1 ≤ by8)
    {w : World} {ops : Array Oper} {rest : List Oper} {o : Oper} {a : Act} {Q : Exit → Act → World → Prop} (hgd : o.guard = none) (s x : Operand)
    (ho : o.op = .call { callee := .builtin .append, args := #[s, x], argTypes := #[S, S] })
    (base : Nat) (v : Value) (ys : List α) (hs : a.eval s = v) (hown : w.ownsRow base T nc v 0 []) (ao : Option Addr) (m c : Nat) (hx : a.eval x = .slice ao m c) (hy : ERow nc E w ao m c ys)
    (hlen : m * by8 ≤ 140737488351232) (hbase : base ≤ w.heap.size)
    (h : ∀ v' w', w'.ownsRow base T nc v' m (ys.flatMap E) → w.grownBy w' v.ownBlock → (v ≠ .slice none 0 0 → v' ≠ .slice none 0 0) → wpList Try.prog ops Q rest (a.put o.dst v') w') : wpList Try.prog ops Q (o :: rest) a w := by
  obtain ⟨i0, hi, hz0, hz1, hz2⟩ := info_parts hin
  obtain ⟨hl, hc, hm, hn, hcell⟩ := hy
  have hm2 : m ≤ 140737488351232 := Nat.le_trans (Nat.le_mul_of_pos_right m (by omega)) hlen
  cases ao with
  | none =>
    obtain rfl : c = 0 := hn rfl
    obtain rfl : m = 0 := by omega
    obtain rfl : ys = [] := List.eq_nil_of_length_eq_zero hl
    refine wpList_append_own_none hgd s x _ ho base T i0 nc hu hi v 0 _ hs hown hx ?_
    exact h v w hown ⟨rfl, rfl, rfl, Nat.le_refl _, fun _ _ _ => rfl⟩ (fun q => q)
  | some ad =>
    refine wpList_append_own _ hgd s x _ ho base T i0 zv nc by8 hu hi hz0 hz1 hz2 hzs hnc v 0 _ hs hown ad m c (ys.flatMap E) hx (by rw [flat_len hE, hl]) ?_ ?_ ?_ ?_ hbase ?_
    · intro j u hj
      obtain ⟨i, p, q, g1, g2, rfl⟩ := flat_at hE ys j u hj
      rw [← Addr.add_add]
      exact hcell ad rfl i p g1 q u g2
    · intro u hu'
      obtain ⟨p, -, hp⟩ := List.mem_flatMap.1 hu'
      exact h1 p u hp
    · unfold maxLen; omega
    · rw [Nat.zero_add]; omega
    · intro v' w' g1 g2 g3
      rw [Nat.zero_add] at g1
      exact h v' w' (by simpa using g1) g2 (fun hv hv' => hv (g3.1 hv').1)
theorem owns_grown {w w' : World} {base : Nat} {e T : TypeId} {size : Nat} {v : Value} {n : Nat} {xs : List Value} {row : Option Nat} (h : w.ownsRow base e size v n xs) (q : w.grownBy w' row) (hr : ∀ b, row = some b → ∃ c, w.heap[b]? = some (.cells c T (0, 0))) (hT : T ≠ e) : w'.ownsRow base e size v n xs := by
  refine h.kept q ?_
  cases hb : row with
  | none => cases hv : v.ownBlock with
    | none => exact .inl rfl
    | some b => exact .inr (by simp)
  | some b =>
    obtain ⟨c, hc⟩ := hr b hb
    exact .inr (fun e' => own_ne h hc hT e'.symm)
theorem owns_below {w w' : World} {base : Nat} {e : TypeId} {size : Nat} {v : Value} {n : Nat} {xs : List Value} (h : w.ownsRow base e size v n xs) (q : Below w.heap.size w w') : w'.ownsRow base e size v n xs := by
  refine h.kept (row := none) ⟨q.os, q.tape, q.output, q.size, fun i hi _ => q.block i hi⟩ ?_
  cases hv : v.ownBlock with
  | none => exact .inl rfl
  | some b => exact .inr (by simp)
theorem owns_base {w : World} {b c : Nat} {e : TypeId} {size : Nat} {v : Value} {n : Nat} {xs : List Value} (h : w.ownsRow b e size v n xs) (q : c ≤ b) : w.ownsRow c e size v n xs := by
  refine ⟨h.1, ?_⟩
  rcases h.2 with h | ⟨g, cap, cur, h1, h2, h3⟩
  · exact .inl h
  · exact .inr ⟨g, cap, cur, h1, Nat.le_trans q h2, h3⟩
theorem owns_ty {w : World} {base : Nat} {e : TypeId} {size : Nat} {v : Value} {n : Nat} {xs : List Value} (h : w.ownsRow base e size v n xs) : ∀ b, v.ownBlock = some b → ∃ c, w.heap[b]? = some (.cells c e (0, 0)) := fun b hb => by
  rcases h.2 with ⟨rfl, -⟩ | ⟨f, cap, cur, rfl, -, h3, -⟩
  · simp [Value.ownBlock] at hb
  · obtain rfl : f = b := by simpa [Value.ownBlock] using hb
    exact ⟨cur, h3⟩
theorem owns_slice {w : World} {base : Nat} {e : TypeId} {size : Nat} {v : Value} {n : Nat} {xs : List Value} (h : w.ownsRow base e size v n xs) : ∃ a cap, v = .slice a n cap := by
  rcases h.2 with ⟨rfl, rfl⟩ | ⟨f, cap, cur, rfl, -⟩
  · exact ⟨_, _, rfl⟩
  · exact ⟨_, _, rfl⟩
/-- Copied plans: a list of lists, each owned, each in a block of its own. -/
def QOwn (w : World) (base : Nat) (v : Value) (P : List (List Pl)) : Prop :=
  ∃ f : Nat → Value, w.ownsRow base 53 1 v P.length ((List.range P.length).map f) ∧ (∀ i l, P[i]? = some l → w.ownsRow base 61 6 (f i) l.length (l.flatMap pcs) ∧ l.length * 48 ≤ 140737488351232) ∧
    ∀ i j, i < j → j < P.length → ∀ b b', (f i).ownBlock = some b → (f j).ownBlock = some b' → b < b'
theorem QOwn.below {w w' : World} {base : Nat} {v : Value} {P : List (List Pl)} (h : QOwn w base v P) (q : Below w.heap.size w w') : QOwn w' base v P := by
  obtain ⟨f, h1, h2, h3⟩ := h
  exact ⟨f, owns_below h1 q, fun i l hl => ⟨owns_below (h2 i l hl).1 q, (h2 i l hl).2⟩, h3⟩
theorem QOwn.nil (w : World) (base : Nat) : QOwn w base (.slice none 0 0) [] := ⟨fun _ => .slice none 0 0, World.ownsRow_nil _ _ _ _, fun i l hl => by simp at hl, fun i j _ hj => by simp at hj⟩
theorem QOwn.slice {w : World} {base : Nat} {v : Value} {P : List (List Pl)} (h : QOwn w base v P) : ∃ a cap, v = .slice a P.length cap := by
  obtain ⟨f, h1, -⟩ := h
  exact owns_slice h1
/-- What was copied is read. -/
theorem QOwn.q {w : World} {base : Nat} {a : Option Addr} {n cap : Nat} {P : List (List Pl)} (h : QOwn w base (.slice a n cap) P) : QRow w a n cap P := by
  obtain ⟨f, h1, h2, -⟩ := h
  rcases h1.2 with ⟨e, e0⟩ | ⟨g, cap', cur, e, hb, hg, hn, hm, hs, ht⟩
  · cases e
    exact ⟨e0, Nat.le_refl _, by unfold maxLen; omega, fun _ => rfl, fun x hx => by cases hx⟩
  · cases e
    refine ⟨rfl, hn, hm, fun q => (by cases q), fun x hx i l hl => ?_⟩
    cases hx
    have hi : i < P.length := (List.getElem?_eq_some_iff.1 hl).1
    obtain ⟨g1, g2⟩ := h2 i l hl
    obtain ⟨ca, cc, e⟩ := owns_slice g1
    refine ⟨ca, cc, ?_, ?_, g2⟩
    · refine h1.cells rfl _ _ ?_
      rw [List.getElem?_map, List.getElem?_range hi, Option.map_some, e]
    · rw [e] at g1
      exact owns_erow pcs_len g1 rfl
end Go.Proofs.Ytgofmooidlejlaa

/- The walk of KernWide. -/
namespace Go.Proofs.Ytgofmooidlejlaa.Kr
open Go.ChangeShapes Go.WideShapes Go.ChangeAt Go.RowKit
set_option linter.unusedVariables false
def PlIn (cs : List Value) : Prop :=
  ∃ (b0 : Int) (b1 : Int) (b2 : Int) (b3 : Int) (b4 : Int) (b5 : Int), cs = [.int .i64 b0, .int .i64 b1, .int .i64 b2, .int .i64 b3, .int .i64 b4, .int .i64 b5] ∧ (Lit.int .i64 b0).wf = true ∧ (Lit.int .i64 b1).wf = true ∧ (Lit.int .i64 b2).wf = true ∧ (Lit.int .i64 b3).wf = true ∧ (Lit.int .i64 b4).wf = true ∧ (Lit.int .i64 b5).wf = true
theorem chans_of {w : World} {a : Option Addr} {n c : Nat} (h : ORow 6 PlIn w a n c) : ∃ R, ERow 6 pcs w a n c R := by
  obtain ⟨h1, h2, h3, h4⟩ := h
  cases a with
  | none =>
    have := h3 rfl
    obtain rfl : n = 0 := by omega
    exact ⟨[], ⟨rfl, by omega, h2, h3, fun x hx => by cases hx⟩⟩
  | some x =>
    have q : ∀ i, ∃ p : Pl, (i < n → ∀ j v, (pcs p)[j]? = some v → w.cell? ((x.add (i * 6)).add j) = some v) := by
      intro i
      by_cases hi : i < n
      · obtain ⟨cs, -, ⟨b0, b1, b2, b3, b4, b5, rfl, -⟩, g⟩ := h4 x rfl i hi
        refine ⟨(b0, b1, b2, b3, b4, b5), fun _ j v hv => ?_⟩
        have hj : j < 6 := (List.getElem?_eq_some_iff.1 hv).1
        rw [Addr.add_add, g j hj]
        exact hv
      · exact ⟨(0, 0, 0, 0, 0, 0), fun q => absurd q hi⟩
    refine ⟨(List.range n).map fun i => Classical.choose (q i), by simp, h1, h2, h3, fun y hy i p hp j v hv => ?_⟩
    cases hy
    have hi : i < n := by simpa using (List.getElem?_eq_some_iff.1 hp).1
    rw [List.getElem?_map, List.getElem?_range hi] at hp
    simp only [Option.map_some, Option.some.injEq] at hp
    subst hp
    exact Classical.choose_spec (q i) hi j v hv
/-- What Op answers doesn't hang on the claims. -/
theorem op_fix (h w c lo hi ot : Int) (oa : Option Addr) (on oc : Nat) (O : Nat → Nat → Int) (Z B : Nat → List Int) (W : World) (hL : LRow W oa on oc O Z B) (op : Int) (PS : List Pl) (pl : Nat) (hpl : PS.length = pl) (ad : Option Addr) (n cap : Nat) (xs : List Int) (hX : IRow .i8 W ad n cap xs) (bd : Option Addr) (nb capb : Nat) (ys : List Int) (hY : IRow .i8 W bd nb capb ys) (l u : Int) :
    ∃ (T : Tr) (L : List Int) (F1 F2 F3 : Int), ((∀ q ∈ PS, q.1 = 32) → T.wd) ∧ ∀ (W' : World), Below W.heap.size W W' → ∀ (pa : Option Addr) (pc : Nat) (P' : List Pl), (P' = PS ∨ P' = PS.map (cm l u)) → ERow 6 pcs W' pa pl pc P' →
      Calls Try.prog 8 #[.agg #[.int .i64 h, .int .i64 w, .int .i64 c, .int .i64 lo, .int .i64 hi, .slice oa on oc, .int .i64 ot], .int .i64 op, .slice pa pl pc, .slice ad n cap, .slice bd nb capb] W' fun e w' => (∃ v, e = .returned (.tuple #[v, .agg T.cs, .agg #[.int .i64 F1, .int .i64 F2, .int .i64 F3]]) ∧ Own .i8 63 w' W'.heap.size v L) ∧ Below W'.heap.size W' w' := by
  obtain ⟨Re, Ra, RL, Rw, hR⟩ : ∃ Re Ra RL Rw, gtR O h w c lo hi ot on = (Re, Ra, RL, Rw) := ⟨_, _, _, _, rfl⟩
  by_cases he : Re = 0
  · subst he
    obtain ⟨rfl, -⟩ := gtR_ok hR
    by_cases ho : op < 1 ∨ (on : Int) < op
    · refine ⟨Tr.z, [], 3, 0, 0, fun _ => Tr.wd_z, fun W' hb pa pc P' hP hE => (op_p h w c lo hi ot oa on oc O Z B W' (hL.below hb) op pa pl pc P' ad n cap xs bd nb capb ys Rw RL hR ho).mono ?_⟩
      rintro e w' ⟨rfl, hb'⟩
      exact ⟨⟨_, rfl, own_none _ _ _ _⟩, hb'⟩
    · obtain ⟨i, hi0⟩ : ∃ i : Nat, op = (i : Int) + 1 := ⟨(op - 1).toNat, by omega⟩
      have hi2 : i < on := by omega
      obtain ⟨E1, E2, E3, hE0⟩ : ∃ E1 E2 E3, oLn O RL i n pl nb PS = (E1, E2, E3) := ⟨_, _, _, rfl⟩
      by_cases h0 : E1 = 0
      · subst h0
        refine ⟨oTk (O i) (RL.getD (O i 1).toNat (0, 0, 0)) (RL.getD (i + 1) (0, 0, 0)) (Z i) (B i) xs PS, oNm (O i) (RL.getD (O i 1).toNat (0, 0, 0)) (RL.getD (i + 1) (0, 0, 0)) (Z i) (B i) xs ys PS, 0, E2, E3, fun h32 => ?_, fun W' hb pa pc P' hP hE => ?_⟩
        · unfold oTk
          split
          · rename_i h4
            have hC : 0 < (RL.getD (i + 1) (0, 0, 0)).2.2 ∧ (PS.length : Int) = (RL.getD (i + 1) (0, 0, 0)).2.2 := by
              obtain ⟨ja, jb, ea, la, eb, lb', hO⟩ := opd_of hR hi2
              obtain ⟨x0, y0, v0, hA⟩ : ∃ x y v, RL.getD ja (0, 0, 0) = (x, y, v) := ⟨_, _, _, rfl⟩
              obtain ⟨H, V, C, hB⟩ : ∃ H V C, RL.getD (i + 1) (0, 0, 0) = (H, V, C) := ⟨_, _, _, rfl⟩
              obtain ⟨s, -⟩ := hO _ _ _ _ _ _ hA hB
              have h3 := (vS_yes s.hB).2.2.1
              rw [hB]
              refine ⟨by simp only; omega, ?_⟩
              unfold oLn lnE at hE0
              rw [hB, if_pos h4] at hE0
              split at hE0
              · simp only [Prod.mk.injEq] at hE0
                omega
              · rename_i hq
                simp only [not_or, Decidable.not_not] at hq
                rw [hpl]; exact hq.2.1
            exact dsT_wd _ _ _ _ _ _ _ _ _ _ _ _ _ _ _ _ _ PS hC.1 (pcA_32 hC.2 h32) _
          · exact Tr.wd_z
        · have hE2 : oLn O RL i n pl nb P' = (0, E2, E3) := by
            rcases hP with rfl | rfl
            · exact hE0
            · rw [oLn_cm]; exact hE0
          refine (op_i h w c lo hi ot oa on oc O Z B W' (hL.below hb) op pa pl pc P' ad n cap xs bd nb capb ys hE (hX.below hb) (hY.below hb) Rw RL hR i hi2 hi0 0 E2 E3 hE2).mono ?_
          rintro e w' ⟨⟨v, T, rfl, hq⟩, hb'⟩
          rcases hq with ⟨q0, -⟩ | ⟨-, hO, rfl⟩
          · exact absurd rfl q0
          · rcases hP with rfl | rfl
            · exact ⟨⟨v, rfl, hO⟩, hb'⟩
            · rw [oNm_cm] at hO
              rw [oTk_cm]
              exact ⟨⟨v, rfl, hO⟩, hb'⟩
      · refine ⟨Tr.z, [], E1, E2, E3, fun _ => Tr.wd_z, fun W' hb pa pc P' hP hE => ?_⟩
        have hE2 : oLn O RL i n pl nb P' = (E1, E2, E3) := by
          rcases hP with rfl | rfl
          · exact hE0
          · rw [oLn_cm]; exact hE0
        refine (op_i h w c lo hi ot oa on oc O Z B W' (hL.below hb) op pa pl pc P' ad n cap xs bd nb capb ys hE (hX.below hb) (hY.below hb) Rw RL hR i hi2 hi0 E1 E2 E3 hE2).mono ?_
        rintro e w' ⟨⟨v, T, rfl, hq⟩, hb'⟩
        rcases hq with ⟨-, rfl, rfl⟩ | ⟨q0, -⟩
        · exact ⟨⟨_, rfl, own_none _ _ _ _⟩, hb'⟩
        · exact absurd q0 h0
  · refine ⟨Tr.z, [], Re, Ra, 0, fun _ => Tr.wd_z, fun W' hb pa pc P' hP hE => (op_m h w c lo hi ot oa on oc O Z B W' (hL.below hb) op pa pl pc P' ad n cap xs bd nb capb ys Re Ra Rw RL hR he).mono ?_⟩
    rintro e w' ⟨rfl, hb'⟩
    exact ⟨⟨_, rfl, own_none _ _ _ _⟩, hb'⟩
theorem lit6' (w : World) (base : Nat) (hb : base ≤ w.heap.size) : (w.alloc (.cells #[] 61)).ownsRow base 61 6 (.slice (some ⟨w.heap.size, 0, none⟩) 0 0) 0 [] := by
  have := World.ownsRow_lit (base := base) (e := 61) (size := 6) w #[] 0 hb (by unfold maxLen; omega) (by simp)
  simpa using this
theorem eqTr (a1 a2 a3 a4 a5 a6 a7 a8 a9 : Int) : ∀ W, (binOp .eql 50 (.agg #[.int .i64 a1, .int .i64 a2, .int .i64 a3, .int .i64 a4, .int .i64 a5, .int .i64 a6, .int .i64 a7, .int .i64 a8, .int .i64 a9]) (.agg #[.int .i64 a1, .int .i64 a2, .int .i64 a3, .int .i64 a4, .int .i64 a5, .int .i64 a6, .int .i64 a7, .int .i64 a8, .int .i64 a9])).run Try.prog W = .ok (.bool true) W := by
  intro W; simp [go_sem]
/-- A claim written over. -/
theorem erow_claim {w : World} {g cap pl y : Nat} {cur : Array Value} {xs : List Pl} {q : Pl} {l u : Int} (h : ERow 6 pcs w (some ⟨g, 0, none⟩) pl cap xs) (hg : w.heap[g]? = some (.cells cur 61 (0, 0))) (hs : pl * 6 ≤ cur.size) (hy : y < pl) (hq : xs[y]? = some q) :
    ERow 6 pcs ((((w.setCell ⟨g, y * 6 + 2, none⟩ (.int .i64 l)).setCell ⟨g, y * 6 + 3, none⟩ (.int .i64 u)).setCell ⟨g, y * 6 + 4, none⟩ (.int .i64 l)).setCell ⟨g, y * 6 + 5, none⟩ (.int .i64 u)) (some ⟨g, 0, none⟩) pl cap (xs.set y (cm l u q)) ∧
    ∃ cur', ((((w.setCell ⟨g, y * 6 + 2, none⟩ (.int .i64 l)).setCell ⟨g, y * 6 + 3, none⟩ (.int .i64 u)).setCell ⟨g, y * 6 + 4, none⟩ (.int .i64 l)).setCell ⟨g, y * 6 + 5, none⟩ (.int .i64 u)).heap[g]? = some (.cells cur' 61 (0, 0)) ∧ pl * 6 ≤ cur'.size := by
  have e := heap_setCell_at (i := y * 6 + 5) (v := .int .i64 u) (heap_setCell_at (i := y * 6 + 4) (v := .int .i64 l) (heap_setCell_at (i := y * 6 + 3) (v := .int .i64 u) (heap_setCell_at (i := y * 6 + 2) (v := .int .i64 l) hg)))
  refine ⟨⟨by rw [List.length_set]; exact h.1, h.2.1, h.2.2.1, h.2.2.2.1, fun x hx i p hp j v hv => ?_⟩, _, e, by simpa using hs⟩
  cases hx
  rw [Addr.add_lit, Addr.add_lit, (cells_at e).1]
  have hj : j < 6 := (List.getElem?_eq_some_iff.1 hv).1
  have hlen := h.1
  by_cases hi : i = y
  · subst hi
    rw [List.getElem?_set_self (by omega)] at hp
    simp only [Option.some.injEq] at hp
    subst hp
    have old : ∀ j v, (pcs q)[j]? = some v → cur[0 + i * 6 + j]? = some v := fun j v hv => by
      have := h.2.2.2.2 _ rfl i q hq j v hv
      rwa [Addr.add_lit, Addr.add_lit, (cells_at hg).1] at this
    rcases (show j = 0 ∨ j = 1 ∨ j = 2 ∨ j = 3 ∨ j = 4 ∨ j = 5 by omega) with rfl | rfl | rfl | rfl | rfl | rfl
    · have o := old 0 _ rfl
      simp only [pcs, cm, List.getElem?_cons_zero, Option.some.injEq] at hv
      subst hv
      simp only [Array.getElem?_setIfInBounds]
      rw [if_neg (by omega), if_neg (by omega), if_neg (by omega), if_neg (by omega)]
      exact o
    · have o := old 1 _ rfl
      simp only [pcs, cm, List.getElem?_cons_zero, List.getElem?_cons_succ, Option.some.injEq] at hv
      subst hv
      simp only [Array.getElem?_setIfInBounds]
      rw [if_neg (by omega), if_neg (by omega), if_neg (by omega), if_neg (by omega)]
      exact o
    all_goals
      simp only [pcs, cm, List.getElem?_cons_zero, List.getElem?_cons_succ, Option.some.injEq] at hv
      subst hv
      simp only [Array.getElem?_setIfInBounds, Array.size_setIfInBounds]
      repeat' split
      all_goals first | rfl | omega
  · rw [List.getElem?_set_ne (by omega)] at hp
    have old := h.2.2.2.2 _ rfl i p hp j v hv
    rw [Addr.add_lit, Addr.add_lit, (cells_at hg).1] at old
    simp only [Array.getElem?_setIfInBounds]
    rw [if_neg (by omega), if_neg (by omega), if_neg (by omega), if_neg (by omega)]
    exact old
theorem mix_next {l u : Int} {PS : List Pl} {y : Nat} {q : Pl} (h : PS[y]? = some q) : ((PS.take y).map (cm l u) ++ PS.drop y)[y]? = some q ∧ ((PS.take y).map (cm l u) ++ PS.drop y).set y (cm l u q) = (PS.take (y + 1)).map (cm l u) ++ PS.drop (y + 1) := by
  have hy : y < PS.length := (List.getElem?_eq_some_iff.1 h).1
  have hl : ((PS.take y).map (cm l u)).length = y := by rw [List.length_map, List.length_take]; omega
  have hd : PS.drop y = q :: PS.drop (y + 1) := by
    rw [List.drop_eq_getElem_cons hy]
    congr 1
    exact (List.getElem?_eq_some_iff.1 h).2
  constructor
  · rw [List.getElem?_append_right (by omega), hl, Nat.sub_self, hd]; rfl
  · rw [hd, List.set_append_right _ _ (by omega), hl, Nat.sub_self, List.set_cons_zero, List.take_add_one, h, List.map_append]
    simp
end Go.Proofs.Ytgofmooidlejlaa.Kr
