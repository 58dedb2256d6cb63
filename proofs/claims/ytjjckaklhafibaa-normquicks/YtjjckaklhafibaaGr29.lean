/- What sums of package plain returns: all sums of an op that reduces. What Totals of package plain returns. The walk of NormHolds. The walk of NormQuicks. -/
import Derived.Test.YtjjckaklhafibaaGr24
import Derived.Test.YtjjckaklhafibaaGr28
/- What sums of package plain returns: all sums of an op that reduces. -/
namespace Go.Proofs.Ytjjckaklhafibaa
open Go.ChangeShapes Go.WideShapes Go.ChangeAt Go.RowKit
set_option linter.unusedVariables false
theorem St.ad {w0 w : World} {B : Nat} {c : Array Value} {t : TypeId} {l : List (Nat × Array Value × TypeId)} (h : St w0 w l) (hb : w.heap[B]? = some (.cells c t (0, 0))) (hB : w0.heap.size ≤ B) : St w0 w ((B, c, t) :: l) :=
  ⟨h.1, fun x hx => by
    rcases List.mem_cons.1 hx with rfl | hx
    · exact ⟨hb, hB⟩
    · exact h.2 x hx⟩
/-- An append to a list of another type leaves the listed blocks. -/
theorem St.grow {w0 w w' : World} {k : IntKind} {T : TypeId} {base : Nat} {v : Value} {zs : List Int} {l : List (Nat × Array Value × TypeId)} (h : St w0 w l) (o : Own k T w base v zs) (g : w.grownBy w' v.ownBlock) (hB : w0.heap.size ≤ base) (hT : ∀ x ∈ l, x.2.2 ≠ T) : St w0 w' l :=
  ⟨o.bel h.1 g hB h.1.size, fun x hx => by
    have hx' := h.2 x hx
    refine ⟨?_, hx'.2⟩
    rw [g.block x.1 (lt_of_heap hx'.1) (own_ne o.1 hx'.1 (hT x hx))]
    exact hx'.1⟩
theorem of_alone (k a b m kh kw sh sw tp lf bt rt : Int) (wa : Option Addr) (lw wc : Nat) (ba : Option Addr) (lb bc : Nat) (sm ss um us z p lo hi h w c H V C : Int) (s : Opd k b m kh kw sh sw tp lf bt rt lw lb sm ss um us z p lo hi h w c H V C) (hk : k ≤ 4) (zs bs : List Int) (W : World) (hZ : IRow .i16 W wa lw wc zs) (hB : IRow .i32 W ba lb bc bs) (hlw : lw * 2 ≤ 140737488351232) (hlb : lb * 4 ≤ 140737488351232) (g : Nat) (hg : W.heap[g]? = some (.cells #[.int .i64 k, .int .i64 0, .int .i64 b, .int .i64 m, .int .i64 kh, .int .i64 kw, .int .i64 sh, .int .i64 sw, .int .i64 tp, .int .i64 lf, .int .i64 bt, .int .i64 rt, .slice wa lw wc, .slice ba lb bc, .int .i64 sm, .int .i64 ss, .int .i64 um, .int .i64 us, .int .i64 z, .int .i64 p, .int .i64 lo, .int .i64 hi] 39 (0, 0))) (ch at' : Int) (hch : 1 ≤ ch ∧ ch ≤ C) (hat : 0 ≤ at' ∧ at' < H * V) :
    Calls Try.prog 16 #[.agg #[.int .i64 h, .int .i64 w, .int .i64 c, .int .i64 0, .int .i64 0, .slice (some ⟨g, 0, none⟩) 1 1, .int .i64 0], .int .i64 1, .int .i64 ch, .int .i64 at'] W fun e w' => (∃ v, e = .returned (.tuple #[v, .int .i64 (biA k ch bs), .int .i64 0]) ∧ OTm w' W.heap.size v (siL k kh kw sh sw tp lf bt rt h w c ch at' zs)) ∧ Below W.heap.size W w' := by
  obtain ⟨Rw, hR⟩ := alone_g (a := 0) s hk
  have hcell : ∀ q v, [.int .i64 k, .int .i64 0, .int .i64 b, .int .i64 m, .int .i64 kh, .int .i64 kw, .int .i64 sh, .int .i64 sw, .int .i64 tp, .int .i64 lf, .int .i64 bt, .int .i64 rt, .slice wa lw wc, .slice ba lb bc, .int .i64 sm, .int .i64 ss, .int .i64 um, .int .i64 us, .int .i64 z, .int .i64 p, .int .i64 lo, .int .i64 hi][q]? = some v → W.cell? ((⟨g, 0, none⟩ : Addr).add q) = some v := lcells hg (fget [.int .i64 k, .int .i64 0, .int .i64 b, .int .i64 m, .int .i64 kh, .int .i64 kw, .int .i64 sh, .int .i64 sw, .int .i64 tp, .int .i64 lf, .int .i64 bt, .int .i64 rt, .slice wa lw wc, .slice ba lb bc, .int .i64 sm, .int .i64 ss, .int .i64 um, .int .i64 us, .int .i64 z, .int .i64 p, .int .i64 lo, .int .i64 hi] [])
  have e0 : ((⟨g, 0, none⟩ : Addr).add (0 * 22)) = ⟨g, 0, none⟩ := by rw [Addr.add_lit]
  have hL : LRow W (some ⟨g, 0, none⟩) 1 1 (fun _ => oL k 0 b m kh kw sh sw tp lf bt rt (lw : Int) (lb : Int) sm ss um us z p lo hi) (fun _ => zs) (fun _ => bs) := by
    refine ⟨Nat.le_refl _, by unfold maxLen; omega, (fun h => by cases h), fun x hx i hi => ?_⟩
    cases hx
    obtain rfl : i = 0 := by omega
    rw [e0]
    exact ⟨wa, lw, wc, ba, lb, bc, rfl, rfl, hcell, hZ, hB, hlw, hlb⟩
  have hF : Fnd W (some ⟨g, 0, none⟩) 1 (fun _ => oL k 0 b m kh kw sh sw tp lf bt rt (lw : Int) (lb : Int) sm ss um us z p lo hi) (fun _ => zs) (fun _ => bs) [(h, w, c), (H, V, C)] 0 ⟨g, 0, none⟩ wa lw wc ba lb bc h w c H V C :=
    ⟨by omega, rfl, rfl, rfl, fun q v hq => by rw [e0]; exact hcell q v hq, hZ, hB, rfl, rfl, s.si hk, ⟨Int.le_refl _, Int.le_refl _⟩, decide_eq_true (show 1 ≤ k ∧ k ≤ 4 by have := s.hk; omega)⟩
  exact of_ok h w c 0 0 0 (some ⟨g, 0, none⟩) 1 1 (fun _ => oL k 0 b m kh kw sh sw tp lf bt rt (lw : Int) (lb : Int) sm ss um us z p lo hi) (fun _ => zs) (fun _ => bs) W hL ch at' [(h, w, c), (H, V, C)] Rw hR 0 ⟨g, 0, none⟩ wa lw wc ba lb bc h w c H V C hF hch hat
set_option maxRecDepth 100000 in
set_option maxHeartbeats 8000000 in
theorem sums_any (k a b m kh kw sh sw tp lf bt rt : Int) (wa : Option Addr) (lw wc : Nat) (ba : Option Addr) (lb bc : Nat) (sm ss um us z p lo hi h w c H V C : Int) (r : Nat) (W : World) (hr : W.heap[r]? = some (.cells #[.int .i64 k, .int .i64 a, .int .i64 b, .int .i64 m, .int .i64 kh, .int .i64 kw, .int .i64 sh, .int .i64 sw, .int .i64 tp, .int .i64 lf, .int .i64 bt, .int .i64 rt, .slice wa lw wc, .slice ba lb bc, .int .i64 sm, .int .i64 ss, .int .i64 um, .int .i64 us, .int .i64 z, .int .i64 p, .int .i64 lo, .int .i64 hi, .int .i64 h, .int .i64 w, .int .i64 c, .int .i64 H, .int .i64 V, .int .i64 C] 80 (0, 0))) (s : Opd k b m kh kw sh sw tp lf bt rt lw lb sm ss um us z p lo hi h w c H V C) (hk : k ≤ 4) (zs bs : List Int) (hZ : IRow .i16 W wa lw wc zs) (hB : IRow .i32 W ba lb bc bs) (hlw : lw * 2 ≤ 140737488351232) (hlb : lb * 4 ≤ 140737488351232) (ad : Option Addr) (n cap : Nat) (xs : List Int) (hX : IRow .i8 W ad n cap xs) (hn : (n : Int) = h * w * c) :
    Calls Try.prog 29 #[.pointer (some ⟨r, 0, none⟩), .slice ad n cap] W fun e w' => (∃ v, e = .returned v ∧ Own .i64 2 w' W.heap.size v (suL k kh kw sh sw tp lf bt rt h w c C p zs bs xs (H * V * C).toNat)) ∧ Below W.heap.size W w' := by
  have hrz := lt_of_heap hr
  have hp8 : I8 p := by have := s.rz; unfold rzB vlB at this; simp at this; exact ⟨this.2.1, this.2.2⟩
  have HR : Hid (W.heap[r]? = some (.cells #[.int .i64 k, .int .i64 a, .int .i64 b, .int .i64 m, .int .i64 kh, .int .i64 kw, .int .i64 sh, .int .i64 sw, .int .i64 tp, .int .i64 lf, .int .i64 bt, .int .i64 rt, .slice wa lw wc, .slice ba lb bc, .int .i64 sm, .int .i64 ss, .int .i64 um, .int .i64 us, .int .i64 z, .int .i64 p, .int .i64 lo, .int .i64 hi, .int .i64 h, .int .i64 w, .int .i64 c, .int .i64 H, .int .i64 V, .int .i64 C] 80 (0, 0))) := hr
  have HAl : Hid (Calls Try.prog 43 #[.pointer (some ⟨r, 0, none⟩)] W _) := alone_any k a b m kh kw sh sw tp lf bt rt wa lw wc ba lb bc sm ss um us z p lo hi h w c H V C r W hr
  have HP : Hid (∀ W, Calls Try.prog 28 #[.agg #[.int .i64 H, .int .i64 V, .int .i64 C]] W fun e w' => e = .returned (.int .i64 (H * V * C)) ∧ Below W.heap.size W w') := fun W => places_plain H V C W s.hB
  have HOf : Hid (∀ (w' : World) (g : Nat), Below W.heap.size W w' → w'.heap[g]? = some (.cells #[.int .i64 k, .int .i64 0, .int .i64 b, .int .i64 m, .int .i64 kh, .int .i64 kw, .int .i64 sh, .int .i64 sw, .int .i64 tp, .int .i64 lf, .int .i64 bt, .int .i64 rt, .slice wa lw wc, .slice ba lb bc, .int .i64 sm, .int .i64 ss, .int .i64 um, .int .i64 us, .int .i64 z, .int .i64 p, .int .i64 lo, .int .i64 hi] 39 (0, 0)) → ∀ ch at' : Int, (1 ≤ ch ∧ ch ≤ C) → (0 ≤ at' ∧ at' < H * V) → Calls Try.prog 16 #[.agg #[.int .i64 h, .int .i64 w, .int .i64 c, .int .i64 0, .int .i64 0, .slice (some ⟨g, 0, none⟩) 1 1, .int .i64 0], .int .i64 1, .int .i64 ch, .int .i64 at'] w' fun e w'' => (∃ v, e = .returned (.tuple #[v, .int .i64 (biA k ch bs), .int .i64 0]) ∧ OTm w'' w'.heap.size v (siL k kh kw sh sw tp lf bt rt h w c ch at' zs)) ∧ Below w'.heap.size w' w'') :=
    fun w' g hb hg ch at' hch hat => of_alone k a b m kh kw sh sw tp lf bt rt wa lw wc ba lb bc sm ss um us z p lo hi h w c H V C s hk zs bs w' (hZ.below hb) (hB.below hb) hlw hlb g hg ch at' hch hat
  have HSm : Hid (∀ (w' : World), Below W.heap.size W w' → ∀ (v : Value) (ch at' : Int), (1 ≤ ch ∧ ch ≤ C) → TV w' v (siL k kh kw sh sw tp lf bt rt h w c ch at' zs) → Calls Try.prog 44 #[.pointer (some ⟨r, 0, none⟩), v, .slice ad n cap] w' fun e w'' => e = .returned (.int .i64 (smV p xs (siL k kh kw sh sw tp lf bt rt h w c ch at' zs))) ∧ Below w'.heap.size w' w'') :=
    fun w' hb v ch at' hch hT => by
      obtain ⟨f1, f2⟩ := siL_facts (s.si hk) hZ.2.2.2.1 hch at'
      rw [← hn] at f2
      exact sum_any k a b m kh kw sh sw tp lf bt rt wa lw wc ba lb bc sm ss um us z p lo hi h w c H V C r w' ((hb.block r hrz).trans hr) v _ hT ad n cap xs (hX.below hb) hp8 f1 f2
  have HSb : Hid (∀ ch at' : Int, (1 ≤ ch ∧ ch ≤ C) → (-4294967296 ≤ suA k kh kw sh sw tp lf bt rt h w c p zs bs xs ch at' ∧ suA k kh kw sh sw tp lf bt rt h w c p zs bs xs ch at' ≤ 4294967296) ∧ suA k kh kw sh sw tp lf bt rt h w c p zs bs xs ch at' = biA k ch bs + smV p xs (siL k kh kw sh sw tp lf bt rt h w c ch at' zs)) := fun ch at' hch => ⟨suA_bd (s.si hk) hZ.2.2.2.1 hB.2.2.2.1 hp8 hX.i8 hch at', rfl⟩
  obtain ⟨hH, hV, hC, -⟩ := vS_yes s.hB
  have p3 := vS_bd s.hB
  clear hr hZ hB hX hn s hlw hlb hp8
  obtain ⟨CN, rfl⟩ : ∃ CN : Nat, C = (CN : Int) := ⟨C.toNat, by omega⟩
  obtain ⟨P, hP⟩ : ∃ P : Nat, H * V = (P : Int) := ⟨(H * V).toNat, by omega⟩
  rw [hP] at HP HOf p3 ⊢
  obtain ⟨N, hN⟩ : ∃ N : Nat, (P : Int) * (CN : Int) = (N : Int) := ⟨P * CN, by rw [Int.natCast_mul]⟩
  have HNN : Hid (P * CN = N) := by
    have : ((P * CN : Nat) : Int) = (N : Int) := by rw [Int.natCast_mul]; exact hN
    unfold Hid; omega
  rw [hN] at HP p3 ⊢
  rw [Int.toNat_natCast]
  clear hN
  obtain ⟨c1, f1, z1⟩ := cells_at HR.out
  go_enter Try.func29, Try.ntmps29
  go_wp2_with fail
  refine HAl.out.mono ?_
  rintro e w1 ⟨g, rfl, hgc, hgb, hb1⟩
  obtain ⟨mb, hmb⟩ : ∃ mb, w1.heap.size = mb := ⟨_, rfl⟩
  have s1 := (((St.start W).call hb1).ad hgc hgb).new (c := #[.int .i64 h, .int .i64 w, .int .i64 c, .int .i64 0, .int .i64 0, .slice (some ⟨g, 0, none⟩) 1 1, .int .i64 0]) (t := 26)
  clear hb1 hgc c1 f1 HAl
  obtain ⟨c2, f2, z2⟩ := cells_at ((s1.below.block r hrz).trans HR.out)
  go_wp2_with fail
  rw [hmb] at s1
  clear hmb
  refine (HP.out _).mono ?_
  rintro e w2 ⟨rfl, hb2⟩
  have S2 : Hid (St W w2 [(mb, #[.int .i64 h, .int .i64 w, .int .i64 c, .int .i64 0, .int .i64 0, .slice (some ⟨g, 0, none⟩) 1 1, .int .i64 0], 26), (g, #[.int .i64 k, .int .i64 0, .int .i64 b, .int .i64 m, .int .i64 kh, .int .i64 kw, .int .i64 sh, .int .i64 sw, .int .i64 tp, .int .i64 lf, .int .i64 bt, .int .i64 rt, .slice wa lw wc, .slice ba lb bc, .int .i64 sm, .int .i64 ss, .int .i64 um, .int .i64 us, .int .i64 z, .int .i64 p, .int .i64 lo, .int .i64 hi], 39)]) := s1.call hb2
  clear s1 hb2 c2 f2 z2 HP
  go_wp2_with (at_make; refine wpList_mk0 kt_i64 rfl _ _ rfl N _ rfl rfl rfl (by omega) W.heap.size S2.out.size ?_; intro v0 w3 own0 hb3; have S3 : Hid (St W w3 [(mb, #[.int .i64 h, .int .i64 w, .int .i64 c, .int .i64 0, .int .i64 0, .slice (some ⟨g, 0, none⟩) 1 1, .int .i64 0], 26), (g, #[.int .i64 k, .int .i64 0, .int .i64 b, .int .i64 m, .int .i64 kh, .int .i64 kw, .int .i64 sh, .int .i64 sw, .int .i64 tp, .int .i64 lf, .int .i64 bt, .int .i64 rt, .slice wa lw wc, .slice ba lb bc, .int .i64 sm, .int .i64 ss, .int .i64 um, .int .i64 us, .int .i64 z, .int .i64 p, .int .i64 lo, .int .i64 hi], 39)]) := S2.out.call hb3; have Ho0 : Hid (Own .i64 2 w3 W.heap.size v0 []) := own0; clear own0 hb3 S2; obtain ⟨c1, f1, z1'⟩ := cells_at ((S3.out.below.block r hrz).trans HR.out))
  go_quiet (fail)
  have S4 : Hid (St W (w3.drewN nq) [(mb, #[.int .i64 h, .int .i64 w, .int .i64 c, .int .i64 0, .int .i64 0, .slice (some ⟨g, 0, none⟩) 1 1, .int .i64 0], 26), (g, #[.int .i64 k, .int .i64 0, .int .i64 b, .int .i64 m, .int .i64 kh, .int .i64 kw, .int .i64 sh, .int .i64 sw, .int .i64 tp, .int .i64 lf, .int .i64 bt, .int .i64 rt, .slice wa lw wc, .slice ba lb bc, .int .i64 sm, .int .i64 ss, .int .i64 um, .int .i64 us, .int .i64 z, .int .i64 p, .int .i64 lo, .int .i64 hi], 39)]) := S3.out.call (dbel _ _)
  have Ho4 : Hid (Own .i64 2 (w3.drewN nq) W.heap.size v0 []) := Ho0.out.below (dbel _ _)
  obtain ⟨w4, hw4⟩ : ∃ w4, w3.drewN nq = w4 := ⟨_, rfl⟩
  rw [hw4] at S4 Ho4 ⊢
  clear hw4 S3 Ho0 c1 f1
  go_wp2
  go_loopw [6, 31] (fun v i wr => ∃ (y : Nat) (v1 : Value), v1 = v ∧ y ≤ P ∧ i = .int .i64 y ∧ Own .i64 2 wr W.heap.size v (suL k kh kw sh sw tp lf bt rt h w c CN p zs bs xs (y * CN)) ∧ St W wr [(mb, #[.int .i64 h, .int .i64 w, .int .i64 c, .int .i64 0, .int .i64 0, .slice (some ⟨g, 0, none⟩) 1 1, .int .i64 0], 26), (g, #[.int .i64 k, .int .i64 0, .int .i64 b, .int .i64 m, .int .i64 kh, .int .i64 kw, .int .i64 sh, .int .i64 sw, .int .i64 tp, .int .i64 lf, .int .i64 bt, .int .i64 rt, .slice wa lw wc, .slice ba lb bc, .int .i64 sm, .int .i64 ss, .int .i64 um, .int .i64 us, .int .i64 z, .int .i64 p, .int .i64 lo, .int .i64 hi], 39)]) (fun _ i _ => P - (intOf i).toNat)
  case atStart => exact ⟨0, _, rfl, Nat.zero_le _, rfl, by simpa [suL] using Ho4.out, S4.out⟩
  case round =>
    obtain ⟨y, v1, rfl, hy, rfl, hO, sr⟩ := hrel
    clear S4 Ho4
    obtain ⟨c1, f1, z4⟩ := cells_at ((sr.below.block r hrz).trans HR.out)
    have HO : Hid (Own .i64 2 wr W.heap.size v1 (suL k kh kw sh sw tp lf bt rt h w c CN p zs bs xs (y * CN))) := hO
    have SR : Hid (St W wr [(mb, #[.int .i64 h, .int .i64 w, .int .i64 c, .int .i64 0, .int .i64 0, .slice (some ⟨g, 0, none⟩) 1 1, .int .i64 0], 26), (g, #[.int .i64 k, .int .i64 0, .int .i64 b, .int .i64 m, .int .i64 kh, .int .i64 kw, .int .i64 sh, .int .i64 sw, .int .i64 tp, .int .i64 lf, .int .i64 bt, .int .i64 rt, .slice wa lw wc, .slice ba lb bc, .int .i64 sm, .int .i64 ss, .int .i64 um, .int .i64 us, .int .i64 z, .int .i64 p, .int .i64 lo, .int .i64 hi], 39)]) := sr
    clear hO sr
    by_cases hlt : y < P
    · go_wp2
      go_loopw [6, 8] (fun v i wr => ∃ (d : Nat) (v2 : Value), v2 = v ∧ d ≤ CN ∧ i = .int .i64 ((d : Int) + 1) ∧ Own .i64 2 wr W.heap.size v (suL k kh kw sh sw tp lf bt rt h w c CN p zs bs xs (y * CN + d)) ∧ St W wr [(mb, #[.int .i64 h, .int .i64 w, .int .i64 c, .int .i64 0, .int .i64 0, .slice (some ⟨g, 0, none⟩) 1 1, .int .i64 0], 26), (g, #[.int .i64 k, .int .i64 0, .int .i64 b, .int .i64 m, .int .i64 kh, .int .i64 kw, .int .i64 sh, .int .i64 sw, .int .i64 tp, .int .i64 lf, .int .i64 bt, .int .i64 rt, .slice wa lw wc, .slice ba lb bc, .int .i64 sm, .int .i64 ss, .int .i64 um, .int .i64 us, .int .i64 z, .int .i64 p, .int .i64 lo, .int .i64 hi], 39)]) (fun _ i _ => CN + 1 - (intOf i).toNat)
      case atStart => exact ⟨0, _, rfl, Nat.zero_le _, rfl, HO.out, SR.out⟩
      case round =>
        obtain ⟨d, v2, rfl, hd, rfl, hO, sr⟩ := hrel
        clear c1 f1 HO SR
        obtain ⟨c1, f1, z5⟩ := cells_at ((sr.below.block r hrz).trans HR.out)
        have HO : Hid (Own .i64 2 wr W.heap.size v2 (suL k kh kw sh sw tp lf bt rt h w c CN p zs bs xs (y * CN + d))) := hO
        have SR : Hid (St W wr [(mb, #[.int .i64 h, .int .i64 w, .int .i64 c, .int .i64 0, .int .i64 0, .slice (some ⟨g, 0, none⟩) 1 1, .int .i64 0], 26), (g, #[.int .i64 k, .int .i64 0, .int .i64 b, .int .i64 m, .int .i64 kh, .int .i64 kw, .int .i64 sh, .int .i64 sw, .int .i64 tp, .int .i64 lf, .int .i64 bt, .int .i64 rt, .slice wa lw wc, .slice ba lb bc, .int .i64 sm, .int .i64 ss, .int .i64 um, .int .i64 us, .int .i64 z, .int .i64 p, .int .i64 lo, .int .i64 hi], 39)]) := sr
        obtain ⟨c2, f2, z6, -⟩ := sr.rules
        clear hO sr
        by_cases hltd : d < CN
        · have hch : 1 ≤ (d : Int) + 1 ∧ (d : Int) + 1 ≤ (CN : Int) := by omega
          have HS := suL_succ k kh kw sh sw tp lf bt rt h w c (CN : Int) p zs bs xs (y * CN + d)
          obtain ⟨e1, e2⟩ := divmod_at (C := (CN : Int)) (q := y) (d := d) (by omega)
          rw [Int.natCast_add, Int.natCast_mul, e1, e2] at HS
          obtain ⟨⟨b1, b2⟩, hsu⟩ := HSb.out ((d : Int) + 1) (y : Int) hch
          have HC1 : Hid (∀ (w' : World), Below W.heap.size W w' → w'.heap[g]? = some (.cells #[.int .i64 k, .int .i64 0, .int .i64 b, .int .i64 m, .int .i64 kh, .int .i64 kw, .int .i64 sh, .int .i64 sw, .int .i64 tp, .int .i64 lf, .int .i64 bt, .int .i64 rt, .slice wa lw wc, .slice ba lb bc, .int .i64 sm, .int .i64 ss, .int .i64 um, .int .i64 us, .int .i64 z, .int .i64 p, .int .i64 lo, .int .i64 hi] 39 (0, 0)) → _) := fun w' hb hg => HOf.out w' g hb hg ((d : Int) + 1) y hch ⟨by omega, by omega⟩
          have HC2 : Hid (∀ (w' : World), Below W.heap.size W w' → ∀ v, TV w' v _ → _) := fun w' hb v hT => HSm.out w' hb v ((d : Int) + 1) y hch hT
          obtain ⟨TL, hTL⟩ : ∃ TL, siL k kh kw sh sw tp lf bt rt h w c ((d : Int) + 1) (y : Int) zs = TL := ⟨_, rfl⟩
          obtain ⟨bi, hbi⟩ : ∃ bi, biA k ((d : Int) + 1) bs = bi := ⟨_, rfl⟩
          obtain ⟨sv, hsv⟩ : ∃ sv, smV p xs TL = sv := ⟨_, rfl⟩
          rw [hTL] at HC1 HC2 hsu
          rw [hsv] at HC2 hsu
          rw [hbi] at HC1 hsu
          rw [hsu] at b1 b2 HS
          have HSS : Hid (suL k kh kw sh sw tp lf bt rt h w c CN p zs bs xs (y * CN + d + 1) = suL k kh kw sh sw tp lf bt rt h w c CN p zs bs xs (y * CN + d) ++ [bi + sv]) := HS
          have HLn : Hid (y * CN + d ≤ 16384) := by
            unfold Hid
            have q1 : (y + 1) * CN ≤ P * CN := Nat.mul_le_mul_right _ hlt
            rw [HNN.out, Nat.add_mul] at q1
            omega
          clear HS e1 e2 hsu hTL hbi hsv
          obtain ⟨D, hD⟩ : ∃ D : Int, (d : Int) + 1 = D := ⟨_, rfl⟩
          rw [hD] at HC1 hch ⊢
          have HD : Hid ((d : Int) + 1 = D) := hD
          clear hD
          go_wp2_with fail
          refine (HC1.out _ SR.out.below SR.out.h2).mono ?_
          rintro e w5 ⟨⟨v, rfl, hOT⟩, hb5⟩
          obtain ⟨va, vc, rfl⟩ := hOT.slice
          have HT5 : Hid (TV w5 (.slice va TL.length vc) TL) := hOT.tv
          have S5 : Hid (St W w5 [(mb, #[.int .i64 h, .int .i64 w, .int .i64 c, .int .i64 0, .int .i64 0, .slice (some ⟨g, 0, none⟩) 1 1, .int .i64 0], 26), (g, #[.int .i64 k, .int .i64 0, .int .i64 b, .int .i64 m, .int .i64 kh, .int .i64 kw, .int .i64 sh, .int .i64 sw, .int .i64 tp, .int .i64 lf, .int .i64 bt, .int .i64 rt, .slice wa lw wc, .slice ba lb bc, .int .i64 sm, .int .i64 ss, .int .i64 um, .int .i64 us, .int .i64 z, .int .i64 p, .int .i64 lo, .int .i64 hi], 39)]) := SR.out.call hb5
          have O5 : Hid (Own .i64 2 w5 W.heap.size v2 (suL k kh kw sh sw tp lf bt rt h w c CN p zs bs xs (y * CN + d))) := HO.out.below hb5
          obtain ⟨tl, htl⟩ : ∃ tl, TL.length = tl := ⟨_, rfl⟩
          rw [htl] at HT5 ⊢
          clear hOT hb5 HO SR htl c1 f1 c2 f2
          go_wp2_with fail
          refine (HC2.out _ S5.out.below _ HT5.out).mono ?_
          rintro e w6 ⟨rfl, hb6⟩
          have S6 : Hid (St W w6 [(mb, #[.int .i64 h, .int .i64 w, .int .i64 c, .int .i64 0, .int .i64 0, .slice (some ⟨g, 0, none⟩) 1 1, .int .i64 0], 26), (g, #[.int .i64 k, .int .i64 0, .int .i64 b, .int .i64 m, .int .i64 kh, .int .i64 kw, .int .i64 sh, .int .i64 sw, .int .i64 tp, .int .i64 lf, .int .i64 bt, .int .i64 rt, .slice wa lw wc, .slice ba lb bc, .int .i64 sm, .int .i64 ss, .int .i64 um, .int .i64 us, .int .i64 z, .int .i64 p, .int .i64 lo, .int .i64 hi], 39)]) := S5.out.call hb6
          have O6 : Hid (Own .i64 2 w6 W.heap.size v2 (suL k kh kw sh sw tp lf bt rt h w c CN p zs bs xs (y * CN + d))) := O5.out.below hb6
          clear hb6 S5 O5 HC1 HC2
          go_wp2_with (at_builtin; refine wpList_app kt_i64 rfl (.tmp 51) (.tmp 58) rfl W.heap.size v2 (suL k kh kw sh sw tp lf bt rt h w c CN p zs bs xs (y * CN + d)) [bi + sv] rfl (O6.out.alloc _) _ _ _ rfl (row_one .i64 2 w6 (bi + sv) (mk_i64 (by omega))) (by rw [suL_len]; have := HLn.out; simp; omega) (by have := S6.out.size; simp; omega) ?_; intro v7 w7 own7 gr7 nn7; have S7 : Hid (St W w7 [(mb, #[.int .i64 h, .int .i64 w, .int .i64 c, .int .i64 0, .int .i64 0, .slice (some ⟨g, 0, none⟩) 1 1, .int .i64 0], 26), (g, #[.int .i64 k, .int .i64 0, .int .i64 b, .int .i64 m, .int .i64 kh, .int .i64 kw, .int .i64 sh, .int .i64 sw, .int .i64 tp, .int .i64 lf, .int .i64 bt, .int .i64 rt, .slice wa lw wc, .slice ba lb bc, .int .i64 sm, .int .i64 ss, .int .i64 um, .int .i64 us, .int .i64 z, .int .i64 p, .int .i64 lo, .int .i64 hi], 39)]) := (S6.out.skip (.cells #[.int .i64 (bi + sv)] 2)).grow (O6.out.alloc _) gr7 (Nat.le_refl _) (by simp); have O7 : Hid (Own .i64 2 w7 W.heap.size v7 (suL k kh kw sh sw tp lf bt rt h w c CN p zs bs xs (y * CN + d + 1))) := (by rw [HSS.out]; exact own7); clear own7 gr7 nn7 S6 O6)
          go_roundw
          case rel => exact ⟨d + 1, _, rfl, by omega, by rw [← HD.out]; go_num, O7.out, S7.out⟩
          case measure => have := HD.out; simp [intOf]; omega
        · obtain rfl : d = CN := by omega
          have Ho2 : Hid (Own .i64 2 wr W.heap.size v2 (suL k kh kw sh sw tp lf bt rt h w c d p zs bs xs ((y + 1) * d))) := by
            have e : (y + 1) * d = y * d + d := by rw [Nat.add_mul, Nat.one_mul]
            unfold Hid
            rw [e]; exact HO.out
          clear HO
          go_wp2
          go_roundw
          case rel => exact ⟨y + 1, _, rfl, by omega, by go_num, Ho2.out, SR.out⟩
          case measure => simp [intOf]; omega
    · obtain rfl : y = P := by omega
      have HO2 : Hid (Own .i64 2 wr W.heap.size v1 (suL k kh kw sh sw tp lf bt rt h w c CN p zs bs xs N)) := by rw [← HNN.out]; exact HO.out
      go_wp2
      go_ret
      exact ⟨⟨_, rfl, HO2.out⟩, SR.out.below⟩
end Go.Proofs.Ytjjckaklhafibaa

/- What Totals of package plain returns. -/
namespace Go.Proofs.Ytjjckaklhafibaa
open Go.ChangeShapes Go.WideShapes Go.ChangeAt Go.RowKit
set_option linter.unusedVariables false
set_option maxHeartbeats 2000000 in
theorem totals_e (h w c lo hi ot op : Int) (oa : Option Addr) (on oc : Nat) (O : Nat → Nat → Int) (W : World) (hM : MRow W oa on oc O) (Re Ra Rw : Int) (RL : List (Int × Int × Int)) (hR : gtR O h w c lo hi ot on = (Re, Ra, RL, Rw)) (he : Re ≠ 0) (ad : Option Addr) (n cap' : Nat) :
    Calls Try.prog 14 #[.agg #[.int .i64 h, .int .i64 w, .int .i64 c, .int .i64 lo, .int .i64 hi, .slice oa on oc, .int .i64 ot], .int .i64 op, .slice ad n cap'] W fun e w' => e = .returned (.tuple #[.slice none 0 0, .int .i64 Re]) ∧ Below W.heap.size W w' := by
  have hS : Hid (∀ W, MRow W oa on oc O → _) := fun W hW => shapes_any h w c lo hi ot oa on oc O W hW
  rw [hR] at hS
  simp only at hS
  have hM2 : Hid (MRow W oa on oc O) := hM
  have he' : (Re == 0) = false := by simp [he]
  clear hR hM
  have s0 := (St.start W).new (c := #[.int .i64 h, .int .i64 w, .int .i64 c, .int .i64 lo, .int .i64 hi, .slice oa on oc, .int .i64 ot]) (t := 26)
  go_enter Try.func14, Try.ntmps14
  go_wp2_with fail
  refine Calls.mono (hS.out _ (hM2.out.below s0.below)) ?_
  rintro e w1 ⟨v, rfl, hSh, hb⟩
  obtain ⟨va, vc, rfl⟩ := hSh.slice
  have s1 := (s0.call hb).new (c := #[.int .i64 Re, .int .i64 Ra, .int .i64 0]) (t := 76)
  obtain ⟨c1, f1, z1, -⟩ := (s0.call hb).rules
  clear hb hSh hS hM2 s0
  go_upto_region 2 with fail
  obtain ⟨w2, hw2⟩ : ∃ w2, w1.alloc (.cells #[.int .i64 Re, .int .i64 Ra, .int .i64 0] 76) = w2 := ⟨_, rfl⟩
  rw [hw2] at s1 ⊢
  clear hw2 c1 f1 z1
  obtain ⟨c1, f1, z1, -⟩ := s1.rules
  have S1 : Hid (St W w2 _) := s1
  clear s1
  go_wp2
  go_quiet (fail)
  go_wp2
  go_ret2
  exact ⟨rfl, btr S1.out.below (dbel _ _)⟩
set_option maxHeartbeats 2000000 in
theorem totals_3 (h w c lo hi ot op : Int) (oa : Option Addr) (on oc : Nat) (O : Nat → Nat → Int) (W : World) (hM : MRow W oa on oc O) (Ra Rw : Int) (RL : List (Int × Int × Int)) (hR : gtR O h w c lo hi ot on = (0, Ra, RL, Rw)) (ho : ¬ (1 ≤ op ∧ op ≤ (on : Int))) (ad : Option Addr) (n cap' : Nat) :
    Calls Try.prog 14 #[.agg #[.int .i64 h, .int .i64 w, .int .i64 c, .int .i64 lo, .int .i64 hi, .slice oa on oc, .int .i64 ot], .int .i64 op, .slice ad n cap'] W fun e w' => e = .returned (.tuple #[.slice none 0 0, .int .i64 3]) ∧ Below W.heap.size W w' := by
  have hS : Hid (∀ W, MRow W oa on oc O → _) := fun W hW => shapes_any h w c lo hi ot oa on oc O W hW
  rw [hR] at hS
  simp only at hS
  have hM2 : Hid (MRow W oa on oc O) := hM
  have hocm := hM.1
  have hocx := hM.2.1
  unfold maxLen at hocx
  clear hR hM
  have s0 := (St.start W).new (c := #[.int .i64 h, .int .i64 w, .int .i64 c, .int .i64 lo, .int .i64 hi, .slice oa on oc, .int .i64 ot]) (t := 26)
  by_cases o1 : op < 1
  all_goals
    try have o2 : (on : Int) < op := by omega
    clear ho
    go_enter Try.func14, Try.ntmps14
    go_wp2_with fail
    refine Calls.mono (hS.out _ (hM2.out.below s0.below)) ?_
    rintro e w1 ⟨v, rfl, hSh, hb⟩
    obtain ⟨va, vc, rfl⟩ := hSh.slice
    have s1 := (s0.call hb).new (c := #[.int .i64 0, .int .i64 Ra, .int .i64 0]) (t := 76)
    obtain ⟨c1, f1, z1, -⟩ := (s0.call hb).rules
    clear hb hSh hS hM2 s0
    go_upto_region 2 with fail
    obtain ⟨w2, hw2⟩ : ∃ w2, w1.alloc (.cells #[.int .i64 0, .int .i64 Ra, .int .i64 0] 76) = w2 := ⟨_, rfl⟩
    rw [hw2] at s1 ⊢
    clear hw2 c1 f1 z1
    obtain ⟨c1, f1, z1, c2, f2, z2, -⟩ := s1.rules
    have S1 : Hid (St W w2 _) := s1
    clear s1
    go_wp2
    go_ret2
    exact ⟨rfl, S1.out.below⟩
set_option maxRecDepth 100000 in
set_option maxHeartbeats 8000000 in
theorem totals_r (h w c lo hi ot : Int) (x : Addr) (on oc i : Nat) (O : Nat → Nat → Int) (W : World) (hM : MRow W (some x) on oc O) (hi0 : i < on) (wa : Option Addr) (lw cw : Nat) (ba : Option Addr) (lb cb : Nat)
    (hcell : ∀ q v, [.int .i64 (O i 0), .int .i64 (O i 1), .int .i64 (O i 2), .int .i64 (O i 3), .int .i64 (O i 4), .int .i64 (O i 5), .int .i64 (O i 6), .int .i64 (O i 7), .int .i64 (O i 8), .int .i64 (O i 9), .int .i64 (O i 10), .int .i64 (O i 11), .slice wa lw cw, .slice ba lb cb, .int .i64 (O i 14), .int .i64 (O i 15), .int .i64 (O i 16), .int .i64 (O i 17), .int .i64 (O i 18), .int .i64 (O i 19), .int .i64 (O i 20), .int .i64 (O i 21)][q]? = some v → W.cell? ((x.add (i * 22)).add q) = some v) (Rw : Int) (RL : List (Int × Int × Int)) (hR : gtR O h w c lo hi ot on = (0, 0, RL, Rw)) (hj0 : 0 ≤ O i 1) (hj1 : O i 1 ≤ (i : Int))
    (x0 y0 z0 H V C : Int) (hA : RL.getD (O i 1).toNat (0, 0, 0) = (x0, y0, z0)) (hB : RL.getD (i + 1) (0, 0, 0) = (H, V, C)) (rb : Bool) (hrb : rdB (O i 0) = rb) (ad : Option Addr) (n cap' : Nat) (hn9 : n ≤ 9223372036854775807) (hv0 : rb = true → vS x0 y0 z0 = true) (SS : List Int)
    (hS9 : Hid (rb = true → (n : Int) = x0 * y0 * z0 → ∀ (w' : World) (r : Nat), w'.heap[r]? = some (.cells #[.int .i64 (O i 0), .int .i64 (O i 1), .int .i64 (O i 2), .int .i64 (O i 3), .int .i64 (O i 4), .int .i64 (O i 5), .int .i64 (O i 6), .int .i64 (O i 7), .int .i64 (O i 8), .int .i64 (O i 9), .int .i64 (O i 10), .int .i64 (O i 11), .slice wa lw cw, .slice ba lb cb, .int .i64 (O i 14), .int .i64 (O i 15), .int .i64 (O i 16), .int .i64 (O i 17), .int .i64 (O i 18), .int .i64 (O i 19), .int .i64 (O i 20), .int .i64 (O i 21), .int .i64 x0, .int .i64 y0, .int .i64 z0, .int .i64 H, .int .i64 V, .int .i64 C] 80 (0, 0)) → Below W.heap.size W w' → Calls Try.prog 29 #[.pointer (some ⟨r, 0, none⟩), .slice ad n cap'] w' fun e w'' => (∃ v, e = .returned v ∧ Own .i64 2 w'' w'.heap.size v SS) ∧ Below w'.heap.size w' w'')) :
    Calls Try.prog 14 #[.agg #[.int .i64 h, .int .i64 w, .int .i64 c, .int .i64 lo, .int .i64 hi, .slice (some x) on oc, .int .i64 ot], .int .i64 ((i : Int) + 1), .slice ad n cap'] W fun e w' => (if rb = true then (if (n : Int) = x0 * y0 * z0 then ∃ v, e = .returned (.tuple #[v, .int .i64 0]) ∧ Own .i64 2 w' W.heap.size v SS else e = .returned (.tuple #[.slice none 0 0, .int .i64 70])) else e = .returned (.tuple #[.slice none 0 0, .int .i64 81])) ∧ Below W.heap.size W w' := by
  have HP0 : Hid (rb = true → ∀ W, Calls Try.prog 28 #[.agg #[.int .i64 x0, .int .i64 y0, .int .i64 z0]] W fun e w' => e = .returned (.int .i64 (x0 * y0 * z0)) ∧ Below W.heap.size W w') := fun q W => places_plain x0 y0 z0 W (hv0 q)
  have HP9 : Hid (rb = true → 1 ≤ x0 * y0 * z0 ∧ x0 * y0 * z0 ≤ 16384) := fun q => (vS_bd (hv0 q)).2
  obtain ⟨N, hN⟩ : ∃ N, x0 * y0 * z0 = N := ⟨_, rfl⟩
  rw [hN] at HP0 HP9 hS9 ⊢
  clear hv0 hN
  have hS : Hid (∀ W, MRow W (some x) on oc O → _) := fun W hW => shapes_any h w c lo hi ot (some x) on oc O W hW
  rw [hR] at hS
  simp only at hS
  obtain ⟨-, hRl, ho64, -, -, -⟩ := gtR_ok hR
  have hM2 : Hid (MRow W (some x) on oc O) := hM
  have hocm := hM.1
  have hocx := hM.2.1
  unfold maxLen at hocx
  have Hc : Hid (∀ q v, [.int .i64 (O i 0), .int .i64 (O i 1), .int .i64 (O i 2), .int .i64 (O i 3), .int .i64 (O i 4), .int .i64 (O i 5), .int .i64 (O i 6), .int .i64 (O i 7), .int .i64 (O i 8), .int .i64 (O i 9), .int .i64 (O i 10), .int .i64 (O i 11), .slice wa lw cw, .slice ba lb cb, .int .i64 (O i 14), .int .i64 (O i 15), .int .i64 (O i 16), .int .i64 (O i 17), .int .i64 (O i 18), .int .i64 (O i 19), .int .i64 (O i 20), .int .i64 (O i 21)][q]? = some v → W.cell? ((x.add (i * 22)).add q) = some v) := hcell
  clear hR hM hcell
  have s0 := (St.start W).new (c := #[.int .i64 h, .int .i64 w, .int .i64 c, .int .i64 lo, .int .i64 hi, .slice (some x) on oc, .int .i64 ot]) (t := 26)
  go_enter Try.func14, Try.ntmps14
  go_wp2_with fail
  refine Calls.mono (hS.out _ (hM2.out.below s0.below)) ?_
  rintro e w1 ⟨v, rfl, hSh, hb⟩
  have s1 := (s0.call hb).new (c := #[.int .i64 0, .int .i64 0, .int .i64 0]) (t := 76)
  obtain ⟨g, cap, cur, rfl, hgb, hgc, hCu⟩ : ∃ g cap cur, v = .slice (some ⟨g, 0, none⟩) (on + 1) cap ∧ W.heap.size ≤ g ∧ w1.heap[g]? = some (.cells cur 23 (0, 0)) ∧ Cu cur cap RL := by
    rcases hSh with ⟨-, q⟩ | ⟨g, cap, cur, q1, q2, q3, q4, -⟩
    · rw [q] at hRl; simp at hRl
    · exact ⟨g, cap, cur, by rw [q1, hRl], by simp at q2; omega, q3, q4⟩
  have hcap := hCu.2.1
  obtain ⟨b1, b2, b3⟩ := hCu.at (show i + 1 < RL.length by omega)
  obtain ⟨a1, a2, a3⟩ := hCu.at (show (O i 1).toNat < RL.length by omega)
  rw [hB] at b1 b2 b3
  rw [hA] at a1 a2 a3
  simp only at a1 a2 a3 b1 b2 b3
  have hgz := lt_of_heap hgc
  have hgc2 : Hid ((w1.alloc (.cells #[.int .i64 0, .int .i64 0, .int .i64 0] 76)).heap[g]? = some (.cells cur 23 (0, 0))) := (heap_alloc_old w1 _ hgz).trans hgc
  obtain ⟨c1, f1, z1, -⟩ := (s0.call hb).rules
  clear hb hSh hCu hgc hS hM2
  go_wp2
  obtain ⟨w2, hw2⟩ : ∃ w2, w1.alloc (.cells #[.int .i64 0, .int .i64 0, .int .i64 0] 76) = w2 := ⟨_, rfl⟩
  rw [hw2] at s1 hgc2 ⊢
  have hw2z : w2.heap.size = w1.heap.size + 1 := by rw [← hw2]; simp
  have S1 : Hid (St W w2 _) := s1
  have hG := s1.h2
  have HC2 : Hid (∀ q v, [.int .i64 (O i 0), .int .i64 (O i 1), .int .i64 (O i 2), .int .i64 (O i 3), .int .i64 (O i 4), .int .i64 (O i 5), .int .i64 (O i 6), .int .i64 (O i 7), .int .i64 (O i 8), .int .i64 (O i 9), .int .i64 (O i 10), .int .i64 (O i 11), .slice wa lw cw, .slice ba lb cb, .int .i64 (O i 14), .int .i64 (O i 15), .int .i64 (O i 16), .int .i64 (O i 17), .int .i64 (O i 18), .int .i64 (O i 19), .int .i64 (O i 20), .int .i64 (O i 21)][q]? = some v → w2.cell? ((x.add (i * 22)).add q) = some v) := fun q v hq => (s1.below.cell (World.block_lt_of_cell? W _ (Hc.out q v hq))).trans (Hc.out q v hq)
  clear hw2 s0 s1 c1 f1
  refine regionC (fun w' => Below w2.heap.size w2 w') (by kernel_rfl) ?_
  obtain ⟨wd, hwd⟩ : ∃ wd, w2.drew = wd := ⟨_, rfl⟩
  have hdB : Below w2.heap.size w2 wd := by rw [← hwd]; exact (Below.refl _ _).drew
  have S2 : Hid (St W wd _) := S1.out.call hdB
  rw [hwd]
  have hwz : Hid (wd.heap.size = w1.heap.size + 1) := by unfold Hid; rw [← hwd]; exact hw2z
  clear hw2z
  have HD : Hid (Below w2.heap.size w2 wd) := hdB
  clear hwd hdB
  refine takeC 0 (v := .pointer (some ⟨W.heap.size, 5, none⟩)) rfl rfl (by kernel_rfl) (by kernel_rfl) (by kernel_rfl) (fun _ _ _ h => h) (fun _ => rfl) rfl (fun w' hw' => by go_simp) ?_
  refine takeC 1 (v := .slice (some x) on oc) rfl rfl (by kernel_rfl) (by kernel_rfl) (by kernel_rfl) (fun _ _ _ h => h) (fun _ => rfl) rfl (fun w' hw' => by have hc := (cells_at ((hw'.block _ (lt_of_heap hG)).trans hG)).1 5; go_simp) ?_
  refine takeC 2 (v := .int .i64 ((i : Int) + 1)) rfl rfl (by kernel_rfl) (by kernel_rfl) (by kernel_rfl) (fun _ _ _ h => h) (fun _ => rfl) rfl (fun w' hw' => by go_simp) ?_
  refine takeC 3 (v := .int .i64 (i : Int)) rfl rfl (by kernel_rfl) (by kernel_rfl) (by kernel_rfl) (fun _ _ _ h => h) (fun _ => rfl) rfl (fun w' hw' => by go_simp; rw [IntKind.wrap_i64]; omega) ?_
  refine takeC 4 (v := .pointer (some (x.add (i * 22)))) rfl rfl (by kernel_rfl) (by kernel_rfl) (by kernel_rfl) (fun _ _ _ h => h) (fun _ => rfl) rfl (fun w' hw' => by go_simp) ?_
  refine takeC 5 (v := .agg #[.int .i64 (O i 0), .int .i64 (O i 1), .int .i64 (O i 2), .int .i64 (O i 3), .int .i64 (O i 4), .int .i64 (O i 5), .int .i64 (O i 6), .int .i64 (O i 7), .int .i64 (O i 8), .int .i64 (O i 9), .int .i64 (O i 10), .int .i64 (O i 11), .slice wa lw cw, .slice ba lb cb, .int .i64 (O i 14), .int .i64 (O i 15), .int .i64 (O i 16), .int .i64 (O i 17), .int .i64 (O i 18), .int .i64 (O i 19), .int .i64 (O i 20), .int .i64 (O i 21)]) rfl rfl (by kernel_rfl) (by kernel_rfl) (by kernel_rfl) (fun _ _ _ h => h) (fun _ => rfl) rfl (fun w' hw' => run_la 39 (.tmp 34) rfl (x.add (i * 22)) (by kernel_rfl) [.int .i64 (O i 0), .int .i64 (O i 1), .int .i64 (O i 2), .int .i64 (O i 3), .int .i64 (O i 4), .int .i64 (O i 5), .int .i64 (O i 6), .int .i64 (O i 7), .int .i64 (O i 8), .int .i64 (O i 9), .int .i64 (O i 10), .int .i64 (O i 11), .slice wa lw cw, .slice ba lb cb, .int .i64 (O i 14), .int .i64 (O i 15), .int .i64 (O i 16), .int .i64 (O i 17), .int .i64 (O i 18), .int .i64 (O i 19), .int .i64 (O i 20), .int .i64 (O i 21)] _ (fun q v hq => (hw'.cell (World.block_lt_of_cell? _ _ (HC2.out q v hq))).trans (HC2.out q v hq)) Try.underlying39 rfl (by kernel_rfl)) ?_
  refine takeC 6 (v := .slice (some ⟨g, 0, none⟩) (on + 1) cap) rfl rfl (by kernel_rfl) (by kernel_rfl) (by kernel_rfl) (fun _ _ _ h => h) (fun _ => rfl) rfl (fun w' hw' => by go_simp) ?_
  refine takeC 7 (v := .int .i64 ((i : Int) + 1)) rfl rfl (by kernel_rfl) (by kernel_rfl) (by kernel_rfl) (fun _ _ _ h => h) (fun _ => rfl) rfl (fun w' hw' => by go_simp) ?_
  refine takeC 8 (v := .pointer (some ⟨g, (i + 1) * 3, none⟩)) rfl rfl (by kernel_rfl) (by kernel_rfl) (by kernel_rfl) (fun _ _ _ h => h) (fun _ => rfl) rfl (fun w' hw' => by go_simp; intro q; omega) ?_
  refine takeC 9 (v := .agg #[.int .i64 H, .int .i64 V, .int .i64 C]) rfl rfl (by kernel_rfl) (by kernel_rfl) (by kernel_rfl) (fun _ _ _ h => h) (fun _ => rfl) rfl (fun w' hw' => run_la 23 (.tmp 38) rfl ⟨g, (i + 1) * 3, none⟩ (by kernel_rfl) [.int .i64 H, .int .i64 V, .int .i64 C] _ (three_at ((hw'.block _ (lt_of_heap hgc2.out)).trans hgc2.out) b1 b2 b3) Try.underlying23 rfl (by kernel_rfl)) ?_
  refine takeC 10 (v := .agg #[.int .i64 (O i 0), .int .i64 (O i 1), .int .i64 (O i 2), .int .i64 (O i 3), .int .i64 (O i 4), .int .i64 (O i 5), .int .i64 (O i 6), .int .i64 (O i 7), .int .i64 (O i 8), .int .i64 (O i 9), .int .i64 (O i 10), .int .i64 (O i 11), .slice wa lw cw, .slice ba lb cb, .int .i64 (O i 14), .int .i64 (O i 15), .int .i64 (O i 16), .int .i64 (O i 17), .int .i64 (O i 18), .int .i64 (O i 19), .int .i64 (O i 20), .int .i64 (O i 21), .int .i64 0, .int .i64 0, .int .i64 0, .int .i64 H, .int .i64 V, .int .i64 C]) rfl rfl (by kernel_rfl) (by kernel_rfl) (by kernel_rfl) (fun _ _ _ h => h) (fun _ => rfl) rfl (fun w' hw' => by kernel_rfl) ?_
  refine stepC 11 HD.out (by kernel_rfl) rfl (fun K hK => step_wp rfl ?_)
  go_simp
  refine hK _ _ ?_
  clear hK K
  have HA : Hid (Below w2.heap.size w2 (wd.alloc (.cells #[.int .i64 0, .int .i64 0, .int .i64 0, .int .i64 0, .int .i64 0, .int .i64 0, .int .i64 0, .int .i64 0, .int .i64 0, .int .i64 0, .int .i64 0, .int .i64 0, .slice none 0 0, .slice none 0 0, .int .i64 0, .int .i64 0, .int .i64 0, .int .i64 0, .int .i64 0, .int .i64 0, .int .i64 0, .int .i64 0, .int .i64 0, .int .i64 0, .int .i64 0, .int .i64 0, .int .i64 0, .int .i64 0] 80))) := HD.out.alloc HD.out.size _
  refine stepC 12 HA.out (by kernel_rfl) rfl (fun K hK => step_wp rfl (wp_store_row 80 (.tmp 10) (.tmp 40) rfl wd.heap.size #[.int .i64 (O i 0), .int .i64 (O i 1), .int .i64 (O i 2), .int .i64 (O i 3), .int .i64 (O i 4), .int .i64 (O i 5), .int .i64 (O i 6), .int .i64 (O i 7), .int .i64 (O i 8), .int .i64 (O i 9), .int .i64 (O i 10), .int .i64 (O i 11), .slice wa lw cw, .slice ba lb cb, .int .i64 (O i 14), .int .i64 (O i 15), .int .i64 (O i 16), .int .i64 (O i 17), .int .i64 (O i 18), .int .i64 (O i 19), .int .i64 (O i 20), .int .i64 (O i 21), .int .i64 0, .int .i64 0, .int .i64 0, .int .i64 H, .int .i64 V, .int .i64 C] (by kernel_rfl) (by kernel_rfl) 80 #[.int .i64 0, .int .i64 0, .int .i64 0, .int .i64 0, .int .i64 0, .int .i64 0, .int .i64 0, .int .i64 0, .int .i64 0, .int .i64 0, .int .i64 0, .int .i64 0, .slice none 0 0, .slice none 0 0, .int .i64 0, .int .i64 0, .int .i64 0, .int .i64 0, .int .i64 0, .int .i64 0, .int .i64 0, .int .i64 0, .int .i64 0, .int .i64 0, .int .i64 0, .int .i64 0, .int .i64 0, .int .i64 0] (heap_alloc_new wd _) (by kernel_rfl) rfl (by simp [Value.oneCell']) (hK _ _ ?_)))
  rw [World.setRow_alloc_new]
  refine doneC (HD.out.alloc HD.out.size _) (by kernel_rfl) ?_ _
  have s3 := S2.out.new (c := #[.int .i64 (O i 0), .int .i64 (O i 1), .int .i64 (O i 2), .int .i64 (O i 3), .int .i64 (O i 4), .int .i64 (O i 5), .int .i64 (O i 6), .int .i64 (O i 7), .int .i64 (O i 8), .int .i64 (O i 9), .int .i64 (O i 10), .int .i64 (O i 11), .slice wa lw cw, .slice ba lb cb, .int .i64 (O i 14), .int .i64 (O i 15), .int .i64 (O i 16), .int .i64 (O i 17), .int .i64 (O i 18), .int .i64 (O i 19), .int .i64 (O i 20), .int .i64 (O i 21), .int .i64 0, .int .i64 0, .int .i64 0, .int .i64 H, .int .i64 V, .int .i64 C]) (t := 80)
  have hgc3 : Hid ((wd.alloc (.cells #[.int .i64 (O i 0), .int .i64 (O i 1), .int .i64 (O i 2), .int .i64 (O i 3), .int .i64 (O i 4), .int .i64 (O i 5), .int .i64 (O i 6), .int .i64 (O i 7), .int .i64 (O i 8), .int .i64 (O i 9), .int .i64 (O i 10), .int .i64 (O i 11), .slice wa lw cw, .slice ba lb cb, .int .i64 (O i 14), .int .i64 (O i 15), .int .i64 (O i 16), .int .i64 (O i 17), .int .i64 (O i 18), .int .i64 (O i 19), .int .i64 (O i 20), .int .i64 (O i 21), .int .i64 0, .int .i64 0, .int .i64 0, .int .i64 H, .int .i64 V, .int .i64 C] 80)).heap[g]? = some (.cells cur 23 (0, 0))) := ((HD.out.alloc HD.out.size _).block g (lt_of_heap hgc2.out)).trans hgc2.out
  obtain ⟨w4, hw4⟩ : ∃ w4, wd.alloc (.cells #[.int .i64 (O i 0), .int .i64 (O i 1), .int .i64 (O i 2), .int .i64 (O i 3), .int .i64 (O i 4), .int .i64 (O i 5), .int .i64 (O i 6), .int .i64 (O i 7), .int .i64 (O i 8), .int .i64 (O i 9), .int .i64 (O i 10), .int .i64 (O i 11), .slice wa lw cw, .slice ba lb cb, .int .i64 (O i 14), .int .i64 (O i 15), .int .i64 (O i 16), .int .i64 (O i 17), .int .i64 (O i 18), .int .i64 (O i 19), .int .i64 (O i 20), .int .i64 (O i 21), .int .i64 0, .int .i64 0, .int .i64 0, .int .i64 H, .int .i64 V, .int .i64 C] 80) = w4 := ⟨_, rfl⟩
  rw [hw4] at s3 hgc3 ⊢
  have S3 : Hid (St W w4 _) := s3
  obtain ⟨c1, f1, z1, -⟩ := s3.rules
  clear hw4 S1 S2 HD HA hgc2 HC2 Hc s3 hG
  go_wp2_with fail
  refine (red_any _ _).mono ?_
  rintro e w' ⟨rfl, hw'⟩
  have hw'' := hw'.symm
  subst hw''
  rw [hrb]
  have hz : w1.heap.size < wd.heap.size := by have := hwz.out; omega
  have z0' : Hid (W.heap.size ≤ wd.heap.size) := (S3.out.2 _ List.mem_cons_self).2
  cases rb with
  | false =>
    clear c1 f1
    go_wp2
    exact bodyPost_ret (v := .tuple #[.slice none 0 0, .int .i64 81]) (by simp [results, Try.results14, go_sem]) rfl ⟨by simp, S3.out.below⟩
  | true =>
    have a1' : w4.cell? ⟨g, (O i 1).toNat * 3, none⟩ = some (.int .i64 x0) := by rw [(cells_at hgc3.out).1]; exact a1
    have a2' : w4.cell? ⟨g, (O i 1).toNat * 3 + 1, none⟩ = some (.int .i64 y0) := by rw [(cells_at hgc3.out).1]; exact a2
    have a3' : w4.cell? ⟨g, (O i 1).toNat * 3 + 2, none⟩ = some (.int .i64 z0) := by rw [(cells_at hgc3.out).1]; exact a3
    clear a1 a2 a3 b1 b2 b3
    go_upto_region 10 with fail
    have hR1 : (((w4.setCell ⟨wd.heap.size, 22, none⟩ (.int .i64 x0)).setCell ⟨wd.heap.size, 23, none⟩ (.int .i64 y0)).setCell ⟨wd.heap.size, 24, none⟩ (.int .i64 z0)).heap[wd.heap.size]? = some (.cells #[.int .i64 (O i 0), .int .i64 (O i 1), .int .i64 (O i 2), .int .i64 (O i 3), .int .i64 (O i 4), .int .i64 (O i 5), .int .i64 (O i 6), .int .i64 (O i 7), .int .i64 (O i 8), .int .i64 (O i 9), .int .i64 (O i 10), .int .i64 (O i 11), .slice wa lw cw, .slice ba lb cb, .int .i64 (O i 14), .int .i64 (O i 15), .int .i64 (O i 16), .int .i64 (O i 17), .int .i64 (O i 18), .int .i64 (O i 19), .int .i64 (O i 20), .int .i64 (O i 21), .int .i64 x0, .int .i64 y0, .int .i64 z0, .int .i64 H, .int .i64 V, .int .i64 C] 80 (0, 0)) := heap_setCell_at (heap_setCell_at (heap_setCell_at S3.out.h1))
    have hB1 : Hid (Below W.heap.size W (((w4.setCell ⟨wd.heap.size, 22, none⟩ (.int .i64 x0)).setCell ⟨wd.heap.size, 23, none⟩ (.int .i64 y0)).setCell ⟨wd.heap.size, 24, none⟩ (.int .i64 z0))) := ((S3.out.below.setCell (p := ⟨wd.heap.size, 22, none⟩) (by show W.heap.size ≤ wd.heap.size; have := z0'.out; omega) _).setCell (p := ⟨wd.heap.size, 23, none⟩) (by show W.heap.size ≤ wd.heap.size; have := z0'.out; omega) _).setCell (p := ⟨wd.heap.size, 24, none⟩) (by show W.heap.size ≤ wd.heap.size; have := z0'.out; omega) _
    obtain ⟨w5, hw5⟩ : ∃ w5, ((w4.setCell ⟨wd.heap.size, 22, none⟩ (.int .i64 x0)).setCell ⟨wd.heap.size, 23, none⟩ (.int .i64 y0)).setCell ⟨wd.heap.size, 24, none⟩ (.int .i64 z0) = w5 := ⟨_, rfl⟩
    rw [hw5] at hR1 hB1 ⊢
    obtain ⟨r, hr⟩ : ∃ r, wd.heap.size = r := ⟨_, rfl⟩
    rw [hr] at hR1 ⊢
    have HR1 : Hid (w5.heap[r]? = some (.cells #[.int .i64 (O i 0), .int .i64 (O i 1), .int .i64 (O i 2), .int .i64 (O i 3), .int .i64 (O i 4), .int .i64 (O i 5), .int .i64 (O i 6), .int .i64 (O i 7), .int .i64 (O i 8), .int .i64 (O i 9), .int .i64 (O i 10), .int .i64 (O i 11), .slice wa lw cw, .slice ba lb cb, .int .i64 (O i 14), .int .i64 (O i 15), .int .i64 (O i 16), .int .i64 (O i 17), .int .i64 (O i 18), .int .i64 (O i 19), .int .i64 (O i 20), .int .i64 (O i 21), .int .i64 x0, .int .i64 y0, .int .i64 z0, .int .i64 H, .int .i64 V, .int .i64 C] 80 (0, 0))) := hR1
    have HP : Hid (∀ W, Calls Try.prog 28 #[.agg #[.int .i64 x0, .int .i64 y0, .int .i64 z0]] W fun e w' => e = .returned (.int .i64 N) ∧ Below W.heap.size W w') := HP0.out (by simp)
    have p9 := HP9.out (by simp)
    clear hw5 hr c1 f1 a1' a2' a3' S3 hgc3 hwz hz hR1 HP0 HP9
    obtain ⟨c1, f1, z1'⟩ := cells_at HR1.out
    go_wp2_with fail
    refine (HP.out _).mono ?_
    rintro e w6 ⟨rfl, hb6⟩
    have HB6 : Hid (Below W.heap.size W w6) := btr hB1.out hb6
    have HR6 : Hid (w6.heap[r]? = some (.cells #[.int .i64 (O i 0), .int .i64 (O i 1), .int .i64 (O i 2), .int .i64 (O i 3), .int .i64 (O i 4), .int .i64 (O i 5), .int .i64 (O i 6), .int .i64 (O i 7), .int .i64 (O i 8), .int .i64 (O i 9), .int .i64 (O i 10), .int .i64 (O i 11), .slice wa lw cw, .slice ba lb cb, .int .i64 (O i 14), .int .i64 (O i 15), .int .i64 (O i 16), .int .i64 (O i 17), .int .i64 (O i 18), .int .i64 (O i 19), .int .i64 (O i 20), .int .i64 (O i 21), .int .i64 x0, .int .i64 y0, .int .i64 z0, .int .i64 H, .int .i64 V, .int .i64 C] 80 (0, 0))) := (hb6.block r (lt_of_heap HR1.out)).trans HR1.out
    clear hb6 c1 f1 z1' HR1 hB1 HP
    by_cases hnN : (n : Int) = N
    · have hS8 : Hid _ := hS9.out (by simp) hnN w6 r HR6.out HB6.out
      have hnN' : Hid ((n : Int) = N) := hnN
      have hq : ((n : Int) == N) = true := by simp [hnN]
      have hq2 : ((n : Int) != N) = false := by simp [hnN]
      clear hS9 hnN
      go_wp2_with fail
      refine Calls.mono hS8.out ?_
      rintro e w7 ⟨⟨v, rfl, hO⟩, hb7⟩
      have HO : Hid (Own .i64 2 w7 W.heap.size v SS) := hO.base HB6.out.size
      have HB7 : Hid (Below W.heap.size W w7) := btr HB6.out hb7
      clear hO hb7
      go_wp2
      exact bodyPost_ret (v := .tuple #[v, .int .i64 0]) (by simp [results, Try.results14, go_sem]) rfl ⟨by first | exact ⟨_, rfl, HO.out⟩ | (rw [if_pos hnN'.out]; exact ⟨_, rfl, HO.out⟩) | (rw [if_pos rfl, if_pos hnN'.out]; exact ⟨_, rfl, HO.out⟩), HB7.out⟩
    · have hnN' : Hid (¬ (n : Int) = N) := hnN
      have hq : ((n : Int) == N) = false := by simp [hnN]
      clear hS9
      go_wp2
      exact bodyPost_ret (v := .tuple #[.slice none 0 0, .int .i64 70]) (by simp [results, Try.results14, go_sem]) rfl ⟨rfl, HB6.out⟩
/-- The error of Totals. -/
def toE (O : Nat → Nat → Int) (h w c lo hi ot : Int) (on : Nat) (op : Int) (n x0 y0 z0 : Int) : Int := if fiE O h w c lo hi ot on op ≠ 0 then fiE O h w c lo hi ot on op else if n = x0 * y0 * z0 then 0 else 70
theorem totals_bad (h w c lo hi ot : Int) (oa : Option Addr) (on oc : Nat) (O : Nat → Nat → Int) (Z B : Nat → List Int) (W : World) (hL : LRow W oa on oc O Z B) (op E : Int) (hf : fiE O h w c lo hi ot on op = E) (hE : E ≠ 0) (ad : Option Addr) (n cap' : Nat) (hn9 : n ≤ 9223372036854775807) :
    Calls Try.prog 14 #[.agg #[.int .i64 h, .int .i64 w, .int .i64 c, .int .i64 lo, .int .i64 hi, .slice oa on oc, .int .i64 ot], .int .i64 op, .slice ad n cap'] W fun e w' => e = .returned (.tuple #[.slice none 0 0, .int .i64 E]) ∧ Below W.heap.size W w' := by
  obtain ⟨Re, Ra, RL, Rw, hR⟩ : ∃ Re Ra RL Rw, gtR O h w c lo hi ot on = (Re, Ra, RL, Rw) := ⟨_, _, _, _, rfl⟩
  by_cases q : Re = 0
  · subst q
    by_cases ho : 1 ≤ op ∧ op ≤ (on : Int)
    · obtain ⟨rfl, hl, h64, -, -, -⟩ := gtR_ok hR
      obtain ⟨i, rfl⟩ : ∃ i : Nat, op = (i : Int) + 1 := ⟨(op - 1).toNat, by omega⟩
      have hi0 : i < on := by omega
      cases hk : rdB (O i 0) with
      | true => rw [fiE_0 (by rw [hR]) hi0 hk] at hf; exact absurd hf.symm hE
      | false =>
        rw [fiE_81 (by rw [hR]) hi0 hk] at hf
        subst hf
        obtain ⟨x, rfl⟩ : ∃ x, oa = some x := by
          cases oa with
          | none => have h1 := hL.2.2.1 rfl; have h2 := hL.1; omega
          | some x => exact ⟨x, rfl⟩
        obtain ⟨wa, lw, cw, ba, lb, cb, e12, e13, hcell, hz, hb, -, -⟩ := hL.2.2.2 x rfl i hi0
        obtain ⟨j, hj, hji, -⟩ := (gtR_at hR).2 i hi0
        refine (totals_r h w c lo hi ot x on oc i O W hL.m hi0 wa lw cw ba lb cb hcell Rw RL hR (by omega) (by omega) _ _ _ _ _ _ rfl rfl false hk ad n cap' hn9 (fun q => by cases q) [] (fun q => by cases q)).mono ?_
        rintro e w' ⟨h1, h2⟩
        exact ⟨by simpa using h1, h2⟩
    · rw [fiE_3 (by rw [hR]) ho] at hf
      subst hf
      exact totals_3 h w c lo hi ot op oa on oc O W hL.m Ra Rw RL hR ho ad n cap'
  · rw [fiE_err (by rw [hR]) q] at hf
    subst hf
    exact totals_e h w c lo hi ot op oa on oc O W hL.m _ Ra Rw RL hR hE ad n cap'
/-- An op that is there: the sums, or ErrLens. -/
theorem totals_ok (h w c lo hi ot : Int) (oa : Option Addr) (on oc : Nat) (O : Nat → Nat → Int) (Z B : Nat → List Int) (W : World) (hL : LRow W oa on oc O Z B) (RL : List (Int × Int × Int)) (Rw : Int) (hR : gtR O h w c lo hi ot on = (0, 0, RL, Rw))
    (i : Nat) (x : Addr) (wa : Option Addr) (lw cw : Nat) (ba : Option Addr) (lb cb : Nat) (x0 y0 z0 H V C : Int) (hF : Fnd W oa on O Z B RL i x wa lw cw ba lb cb x0 y0 z0 H V C) (ad : Option Addr) (n cap' : Nat) (xs : List Int) (hX : IRow .i8 W ad n cap' xs) :
    Calls Try.prog 14 #[.agg #[.int .i64 h, .int .i64 w, .int .i64 c, .int .i64 lo, .int .i64 hi, .slice oa on oc, .int .i64 ot], .int .i64 ((i : Int) + 1), .slice ad n cap'] W fun e w' => (if (n : Int) = x0 * y0 * z0 then ∃ v, e = .returned (.tuple #[v, .int .i64 0]) ∧ Own .i64 2 w' W.heap.size v (suL (O i 0) (O i 4) (O i 5) (O i 6) (O i 7) (O i 8) (O i 9) (O i 10) (O i 11) x0 y0 z0 C (O i 19) (Z i) (B i) xs (H * V * C).toNat) else e = .returned (.tuple #[.slice none 0 0, .int .i64 70])) ∧ Below W.heap.size W w' := by
  obtain ⟨h1, rfl, h3, h4, h5, h6, h7, h8, h9, h10, h11, h12⟩ := hF
  obtain ⟨ja, jb, e1, hja, e3, hjb, hO⟩ := opd_of hR h1
  obtain ⟨hOpd, -⟩ := hO x0 y0 z0 H V C (by rw [← h8, e1, Int.toNat_natCast]) h9
  rw [h3, h4, Int.toNat_natCast, Int.toNat_natCast] at hOpd
  have hk := of_decide_eq_true h12
  obtain ⟨wa', lw', cw', ba', lb', cb', e12, e13, -, -, -, hlw, hlb⟩ := hL.2.2.2 x rfl i h1
  have elw : lw' = lw := by omega
  have elb : lb' = lb := by omega
  subst elw elb
  have hcm := hX.2.2.1
  have hcc := hX.2.1
  unfold maxLen at hcm
  refine (totals_r h w c lo hi ot x on oc i O W hL.m h1 wa lw' cw ba lb' cb h5 Rw RL hR h11.1 h11.2 _ _ _ _ _ _ h8 h9 true h12 ad n cap' (by omega) (fun _ => hOpd.hA) (suL (O i 0) (O i 4) (O i 5) (O i 6) (O i 7) (O i 8) (O i 9) (O i 10) (O i 11) x0 y0 z0 C (O i 19) (Z i) (B i) xs (H * V * C).toNat) (fun _ hn w' r hr hb => sums_any (O i 0) (O i 1) (O i 2) (O i 3) (O i 4) (O i 5) (O i 6) (O i 7) (O i 8) (O i 9) (O i 10) (O i 11) wa lw' cw ba lb' cb (O i 14) (O i 15) (O i 16) (O i 17) (O i 18) (O i 19) (O i 20) (O i 21) x0 y0 z0 H V C r w' hr hOpd hk.2 (Z i) (B i) (h6.below hb) (h7.below hb) hlw hlb ad n cap' xs (hX.below hb) hn)).mono ?_
  rintro e w' ⟨q1, q2⟩
  exact ⟨by simpa using q1, q2⟩
end Go.Proofs.Ytjjckaklhafibaa

/- The walk of NormHolds. -/
namespace Go.Proofs.Ytjjckaklhafibaa
open Go.ChangeShapes Go.WideShapes Go.ChangeAt Go.RowKit
set_option linter.unusedVariables false
set_option maxHeartbeats 4000000 in
set_option maxRecDepth 100000 in
theorem holds_e (h w c lo hi : Int) (oa : Option Addr) (on oc : Nat) (ot op ch slo shi : Int) (ad : Option Addr) (n cap : Nat) (W : World) (X Y E : Int) (HQ : Hid (∀ W', Below W.heap.size W W' → Calls Try.prog 12 #[.agg #[.int .i64 h, .int .i64 w, .int .i64 c, .int .i64 lo, .int .i64 hi, .slice oa on oc, .int .i64 ot], .int .i64 op, .int .i64 ch, .agg #[.int .i64 slo, .int .i64 shi]] W' fun e w' => e = .returned (.tuple #[.agg #[.int .i64 X, .int .i64 Y], .int .i64 E]) ∧ Below W'.heap.size W' w'))
    (HT : Hid (∀ W', Below W.heap.size W W' → Calls Try.prog 14 #[.agg #[.int .i64 h, .int .i64 w, .int .i64 c, .int .i64 lo, .int .i64 hi, .slice oa on oc, .int .i64 ot], .int .i64 op, .slice ad n cap] W' fun e w' => (∃ (va : Option Addr) (vn vc : Nat) (f : Int), e = .returned (.tuple #[.slice va vn vc, .int .i64 f]) ∧ (E ≠ 0 ∨ f ≠ 0)) ∧ Below W'.heap.size W' w')) (hXY : E ≠ 0 → X = 0 ∧ Y = 0) :
    Calls Try.prog 5 #[.agg #[.int .i64 h, .int .i64 w, .int .i64 c, .int .i64 lo, .int .i64 hi, .slice oa on oc, .int .i64 ot, .int .i64 op, .int .i64 ch, .int .i64 slo, .int .i64 shi, .slice ad n cap]] W fun e w' => e = .returned (.bool true) ∧ Below W.heap.size W w' := by
  have s0 := (St.start W).new (c := #[.int .i64 h, .int .i64 w, .int .i64 c, .int .i64 lo, .int .i64 hi, .slice oa on oc, .int .i64 ot, .int .i64 op, .int .i64 ch, .int .i64 slo, .int .i64 shi, .slice ad n cap]) (t := 31)
  have hq := eqSp 28 rfl 0 0 0 0 true (by decide)
  go_enter Try.func5, Try.ntmps5
  go_wp2_with fail
  refine (fixed12_any _).mono ?_
  rintro e w1 ⟨rfl, hb⟩
  have s1 := s0.call hb
  clear hb s0
  obtain ⟨c1, f1, z1, -⟩ := s1.rules
  go_wp2_with fail
  refine Calls.mono (HQ.out _ s1.below) ?_
  rintro e w2 ⟨rfl, hb⟩
  have s2 := (s1.call hb).new (c := #[.int .i64 X, .int .i64 Y]) (t := 28)
  clear hb s1 HQ c1 f1 z1
  obtain ⟨c1, f1, z1, c2, f2, z2, -⟩ := s2.rules
  go_wp2_with fail
  refine Calls.mono (HT.out _ s2.below) ?_
  rintro e w3 ⟨⟨va, vn, vc, f, rfl, hEf⟩, hb⟩
  have s3 := s2.call hb
  clear hb s2 HT c1 f1 z1 c2 f2 z2
  obtain ⟨c1, f1, z1, -⟩ := s3.rules
  by_cases hE : E = 0
  · subst hE
    have hf : (f == 0) = false := by simp at hEf; simp [hEf]
    clear hEf hXY
    go_wp2
    go_ret
    exact ⟨rfl, s3.below⟩
  · have hE' : (E == 0) = false := by simp [hE]
    obtain ⟨rfl, rfl⟩ := hXY hE
    clear hEf hXY hE
    go_wp2
    go_ret
    exact ⟨rfl, s3.below⟩
theorem take_in {xs : List Int} {k : Nat} {u slo shi : Int} (h : ∀ v ∈ xs.take k, slo ≤ v ∧ v ≤ shi) (hz : xs[k]? = some u) (hu : slo ≤ u ∧ u ≤ shi) : ∀ v ∈ xs.take (k + 1), slo ≤ v ∧ v ≤ shi := fun v hv => by
  rw [List.take_add_one, hz] at hv
  simp only [Option.toList_some, List.mem_append, List.mem_singleton] at hv
  rcases hv with hv | rfl
  · exact h v hv
  · exact hu
set_option maxHeartbeats 8000000 in
set_option maxRecDepth 100000 in
theorem holds_k {O : Nat → Nat → Int} {i : Nat} {x : Addr} {wa : Option Addr} {lw cw : Nat} {ba : Option Addr} {lb cb : Nat} {x0 y0 z0 H V C : Int} (h w c lo hi : Int) (oa : Option Addr) (on oc : Nat) (ot op ch slo shi : Int) (ad : Option Addr) (n cap : Nat) (W : World) (X Y : Int) (xs SS : List Int) (NS : Nat) (hX : IRow .i8 W ad n cap xs) (hNS : SS.length = NS) (hC : 1 ≤ C ∧ C ≤ 1024) (hch : 1 ≤ ch ∧ ch ≤ C) (hN : C ≤ (NS : Int) ∧ NS ≤ 16384)
    (HQ : Hid (∀ W', Below W.heap.size W W' → Calls Try.prog 12 #[.agg #[.int .i64 h, .int .i64 w, .int .i64 c, .int .i64 lo, .int .i64 hi, .slice oa on oc, .int .i64 ot], .int .i64 op, .int .i64 ch, .agg #[.int .i64 slo, .int .i64 shi]] W' fun e w' => e = .returned (.tuple #[.agg #[.int .i64 X, .int .i64 Y], .int .i64 0]) ∧ Below W'.heap.size W' w'))
    (HT : Hid (∀ W', Below W.heap.size W W' → Calls Try.prog 14 #[.agg #[.int .i64 h, .int .i64 w, .int .i64 c, .int .i64 lo, .int .i64 hi, .slice oa on oc, .int .i64 ot], .int .i64 op, .slice ad n cap] W' fun e w' => (∃ v, e = .returned (.tuple #[v, .int .i64 0]) ∧ Own .i64 2 w' W'.heap.size v SS) ∧ Below W'.heap.size W' w'))
    (HFi : Hid (∀ W', Below W.heap.size W W' → Calls Try.prog 15 #[.agg #[.int .i64 h, .int .i64 w, .int .i64 c, .int .i64 lo, .int .i64 hi, .slice oa on oc, .int .i64 ot], .int .i64 op, .int .i64 0] W' fun e w' => e = .returned (.tuple #[.agg #[.int .i64 (O i 0), .int .i64 (O i 1), .int .i64 (O i 2), .int .i64 (O i 3), .int .i64 (O i 4), .int .i64 (O i 5), .int .i64 (O i 6), .int .i64 (O i 7), .int .i64 (O i 8), .int .i64 (O i 9), .int .i64 (O i 10), .int .i64 (O i 11), .slice wa lw cw, .slice ba lb cb, .int .i64 (O i 14), .int .i64 (O i 15), .int .i64 (O i 16), .int .i64 (O i 17), .int .i64 (O i 18), .int .i64 (O i 19), .int .i64 (O i 20), .int .i64 (O i 21), .int .i64 x0, .int .i64 y0, .int .i64 z0, .int .i64 H, .int .i64 V, .int .i64 C], .int .i64 0]) ∧ Below W'.heap.size W' w'))
    (HH : Hid ((∀ v ∈ xs, slo ≤ v ∧ v ≤ shi) → ∀ k : Nat, k < NS → Int.tmod (k : Int) C = ch - 1 → X ≤ SS.getD k 0 ∧ SS.getD k 0 ≤ Y)) :
    Calls Try.prog 5 #[.agg #[.int .i64 h, .int .i64 w, .int .i64 c, .int .i64 lo, .int .i64 hi, .slice oa on oc, .int .i64 ot, .int .i64 op, .int .i64 ch, .int .i64 slo, .int .i64 shi, .slice ad n cap]] W fun e w' => e = .returned (.bool true) ∧ Below W.heap.size W w' := by
  have s0 := (St.start W).new (c := #[.int .i64 h, .int .i64 w, .int .i64 c, .int .i64 lo, .int .i64 hi, .slice oa on oc, .int .i64 ot, .int .i64 op, .int .i64 ch, .int .i64 slo, .int .i64 shi, .slice ad n cap]) (t := 31)
  have hn1 := hX.1
  have hn2 := hX.2.1
  have hn3 := hX.2.2.1
  unfold maxLen at hn3
  have HXl : Hid (xs.length = n) := hn1
  have HX : Hid (IRow .i8 W ad n cap xs) := hX
  have HNS : Hid (SS.length = NS) := hNS
  clear hX hn1 hNS
  go_enter Try.func5, Try.ntmps5
  go_wp2_with fail
  refine (fixed12_any _).mono ?_
  rintro e w1 ⟨rfl, hb⟩
  have s1 := s0.call hb
  clear hb s0
  obtain ⟨c1, f1, z1, -⟩ := s1.rules
  go_wp2_with fail
  refine Calls.mono (HQ.out _ s1.below) ?_
  rintro e w2 ⟨rfl, hb⟩
  have s2 := (s1.call hb).new (c := #[.int .i64 X, .int .i64 Y]) (t := 28)
  clear hb s1 HQ c1 f1 z1
  obtain ⟨c1, f1, z1, c2, f2, z2, -⟩ := s2.rules
  go_wp2_with fail
  refine Calls.mono (HT.out _ s2.below) ?_
  rintro e w3 ⟨⟨v, rfl, hO⟩, hb⟩
  have s3 := s2.call hb
  obtain ⟨va, vc, rfl, hrow, -⟩ := hO.row
  rw [HNS.out] at hrow ⊢
  have HR3 : Hid (IRow .i64 w3 va NS vc SS) := hrow
  have HX3 : Hid (IRow .i8 w3 ad n cap xs) := HX.out.below s3.below
  obtain ⟨qb, hqb⟩ : ∃ qb, w2.heap.size = qb := ⟨_, rfl⟩
  rw [hqb] at s3 ⊢
  clear hb s2 HT HX c1 f1 z1 c2 f2 z2 hqb hO hrow
  have S3 : Hid (St W w3 _) := s3
  obtain ⟨c1, f1, z1, c2, f2, z2, -⟩ := s3.rules
  clear s3
  go_wp2_with fail
  go_loopw [54] (fun i wr => ∃ k : Nat, k ≤ n ∧ i = .int .i64 k ∧ (∀ v ∈ xs.take k, slo ≤ v ∧ v ≤ shi) ∧ wr = w3) (fun i _ => n - (intOf i).toNat)
  case atStart => exact ⟨0, Nat.zero_le _, rfl, fun v hv => by simp at hv, rfl⟩
  case round =>
    obtain ⟨k, hk, rfl, hin, rfl⟩ := hrel
    have HIn : Hid (∀ v ∈ xs.take k, slo ≤ v ∧ v ≤ shi) := hin
    clear hin
    by_cases hlt : k < n
    · obtain ⟨x1, u, rfl, hu, hw8, hz, -⟩ := HX3.out.at hlt
      have hwf := wf_i8 hw8
      by_cases g1 : u < slo
      · clear HIn hz hw8
        go_wp2
        go_ret
        exact ⟨rfl, S3.out.below⟩
      · by_cases g2 : shi < u
        · clear HIn hz hw8
          go_wp2
          go_ret
          exact ⟨rfl, S3.out.below⟩
        · have HI2 : Hid _ := take_in HIn.out hz ⟨by omega, by omega⟩
          clear HIn hz hw8
          go_wp2
          go_roundw
          case rel => exact ⟨k + 1, by omega, by go_num, HI2.out, by first | rfl | trivial⟩
          case measure => simp [intOf]; omega
    · obtain rfl : k = n := by omega
      have HH2 : Hid (∀ k : Nat, k < NS → Int.tmod (k : Int) C = ch - 1 → X ≤ SS.getD k 0 ∧ SS.getD k 0 ≤ Y) := HH.out (fun v hv => HIn.out v (by rw [← HXl.out, List.take_length]; exact hv))
      clear HIn HH HX3 HXl
      go_wp2_with fail
      refine Calls.mono (HFi.out _ S3.out.below) ?_
      rintro e w4 ⟨rfl, hb⟩
      have s5 := (S3.out.call hb).new (c := #[.int .i64 (O i 0), .int .i64 (O i 1), .int .i64 (O i 2), .int .i64 (O i 3), .int .i64 (O i 4), .int .i64 (O i 5), .int .i64 (O i 6), .int .i64 (O i 7), .int .i64 (O i 8), .int .i64 (O i 9), .int .i64 (O i 10), .int .i64 (O i 11), .slice wa lw cw, .slice ba lb cb, .int .i64 (O i 14), .int .i64 (O i 15), .int .i64 (O i 16), .int .i64 (O i 17), .int .i64 (O i 18), .int .i64 (O i 19), .int .i64 (O i 20), .int .i64 (O i 21), .int .i64 x0, .int .i64 y0, .int .i64 z0, .int .i64 H, .int .i64 V, .int .i64 C]) (t := 41)
      have HR5 : Hid (IRow .i64 _ va NS vc SS) := HR3.out.below (btr hb (bal w4 (.cells #[.int .i64 (O i 0), .int .i64 (O i 1), .int .i64 (O i 2), .int .i64 (O i 3), .int .i64 (O i 4), .int .i64 (O i 5), .int .i64 (O i 6), .int .i64 (O i 7), .int .i64 (O i 8), .int .i64 (O i 9), .int .i64 (O i 10), .int .i64 (O i 11), .slice wa lw cw, .slice ba lb cb, .int .i64 (O i 14), .int .i64 (O i 15), .int .i64 (O i 16), .int .i64 (O i 17), .int .i64 (O i 18), .int .i64 (O i 19), .int .i64 (O i 20), .int .i64 (O i 21), .int .i64 x0, .int .i64 y0, .int .i64 z0, .int .i64 H, .int .i64 V, .int .i64 C] 41)))
      clear hb S3 HR3 HFi c1 f1 z1 c2 f2 z2
      obtain ⟨rb, hrb⟩ : ∃ rb, w4.heap.size = rb := ⟨_, rfl⟩
      obtain ⟨w5, hw5⟩ : ∃ w5, w4.alloc (.cells #[.int .i64 (O i 0), .int .i64 (O i 1), .int .i64 (O i 2), .int .i64 (O i 3), .int .i64 (O i 4), .int .i64 (O i 5), .int .i64 (O i 6), .int .i64 (O i 7), .int .i64 (O i 8), .int .i64 (O i 9), .int .i64 (O i 10), .int .i64 (O i 11), .slice wa lw cw, .slice ba lb cb, .int .i64 (O i 14), .int .i64 (O i 15), .int .i64 (O i 16), .int .i64 (O i 17), .int .i64 (O i 18), .int .i64 (O i 19), .int .i64 (O i 20), .int .i64 (O i 21), .int .i64 x0, .int .i64 y0, .int .i64 z0, .int .i64 H, .int .i64 V, .int .i64 C] 41) = w5 := ⟨_, rfl⟩
      rw [hw5, hrb] at s5
      rw [hw5] at HR5
      have S5 : Hid (St W w5 _) := s5
      have Hw5 : Hid (w4.alloc (.cells #[.int .i64 (O i 0), .int .i64 (O i 1), .int .i64 (O i 2), .int .i64 (O i 3), .int .i64 (O i 4), .int .i64 (O i 5), .int .i64 (O i 6), .int .i64 (O i 7), .int .i64 (O i 8), .int .i64 (O i 9), .int .i64 (O i 10), .int .i64 (O i 11), .slice wa lw cw, .slice ba lb cb, .int .i64 (O i 14), .int .i64 (O i 15), .int .i64 (O i 16), .int .i64 (O i 17), .int .i64 (O i 18), .int .i64 (O i 19), .int .i64 (O i 20), .int .i64 (O i 21), .int .i64 x0, .int .i64 y0, .int .i64 z0, .int .i64 H, .int .i64 V, .int .i64 C] 41) = w5) := hw5
      have Hrb : Hid (w4.heap.size = rb) := hrb
      clear s5 hw5 hrb
      go_upto_region 14 with (refine wpList_st_new rfl 41 (.tmp 9) (.tmp 79) rfl w4 _ #[.int .i64 (O i 0), .int .i64 (O i 1), .int .i64 (O i 2), .int .i64 (O i 3), .int .i64 (O i 4), .int .i64 (O i 5), .int .i64 (O i 6), .int .i64 (O i 7), .int .i64 (O i 8), .int .i64 (O i 9), .int .i64 (O i 10), .int .i64 (O i 11), .slice wa lw cw, .slice ba lb cb, .int .i64 (O i 14), .int .i64 (O i 15), .int .i64 (O i 16), .int .i64 (O i 17), .int .i64 (O i 18), .int .i64 (O i 19), .int .i64 (O i 20), .int .i64 (O i 21), .int .i64 x0, .int .i64 y0, .int .i64 z0, .int .i64 H, .int .i64 V, .int .i64 C] rfl rfl (by kernel_rfl) rfl (by simp [Value.oneCell']) ?_; rw [Hw5.out, Hrb.out])
      have hl1 := HR5.out.2.1
      have hl2 := HR5.out.2.2.1
      unfold maxLen at hl2
      clear Hw5 Hrb
      go_wp2
      go_loopw [11, 83] (fun d i wr => ∃ (k q hd : Nat), k ≤ NS ∧ d = .int .i64 hd ∧ i = .int .i64 k ∧ hd ≤ k ∧ (ch - 1 < (k : Int) → 1 ≤ hd) ∧ wr = w5.drewN q) (fun _ i _ => NS - (intOf i).toNat)
      case atStart => exact ⟨0, 0, 0, Nat.zero_le _, rfl, rfl, Nat.le_refl _, fun q => by omega, rfl⟩
      case round =>
        obtain ⟨k, q, hd, hk, rfl, rfl, hhd, hpos, rfl⟩ := hrel
        obtain ⟨c1, f1, z1, c2, f2, z2, c3, f3, z3, -⟩ := S5.out.rules
        by_cases hlt : k < NS
        · obtain ⟨x1, u, rfl, hu, hw64, hz, -⟩ := HR5.out.at hlt
          have HU : Hid (Int.tmod (k : Int) C = ch - 1 → X ≤ u ∧ u ≤ Y) := fun g => by
            have := HH2.out k hlt g
            rw [List.getD_eq_getElem?_getD, hz] at this
            exact this
          have hself : Hid ((k : Int) = ch - 1 → Int.tmod (k : Int) C = ch - 1) := fun g => by
            rw [Int.tmod_eq_emod_of_nonneg (by omega), Int.emod_eq_of_lt (by omega) (by omega)]; exact g
          obtain ⟨tm, htm⟩ : ∃ tm, Int.tmod (k : Int) C = tm := ⟨_, rfl⟩
          have hC0 : (C == 0) = false := by simp; omega
          have hwc : IntKind.i64.wrap (ch - 1) = ch - 1 := by rw [IntKind.wrap_i64]; omega
          have htb : -9223372036854775808 ≤ tm ∧ tm ≤ 9223372036854775807 := by
            rw [← htm, Int.tmod_eq_emod_of_nonneg (by omega)]
            have q1 := Int.emod_nonneg (k : Int) (show C ≠ 0 by omega)
            have q2 := Int.emod_lt_of_pos (k : Int) (show 0 < C by omega)
            omega
          have hC1 : 0 < C := by omega
          rw [htm] at HU hself
          have Hp : Hid (ch - 1 < (k : Int) → 1 ≤ hd) := hpos
          clear hz HH2 hw64 hpos
          by_cases hm : tm = ch - 1
          · have hme : (tm == ch - 1) = true := by simp [hm]
            obtain ⟨u1, u2⟩ := HU.out hm
            have u3 : ¬ u < X := by omega
            have u4 : ¬ Y < u := by omega
            clear HU hself hm
            go_wp2
            go_quiet (fail)
            go_wp2
            go_roundw
            case rel => exact ⟨k + 1, _, hd + 1, by omega, by go_num, by go_num, by omega, fun _ => by omega, rfl⟩
            case measure => simp [intOf]; omega
          · have hme : (tm == ch - 1) = false := by simp [hm]
            have Hne : Hid (¬ (k : Int) = ch - 1) := fun g => hm (hself.out g)
            clear HU hself hm
            go_wp2
            go_quiet (fail)
            go_wp2
            go_roundw
            case rel => exact ⟨k + 1, _, hd, by omega, rfl, by go_num, by omega, fun q => Hp.out (by have := Hne.out; omega), rfl⟩
            case measure => simp [intOf]; omega
        · obtain rfl : k = NS := by omega
          have hd1 := hpos (by omega)
          have hd2 : (0 : Int) < (hd : Int) := by omega
          clear HH2 hpos
          go_wp2
          go_ret
          exact ⟨retB (by simp; omega), btr S5.out.below (dbel _ _)⟩
theorem normHolds_walk (h w c lo hi : Int) (oa : Option Addr) (on oc : Nat) (ot op ch slo shi : Int) (ad : Option Addr) (n cap : Nat) (xs : List Int) (W : World) (_ : (Lit.int .i64 h).wf = true) (_ : (Lit.int .i64 w).wf = true) (_ : (Lit.int .i64 c).wf = true) (_ : (Lit.int .i64 lo).wf = true) (_ : (Lit.int .i64 hi).wf = true) (wo : ORow 22 (OpIn W) W oa on oc) (hr : on * 208 ≤ 140737488351232) (_ : (Lit.int .i64 ot).wf = true) (_ : (Lit.int .i64 op).wf = true) (_ : (Lit.int .i64 ch).wf = true) (_ : (Lit.int .i64 slo).wf = true) (_ : (Lit.int .i64 shi).wf = true) (hX : IRow .i8 W ad n cap xs) (hrx : n * 1 ≤ 140737488351232) : Calls Try.prog 5 #[.agg #[.int .i64 h, .int .i64 w, .int .i64 c, .int .i64 lo, .int .i64 hi, .slice oa on oc, .int .i64 ot, .int .i64 op, .int .i64 ch, .int .i64 slo, .int .i64 shi, .slice ad n cap]] W fun e w' => e = .returned (.bool true) ∧ Below W.heap.size W w' := by
  obtain ⟨O, Z, B, hL⟩ := lrow_of wo
  have hon : on ≤ 1000000000000 := by omega
  have hn9 : n ≤ 9223372036854775807 := by omega
  rcases ask_cases h w c lo hi ot oa on oc O Z B W hL hon op ch with ⟨E, hE, h1, h2⟩ | ⟨RL, Rw, hR, i, x, wa, lw, cw, ba, lb, cb, x0, y0, z0, H, V, C, rfl, hF, hch⟩
  · refine holds_e h w c lo hi oa on oc ot op ch slo shi ad n cap W 0 0 E (fun W' hb => qu_e h w c lo hi ot op ch oa on oc W' slo shi E hE (fun W'' hb' => h1 W'' (hb.trans (hb'.mono hb.size)))) (fun W' hb => ?_) (fun _ => ⟨rfl, rfl⟩)
    obtain ⟨F, hf⟩ : ∃ F, fiE O h w c lo hi ot on op = F := ⟨_, rfl⟩
    by_cases hF0 : F = 0
    · subst hF0
      obtain ⟨RL, Rw, hR, i, x, wa, lw, cw, ba, lb, cb, x0, y0, z0, H, V, C, rfl, hF⟩ := found h w c lo hi ot oa on oc O Z B W hL op hf
      refine (totals_ok h w c lo hi ot oa on oc O Z B W' (hL.below hb) RL Rw hR i x wa lw cw ba lb cb x0 y0 z0 H V C (hF.below hb) ad n cap xs (hX.below hb)).mono fun e w' ⟨q1, q2⟩ => ⟨?_, q2⟩
      by_cases hnP : (n : Int) = x0 * y0 * z0
      · rw [if_pos hnP] at q1
        obtain ⟨v, rfl, hO⟩ := q1
        obtain ⟨va, vc, rfl, -⟩ := hO.row
        exact ⟨_, _, _, _, rfl, .inl hE⟩
      · rw [if_neg hnP] at q1
        exact ⟨_, _, _, _, q1, .inl hE⟩
    · exact (totals_bad h w c lo hi ot oa on oc O Z B W' (hL.below hb) op F hf hF0 ad n cap hn9).mono fun e w' ⟨q1, q2⟩ => ⟨⟨_, _, _, _, q1, .inl hE⟩, q2⟩
  · have hSit := hF.2.2.2.2.2.2.2.2.2.1
    have hQ := fun W' (hb : Below W.heap.size W W') => nqu_ok h w c lo hi ot oa on oc O Z B W' (hL.below hb) ch RL Rw hR i x wa lw cw ba lb cb x0 y0 z0 H V C (hF.below hb) hch slo shi
    have hT := fun W' (hb : Below W.heap.size W W') => totals_ok h w c lo hi ot oa on oc O Z B W' (hL.below hb) RL Rw hR i x wa lw cw ba lb cb x0 y0 z0 H V C (hF.below hb) ad n cap xs (hX.below hb)
    by_cases hs : vaB slo shi = true
    · by_cases hnP : (n : Int) = x0 * y0 * z0
      · have hCb := (vS_yes hSit.2.2.1).2.2.1
        have hHV := vS_bd hSit.2.2.1
        unfold quR at hQ
        rw [if_pos hs] at hQ
        refine holds_k (O := O) (i := i) (wa := wa) (lw := lw) (cw := cw) (ba := ba) (lb := lb) (cb := cb) (x0 := x0) (y0 := y0) (z0 := z0) (H := H) (V := V) (C := C) (x := x) h w c lo hi oa on oc ot _ ch slo shi ad n cap W _ _ xs (suL (O i 0) (O i 4) (O i 5) (O i 6) (O i 7) (O i 8) (O i 9) (O i 10) (O i 11) x0 y0 z0 C (O i 19) (Z i) (B i) xs (H * V * C).toNat) (H * V * C).toNat hX (suL_len ..) hCb hch ⟨?_, by omega⟩ hQ (fun W' hb => (hT W' hb).mono fun e w' ⟨q1, q2⟩ => ⟨by rw [if_pos hnP] at q1; exact q1, q2⟩) (fun W' hb => rfind_ok h w c lo hi ot oa on oc O Z B W' (hL.below hb) hon 0 RL Rw hR i x wa lw cw ba lb cb x0 y0 z0 H V C (hF.below hb) (by omega)) (fun hin k hk hm => ?_)
        · have := Int.mul_le_mul_of_nonneg_right (show 1 ≤ H * V by omega) (show 0 ≤ C by omega)
          omega
        · have e1 : (suL (O i 0) (O i 4) (O i 5) (O i 6) (O i 7) (O i 8) (O i 9) (O i 10) (O i 11) x0 y0 z0 C (O i 19) (Z i) (B i) xs (H * V * C).toNat).getD k 0 = suA (O i 0) (O i 4) (O i 5) (O i 6) (O i 7) (O i 8) (O i 9) (O i 10) (O i 11) x0 y0 z0 (O i 19) (Z i) (B i) xs ((k : Int) % C + 1) ((k : Int) / C) := by
            unfold suL
            rw [List.getD_eq_getElem?_getD, List.getElem?_map, List.getElem?_range hk]
            rfl
          rw [e1]
          rw [Int.tmod_eq_emod_of_nonneg (by omega)] at hm
          rw [hm, show ch - 1 + 1 = ch by omega]
          have d1 := Int.ediv_nonneg (show 0 ≤ (k : Int) by omega) (show 0 ≤ C by omega)
          have d2 : (k : Int) / C < H * V := Int.ediv_lt_of_lt_mul (by omega) (by omega)
          exact suA_held hSit hF.2.2.2.2.2.1.2.2.2.1 hch ⟨d1, d2⟩ (by rw [hX.1]; exact hnP) hin
      · refine holds_e h w c lo hi oa on oc ot _ ch slo shi ad n cap W _ _ _ hQ (fun W' hb => (hT W' hb).mono fun e w' ⟨q1, q2⟩ => ⟨?_, q2⟩) (fun q => ?_)
        · rw [if_neg hnP] at q1
          exact ⟨_, _, _, _, q1, .inr (by omega)⟩
        · unfold quR at q
          rw [if_pos hs] at q
          exact absurd rfl q
    · have e : quR slo shi (biA (O i 0) ch (B i)) (upS (siL (O i 0) (O i 4) (O i 5) (O i 6) (O i 7) (O i 8) (O i 9) (O i 10) (O i 11) x0 y0 z0 ch 0 (Z i)) - dnS (siL (O i 0) (O i 4) (O i 5) (O i 6) (O i 7) (O i 8) (O i 9) (O i 10) (O i 11) x0 y0 z0 ch 0 (Z i))) (rcV (O i 8) (O i 9) (O i 10) (O i 11) (O i 19) slo shi) = (0, 0, 30) := by unfold quR; rw [if_neg hs]
      rw [e] at hQ
      refine holds_e h w c lo hi oa on oc ot _ ch slo shi ad n cap W 0 0 30 hQ (fun W' hb => (hT W' hb).mono fun e w' ⟨q1, q2⟩ => ⟨?_, q2⟩) (fun _ => ⟨rfl, rfl⟩)
      by_cases hnP : (n : Int) = x0 * y0 * z0
      · rw [if_pos hnP] at q1
        obtain ⟨v, rfl, hO⟩ := q1
        obtain ⟨va, vc, rfl, -⟩ := hO.row
        exact ⟨_, _, _, _, rfl, .inl (by omega)⟩
      · rw [if_neg hnP] at q1
        exact ⟨_, _, _, _, q1, .inl (by omega)⟩
end Go.Proofs.Ytjjckaklhafibaa

/- The walk of NormQuicks. -/
namespace Go.Proofs.Ytjjckaklhafibaa
open Go.ChangeShapes Go.WideShapes Go.ChangeAt Go.RowKit
set_option linter.unusedVariables false
set_option maxHeartbeats 4000000 in
set_option maxRecDepth 100000 in
theorem quicks_w (h w c lo hi : Int) (oa : Option Addr) (on oc : Nat) (ot op ch slo shi : Int) (ad : Option Addr) (n cap : Nat) (W : World) (X Y E : Int)
    (HQ : Hid (∀ W', Below W.heap.size W W' → Calls Try.prog 12 #[.agg #[.int .i64 h, .int .i64 w, .int .i64 c, .int .i64 lo, .int .i64 hi, .slice oa on oc, .int .i64 ot], .int .i64 op, .int .i64 ch, .agg #[.int .i64 slo, .int .i64 shi]] W' fun e w' => e = .returned (.tuple #[.agg #[.int .i64 X, .int .i64 Y], .int .i64 E]) ∧ Below W'.heap.size W' w'))
    (HR : Hid (∀ W', Below W.heap.size W W' → Calls Try.prog 13 #[.agg #[.int .i64 h, .int .i64 w, .int .i64 c, .int .i64 lo, .int .i64 hi, .slice oa on oc, .int .i64 ot], .int .i64 op, .int .i64 ch, .agg #[.int .i64 slo, .int .i64 shi]] W' fun e w' => e = .returned (.tuple #[.agg #[.int .i64 X, .int .i64 Y], .int .i64 E]) ∧ Below W'.heap.size W' w')) :
    Calls Try.prog 4 #[.agg #[.int .i64 h, .int .i64 w, .int .i64 c, .int .i64 lo, .int .i64 hi, .slice oa on oc, .int .i64 ot, .int .i64 op, .int .i64 ch, .int .i64 slo, .int .i64 shi, .slice ad n cap]] W fun e w' => e = .returned (.bool true) ∧ Below W.heap.size W w' := by
  have s0 := (St.start W).new (c := #[.int .i64 h, .int .i64 w, .int .i64 c, .int .i64 lo, .int .i64 hi, .slice oa on oc, .int .i64 ot, .int .i64 op, .int .i64 ch, .int .i64 slo, .int .i64 shi, .slice ad n cap]) (t := 31)
  go_enter Try.func4, Try.ntmps4
  go_wp2_with fail
  refine Calls.mono (HQ.out _ s0.below) ?_
  rintro e w1 ⟨rfl, hb⟩
  have s1 := (s0.call hb).new (c := #[.int .i64 X, .int .i64 Y]) (t := 28)
  obtain ⟨c1, f1, z1, c2, f2, z2, -⟩ := s1.rules
  clear hb s0 HQ
  go_wp2_with fail
  refine Calls.mono (HR.out _ s1.below) ?_
  rintro e w2 ⟨rfl, hb⟩
  have s2 := (s1.call hb).new (c := #[.int .i64 X, .int .i64 Y]) (t := 28)
  clear hb s1 HR c1 f1 z1 c2 f2 z2
  go_wp2_with fail
  refine (fixed12_any _).mono ?_
  rintro e w3 ⟨rfl, hb⟩
  have s3 := s2.call hb
  obtain ⟨c1, f1, z1, c2, f2, z2, -⟩ := s3.rules
  have hq := eqSp 28 rfl X Y X Y true (by simp)
  clear hb s2
  go_wp2
  go_ret
  exact ⟨rfl, s3.below⟩
theorem normQuicks_walk (h w c lo hi : Int) (oa : Option Addr) (on oc : Nat) (ot op ch slo shi : Int) (ad : Option Addr) (n cap : Nat) (xs : List Int) (W : World) (_ : (Lit.int .i64 h).wf = true) (_ : (Lit.int .i64 w).wf = true) (_ : (Lit.int .i64 c).wf = true) (_ : (Lit.int .i64 lo).wf = true) (_ : (Lit.int .i64 hi).wf = true) (wo : ORow 22 (OpIn W) W oa on oc) (hr : on * 208 ≤ 140737488351232) (_ : (Lit.int .i64 ot).wf = true) (_ : (Lit.int .i64 op).wf = true) (_ : (Lit.int .i64 ch).wf = true) (_ : (Lit.int .i64 slo).wf = true) (_ : (Lit.int .i64 shi).wf = true) (hX : IRow .i8 W ad n cap xs) (hrx : n * 1 ≤ 140737488351232) : Calls Try.prog 4 #[.agg #[.int .i64 h, .int .i64 w, .int .i64 c, .int .i64 lo, .int .i64 hi, .slice oa on oc, .int .i64 ot, .int .i64 op, .int .i64 ch, .int .i64 slo, .int .i64 shi, .slice ad n cap]] W fun e w' => e = .returned (.bool true) ∧ Below W.heap.size W w' := by
  obtain ⟨O, Z, B, hL⟩ := lrow_of wo
  have hon : on ≤ 1000000000000 := by omega
  rcases ask_cases h w c lo hi ot oa on oc O Z B W hL hon op ch with ⟨E, hE, h1, h2⟩ | ⟨RL, Rw, hR, i, x, wa, lw, cw, ba, lb, cb, x0, y0, z0, H, V, C, rfl, hF, hch⟩
  · exact quicks_w h w c lo hi oa on oc ot op ch slo shi ad n cap W 0 0 E (fun W' hb => qu_e h w c lo hi ot op ch oa on oc W' slo shi E hE (fun W'' hb' => h1 W'' (hb.trans (hb'.mono hb.size)))) (fun W' hb => rqu_e h w c lo hi ot op ch oa on oc W' slo shi E hE (fun W'' hb' => h2 W'' (hb.trans (hb'.mono hb.size))))
  · exact quicks_w h w c lo hi oa on oc ot _ ch slo shi ad n cap W _ _ _ (fun W' hb => nqu_ok h w c lo hi ot oa on oc O Z B W' (hL.below hb) ch RL Rw hR i x wa lw cw ba lb cb x0 y0 z0 H V C (hF.below hb) hch slo shi) (fun W' hb => rqu_any h w c lo hi ot oa on oc O Z B W' (hL.below hb) hon ch RL Rw hR i x wa lw cw ba lb cb x0 y0 z0 H V C (hF.below hb) hch slo shi)
end Go.Proofs.Ytjjckaklhafibaa
