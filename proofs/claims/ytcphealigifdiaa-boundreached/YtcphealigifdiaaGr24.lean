/- What the answers of package bound hold, in plain numbers: one another; over wider spans; Quick. What the small functions of package plain return: places, isInput, widened, scaled, means, added. What the small functions of package norm return, and those of the document. What sum of package plain returns. What alone of package plain returns: a model of one op. The reach of an op, by package norm and by the document; the document's sums of weights. What L1, Signed and Quick of package norm return. -/
import Derived.Test.YtcphealigifdiaaGr01
import Derived.Test.YtcphealigifdiaaGr11
import Derived.Test.YtcphealigifdiaaGr18
import Derived.Test.YtcphealigifdiaaGr19
import Derived.Test.YtcphealigifdiaaGr20
import Derived.Test.YtcphealigifdiaaGr22
import Derived.Test.YtcphealigifdiaaGr23
import Derived.BigQuiet
import Derived.LoopN
import Derived.Deep.DeepCutAuto
/- What the answers of package bound hold, in plain numbers: one another; over wider spans; Quick. -/
namespace Go.Proofs.Ytcphealigifdiaa
open Go.ChangeShapes Go.WideShapes Go.ChangeAt Go.RowKit
set_option linter.unusedVariables false
/-- The one is held by the other. -/
def Inn (x y : Int × Int) : Prop := y.1 ≤ x.1 ∧ x.2 ≤ y.2
theorem Inn.refl (x : Int × Int) : Inn x x := ⟨Int.le_refl _, Int.le_refl _⟩
theorem hul_in {L M : List (Int × Int)} (hL : L ≠ []) (hM : M ≠ []) (h : ∀ x ∈ L, ∃ y ∈ M, Inn x y) : Inn (huA L) (huA M) := by
  obtain ⟨-, ⟨x, hx, ex⟩, ⟨y, hy, ey⟩⟩ := huA_is hL
  obtain ⟨h1, -, -⟩ := huA_is hM
  obtain ⟨u, hu, i1⟩ := h x hx
  obtain ⟨v, hv, i2⟩ := h y hy
  have a1 := h1 u hu
  have a2 := h1 v hv
  unfold Inn at *
  omega
theorem hul_has {L : List (Int × Int)} {x : Int × Int} (hx : x ∈ L) : Inn x (huA L) := by
  have hL : L ≠ [] := fun e => by rw [e] at hx; cases hx
  exact (huA_is hL).1 x hx
theorem hul_ok {L : List (Int × Int)} {M : Int} (hL : L ≠ []) (h : ∀ x ∈ L, Vd M x) : Vd M (huA L) := by
  cases L with
  | nil => exact absurd rfl hL
  | cons x l => exact huF_vd (h x List.mem_cons_self) fun y hy => h y (List.mem_cons_of_mem _ hy)
theorem xho_of {a b : Int × Int} (h : Inn b a) (hv : b.1 ≤ b.2) : xho a.1 a.2 b.1 b.2 = true := decide_eq_true ⟨hv, h.1, h.2⟩
theorem piT_ne {F : List (Int × Int) → List (Int × Int)} {R : Nat → List (Int × Int)} {N : Nat} (hN : 0 < N) (h : 0 < (F (R 0)).length) : piT F R N ≠ [] := fun e => by
  cases q : F (R 0) with
  | nil => rw [q] at h; cases h
  | cons x l =>
    obtain ⟨m, hm⟩ := piT_head hN q
    rw [hm] at e; cases e
theorem piT_in {F G : List (Int × Int) → List (Int × Int)} {R R' : Nat → List (Int × Int)} {N : Nat} (h : ∀ k, k < N → ∀ x ∈ F (R k), ∃ y ∈ G (R' k), Inn x y) : ∀ x ∈ piT F R N, ∃ y ∈ piT G R' N, Inn x y := fun x hx => by
  obtain ⟨k, hk, hx'⟩ := mem_piT.1 hx
  obtain ⟨y, hy, hi⟩ := h k hk x hx'
  exact ⟨y, mem_piT.2 ⟨k, hk, hy⟩, hi⟩
/-! ### One another -/
theorem suS_mem (s : Int × Int) (E : List (Int × Int)) : suS s E ∈ ruL s E := mem_ruL.2 ⟨E.length, Nat.le_refl _, by rw [List.take_length]⟩
theorem mem_pa1 {E : List (Int × Int)} {x : Int × Int} : x ∈ paL 1 E ++ E ↔ x ∈ E := by
  rw [List.mem_append, mem_paL (by omega)]
  constructor
  · rintro (⟨i, hi, rfl⟩ | h)
    · unfold psm
      rw [Nat.div_one, Nat.mul_one, Nat.mod_one, Nat.zero_add]
      rw [List.take_one, List.head?_drop, List.getElem?_eq_getElem hi]
      simp only [Option.toList, suS, List.foldl, plS, Int.zero_add]
      exact List.getElem_mem hi
    · exact h
  · exact fun h => .inr h
theorem hbD_one {R : Nat → List (Int × Int)} {N : Nat} (h : piT (fun E => paL 1 E ++ E) R N ≠ []) : hbD 1 R N = hbP R N :=
  huA_eq h fun x => by
    rw [mem_piT, mem_piT]
    constructor
    · rintro ⟨k, hk, hx⟩; exact ⟨k, hk, mem_pa1.1 hx⟩
    · rintro ⟨k, hk, hx⟩; exact ⟨k, hk, mem_pa1.2 hx⟩
/-! ### Over a wider span -/
theorem xti_wide {a b c d k : Int} (h1 : c ≤ a) (h2 : a ≤ b) (h3 : b ≤ d) : Inn (xti a b k) (xti c d k) := by
  unfold Inn xti
  by_cases g : k < 0
  · rw [if_pos g, if_pos g]
    have p1 := Int.mul_le_mul_of_nonpos_right h3 (show k ≤ 0 by omega)
    have p2 := Int.mul_le_mul_of_nonpos_right h1 (show k ≤ 0 by omega)
    exact ⟨p1, p2⟩
  · rw [if_neg g, if_neg g]
    exact ⟨Int.mul_le_mul_of_nonneg_right h1 (by omega), Int.mul_le_mul_of_nonneg_right h3 (by omega)⟩
theorem tmE_wide {lo hi lo' hi' p : Int} (h1 : lo' ≤ lo) (h2 : lo ≤ hi) (h3 : hi ≤ hi') (t : Int × Int) : Inn (tmE lo hi p t) (tmE lo' hi' p t) := by
  unfold tmE
  split
  · exact Inn.refl _
  · exact xti_wide h1 h2 h3
theorem plS_in {a b c d : Int × Int} (h : Inn a b) (g : Inn c d) : Inn (plS a c) (plS b d) := by unfold Inn plS at *; simp only; omega
theorem suS_in {f g : Int × Int → Int × Int} : ∀ (TL : List (Int × Int)) (s s' : Int × Int), (∀ t ∈ TL, Inn (f t) (g t)) → Inn s s' → Inn (suS s (TL.map f)) (suS s' (TL.map g))
  | [], s, s', _, h => h
  | t :: l, s, s', H, h => suS_in l (plS s (f t)) (plS s' (g t)) (fun u hu => H u (List.mem_cons_of_mem _ hu)) (plS_in h (H t List.mem_cons_self))
section
variable {lo hi lo' hi' p : Int} (h1 : lo' ≤ lo) (h2 : lo ≤ hi) (h3 : hi ≤ hi') (TL : List (Int × Int))
include h1 h2 h3
theorem win_tot (b : Int) : Inn (suS (b, b) (enL lo hi p TL)) (suS (b, b) (enL lo' hi' p TL)) := suS_in TL _ _ (fun t _ => tmE_wide h1 h2 h3 t) (Inn.refl _)
theorem win_sub (i j : Nat) (s : Int × Int) : Inn (suS s (((enL lo hi p TL).drop i).take j)) (suS s (((enL lo' hi' p TL).drop i).take j)) := by
  unfold enL
  rw [← List.map_drop, ← List.map_take, ← List.map_drop, ← List.map_take]
  exact suS_in _ _ _ (fun t _ => tmE_wide h1 h2 h3 t) (Inn.refl _)
theorem win_run (b : Int) : ∀ x ∈ ruL (b, b) (enL lo hi p TL), ∃ y ∈ ruL (b, b) (enL lo' hi' p TL), Inn x y := fun x hx => by
  obtain ⟨j, hj, rfl⟩ := mem_ruL.1 hx
  refine ⟨_, mem_ruL.2 ⟨j, by rw [enL_len] at hj ⊢; exact hj, rfl⟩, ?_⟩
  have := win_sub (p := p) h1 h2 h3 TL 0 j (b, b)
  simpa using this
theorem win_prd : ∀ x ∈ enL lo hi p TL, ∃ y ∈ enL lo' hi' p TL, Inn x y := fun x hx => by
  obtain ⟨t, ht, rfl⟩ := List.mem_map.1 hx
  exact ⟨_, List.mem_map.2 ⟨t, ht, rfl⟩, tmE_wide h1 h2 h3 t⟩
theorem win_prt {d : Nat} (hd : 0 < d) : ∀ x ∈ paL d (enL lo hi p TL) ++ enL lo hi p TL, ∃ y ∈ paL d (enL lo' hi' p TL) ++ enL lo' hi' p TL, Inn x y := fun x hx => by
  rcases List.mem_append.1 hx with q | q
  · obtain ⟨i, hi', rfl⟩ := (mem_paL hd).1 q
    refine ⟨_, List.mem_append_left _ ((mem_paL hd).2 ⟨i, by rw [enL_len] at hi' ⊢; exact hi', rfl⟩), ?_⟩
    exact win_sub (p := p) h1 h2 h3 TL _ _ (0, 0)
  · obtain ⟨y, hy, hh⟩ := win_prd h1 h2 h3 TL x q
    exact ⟨y, List.mem_append_right _ hy, hh⟩
end
/-! ### Quick -/
theorem end_held {lo hi p R : Int} {t : Int × Int} (hlh : lo ≤ hi) (h1 : -R ≤ lo) (h2 : hi ≤ R) (hp : t.2 < 0 → -R ≤ p ∧ p ≤ R) : -((upW t.1 - dnW t.1) * R) ≤ (tmE lo hi p t).1 ∧ (tmE lo hi p t).2 ≤ (upW t.1 - dnW t.1) * R := by
  have pl := prod_held (a := t.1) (v := lo) (R := R) ⟨h1, by omega⟩
  have ph := prod_held (a := t.1) (v := hi) (R := R) ⟨by omega, h2⟩
  rw [Int.mul_comm t.1 lo] at pl
  rw [Int.mul_comm t.1 hi] at ph
  unfold tmE
  split
  · rename_i q
    have pp := prod_held (a := t.1) (hp q)
    rw [Int.mul_comm t.1 p] at pp
    exact pp
  · unfold xti
    split <;> simp only <;> omega
theorem run_held {lo hi p R : Int} (hlh : lo ≤ hi) (h1 : -R ≤ lo) (h2 : hi ≤ R) : ∀ (TL : List (Int × Int)) (s : Int × Int), (∀ t ∈ TL, t.2 < 0 → -R ≤ p ∧ p ≤ R) → s.1 - (upS TL - dnS TL) * R ≤ (suS s (enL lo hi p TL)).1 ∧ (suS s (enL lo hi p TL)).2 ≤ s.2 + (upS TL - dnS TL) * R
  | [], s, _ => by simp [upS, dnS, enL, suS]
  | t :: l, s, hp => by
    have ih := run_held hlh h1 h2 l (plS s (tmE lo hi p t)) (fun u hu => hp u (List.mem_cons_of_mem _ hu))
    have he := end_held (t := t) hlh h1 h2 (hp t List.mem_cons_self)
    have e : (upS (t :: l) - dnS (t :: l)) * R = (upW t.1 - dnW t.1) * R + (upS l - dnS l) * R := by
      rw [← Int.add_mul]
      congr 1
      simp only [upS, dnS]
      omega
    rw [e]
    have e2 : suS s (enL lo hi p (t :: l)) = suS (plS s (tmE lo hi p t)) (enL lo hi p l) := rfl
    rw [e2]
    simp only [plS] at ih ⊢
    omega
theorem up_take {TL : List (Int × Int)} {R : Int} (hR : 0 ≤ R) (h : ∀ t ∈ TL, -32768 ≤ t.1 ∧ t.1 ≤ 32767) (j : Nat) : (upS (TL.take j) - dnS (TL.take j)) * R ≤ (upS TL - dnS TL) * R := by
  have e := List.take_append_drop j TL
  have e1 : upS TL = upS (TL.take j) + upS (TL.drop j) := by rw [← upS_app, e]
  have e2 : dnS TL = dnS (TL.take j) + dnS (TL.drop j) := by rw [← dnS_app, e]
  have hb := sg_bd (TL.drop j) fun t ht => h t (List.mem_of_mem_drop ht)
  refine Int.mul_le_mul_of_nonneg_right ?_ hR
  omega
/-- Quick holds every running sum. -/
theorem quick_run {k kh kw sh sw tp lf bt rt h w c H V C p : Int} {lw lb : Nat} (s : Sit k kh kw sh sw tp lf bt rt h w c H V C lw lb) {zs : List Int} (hz : ∀ v ∈ zs, (Lit.int .i16 v).wf = true) {ch : Int} (hch : 1 ≤ ch ∧ ch ≤ C) {lo hi bi : Int} (hs : -128 ≤ lo ∧ lo ≤ hi ∧ hi ≤ 127) (hp : I8 p) (n : Int) (hn : 0 ≤ n ∧ n < H * V) :
    ∀ x ∈ ruL (bi, bi) (enL lo hi p (siL k kh kw sh sw tp lf bt rt h w c ch n zs)), Inn x (bi - (upS (siL k kh kw sh sw tp lf bt rt h w c ch 0 zs) - dnS (siL k kh kw sh sw tp lf bt rt h w c ch 0 zs)) * rcV tp lf bt rt p lo hi, bi + (upS (siL k kh kw sh sw tp lf bt rt h w c ch 0 zs) - dnS (siL k kh kw sh sw tp lf bt rt h w c ch 0 zs)) * rcV tp lf bt rt p lo hi) := fun x hx => by
  obtain ⟨e1, e2⟩ := sg_fst _ _ (siL_fst k kh kw sh sw tp lf bt rt h w c ch 0 n zs)
  rw [e1, e2]
  obtain ⟨j, hj, rfl⟩ := mem_ruL.1 hx
  have hR := rcV_bd (tp := tp) (lf := lf) (bt := bt) (rt := rt) (lo := lo) (hi := hi) (by omega) (by omega) hp
  have hl := in_rcS (lo := lo) (hi := hi) (v := lo) (by omega)
  have hh := in_rcS (lo := lo) (hi := hi) (v := hi) (by omega)
  have hRS : rcS lo hi ≤ rcV tp lf bt rt p lo hi := by unfold rcV mxI; split <;> (try split) <;> omega
  have hpad : ∀ t ∈ (siL k kh kw sh sw tp lf bt rt h w c ch n zs).take j, t.2 < 0 → -(rcV tp lf bt rt p lo hi) ≤ p ∧ p ≤ rcV tp lf bt rt p lo hi := fun t ht q => by
    have ht' := List.mem_of_mem_take ht
    have hpl : 0 < tp + lf + bt + rt := by
      unfold siL tmL at ht'
      obtain ⟨i, hi, rfl⟩ := List.mem_map.1 ht'
      have hi' : i < (stR k kh kw h w c).toNat := by simpa using hi
      have h0 := s.2.2.2.2.2.2.2.2.1
      exact pad_side s hch hn ⟨by omega, by omega⟩ q
    unfold rcV
    rw [if_pos hpl]
    unfold mxI szV
    repeat' split
    all_goals omega
  have hk := run_held hs.2.1 (show -(rcV tp lf bt rt p lo hi) ≤ lo by omega) (show hi ≤ rcV tp lf bt rt p lo hi by omega) ((siL k kh kw sh sw tp lf bt rt h w c ch n zs).take j) (bi, bi) hpad
  have ht := up_take hR.1 (fun t ht => ((siL_facts s hz hch n).2 t ht).1) j
  have e3 : enL lo hi p ((siL k kh kw sh sw tp lf bt rt h w c ch n zs).take j) = (enL lo hi p (siL k kh kw sh sw tp lf bt rt h w c ch n zs)).take j := by unfold enL; rw [List.map_take]
  rw [e3] at hk
  unfold Inn
  simp only at hk ⊢
  omega
end Go.Proofs.Ytcphealigifdiaa

/- What the small functions of package plain return: places, isInput, widened, scaled, means, added. -/
namespace Go.Proofs.Ytcphealigifdiaa
open Go.ChangeShapes Go.WideShapes Go.ChangeAt Go.RowKit
set_option linter.unusedVariables false
theorem btr {a b c : World} (h : Below a.heap.size a b) (k : Below b.heap.size b c) : Below a.heap.size a c := bt h k
theorem wf_i8' {z : Int} (h : (Lit.int .i8 z).wf = true) : I8 z := wf_i8 h
theorem IRow.i8 {w : World} {a : Option Addr} {n c : Nat} {xs : List Int} (h : IRow .i8 w a n c xs) : ∀ v ∈ xs, I8 v := fun v hv => wf_i8 (h.2.2.2.1 v hv)
theorem wf_64 {xs : List Int} {X : Int} (hX : X ≤ 9223372036854775807) (h : ∀ v ∈ xs, -X ≤ v ∧ v ≤ X) : Wf .i64 xs := fun v hv => mk_i64 (by have := h v hv; omega)
theorem getD_mem {xs : List Int} {i : Nat} (h : i < xs.length) : xs.getD i 0 ∈ xs := by rw [List.getD_eq_getElem?_getD, List.getElem?_eq_getElem h]; exact List.getElem_mem h
/-! ### A list that is filled -/
def fil (ys : List Int) (y : Nat) : List Int := ys.take y ++ List.replicate (ys.length - y) 0
theorem fil_len (ys : List Int) {y : Nat} (h : y ≤ ys.length) : (fil ys y).length = ys.length := by simp [fil]; omega
theorem fil_0 (ys : List Int) : fil ys 0 = List.replicate ys.length 0 := by simp [fil]
theorem fil_all (ys : List Int) : fil ys ys.length = ys := by simp [fil]
theorem fil_set {ys : List Int} {y : Nat} (h : y < ys.length) : (fil ys y).set y (ys.getD y 0) = fil ys (y + 1) := by
  unfold fil
  apply List.ext_getElem?
  intro j
  have hl : (ys.take y).length = y := by rw [List.length_take]; omega
  have hl2 : (ys.take (y + 1)).length = y + 1 := by rw [List.length_take]; omega
  by_cases q : j = y
  · subst q
    rw [List.getElem?_set_self (by simp; omega), List.getElem?_append_left (by omega), List.getElem?_take, if_pos (by omega), List.getD_eq_getElem?_getD, List.getElem?_eq_getElem h]
    rfl
  · rw [List.getElem?_set_ne (by omega)]
    by_cases q2 : j < y
    · rw [List.getElem?_append_left (by omega), List.getElem?_append_left (by omega), List.getElem?_take, List.getElem?_take, if_pos q2, if_pos (by omega)]
    · rw [List.getElem?_append_right (by omega), List.getElem?_append_right (by omega), hl, hl2]
      simp only [List.getElem?_replicate]
      by_cases q3 : j < ys.length
      · rw [if_pos (by omega), if_pos (by omega)]
      · rw [if_neg (by omega), if_neg (by omega)]
/-- A block that holds just these numbers. -/
def Bk (k : IntKind) (T : TypeId) (w : World) (g : Nat) (zs : List Int) : Prop := w.heap[g]? = some (.cells (zs.map (Value.int k)).toArray T (0, 0))
theorem Bk.at {k : IntKind} {T : TypeId} {w : World} {g p : Nat} {zs : List Int} (h : Bk k T w g zs) (hp : p < zs.length) : w.cell? ⟨g, p, none⟩ = some (.int k (zs.getD p 0)) ∧ (∀ i, w.frozen? ⟨g, i, none⟩ = false) ∧ g < w.heap.size := by
  have := cells_at h
  exact ⟨by rw [this.1]; simp [List.getD, hp], this.2⟩
theorem Bk.set {k : IntKind} {T : TypeId} {w : World} {g p : Nat} {zs : List Int} (z : Int) (h : Bk k T w g zs) : Bk k T (w.setCell ⟨g, p, none⟩ (.int k z)) g (zs.set p z) := by
  have := heap_setCell_at (i := p) (v := .int k z) h
  unfold Bk
  rw [this]
  simp [List.map_set]
theorem Bk.below {k : IntKind} {T : TypeId} {w w' : World} {g : Nat} {zs : List Int} (h : Bk k T w g zs) (q : Below w.heap.size w w') : Bk k T w' g zs := (q.block g (lt_of_heap h)).trans h
theorem Bk.new {k : IntKind} {T : TypeId} {w : World} {g n : Nat} {zs : List Int} (h : w.heap[g]? = some (.cells (Array.replicate n (Value.int k 0)) T (0, 0))) (hn : zs.length = n) : Bk k T w g (fil zs 0) := by
  unfold Bk
  rw [h, fil_0, hn]
  simp
theorem St.setX {w0 w : World} {l : List (Nat × Array Value × TypeId)} {B i : Nat} {v : Value} (h : St w0 w l) (hB : w0.heap.size ≤ B) (hl : ∀ x ∈ l, x.1 ≠ B) : St w0 (w.setCell ⟨B, i, none⟩ v) l :=
  ⟨h.1.setCell (p := ⟨B, i, none⟩) hB v, fun x hx => ⟨by rw [Below.heap_setCell _ _ _ _ (hl x hx)]; exact (h.2 x hx).1, (h.2 x hx).2⟩⟩
/-! ### The functions -/
theorem places_plain (h w c : Int) (W : World) (g : vS h w c = true) :
    Calls Try.prog 36 #[.agg #[Jv h, Jv w, Jv c]] W fun e w' => e = .returned (Jv (h * w * c)) ∧ Below W.heap.size W w' := by
  have p3 := vS_bd g
  clear g
  go_enter Try.func36, Try.ntmps36
  go_wp2
  go_ret
  exact ⟨rfl, bal _ _⟩
theorem map_at {xs : List Int} {f : Int → Int} {y : Nat} {u : Int} (h : xs[y]? = some u) : (xs.map f).getD y 0 = f u := by rw [List.getD_eq_getElem?_getD, List.getElem?_map, h]; rfl
theorem me_bd {v n : Int} (hn : 1 ≤ n) (hv : -4294967296 ≤ v ∧ v ≤ 4294967296) : -4294967296 ≤ Fx.meV v n ∧ Fx.meV v n ≤ 4294967296 := by
  unfold Fx.meV
  rw [if_neg (by omega)]
  exact rq_le hn hv
/-! ### Is it an input? -/
def inB (h w c lo hi : Int) (xs : List Int) : Bool := decide ((xs.length : Int) = h * w * c ∧ ∀ v ∈ xs, lo ≤ v ∧ v ≤ hi)
theorem inB_yes {h w c lo hi : Int} {xs : List Int} (g : inB h w c lo hi xs = true) : (xs.length : Int) = h * w * c ∧ ∀ v ∈ xs, lo ≤ v ∧ v ≤ hi := of_decide_eq_true g
theorem inB_no {h w c lo hi v : Int} {xs : List Int} {i : Nat} (hv : xs[i]? = some v) (g : ¬ (lo ≤ v ∧ v ≤ hi)) : inB h w c lo hi xs = false := decide_eq_false fun q => g (q.2 v (List.mem_of_getElem? hv))
theorem take_all {xs : List Int} {P : Int → Prop} {y : Nat} {v : Int} (h : ∀ u ∈ xs.take y, P u) (hv : xs[y]? = some v) (hp : P v) : ∀ u ∈ xs.take (y + 1), P u := fun u hu => by
  rw [List.take_add_one, hv] at hu
  rcases List.mem_append.1 hu with q | q
  · exact h u q
  · simp at q; rw [q]; exact hp
end Go.Proofs.Ytcphealigifdiaa

/- What the small functions of package norm return, and those of the document. -/
namespace Go.Proofs.Ytcphealigifdiaa
open Go.ChangeShapes Go.WideShapes Go.ChangeAt Go.RowKit
set_option linter.unusedVariables false
/-! ### Sums of weights -/
set_option maxHeartbeats 2000000 in
theorem nsig_any (v : Value) (TL : List (Int × Int)) (W : World) (hT : TV W v TL) (hl : TL.length ≤ 512) (ht : ∀ t ∈ TL, -32768 ≤ t.1 ∧ t.1 ≤ 32767) :
    Calls Try.prog 58 #[v] W fun e w' => e = .returned (.tuple #[Jv (upS TL), Jv (dnS TL)]) ∧ Below W.heap.size W w' := by
  obtain ⟨va, vc, rfl, v1, v2, v3⟩ := hT
  obtain ⟨N, hN⟩ : ∃ N, TL.length = N := ⟨_, rfl⟩
  have HB : Hid (∀ n, _) := sg_take ht hl
  rw [hN] at v1 v3 hl ⊢
  have HV : Hid (0 < N → _) := v3
  have HT : Hid (∀ t ∈ TL, -32768 ≤ t.1 ∧ t.1 ≤ 32767) := ht
  have HN : Hid (TL.length = N) := hN
  unfold maxLen at v2
  clear ht v3 hN
  go_enter Try.func58, Try.ntmps58
  go_wp2
  go_loopw [2, 3, 9] (fun s t i wr => ∃ y : Nat, y ≤ N ∧ i = Jv y ∧ s = Jv (upS (TL.take y)) ∧ t = Jv (dnS (TL.take y)) ∧ Below W.heap.size W wr) (fun _ _ i _ => N - (intOf i).toNat)
  case atStart => exact ⟨0, Nat.zero_le _, rfl, rfl, rfl, Below.refl _ _⟩
  case round =>
    obtain ⟨y, hy, rfl, rfl, rfl, hb⟩ := hrel
    obtain ⟨⟨s1, s2⟩, s3, s4⟩ := HB.out y
    by_cases hlt : y < N
    · obtain ⟨g, rfl, hc⟩ := HV.out (by omega)
      obtain ⟨q1, q2⟩ := TV.at hc (show y < TL.length by rw [HN.out]; exact hlt)
      obtain ⟨A1, A2, hA⟩ : ∃ A1 A2, TL.getD y (0, 0) = (A1, A2) := ⟨_, _, rfl⟩
      rw [hA] at q1 q2
      simp only at q1 q2
      have hmem : (A1, A2) ∈ TL := by
        rw [← hA, List.getD_eq_getElem?_getD, List.getElem?_eq_getElem (by rw [HN.out]; exact hlt)]
        exact List.getElem_mem _
      obtain ⟨w1, w2⟩ := HT.out _ hmem
      have hU := upS_take (show y < TL.length by rw [HN.out]; exact hlt) hA
      have hD := dnS_take (show y < TL.length by rw [HN.out]; exact hlt) hA
      have p1 := (hb.cell (World.block_lt_of_cell? W _ q1)).trans q1
      have p2 := (hb.cell (World.block_lt_of_cell? W _ q2)).trans q2
      simp only at w1 w2
      obtain ⟨su, hsu⟩ : ∃ su, upS (TL.take y) = su := ⟨_, rfl⟩
      obtain ⟨sd, hsd⟩ : ∃ sd, dnS (TL.take y) = sd := ⟨_, rfl⟩
      rw [hsu] at hU s1 s2 ⊢
      rw [hsd] at hD s3 s4 ⊢
      have HU : Hid (upS (TL.take (y + 1)) = su + upW A1) := hU
      have HD : Hid (dnS (TL.take (y + 1)) = sd + dnW A1) := hD
      clear hU hD q1 q2 hsu hsd hmem hc hA HV HB HT
      by_cases pos : 0 < A1
      · have neg' : ¬ A1 < 0 := by omega
        have e1 : Hid (upW A1 = A1) := by unfold Hid upW; rw [if_pos pos]
        have e2 : Hid (dnW A1 = 0) := by unfold Hid dnW; rw [if_pos pos]
        go_wp2
        go_roundw
        case rel => exact ⟨y + 1, by omega, by go_num, by (rw [HU.out, e1.out] <;> go_num), by (rw [HD.out, e2.out] <;> go_num), btr hb (bal _ _)⟩
        case measure => simp [intOf]; omega
      · have e1 : Hid (upW A1 = 0) := by unfold Hid upW; rw [if_neg pos]
        have e2 : Hid (dnW A1 = A1) := by unfold Hid dnW; rw [if_neg pos]
        by_cases neg : A1 < 0
        · go_wp2
          go_roundw
          case rel => exact ⟨y + 1, by omega, by go_num, by (rw [HU.out, e1.out] <;> go_num), by (rw [HD.out, e2.out] <;> go_num), btr hb (bal _ _)⟩
          case measure => simp [intOf]; omega
        · obtain rfl : A1 = 0 := by omega
          clear neg pos
          go_wp2
          go_roundw
          case rel => exact ⟨y + 1, by omega, by go_num, by (rw [HU.out, e1.out] <;> go_num), by (rw [HD.out, e2.out] <;> go_num), btr hb (bal _ _)⟩
          case measure => simp [intOf]; omega
    · obtain rfl : y = N := by omega
      have e1 : Hid (upS (TL.take y) = upS TL) := by unfold Hid; rw [← HN.out, List.take_length]
      have e2 : Hid (dnS (TL.take y) = dnS TL) := by unfold Hid; rw [← HN.out, List.take_length]
      clear HV
      rw [e1.out, e2.out]
      go_wp2
      go_ret2
      exact ⟨rfl, hb⟩
theorem nuns_any (v : Value) (TL : List (Int × Int)) (W : World) (hT : TV W v TL) (hl : TL.length ≤ 512) (ht : ∀ t ∈ TL, -32768 ≤ t.1 ∧ t.1 ≤ 32767) :
    Calls Try.prog 39 #[v] W fun e w' => e = .returned (Jv (upS TL - dnS TL)) ∧ Below W.heap.size W w' := by
  obtain ⟨⟨s1, s2⟩, s3, s4⟩ := sg_all ht hl
  have HS : Hid _ := nsig_any v TL W hT hl ht
  obtain ⟨su, hsu⟩ : ∃ su, upS TL = su := ⟨_, rfl⟩
  obtain ⟨sd, hsd⟩ : ∃ sd, dnS TL = sd := ⟨_, rfl⟩
  rw [hsu] at HS s1 s2 ⊢
  rw [hsd] at HS s3 s4 ⊢
  clear hsu hsd hT ht hl
  go_enter Try.func39, Try.ntmps39
  go_wp2_with fail
  refine Calls.mono HS.out ?_
  rintro e w1 ⟨rfl, hb⟩
  go_wp2
  go_ret
  exact ⟨rfl, hb⟩
/-! ### Spans of values -/
def vaB (lo hi : Int) : Bool := decide (-128 ≤ lo ∧ lo ≤ hi ∧ hi ≤ 127)
theorem vaB_yes {lo hi : Int} (h : vaB lo hi = true) : -128 ≤ lo ∧ lo ≤ hi ∧ hi ≤ 127 := by simpa [vaB] using h
theorem nva_any (lo hi : Int) (W : World) :
    Calls Try.prog 38 #[.agg #[Jv lo, Jv hi]] W fun e w' => e = .returned (.bool (vaB lo hi)) ∧ Below W.heap.size W w' := by
  by_cases c1 : -128 ≤ lo
  · by_cases c2 : lo ≤ hi
    · by_cases c3 : hi ≤ 127
      · have HR : Hid (true = vaB lo hi) := by unfold Hid vaB; simp [c1, c2, c3]
        go_enter Try.func38, Try.ntmps38
        go_wp2
        go_ret
        exact ⟨retB HR.out, (Below.refl _ _).alloc (Nat.le_refl _) _⟩
      · have HR : Hid (false = vaB lo hi) := by unfold Hid vaB; simp [c3]
        go_enter Try.func38, Try.ntmps38
        go_wp2
        go_ret
        exact ⟨retB HR.out, (Below.refl _ _).alloc (Nat.le_refl _) _⟩
    · have HR : Hid (false = vaB lo hi) := by unfold Hid vaB; simp [c2]
      go_enter Try.func38, Try.ntmps38
      go_wp2
      go_ret
      exact ⟨retB HR.out, (Below.refl _ _).alloc (Nat.le_refl _) _⟩
  · have HR : Hid (false = vaB lo hi) := by unfold Hid vaB; simp [c1]
    go_enter Try.func38, Try.ntmps38
    go_wp2
    go_ret
    exact ⟨retB HR.out, (Below.refl _ _).alloc (Nat.le_refl _) _⟩
/-! ### The reach -/
/-- The greatest of four. -/
theorem max4 (x y z u M : Int) (h : mxI (mxI (mxI x y) z) u = M) : ∀ (W : World) (ts : Array TypeId) (t : TypeId), (Builtin.max_ ts t #[Jv x, Jv y, Jv z, Jv u]).run Try.prog W = .ok (Jv M) W := by
  intro W ts t
  subst h
  simp [Builtin.max_, Builtin.max2, mxI]
  repeat' split
  all_goals first | rfl | omega
theorem max3 (x y z M : Int) (h : mxI (mxI x y) z = M) : ∀ (W : World) (ts : Array TypeId) (t : TypeId), (Builtin.max_ ts t #[Jv x, Jv y, Jv z]).run Try.prog W = .ok (Jv M) W := by
  intro W ts t
  subst h
  simp [Builtin.max_, Builtin.max2, mxI]
  repeat' split
  all_goals first | rfl | omega
set_option maxHeartbeats 1000000 in
theorem pads_any (kh kw sh sw tp lf bt rt : Int) (W : World) (htp : 0 ≤ tp ∧ tp ≤ 31) (hlf : 0 ≤ lf ∧ lf ≤ 31) (hbt : 0 ≤ bt ∧ bt ≤ 31) (hrt : 0 ≤ rt ∧ rt ≤ 31) :
    Calls Try.prog 59 #[.agg #[Jv kh, Jv kw, Jv sh, Jv sw, Jv tp, Jv lf, Jv bt, Jv rt]] W fun e w' => e = .returned (.bool (decide (0 < tp + lf + bt + rt))) ∧ Below W.heap.size W w' := by
  obtain ⟨M, hM⟩ : ∃ M, mxI (mxI (mxI tp lf) bt) rt = M := ⟨_, rfl⟩
  have hm := max4 tp lf bt rt M hM
  by_cases c : 0 < tp + lf + bt + rt
  · have hp : 0 < M := by rw [← hM]; unfold mxI; repeat' split
                          all_goals omega
    have HR : Hid (decide (0 < tp + lf + bt + rt) = true) := decide_eq_true c
    rw [HR.out]
    clear hM htp hlf hbt hrt c HR
    go_enter Try.func59, Try.ntmps59
    go_wp2
    go_ret
    exact ⟨rfl, (Below.refl _ _).alloc (Nat.le_refl _) _⟩
  · have hp : ¬ 0 < M := by rw [← hM]; unfold mxI; repeat' split
                            all_goals omega
    have HR : Hid (decide (0 < tp + lf + bt + rt) = false) := decide_eq_false c
    rw [HR.out]
    clear hM htp hlf hbt hrt c HR
    go_enter Try.func59, Try.ntmps59
    go_wp2
    go_ret
    exact ⟨rfl, (Below.refl _ _).alloc (Nat.le_refl _) _⟩
end Go.Proofs.Ytcphealigifdiaa

/- What sum of package plain returns. -/
namespace Go.Proofs.Ytcphealigifdiaa
open Go.ChangeShapes Go.WideShapes Go.ChangeAt Go.RowKit
set_option linter.unusedVariables false
/-! ### A sum -/
set_option maxHeartbeats 2000000 in
theorem sum_any (k a b m kh kw sh sw tp lf bt rt : Int) (wa : Option Addr) (lw wc : Nat) (ba : Option Addr) (lb bc : Nat) (sm ss um us z p lo hi h w c H V C : Int) (r : Nat) (W : World) (hr : W.heap[r]? = some (.cells #[Jv k, Jv a, Jv b, Jv m, Jv kh, Jv kw, Jv sh, Jv sw, Jv tp, Jv lf, Jv bt, Jv rt, .slice wa lw wc, .slice ba lb bc, Jv sm, Jv ss, Jv um, Jv us, Jv z, Jv p, Jv lo, Jv hi, Jv h, Jv w, Jv c, Jv H, Jv V, Jv C] 90 (0, 0))) (v : Value) (TL : List (Int × Int)) (hT : TV W v TL) (ad : Option Addr) (n cap : Nat) (xs : List Int) (hX : IRow .i8 W ad n cap xs) (hp : I8 p) (hl : TL.length ≤ 512) (ht : ∀ t ∈ TL, (-32768 ≤ t.1 ∧ t.1 ≤ 32767) ∧ (t.2 = -1 ∨ (0 ≤ t.2 ∧ t.2 < (n : Int)))) :
    Calls Try.prog 57 #[.pointer (some ⟨r, 0, none⟩), v, .slice ad n cap] W fun e w' => e = .returned (Jv (smV p xs TL)) ∧ Below W.heap.size W w' := by
  obtain ⟨va, vc, rfl, v1, v2, v3⟩ := hT
  have hrz := lt_of_heap hr
  obtain ⟨N, hN⟩ : ∃ N, TL.length = N := ⟨_, rfl⟩
  rw [hN] at v1 v3 hl ⊢
  have HV : Hid (0 < N → _) := v3
  have HR : Hid (W.heap[r]? = some (.cells #[Jv k, Jv a, Jv b, Jv m, Jv kh, Jv kw, Jv sh, Jv sw, Jv tp, Jv lf, Jv bt, Jv rt, .slice wa lw wc, .slice ba lb bc, Jv sm, Jv ss, Jv um, Jv us, Jv z, Jv p, Jv lo, Jv hi, Jv h, Jv w, Jv c, Jv H, Jv V, Jv C] 90 (0, 0))) := hr
  have HX : Hid (IRow .i8 W ad n cap xs) := hX
  have HT : Hid (∀ t ∈ TL, (-32768 ≤ t.1 ∧ t.1 ≤ 32767) ∧ (t.2 = -1 ∨ (0 ≤ t.2 ∧ t.2 < (n : Int)))) := ht
  have HN : Hid (TL.length = N) := hN
  have HP : Hid (I8 p) := hp
  unfold maxLen at v2
  clear hr hX ht v3 hN hp
  go_enter Try.func57, Try.ntmps57
  go_wp2
  go_loopw [7, 13] (fun s i wr => ∃ y : Nat, y ≤ N ∧ i = Jv y ∧ s = Jv (smV p xs (TL.take y)) ∧ Below W.heap.size W wr) (fun _ i _ => N - (intOf i).toNat)
  case atStart => exact ⟨0, Nat.zero_le _, rfl, rfl, Below.refl _ _⟩
  case round =>
    obtain ⟨y, hy, rfl, rfl, hb⟩ := hrel
    by_cases hlt : y < N
    · obtain ⟨g, rfl, hc⟩ := HV.out (by omega)
      obtain ⟨q1, q2⟩ := TV.at hc (show y < TL.length by rw [HN.out]; exact hlt)
      obtain ⟨A1, A2, hA⟩ : ∃ A1 A2, TL.getD y (0, 0) = (A1, A2) := ⟨_, _, rfl⟩
      rw [hA] at q1 q2
      simp only at q1 q2
      have hmem : (A1, A2) ∈ TL := by
        rw [← hA, List.getD_eq_getElem?_getD, List.getElem?_eq_getElem (by rw [HN.out]; exact hlt)]
        exact List.getElem_mem _
      obtain ⟨⟨w1, w2⟩, hat⟩ := HT.out _ hmem
      have hS := smV_take (p := p) (x := xs) (show y < TL.length by rw [HN.out]; exact hlt) hA
      have b1 := smV_bd HP.out HX.out.i8 (TL.take y) (take_mem (fun t ht => (HT.out t ht).1) y)
      have b2 := smT_bd HP.out HX.out.i8 (t := (A1, A2)) ⟨w1, w2⟩
      have hty : (TL.take y).length ≤ 512 := by rw [List.length_take]; omega
      have p1 := (hb.cell (World.block_lt_of_cell? W _ q1)).trans q1
      have p2 := (hb.cell (World.block_lt_of_cell? W _ q2)).trans q2
      obtain ⟨c1, f1, z1⟩ := cells_at ((hb.block r hrz).trans HR.out)
      simp only at w1 w2 hat
      obtain ⟨sv, hsv⟩ : ∃ sv, smV p xs (TL.take y) = sv := ⟨_, rfl⟩
      obtain ⟨tv, htv⟩ : ∃ tv, smT p xs (A1, A2) = tv := ⟨_, rfl⟩
      rw [hsv] at b1 hS ⊢
      rw [htv] at b2 hS
      have b1' : -2147483648 ≤ sv ∧ sv ≤ 2147483648 := by omega
      have HS : Hid (smV p xs (TL.take (y + 1)) = sv + tv) := hS
      clear hS b1 q1 q2 hsv hmem hc hA HV
      by_cases neg : A2 < 0
      · have e2 : tv = A1 * p := by rw [← htv]; unfold smT; rw [if_pos neg]
        have neg' : ¬ 0 ≤ A2 := by omega
        clear htv hat
        subst e2
        obtain ⟨pp, hpp⟩ : ∃ pp, A1 * p = pp := ⟨_, rfl⟩
        rw [hpp] at b2 HS
        go_wp2
        go_roundw
        case rel => exact ⟨y + 1, by omega, by go_num, by rw [HS.out], btr hb (bal _ _)⟩
        case measure => simp [intOf]; omega
      · obtain ⟨j, rfl⟩ : ∃ j : Nat, A2 = (j : Int) := ⟨A2.toNat, by omega⟩
        have hj : j < n := by omega
        obtain ⟨x, u, rfl, hu, hw8, hz, -⟩ := (HX.out.below hb).at hj
        obtain ⟨u1, u2⟩ := wf_i8 hw8
        have hu2 : ∀ o, (wr.alloc o).cell? (x.add j) = some (.int .i8 u) := fun o => ((bal wr o).cell (World.block_lt_of_cell? wr _ hu)).trans hu
        have e2 : tv = A1 * u := by rw [← htv]; unfold smT; simp only; rw [if_neg (by omega), Int.toNat_natCast, List.getD_eq_getElem?_getD, hz]; rfl
        clear htv hat hz hw8 neg
        subst e2
        obtain ⟨pp, hpp⟩ : ∃ pp, A1 * u = pp := ⟨_, rfl⟩
        rw [hpp] at b2 HS
        go_wp2
        go_roundw
        case rel => exact ⟨y + 1, by omega, by go_num, by rw [HS.out], btr hb (bal _ _)⟩
        case measure => simp [intOf]; omega
    · obtain rfl : y = N := by omega
      have e : Hid (smV p xs (TL.take y) = smV p xs TL) := by unfold Hid; rw [← HN.out, List.take_length]
      clear HV
      go_wp2
      go_ret
      exact ⟨ret1 e.out, hb⟩
end Go.Proofs.Ytcphealigifdiaa

/- What alone of package plain returns: a model of one op. -/
namespace Go.Proofs.Ytcphealigifdiaa
open Go.ChangeShapes Go.WideShapes Go.ChangeAt Go.RowKit
set_option linter.unusedVariables false
/-! ### The op alone -/
theorem lcells {w : World} {B : Nat} {cs : Array Value} {T : TypeId} (h : w.heap[B]? = some (.cells cs T (0, 0))) {l : List Value} (hl : ∀ (q : Nat) (v : Value), l[q]? = some v → cs[q]? = some v) : ∀ (q : Nat) (v : Value), l[q]? = some v → w.cell? ((⟨B, 0, none⟩ : Addr).add q) = some v := fun q v hq => by
  rw [Addr.add_lit, Nat.zero_add, (cells_at h).1]
  exact hl q v hq
theorem fget (l r : List Value) : ∀ (q : Nat) (v : Value), l[q]? = some v → (l ++ r).toArray[q]? = some v := fun q v hq => by
  have := (List.getElem?_eq_some_iff.1 hq).1
  rw [List.getElem?_toArray, List.getElem?_append_left this]
  exact hq
/-- An operation that yields a value and leaves a world, both said. -/
theorem wpList_run1 {P : Program} {ops : Array Oper} {rest : List Oper} {o : Oper} {a : Act} {w : World} {Q : Exit → Act → World → Prop} (hg : o.guard = none) (dst : Option Tmp) (hdst : o.dst = dst)
    (v : Value) (w' : World) (hrun : (execOp a.eval o).run P w = .ok (.value v) w') (h : wpList P ops Q rest (a.put dst v) w') : wpList P ops Q (o :: rest) a w := by
  subst hdst
  refine wpList_plain hg fun K hK => ?_
  unfold Oper.wp
  rw [hrun, Oper.upon_value]
  exact hK _ _ h
theorem wp_run1 {P : Program} {o : Oper} {a : Act} {w w' : World} {v : Value} {K : Act → World → Prop} {Q : Exit → Act → World → Prop} (hrun : (execOp a.eval o).run P w = .ok (.value v) w') (h : K (a.put o.dst v) w') : o.wp P a w K Q := by
  unfold Oper.wp
  rw [hrun, Oper.upon_value]
  exact h
theorem stepW {P : Program} {ops : Array Oper} {md : Region.Mode} {C : World → Prop} {Q : Exit → Act → World → Prop} (i : Nat) {o : Oper} {fuel : Nat} {listed : Array Bool} {a : Act} {w : World} (hC : C w) (hr : Region.ready md ops listed = [i]) (ho : ops[i]? = some o) (hg : o.guard = none)
    (h : ∀ K : Act → World → Prop, (∀ a w, wpAnyC Fence.wide 3 P md ops C Q fuel (listed.setIfInBounds i true) a w → K a w) → o.wp P a w K Q) : wpAnyC Fence.wide 3 P md ops C Q (fuel + 1) listed a w :=
  stepC i hC hr ho fun K hK => step_wp hg (h K hK)
theorem stepR {P : Program} {ops : Array Oper} {md : Region.Mode} {C : World → Prop} {Q : Exit → Act → World → Prop} (i : Nat) {o : Oper} {fuel : Nat} {listed : Array Bool} {a : Act} {w : World} (hC : C w) (hr : Region.ready md ops listed = [i]) (ho : ops[i]? = some o) (hg : o.guard = none)
    (v : Value) (w' : World) (hrun : (execOp a.eval o).run P w = .ok (.value v) w') (h : wpAnyC Fence.wide 3 P md ops C Q fuel (listed.setIfInBounds i true) (a.put o.dst v) w') : wpAnyC Fence.wide 3 P md ops C Q (fuel + 1) listed a w :=
  stepW i hC hr ho hg fun K hK => wp_run1 hrun (hK _ _ h)
/-- A call. -/
theorem stepK {P : Program} {ops : Array Oper} {md : Region.Mode} {C : World → Prop} {Q : Exit → Act → World → Prop} (i : Nat) {o : Oper} {fuel : Nat} {listed : Array Bool} {a : Act} {w : World} (hC : C w) (hr : Region.ready md ops listed = [i]) (ho : ops[i]? = some o) (hg : o.guard = none)
    (f : FuncId) (args : Array Value) (hrun : (execOp a.eval o).run P w = .ok (.enter f args) w) {R : Ending → World → Prop} (hcall : Calls P f args w R)
    (h : ∀ e w', R e w' → ∃ v, e = .returned v ∧ wpAnyC Fence.wide 3 P md ops C Q fuel (listed.setIfInBounds i true) (a.put o.dst v) w') : wpAnyC Fence.wide 3 P md ops C Q (fuel + 1) listed a w :=
  stepW i hC hr ho hg fun K hK => by
    unfold Oper.wp
    rw [hrun]
    refine Calls.mono hcall fun e w' he => ?_
    obtain ⟨v, rfl, hv⟩ := h e w' he
    exact hK _ _ hv
theorem stepS {P : Program} {ops : Array Oper} {md : Region.Mode} {C : World → Prop} {Q : Exit → Act → World → Prop} (i : Nat) {o : Oper} {fuel : Nat} {listed : Array Bool} {a : Act} {w : World} (hC : C w) (hr : Region.ready md ops listed = [i]) (ho : ops[i]? = some o) (hg : o.guard = none)
    (ty : TypeId) (x y : Operand) (hop : o.op = .store ty x y) (g : Nat) (cells : Array Value) (hx : a.eval x = .pointer (some ⟨g, 0, none⟩)) (hy : a.eval y = .agg cells) (t : TypeId) (old : Array Value) (hh : w.heap[g]? = some (.cells old t (0, 0))) (hi : (P.info? ty).map (·.size) = some cells.size) (hold : old.size = cells.size) (h1 : cells.all (·.oneCell') = true)
    (h : wpAnyC Fence.wide 3 P md ops C Q fuel (listed.setIfInBounds i true) (a.put o.dst undef) (w.setRow g cells)) : wpAnyC Fence.wide 3 P md ops C Q (fuel + 1) listed a w :=
  stepW i hC hr ho hg fun K hK => wp_store_row ty x y hop g cells hx hy t old hh hi hold h1 (hK _ _ h)
set_option maxRecDepth 100000 in
set_option maxHeartbeats 8000000 in
theorem alone_any (k a b m kh kw sh sw tp lf bt rt : Int) (wa : Option Addr) (lw wc : Nat) (ba : Option Addr) (lb bc : Nat) (sm ss um us z p lo hi h w c H V C : Int) (r : Nat) (W : World) (hr : W.heap[r]? = some (.cells #[Jv k, Jv a, Jv b, Jv m, Jv kh, Jv kw, Jv sh, Jv sw, Jv tp, Jv lf, Jv bt, Jv rt, .slice wa lw wc, .slice ba lb bc, Jv sm, Jv ss, Jv um, Jv us, Jv z, Jv p, Jv lo, Jv hi, Jv h, Jv w, Jv c, Jv H, Jv V, Jv C] 90 (0, 0))) :
    Calls Try.prog 56 #[.pointer (some ⟨r, 0, none⟩)] W fun e w' => ∃ g, e = .returned (.agg #[Jv h, Jv w, Jv c, Jv 0, Jv 0, .slice (some ⟨g, 0, none⟩) 1 1, Jv 0]) ∧ w'.heap[g]? = some (.cells #[Jv k, Jv 0, Jv b, Jv m, Jv kh, Jv kw, Jv sh, Jv sw, Jv tp, Jv lf, Jv bt, Jv rt, .slice wa lw wc, .slice ba lb bc, Jv sm, Jv ss, Jv um, Jv us, Jv z, Jv p, Jv lo, Jv hi] 47 (0, 0)) ∧ W.heap.size ≤ g ∧ Below W.heap.size W w' := by
  have hrz := lt_of_heap hr
  have s0 := (St.start W).new (c := #[Jv 0, Jv 0, Jv 0, Jv 0, Jv 0, .slice none 0 0, Jv 0]) (t := 26)
  have hr0 := (s0.below.block r hrz).trans hr
  have HL : Hid (∀ q v, [Jv k, Jv a, Jv b, Jv m, Jv kh, Jv kw, Jv sh, Jv sw, Jv tp, Jv lf, Jv bt, Jv rt, .slice wa lw wc, .slice ba lb bc, Jv sm, Jv ss, Jv um, Jv us, Jv z, Jv p, Jv lo, Jv hi][q]? = some v → (W.alloc (.cells #[Jv 0, Jv 0, Jv 0, Jv 0, Jv 0, .slice none 0 0, Jv 0] 26)).cell? ((⟨r, 0, none⟩ : Addr).add q) = some v) := lcells hr0 (fget [Jv k, Jv a, Jv b, Jv m, Jv kh, Jv kw, Jv sh, Jv sw, Jv tp, Jv lf, Jv bt, Jv rt, .slice wa lw wc, .slice ba lb bc, Jv sm, Jv ss, Jv um, Jv us, Jv z, Jv p, Jv lo, Jv hi] [Jv h, Jv w, Jv c, Jv H, Jv V, Jv C])
  have HR : Hid (W.heap[r]? = some (.cells #[Jv k, Jv a, Jv b, Jv m, Jv kh, Jv kw, Jv sh, Jv sw, Jv tp, Jv lf, Jv bt, Jv rt, .slice wa lw wc, .slice ba lb bc, Jv sm, Jv ss, Jv um, Jv us, Jv z, Jv p, Jv lo, Jv hi, Jv h, Jv w, Jv c, Jv H, Jv V, Jv C] 90 (0, 0))) := hr
  have s1 := s0.new (c := #[Jv k, Jv a, Jv b, Jv m, Jv kh, Jv kw, Jv sh, Jv sw, Jv tp, Jv lf, Jv bt, Jv rt, .slice wa lw wc, .slice ba lb bc, Jv sm, Jv ss, Jv um, Jv us, Jv z, Jv p, Jv lo, Jv hi]) (t := 47)
  simp only [World.size_alloc] at s1
  have S1 : Hid (St W _ _) := s1
  clear hr hr0 s0 s1
  go_enter Try.func56, Try.ntmps56
  go_upto_region 1 with fail
  obtain ⟨w0, hw0⟩ : ∃ w0, W.alloc (.cells #[Jv 0, Jv 0, Jv 0, Jv 0, Jv 0, .slice none 0 0, Jv 0] 26) = w0 := ⟨_, rfl⟩
  rw [hw0] at HL S1 ⊢
  have hz0 : w0.heap.size = W.heap.size + 1 := by rw [← hw0]; simp
  rw [← hz0] at S1
  have HZ0 : Hid (w0.heap.size = W.heap.size + 1) := hz0
  clear hw0 hz0
  obtain ⟨vo, hvo⟩ : ∃ vo, Value.agg #[Jv k, Jv a, Jv b, Jv m, Jv kh, Jv kw, Jv sh, Jv sw, Jv tp, Jv lf, Jv bt, Jv rt, .slice wa lw wc, .slice ba lb bc, Jv sm, Jv ss, Jv um, Jv us, Jv z, Jv p, Jv lo, Jv hi] = vo := ⟨_, rfl⟩
  have HVO : Hid (Value.agg #[Jv k, Jv a, Jv b, Jv m, Jv kh, Jv kw, Jv sh, Jv sw, Jv tp, Jv lf, Jv bt, Jv rt, .slice wa lw wc, .slice ba lb bc, Jv sm, Jv ss, Jv um, Jv us, Jv z, Jv p, Jv lo, Jv hi] = vo) := hvo
  go_upto_region 2 with ((refine wpList_load_any rfl 47 (.tmp 6) rfl _ rfl [Jv k, Jv a, Jv b, Jv m, Jv kh, Jv kw, Jv sh, Jv sw, Jv tp, Jv lf, Jv bt, Jv rt, .slice wa lw wc, .slice ba lb bc, Jv sm, Jv ss, Jv um, Jv us, Jv z, Jv p, Jv lo, Jv hi] _ HL.out Try.underlying47 rfl (by kernel_rfl) ?_; (show wpList _ _ _ _ (Act.put _ _ (Value.agg #[Jv k, Jv a, Jv b, Jv m, Jv kh, Jv kw, Jv sh, Jv sw, Jv tp, Jv lf, Jv bt, Jv rt, .slice wa lw wc, .slice ba lb bc, Jv sm, Jv ss, Jv um, Jv us, Jv z, Jv p, Jv lo, Jv hi])) _); rw [hvo]; clear hvo; refine wpList_run1 rfl (some 3) rfl (.pointer (some ⟨w0.heap.size, 0, none⟩)) (w0.alloc (.cells #[Jv 0, Jv 0, Jv 0, Jv 0, Jv 0, Jv 0, Jv 0, Jv 0, Jv 0, Jv 0, Jv 0, Jv 0, .slice none 0 0, .slice none 0 0, Jv 0, Jv 0, Jv 0, Jv 0, Jv 0, Jv 0, Jv 0, Jv 0] 47)) (by kernel_rfl) ?_; refine wpList_st_new rfl 47 (.tmp 3) (.tmp 7) rfl w0 #[Jv 0, Jv 0, Jv 0, Jv 0, Jv 0, Jv 0, Jv 0, Jv 0, Jv 0, Jv 0, Jv 0, Jv 0, .slice none 0 0, .slice none 0 0, Jv 0, Jv 0, Jv 0, Jv 0, Jv 0, Jv 0, Jv 0, Jv 0] #[Jv k, Jv a, Jv b, Jv m, Jv kh, Jv kw, Jv sh, Jv sw, Jv tp, Jv lf, Jv bt, Jv rt, .slice wa lw wc, .slice ba lb bc, Jv sm, Jv ss, Jv um, Jv us, Jv z, Jv p, Jv lo, Jv hi] (by kernel_rfl) (Eq.trans (by kernel_rfl : _ = vo) HVO.out.symm) (by kernel_rfl) rfl (by simp [Value.oneCell']) ?_; (obtain ⟨w1, hw1⟩ : ∃ w1, w0.alloc (.cells #[Jv k, Jv a, Jv b, Jv m, Jv kh, Jv kw, Jv sh, Jv sw, Jv tp, Jv lf, Jv bt, Jv rt, .slice wa lw wc, .slice ba lb bc, Jv sm, Jv ss, Jv um, Jv us, Jv z, Jv p, Jv lo, Jv hi] 47) = w1 := ⟨_, rfl⟩); rw [hw1] at S1 ⊢; clear hw1))
  obtain ⟨c1, f1, z1, -⟩ := S1.out.rules
  go_upto_region 3 with fail
  have s2 := S1.out.seti (i := 1) (v := Jv 0) (by simp; have := HZ0.out; omega) #[Jv k, Jv 0, Jv b, Jv m, Jv kh, Jv kw, Jv sh, Jv sw, Jv tp, Jv lf, Jv bt, Jv rt, .slice wa lw wc, .slice ba lb bc, Jv sm, Jv ss, Jv um, Jv us, Jv z, Jv p, Jv lo, Jv hi] (by kernel_rfl)
  obtain ⟨w2, hw2⟩ : ∃ w2, w1.setCell ⟨w0.heap.size, 1, none⟩ (Jv 0) = w2 := ⟨_, rfl⟩
  rw [hw2] at s2 ⊢
  have S2 : Hid (St W w2 _) := s2
  have hG1 := s2.h1
  have hG2 := s2.h2
  have hG3 := (s2.below.block r hrz).trans HR.out
  clear hw2 S1 c1 f1 s2 HL
  refine regionC (fun w' => w'.heap[r]? = some (.cells #[Jv k, Jv a, Jv b, Jv m, Jv kh, Jv kw, Jv sh, Jv sw, Jv tp, Jv lf, Jv bt, Jv rt, .slice wa lw wc, .slice ba lb bc, Jv sm, Jv ss, Jv um, Jv us, Jv z, Jv p, Jv lo, Jv hi, Jv h, Jv w, Jv c, Jv H, Jv V, Jv C] 90 (0, 0)) ∧ w'.heap[w0.heap.size]? = some (.cells #[Jv k, Jv 0, Jv b, Jv m, Jv kh, Jv kw, Jv sh, Jv sw, Jv tp, Jv lf, Jv bt, Jv rt, .slice wa lw wc, .slice ba lb bc, Jv sm, Jv ss, Jv um, Jv us, Jv z, Jv p, Jv lo, Jv hi] 47 (0, 0))) (by kernel_rfl) ?_
  obtain ⟨wd, hwd⟩ : ∃ wd, w2.drew = wd := ⟨_, rfl⟩
  have HD : Hid (wd.heap[r]? = some (.cells #[Jv k, Jv a, Jv b, Jv m, Jv kh, Jv kw, Jv sh, Jv sw, Jv tp, Jv lf, Jv bt, Jv rt, .slice wa lw wc, .slice ba lb bc, Jv sm, Jv ss, Jv um, Jv us, Jv z, Jv p, Jv lo, Jv hi, Jv h, Jv w, Jv c, Jv H, Jv V, Jv C] 90 (0, 0)) ∧ wd.heap[w0.heap.size]? = some (.cells #[Jv k, Jv 0, Jv b, Jv m, Jv kh, Jv kw, Jv sh, Jv sw, Jv tp, Jv lf, Jv bt, Jv rt, .slice wa lw wc, .slice ba lb bc, Jv sm, Jv ss, Jv um, Jv us, Jv z, Jv p, Jv lo, Jv hi] 47 (0, 0))) := by unfold Hid; rw [← hwd]; exact ⟨hG3, hG1⟩
  have s3 := S2.out.drew
  rw [hwd] at s3 ⊢
  have S3 : Hid (St W wd _) := s3
  clear hwd S2 hG1 hG2 hG3 s3
  refine takeC 0 (v := .pointer (some ⟨r, 0, none⟩)) rfl rfl (by kernel_rfl) (by kernel_rfl) (by kernel_rfl) (fun _ _ _ h => h) (fun _ => rfl) rfl (fun w' hw' => by go_simp) ?_
  refine takeC 1 (v := .pointer (some ⟨r, 0, none⟩)) rfl rfl (by kernel_rfl) (by kernel_rfl) (by kernel_rfl) (fun _ _ _ h => h) (fun _ => rfl) rfl (fun w' hw' => by go_simp) ?_
  refine takeC 2 (v := .pointer (some ⟨r, 22, none⟩)) rfl rfl (by kernel_rfl) (by kernel_rfl) (by kernel_rfl) (fun _ _ _ h => h) (fun _ => rfl) rfl (fun w' hw' => by go_simp) ?_
  refine takeC 3 (v := .agg #[Jv h, Jv w, Jv c]) rfl rfl (by kernel_rfl) (by kernel_rfl) (by kernel_rfl) (fun _ _ _ h => h) (fun _ => rfl) rfl (fun w' hw' => run_la 23 (.tmp 11) rfl ⟨r, 22, none⟩ (by kernel_rfl) [Jv h, Jv w, Jv c] _ (three_at hw'.1 rfl rfl rfl) Try.underlying23 rfl (by kernel_rfl)) ?_
  refine takeC 4 (v := .agg #[Jv k, Jv 0, Jv b, Jv m, Jv kh, Jv kw, Jv sh, Jv sw, Jv tp, Jv lf, Jv bt, Jv rt, .slice wa lw wc, .slice ba lb bc, Jv sm, Jv ss, Jv um, Jv us, Jv z, Jv p, Jv lo, Jv hi]) rfl rfl (by kernel_rfl) (by kernel_rfl) (by kernel_rfl) (fun _ _ _ h => h) (fun _ => rfl) rfl (fun w' hw' => run_la 47 (.tmp 3) rfl ⟨w0.heap.size, 0, none⟩ (by kernel_rfl) [Jv k, Jv 0, Jv b, Jv m, Jv kh, Jv kw, Jv sh, Jv sw, Jv tp, Jv lf, Jv bt, Jv rt, .slice wa lw wc, .slice ba lb bc, Jv sm, Jv ss, Jv um, Jv us, Jv z, Jv p, Jv lo, Jv hi] _ (lcells hw'.2 (fget [Jv k, Jv 0, Jv b, Jv m, Jv kh, Jv kw, Jv sh, Jv sw, Jv tp, Jv lf, Jv bt, Jv rt, .slice wa lw wc, .slice ba lb bc, Jv sm, Jv ss, Jv um, Jv us, Jv z, Jv p, Jv lo, Jv hi] [])) Try.underlying47 rfl (by kernel_rfl)) ?_
  refine stepR 5 HD.out (by kernel_rfl) rfl rfl (.slice (some ⟨wd.heap.size, 0, none⟩) 1 1) (wd.alloc (.cells #[Jv k, Jv 0, Jv b, Jv m, Jv kh, Jv kw, Jv sh, Jv sw, Jv tp, Jv lf, Jv bt, Jv rt, .slice wa lw wc, .slice ba lb bc, Jv sm, Jv ss, Jv um, Jv us, Jv z, Jv p, Jv lo, Jv hi] 47)) (by kernel_rfl) ?_
  have HA : Hid ((wd.alloc (.cells #[Jv k, Jv 0, Jv b, Jv m, Jv kh, Jv kw, Jv sh, Jv sw, Jv tp, Jv lf, Jv bt, Jv rt, .slice wa lw wc, .slice ba lb bc, Jv sm, Jv ss, Jv um, Jv us, Jv z, Jv p, Jv lo, Jv hi] 47)).heap[r]? = some (.cells #[Jv k, Jv a, Jv b, Jv m, Jv kh, Jv kw, Jv sh, Jv sw, Jv tp, Jv lf, Jv bt, Jv rt, .slice wa lw wc, .slice ba lb bc, Jv sm, Jv ss, Jv um, Jv us, Jv z, Jv p, Jv lo, Jv hi, Jv h, Jv w, Jv c, Jv H, Jv V, Jv C] 90 (0, 0)) ∧ (wd.alloc (.cells #[Jv k, Jv 0, Jv b, Jv m, Jv kh, Jv kw, Jv sh, Jv sw, Jv tp, Jv lf, Jv bt, Jv rt, .slice wa lw wc, .slice ba lb bc, Jv sm, Jv ss, Jv um, Jv us, Jv z, Jv p, Jv lo, Jv hi] 47)).heap[w0.heap.size]? = some (.cells #[Jv k, Jv 0, Jv b, Jv m, Jv kh, Jv kw, Jv sh, Jv sw, Jv tp, Jv lf, Jv bt, Jv rt, .slice wa lw wc, .slice ba lb bc, Jv sm, Jv ss, Jv um, Jv us, Jv z, Jv p, Jv lo, Jv hi] 47 (0, 0))) := ⟨(heap_alloc_old wd _ (lt_of_heap HD.out.1)).trans HD.out.1, (heap_alloc_old wd _ (lt_of_heap HD.out.2)).trans HD.out.2⟩
  have s4 := S3.out.new (c := #[Jv k, Jv 0, Jv b, Jv m, Jv kh, Jv kw, Jv sh, Jv sw, Jv tp, Jv lf, Jv bt, Jv rt, .slice wa lw wc, .slice ba lb bc, Jv sm, Jv ss, Jv um, Jv us, Jv z, Jv p, Jv lo, Jv hi]) (t := 47)
  have hwz : Hid (W.heap.size ≤ wd.heap.size) := S3.out.size
  obtain ⟨w4, hw4⟩ : ∃ w4, wd.alloc (.cells #[Jv k, Jv 0, Jv b, Jv m, Jv kh, Jv kw, Jv sh, Jv sw, Jv tp, Jv lf, Jv bt, Jv rt, .slice wa lw wc, .slice ba lb bc, Jv sm, Jv ss, Jv um, Jv us, Jv z, Jv p, Jv lo, Jv hi] 47) = w4 := ⟨_, rfl⟩
  rw [hw4] at HA s4 ⊢
  have S4 : Hid (St W w4 _) := s4
  clear hw4 s4 S3 HD
  obtain ⟨g, hg⟩ : ∃ g, wd.heap.size = g := ⟨_, rfl⟩
  rw [hg] at S4 hwz ⊢
  clear hg
  refine takeC 6 (v := .agg #[Jv h, Jv w, Jv c, Jv 0, Jv 0, .slice (some ⟨g, 0, none⟩) 1 1, Jv 0]) rfl rfl (by kernel_rfl) (by kernel_rfl) (by kernel_rfl) (fun _ _ _ h => h) (fun _ => rfl) rfl (fun w' hw' => by kernel_rfl) ?_
  have HS3 : Hid (w4.heap[W.heap.size]? = some (.cells #[Jv 0, Jv 0, Jv 0, Jv 0, Jv 0, .slice none 0 0, Jv 0] 26 (0, 0))) := S4.out.h3
  refine stepS 7 HA.out (by kernel_rfl) rfl rfl 26 (.tmp 2) (.tmp 15) rfl W.heap.size #[Jv h, Jv w, Jv c, Jv 0, Jv 0, .slice (some ⟨g, 0, none⟩) 1 1, Jv 0] (by kernel_rfl) (by kernel_rfl) 26 #[Jv 0, Jv 0, Jv 0, Jv 0, Jv 0, .slice none 0 0, Jv 0] HS3.out (by kernel_rfl) rfl (by simp [Value.oneCell']) ?_
  have hZ' := setRow_heap w4 W.heap.size #[Jv 0, Jv 0, Jv 0, Jv 0, Jv 0, .slice none 0 0, Jv 0] #[Jv h, Jv w, Jv c, Jv 0, Jv 0, .slice (some ⟨g, 0, none⟩) 1 1, Jv 0] 26 (0, 0) HS3.out
  have hn1 : g ≠ W.heap.size := fun e => by have h1 := S4.out.h1; rw [e, HS3.out] at h1; simp at h1
  have hn2 : w0.heap.size ≠ W.heap.size := by have := HZ0.out; omega
  have hn3 : r ≠ W.heap.size := by omega
  have hO' : Hid ((w4.setRow W.heap.size #[Jv h, Jv w, Jv c, Jv 0, Jv 0, .slice (some ⟨g, 0, none⟩) 1 1, Jv 0]).heap[g]? = some (.cells #[Jv k, Jv 0, Jv b, Jv m, Jv kh, Jv kw, Jv sh, Jv sw, Jv tp, Jv lf, Jv bt, Jv rt, .slice wa lw wc, .slice ba lb bc, Jv sm, Jv ss, Jv um, Jv us, Jv z, Jv p, Jv lo, Jv hi] 47 (0, 0))) := (setRow_other _ _ _ _ hn1).trans S4.out.h1
  have hB' : Hid (Below W.heap.size W (w4.setRow W.heap.size #[Jv h, Jv w, Jv c, Jv 0, Jv 0, .slice (some ⟨g, 0, none⟩) 1 1, Jv 0])) := below_setRow S4.out.below (Nat.le_refl _) #[Jv h, Jv w, Jv c, Jv 0, Jv 0, .slice (some ⟨g, 0, none⟩) 1 1, Jv 0]
  have hC' : (w4.setRow W.heap.size #[Jv h, Jv w, Jv c, Jv 0, Jv 0, .slice (some ⟨g, 0, none⟩) 1 1, Jv 0]).heap[r]? = some (.cells #[Jv k, Jv a, Jv b, Jv m, Jv kh, Jv kw, Jv sh, Jv sw, Jv tp, Jv lf, Jv bt, Jv rt, .slice wa lw wc, .slice ba lb bc, Jv sm, Jv ss, Jv um, Jv us, Jv z, Jv p, Jv lo, Jv hi, Jv h, Jv w, Jv c, Jv H, Jv V, Jv C] 90 (0, 0)) ∧ (w4.setRow W.heap.size #[Jv h, Jv w, Jv c, Jv 0, Jv 0, .slice (some ⟨g, 0, none⟩) 1 1, Jv 0]).heap[w0.heap.size]? = some (.cells #[Jv k, Jv 0, Jv b, Jv m, Jv kh, Jv kw, Jv sh, Jv sw, Jv tp, Jv lf, Jv bt, Jv rt, .slice wa lw wc, .slice ba lb bc, Jv sm, Jv ss, Jv um, Jv us, Jv z, Jv p, Jv lo, Jv hi] 47 (0, 0)) := ⟨(setRow_other _ _ _ _ hn3).trans HA.out.1, (setRow_other _ _ _ _ hn2).trans HA.out.2⟩
  obtain ⟨w5, hw5⟩ : ∃ w5, w4.setRow W.heap.size #[Jv h, Jv w, Jv c, Jv 0, Jv 0, .slice (some ⟨g, 0, none⟩) 1 1, Jv 0] = w5 := ⟨_, rfl⟩
  rw [hw5] at hZ' hO' hB' hC' ⊢
  clear hw5 S4 HS3 HA
  refine doneC hC' (by kernel_rfl) ?_ _
  obtain ⟨c1, f1, z5⟩ := cells_at hZ'
  clear hC' hZ'
  go_wp2
  exact bodyPost_ret (v := .agg #[Jv h, Jv w, Jv c, Jv 0, Jv 0, .slice (some ⟨g, 0, none⟩) 1 1, Jv 0]) (by simp [results, Try.results56, go_sem, *]) rfl ⟨g, rfl, hO'.out, hwz.out, hB'.out⟩
end Go.Proofs.Ytcphealigifdiaa

/- The reach of an op, by package norm and by the document; the document's sums of weights. -/
namespace Go.Proofs.Ytcphealigifdiaa
open Go.ChangeShapes Go.WideShapes Go.ChangeAt Go.RowKit
set_option linter.unusedVariables false
theorem rc_3 (R p : Int) : mxI (mxI R (-p)) p = mxI R (szV p) := by
  unfold mxI szV
  repeat' split
  all_goals omega
theorem rcS_4 (lo hi : Int) : mxI (mxI (mxI (-lo) lo) (-hi)) hi = rcS lo hi := by
  unfold rcS mxI szV
  repeat' split
  all_goals omega
set_option maxHeartbeats 2000000 in
set_option maxRecDepth 100000 in
theorem nrch_any (k a b m kh kw sh sw tp lf bt rt : Int) (wa : Option Addr) (lw wc : Nat) (ba : Option Addr) (lb bc : Nat) (sm ss um us z p slo shi : Int) (lo hi : Int) (W : World) (htp : 0 ≤ tp ∧ tp ≤ 31) (hlf : 0 ≤ lf ∧ lf ≤ 31) (hbt : 0 ≤ bt ∧ bt ≤ 31) (hrt : 0 ≤ rt ∧ rt ≤ 31) (hp : I8 p) (hs : -128 ≤ lo ∧ lo ≤ hi ∧ hi ≤ 127) :
    Calls Try.prog 40 #[.agg #[Jv k, Jv a, Jv b, Jv m, Jv kh, Jv kw, Jv sh, Jv sw, Jv tp, Jv lf, Jv bt, Jv rt, .slice wa lw wc, .slice ba lb bc, Jv sm, Jv ss, Jv um, Jv us, Jv z, Jv p, Jv slo, Jv shi], .agg #[Jv lo, Jv hi]] W fun e w' => e = .returned (Jv (rcV tp lf bt rt p lo hi)) ∧ Below W.heap.size W w' := by
  obtain ⟨lo1, lo2, lo3⟩ := hs
  obtain ⟨p1, p2⟩ := hp
  have hm := max4 (-lo) lo (-hi) hi _ (rcS_4 lo hi)
  have HP : Hid (∀ W', _) := fun W' => pads_any kh kw sh sw tp lf bt rt W' htp hlf hbt hrt
  have hrb : 0 ≤ rcS lo hi ∧ rcS lo hi ≤ 128 := mxI_bd (szV_bd (by omega)) (szV_bd (by omega))
  have HV : Hid (rcV tp lf bt rt p lo hi = if 0 < tp + lf + bt + rt then mxI (rcS lo hi) (szV p) else rcS lo hi) := rfl
  rw [HV.out]
  obtain ⟨R, hR⟩ : ∃ R, rcS lo hi = R := ⟨_, rfl⟩
  rw [hR] at hm hrb ⊢
  have s0 := ((St.start W).new (c := #[Jv k, Jv a, Jv b, Jv m, Jv kh, Jv kw, Jv sh, Jv sw, Jv tp, Jv lf, Jv bt, Jv rt, .slice wa lw wc, .slice ba lb bc, Jv sm, Jv ss, Jv um, Jv us, Jv z, Jv p, Jv slo, Jv shi]) (t := 47)).new (c := #[Jv lo, Jv hi]) (t := 28)
  simp only [World.size_alloc] at s0
  have S0 : Hid (St W _ _) := s0
  have hm3 := max3 R (-p) p _ (rc_3 R p)
  clear hR HV htp hlf hbt hrt s0
  obtain ⟨q, hq⟩ : ∃ q, tp + lf + bt + rt = q := ⟨_, rfl⟩
  rw [hq] at HP ⊢
  clear hq
  by_cases c : 0 < q
  · have hd : decide (0 < q) = true := decide_eq_true c
    rw [hd] at HP
    rw [if_pos c]
    clear c hd
    go_enter Try.func40, Try.ntmps40
    go_wp2_with fail
    refine (HP.out _).mono ?_
    rintro e w1 ⟨rfl, hb⟩
    have S1 : Hid (St W w1 _) := S0.out.call hb
    obtain ⟨c1, f1, z1, c2, f2, z2, -⟩ := S1.out.rules
    clear hb S0 HP
    go_wp2
    go_ret
    exact ⟨rfl, S1.out.below⟩
  · have hd : decide (0 < q) = false := decide_eq_false c
    rw [hd] at HP
    rw [if_neg c]
    clear c hd
    go_enter Try.func40, Try.ntmps40
    go_wp2_with fail
    refine (HP.out _).mono ?_
    rintro e w1 ⟨rfl, hb⟩
    have S1 : Hid (St W w1 _) := S0.out.call hb
    clear hb S0 HP
    go_wp2
    go_ret
    exact ⟨rfl, S1.out.below⟩
end Go.Proofs.Ytcphealigifdiaa

/- What L1, Signed and Quick of package norm return. -/
namespace Go.Proofs.Ytcphealigifdiaa
open Go.ChangeShapes Go.WideShapes Go.ChangeAt Go.RowKit
set_option linter.unusedVariables false
set_option maxHeartbeats 2000000 in
theorem qu_e (h w c lo hi ot op ch : Int) (oa : Option Addr) (on oc : Nat) (W : World) (slo shi E : Int) (hE : E ≠ 0) (HO : Hid (∀ W', Below W.heap.size W W' → Calls Try.prog 7 #[.agg #[Jv h, Jv w, Jv c, Jv lo, Jv hi, .slice oa on oc, Jv ot], Jv op, Jv ch, Jv 0] W' fun e w' => e = .returned (.tuple #[.slice none 0 0, Jv 0, Jv E]) ∧ Below W'.heap.size W' w')) :
    Calls Try.prog 16 #[.agg #[Jv h, Jv w, Jv c, Jv lo, Jv hi, .slice oa on oc, Jv ot], Jv op, Jv ch, .agg #[Jv slo, Jv shi]] W fun e w' => e = .returned (.tuple #[.agg #[Jv 0, Jv 0], Jv E]) ∧ Below W.heap.size W w' := by
  have s0 := (((St.start W).new (c := #[Jv h, Jv w, Jv c, Jv lo, Jv hi, .slice oa on oc, Jv ot]) (t := 26)).new (c := #[Jv slo, Jv shi]) (t := 28)).new (c := #[Jv 0, Jv 0]) (t := 28)
  simp only [World.size_alloc] at s0
  have hE' : (E == 0) = false := by simp [hE]
  go_enter Try.func16, Try.ntmps16
  go_wp2_with fail
  refine Calls.mono (HO.out _ s0.below) ?_
  rintro e w1 ⟨rfl, hb⟩
  have s1 := s0.call hb
  obtain ⟨c1, f1, z1, c2, f2, z2, -⟩ := s1.rules
  clear hb s0 HO
  go_wp2
  exact bodyPost_ret (v := .tuple #[.agg #[Jv 0, Jv 0], Jv E]) (by simp [results, Try.results16, go_sem, c1]) rfl ⟨rfl, s1.out2⟩
set_option maxHeartbeats 2000000 in
theorem qu_30 (h w c lo hi ot op ch : Int) (oa : Option Addr) (on oc : Nat) (W : World) (slo shi bi : Int) (TL : List (Int × Int)) (HO : Hid (∀ W', Below W.heap.size W W' → Calls Try.prog 7 #[.agg #[Jv h, Jv w, Jv c, Jv lo, Jv hi, .slice oa on oc, Jv ot], Jv op, Jv ch, Jv 0] W' fun e w' => (∃ v, e = .returned (.tuple #[v, Jv bi, Jv 0]) ∧ OTm w' W'.heap.size v TL) ∧ Below W'.heap.size W' w')) (hs : vaB slo shi = false) :
    Calls Try.prog 16 #[.agg #[Jv h, Jv w, Jv c, Jv lo, Jv hi, .slice oa on oc, Jv ot], Jv op, Jv ch, .agg #[Jv slo, Jv shi]] W fun e w' => e = .returned (.tuple #[.agg #[Jv 0, Jv 0], Jv 30]) ∧ Below W.heap.size W w' := by
  have s0 := (((St.start W).new (c := #[Jv h, Jv w, Jv c, Jv lo, Jv hi, .slice oa on oc, Jv ot]) (t := 26)).new (c := #[Jv slo, Jv shi]) (t := 28)).new (c := #[Jv 0, Jv 0]) (t := 28)
  simp only [World.size_alloc] at s0
  have HV : Hid (∀ W, _) := fun W => nva_any slo shi W
  rw [hs] at HV
  go_enter Try.func16, Try.ntmps16
  go_wp2_with fail
  refine Calls.mono (HO.out _ s0.below) ?_
  rintro e w1 ⟨⟨v, rfl, hO⟩, hb⟩
  have s1 := s0.call hb
  obtain ⟨va, vc, rfl⟩ := hO.slice
  obtain ⟨c1, f1, z1, c2, f2, z2, -⟩ := s1.rules
  clear hb s0 HO hO
  go_wp2_with fail
  refine Calls.mono (HV.out _) ?_
  rintro e w2 ⟨rfl, hb⟩
  have s2 := s1.call hb
  clear hb s1 c1 f1 z1 c2 f2 z2
  obtain ⟨c1, f1, z1, c2, f2, z2, -⟩ := s2.rules
  go_wp2
  exact bodyPost_ret (v := .tuple #[.agg #[Jv 0, Jv 0], Jv 30]) (by simp [results, Try.results16, go_sem, c1]) rfl ⟨rfl, s2.out2⟩
set_option maxHeartbeats 4000000 in
set_option maxRecDepth 100000 in
theorem qu_ok (h w c lo hi ot ch : Int) (x : Addr) (on oc i : Nat) (W : World) (slo shi bi U R : Int) (TL : List (Int × Int)) (O : Nat → Nat → Int) (wa : Option Addr) (lw cw : Nat) (ba : Option Addr) (lb cb : Nat) (hin : i < on) (hoc : on ≤ oc) (hom : oc ≤ maxLen)
    (hcell : ∀ q v, [Jv (O i 0), Jv (O i 1), Jv (O i 2), Jv (O i 3), Jv (O i 4), Jv (O i 5), Jv (O i 6), Jv (O i 7), Jv (O i 8), Jv (O i 9), Jv (O i 10), Jv (O i 11), .slice wa lw cw, .slice ba lb cb, Jv (O i 14), Jv (O i 15), Jv (O i 16), Jv (O i 17), Jv (O i 18), Jv (O i 19), Jv (O i 20), Jv (O i 21)][q]? = some v → W.cell? ((x.add (i * 22)).add q) = some v)
    (HO : Hid (∀ W', Below W.heap.size W W' → Calls Try.prog 7 #[.agg #[Jv h, Jv w, Jv c, Jv lo, Jv hi, .slice (some x) on oc, Jv ot], Jv ((i : Int) + 1), Jv ch, Jv 0] W' fun e w' => (∃ v, e = .returned (.tuple #[v, Jv bi, Jv 0]) ∧ OTm w' W'.heap.size v TL) ∧ Below W'.heap.size W' w'))
    (HU : Hid (∀ (v : Value) (W : World), TV W v TL → Calls Try.prog 39 #[v] W fun e w' => e = .returned (Jv U) ∧ Below W.heap.size W w'))
    (HR : Hid (∀ W, Calls Try.prog 40 #[.agg #[Jv (O i 0), Jv (O i 1), Jv (O i 2), Jv (O i 3), Jv (O i 4), Jv (O i 5), Jv (O i 6), Jv (O i 7), Jv (O i 8), Jv (O i 9), Jv (O i 10), Jv (O i 11), .slice wa lw cw, .slice ba lb cb, Jv (O i 14), Jv (O i 15), Jv (O i 16), Jv (O i 17), Jv (O i 18), Jv (O i 19), Jv (O i 20), Jv (O i 21)], .agg #[Jv slo, Jv shi]] W fun e w' => e = .returned (Jv R) ∧ Below W.heap.size W w')) (hs : vaB slo shi = true) (hU : 0 ≤ U ∧ U ≤ 33554432) (hR : 0 ≤ R ∧ R ≤ 128) (hbi : -2147483648 ≤ bi ∧ bi ≤ 2147483647) :
    Calls Try.prog 16 #[.agg #[Jv h, Jv w, Jv c, Jv lo, Jv hi, .slice (some x) on oc, Jv ot], Jv ((i : Int) + 1), Jv ch, .agg #[Jv slo, Jv shi]] W fun e w' => e = .returned (.tuple #[.agg #[Jv (bi - U * R), Jv (bi + U * R)], Jv 0]) ∧ Below W.heap.size W w' := by
  have s0 := (((St.start W).new (c := #[Jv h, Jv w, Jv c, Jv lo, Jv hi, .slice (some x) on oc, Jv ot]) (t := 26)).new (c := #[Jv slo, Jv shi]) (t := 28)).new (c := #[Jv 0, Jv 0]) (t := 28)
  simp only [World.size_alloc] at s0
  have HV : Hid (∀ W, _) := fun W => nva_any slo shi W
  rw [hs] at HV
  have hD := aw_bd hU hR
  obtain ⟨D, hDe⟩ : ∃ D, U * R = D := ⟨_, rfl⟩
  rw [hDe] at hD ⊢
  have HDe : Hid (U * R = D) := hDe
  have Hc : Hid (∀ q v, [Jv (O i 0), Jv (O i 1), Jv (O i 2), Jv (O i 3), Jv (O i 4), Jv (O i 5), Jv (O i 6), Jv (O i 7), Jv (O i 8), Jv (O i 9), Jv (O i 10), Jv (O i 11), .slice wa lw cw, .slice ba lb cb, Jv (O i 14), Jv (O i 15), Jv (O i 16), Jv (O i 17), Jv (O i 18), Jv (O i 19), Jv (O i 20), Jv (O i 21)][q]? = some v → W.cell? ((x.add (i * 22)).add q) = some v) := hcell
  unfold maxLen at hom
  clear hDe hcell hU hR hs
  go_enter Try.func16, Try.ntmps16
  go_wp2_with fail
  refine Calls.mono (HO.out _ s0.below) ?_
  rintro e w1 ⟨⟨v, rfl, hO⟩, hb⟩
  have s1 := s0.call hb
  have T1 : Hid (TV w1 v TL) := hO.tv
  obtain ⟨va, vc, rfl⟩ := hO.slice
  obtain ⟨c1, f1, z1, c2, f2, z2, -⟩ := s1.rules
  clear hb s0 HO hO
  go_wp2_with fail
  refine Calls.mono (HV.out _) ?_
  rintro e w2 ⟨rfl, hb⟩
  have s2 := s1.call hb
  have T2 : Hid (TV w2 (.slice va TL.length vc) TL) := T1.out.below hb
  clear hb s1 c1 f1 z1 c2 f2 z2 T1 HV
  have S2 : Hid (St W w2 _) := s2
  obtain ⟨N, hN⟩ : ∃ N, TL.length = N := ⟨_, rfl⟩
  rw [hN] at T2 ⊢
  clear s2 hN
  go_upto_region 6 with fail
  have HC2 : Hid (∀ q v, [Jv (O i 0), Jv (O i 1), Jv (O i 2), Jv (O i 3), Jv (O i 4), Jv (O i 5), Jv (O i 6), Jv (O i 7), Jv (O i 8), Jv (O i 9), Jv (O i 10), Jv (O i 11), .slice wa lw cw, .slice ba lb cb, Jv (O i 14), Jv (O i 15), Jv (O i 16), Jv (O i 17), Jv (O i 18), Jv (O i 19), Jv (O i 20), Jv (O i 21)][q]? = some v → w2.cell? ((x.add (i * 22)).add q) = some v) := fun q v hq => (S2.out.below.cell (World.block_lt_of_cell? W _ (Hc.out q v hq))).trans (Hc.out q v hq)
  have hG1 := S2.out.h2
  have hG2 := S2.out.h3
  clear Hc
  refine regionC (fun w' => Below w2.heap.size w2 w') (by kernel_rfl) ?_
  obtain ⟨wd, hwd⟩ : ∃ wd, w2.drew = wd := ⟨_, rfl⟩
  have HD : Hid (Below w2.heap.size w2 wd) := by rw [← hwd]; exact (Below.refl _ _).drew
  rw [hwd]
  clear hwd
  refine takeC 0 (v := .slice va N vc) rfl rfl (by kernel_rfl) (by kernel_rfl) (by kernel_rfl) (fun _ _ _ h => h) (fun _ => rfl) rfl (fun w' hw' => by go_simp) ?_
  refine takeC 2 (v := .pointer (some ⟨W.heap.size, 5, none⟩)) rfl rfl (by kernel_rfl) (by kernel_rfl) (by kernel_rfl) (fun _ _ _ h => h) (fun _ => rfl) rfl (fun w' hw' => by go_simp) ?_
  refine takeC 3 (v := .slice (some x) on oc) rfl rfl (by kernel_rfl) (by kernel_rfl) (by kernel_rfl) (fun _ _ _ h => h) (fun _ => rfl) rfl (fun w' hw' => by have hc := (cells_at ((hw'.block _ (lt_of_heap hG2)).trans hG2)).1 5; go_simp) ?_
  refine takeC 4 (v := Jv ((i : Int) + 1)) rfl rfl (by kernel_rfl) (by kernel_rfl) (by kernel_rfl) (fun _ _ _ h => h) (fun _ => rfl) rfl (fun w' hw' => by go_simp) ?_
  refine takeC 5 (v := Jv (i : Int)) rfl rfl (by kernel_rfl) (by kernel_rfl) (by kernel_rfl) (fun _ _ _ h => h) (fun _ => rfl) rfl (fun w' hw' => by go_simp; rw [IntKind.wrap_i64]; omega) ?_
  refine takeC 6 (v := .pointer (some (x.add (i * 22)))) rfl rfl (by kernel_rfl) (by kernel_rfl) (by kernel_rfl) (fun _ _ _ h => h) (fun _ => rfl) rfl (fun w' hw' => by go_simp) ?_
  refine takeC 7 (v := .agg #[Jv (O i 0), Jv (O i 1), Jv (O i 2), Jv (O i 3), Jv (O i 4), Jv (O i 5), Jv (O i 6), Jv (O i 7), Jv (O i 8), Jv (O i 9), Jv (O i 10), Jv (O i 11), .slice wa lw cw, .slice ba lb cb, Jv (O i 14), Jv (O i 15), Jv (O i 16), Jv (O i 17), Jv (O i 18), Jv (O i 19), Jv (O i 20), Jv (O i 21)]) rfl rfl (by kernel_rfl) (by kernel_rfl) (by kernel_rfl) (fun _ _ _ h => h) (fun _ => rfl) rfl (fun w' hw' => run_la 47 (.tmp 36) rfl (x.add (i * 22)) (by kernel_rfl) [Jv (O i 0), Jv (O i 1), Jv (O i 2), Jv (O i 3), Jv (O i 4), Jv (O i 5), Jv (O i 6), Jv (O i 7), Jv (O i 8), Jv (O i 9), Jv (O i 10), Jv (O i 11), .slice wa lw cw, .slice ba lb cb, Jv (O i 14), Jv (O i 15), Jv (O i 16), Jv (O i 17), Jv (O i 18), Jv (O i 19), Jv (O i 20), Jv (O i 21)] _ (fun q v hq => (hw'.cell (World.block_lt_of_cell? _ _ (HC2.out q v hq))).trans (HC2.out q v hq)) Try.underlying47 rfl (by kernel_rfl)) ?_
  refine takeC 8 (v := .agg #[Jv slo, Jv shi]) rfl rfl (by kernel_rfl) (by kernel_rfl) (by kernel_rfl) (fun _ _ _ h => h) (fun _ => rfl) rfl (fun w' hw' => by have hc := (cells_at ((hw'.block _ (lt_of_heap hG1)).trans hG1)).1; go_simp) ?_
  refine stepK 1 HD.out (by kernel_rfl) rfl rfl 39 #[.slice va N vc] (by kernel_rfl) (HU.out _ wd (T2.out.below HD.out)) ?_
  rintro e w3 ⟨rfl, hb⟩
  have HD3 : Hid (Below w2.heap.size w2 w3) := btr HD.out hb
  clear hb HD T2 HU
  refine ⟨_, rfl, ?_⟩
  refine stepK 9 HD3.out (by kernel_rfl) rfl rfl 40 #[.agg #[Jv (O i 0), Jv (O i 1), Jv (O i 2), Jv (O i 3), Jv (O i 4), Jv (O i 5), Jv (O i 6), Jv (O i 7), Jv (O i 8), Jv (O i 9), Jv (O i 10), Jv (O i 11), .slice wa lw cw, .slice ba lb cb, Jv (O i 14), Jv (O i 15), Jv (O i 16), Jv (O i 17), Jv (O i 18), Jv (O i 19), Jv (O i 20), Jv (O i 21)], .agg #[Jv slo, Jv shi]] (by kernel_rfl) (HR.out w3) ?_
  rintro e w4 ⟨rfl, hb⟩
  have HD4 : Hid (Below w2.heap.size w2 w4) := btr HD3.out hb
  clear hb HD3 HR
  refine ⟨_, rfl, ?_⟩
  refine stepR 10 HD4.out (by kernel_rfl) rfl rfl (Jv D) w4 (by rw [← HDe.out]; go_simp; rw [HDe.out, IntKind.wrap_i64]; omega) ?_
  refine stepR 11 HD4.out (by kernel_rfl) rfl rfl (Jv D) w4 (by kernel_rfl) ?_
  refine doneC HD4.out (by kernel_rfl) ?_ _
  have S4 := S2.out.call HD4.out
  obtain ⟨c1, f1, z1, -⟩ := S4.rules
  clear S2 HD4 hG1 hG2 HC2 HDe
  go_wp2
  exact bodyPost_ret (v := .tuple #[.agg #[Jv (bi - D), Jv (bi + D)], Jv 0]) (by simp [results, Try.results16, go_sem, c1]) rfl ⟨rfl, S4.out2⟩
end Go.Proofs.Ytcphealigifdiaa
