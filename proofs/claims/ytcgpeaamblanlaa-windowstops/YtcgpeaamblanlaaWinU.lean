/- Taps and Positions hand back iterators: what they give, and for how long. -/
import Derived.Test.YtcgpeaamblanlaaWinP
import Derived.Test.YtcgpeaamblanlaaWinC
namespace Go.Proofs.Ytcgpeaamblanlaa
open Go.ChangeShapes Go.WideShapes Go.ChangeAt Go.RowKit Go.Shelf
/-- What lies from block lo on, ahead of block hi, lies as it lay. -/
def Mid (lo hi : Nat) (W W' : World) : Prop := ∀ b, lo ≤ b → b < hi → ∀ c t, W.heap[b]? = some (.cells c t (0, 0)) → W'.heap[b]? = some (.cells c t (0, 0))
theorem Mid.refl (lo hi : Nat) (W : World) : Mid lo hi W W := fun _ _ _ _ _ h => h
theorem Mid.trans {lo hi : Nat} {A B C : World} (h : Mid lo hi A B) (k : Mid lo hi B C) : Mid lo hi A C := fun b h1 h2 c t hc => k b h1 h2 c t (h b h1 h2 c t hc)
theorem Mid.put {lo hi : Nat} (W : World) (i : Nat) (o o' : Obj) (h : W.heap[i]? = some o) (ho : o.isCells = false) : Mid lo hi W (W.putObj i o') := fun b _ _ _ _ hc => by
  by_cases e : b = i
  · subst e; rw [h] at hc; cases hc; cases ho
  · rw [World.putObj_heap_other e]; exact hc
theorem Mid.below {lo hi n : Nat} {W W' : World} (h : Below n W W') (hn : hi ≤ n) : Mid lo hi W W' := fun b _ h2 _ _ hc => (h.block b (by omega)).trans hc
theorem Mid.later {lo hi : Nat} {W W' : World} (h : Below W.heap.size W W') : Mid lo hi W W' := fun b _ _ _ _ hc => (h.block b (lt_of_heap hc)).trans hc
theorem Mid.grown {lo hi : Nat} {W W' : World} {g : Option Nat} (h : W.grownBy W' g) (hg : ∀ b, g = some b → b < lo ∨ hi ≤ b) : Mid lo hi W W' := fun b h1 h2 _ _ hc => (h.block b (lt_of_heap hc) (fun e => by have := hg b e.symm; omega)).trans hc
theorem Mid.set {lo hi : Nat} (W : World) {B i : Nat} {v : Value} (hB : B < lo ∨ hi ≤ B) : Mid lo hi W (W.setCell ⟨B, i, none⟩ v) := fun b h1 h2 _ _ hc => by
  rw [Below.heap_setCell _ _ _ _ (by show b ≠ B; omega)]; exact hc
theorem Mid.kept {lo hi : Nat} {l : List Nat} {W W' : World} (h : Mid lo hi W W') (hl : ∀ b ∈ l, lo ≤ b ∧ b < hi) : Kept l W W' := fun b hb c t hc => h b (hl b hb).1 (hl b hb).2 c t hc
/-- An iterator that lies from block lo on, ahead of block hi, and gives these pairs. -/
def It (lo hi : Nat) (w : World) (v : Value) (ys : List (Int × Int)) : Prop :=
  ∃ g lb, v = .func (.func g) #[] lb ∧ (∀ args w, (callFunc g args).run Try.prog w = .ok (.enter g args) w) ∧
    ∀ w' m, Mid lo hi w w' → SeqStopsK Fence.wide m Try.prog g lb (fun x : Int × Int => #[Value.int .i64 x.1, Value.int .i64 x.2]) (Mid lo hi) (fun zs => zs = ys) (fun pre => ∃ k, k ≤ ys.length ∧ pre = ys.take k) ys.length w'
theorem It.mid {lo hi : Nat} {w w' : World} {v : Value} {ys : List (Int × Int)} (h : It lo hi w v ys) (k : Mid lo hi w w') : It lo hi w' v ys := by
  obtain ⟨g, lb, h1, h2, h3⟩ := h
  exact ⟨g, lb, h1, h2, fun w'' m k' => h3 w'' m (k.trans k')⟩
theorem It.later {lo hi : Nat} {w w' : World} {v : Value} {ys : List (Int × Int)} (h : It lo hi w v ys) (k : Below w.heap.size w w') : It lo hi w' v ys := h.mid (Mid.later k)
theorem cell_of {lo hi : Nat} {w w' W : World} {b : Nat} {c : Array Value} {t : TypeId} (h : w.heap[b]? = some (.cells c t (0, 0))) (h1 : lo ≤ b) (h2 : b < hi) (k : Mid lo hi w w') (hW : Below w'.heap.size w' W) : W.heap[b]? = some (.cells c t (0, 0)) :=
  Mid.later (lo := lo) (hi := hi) hW b h1 h2 c t (k b h1 h2 c t h)
theorem it_taps {lo hi : Nat} {w0 : World} {B1 B2 B3 B4 B5 : Nat} {h w c kh kw sh sw tp lf bt rt t u : Int} {N : Nat} (hC : N = 0 ∨ Cor h w kh kw t u ∧ N = (kh * kw).toNat)
    (c1 : w0.heap[B1]? = some (.cells #[.int .i64 N] 3 (0, 0))) (c2 : w0.heap[B2]? = some (.cells #[.int .i64 h, .int .i64 w, .int .i64 c] 23 (0, 0))) (c3 : w0.heap[B3]? = some (.cells #[.int .i64 t] 3 (0, 0)))
    (c4 : w0.heap[B4]? = some (.cells #[.int .i64 kh, .int .i64 kw, .int .i64 sh, .int .i64 sw, .int .i64 tp, .int .i64 lf, .int .i64 bt, .int .i64 rt] 25 (0, 0))) (c5 : w0.heap[B5]? = some (.cells #[.int .i64 u] 3 (0, 0))) (hb : ∀ b ∈ [B1, B2, B3, B4, B5], lo ≤ b ∧ b < hi) :
    It lo hi w0 (.func (.func 28) #[] #[.pointer (some ⟨B1, 0, none⟩), .pointer (some ⟨B2, 0, none⟩), .pointer (some ⟨B3, 0, none⟩), .pointer (some ⟨B4, 0, none⟩), .pointer (some ⟨B5, 0, none⟩)]) (tapL h w kw t u N) := by
  refine ⟨_, _, rfl, enters_of Try.func28 (by kernel_rfl) rfl, fun w' m k l J Jx W hW hJ hJx hY h0 => ?_⟩
  have b1 := hb B1 (by simp)
  have b2 := hb B2 (by simp)
  have b3 := hb B3 (by simp)
  have b4 := hb B4 (by simp)
  have b5 := hb B5 (by simp)
  rw [tapL_len] at hY
  refine (taps1_in m l B1 B2 B3 B4 B5 h w c kh kw sh sw tp lf bt rt t u N J Jx W hC hJ (fun pre x W1 hj hl => YieldAt.mono (hY pre x W1 hj hl) ?_)
    (cell_of c1 b1.1 b1.2 k hW) (cell_of c2 b2.1 b2.2 k hW) (cell_of c3 b3.1 b3.2 k hW) (cell_of c4 b4.1 b4.2 k hW) (cell_of c5 b5.1 b5.2 k hW) h0).mono ?_
  · rintro e W' (⟨h1, h2, h3⟩ | h1)
    · exact .inl ⟨h1, h2, h3.kept fun b hb' => hb b (List.mem_cons_of_mem _ hb')⟩
    · exact .inr h1
  · rintro e W' ⟨he, ⟨ys, rfl, hj⟩ | ⟨pre, ⟨j, hj1, rfl⟩, hj⟩⟩
    · exact ⟨he, .inl ⟨_, rfl, hj⟩⟩
    · exact ⟨he, .inr ⟨_, ⟨j, by rw [tapL_len]; exact hj1, tapL_take _ _ _ _ _ hj1⟩, hj⟩⟩
theorem it_spots {lo hi : Nat} {w0 : World} {B1 B2 r q : Nat} (hr : r ≤ 1200) (hq : q ≤ 1200)
    (c1 : w0.heap[B1]? = some (.cells #[.int .i64 r] 3 (0, 0))) (c2 : w0.heap[B2]? = some (.cells #[.int .i64 q] 3 (0, 0))) (hb : ∀ b ∈ [B1, B2], lo ≤ b ∧ b < hi) :
    It lo hi w0 (.func (.func 30) #[] #[.pointer (some ⟨B1, 0, none⟩), .pointer (some ⟨B2, 0, none⟩)]) (spotL q (r * q)) := by
  refine ⟨_, _, rfl, enters_of Try.func30 (by kernel_rfl) rfl, fun w' m k l J Jx W hW hJ hJx hY h0 => ?_⟩
  have b1 := hb B1 (by simp)
  have b2 := hb B2 (by simp)
  rw [spotL_len] at hY
  refine (spots1_in m l B1 B2 r q J Jx W hr hq (fun pre x W1 hj hl => YieldAt.mono (hY pre x W1 hj hl) ?_) (cell_of c1 b1.1 b1.2 k hW) (cell_of c2 b2.1 b2.2 k hW) h0).mono ?_
  · rintro e W' (⟨h1, h2, h3⟩ | h1)
    · exact .inl ⟨h1, h2, h3.kept fun b hb' => hb b (List.mem_cons_of_mem _ hb')⟩
    · exact .inr h1
  · rintro e W' ⟨he, ⟨ys, rfl, hj⟩ | ⟨pre, ⟨j, hj1, rfl⟩, hj⟩⟩
    · exact ⟨he, .inl ⟨_, rfl, hj⟩⟩
    · exact ⟨he, .inr ⟨_, ⟨j, by rw [spotL_len]; exact hj1, spotL_take _ hj1⟩, hj⟩⟩
/-- What the listed blocks hold. -/
def Heaps (w : World) : List (Nat × Array Value × TypeId) → Prop
  | [] => True
  | (B, c, t) :: l => w.heap[B]? = some (.cells c t) ∧ Heaps w l
theorem heaps_of {w : World} : ∀ (l : List (Nat × Array Value × TypeId)), (∀ x ∈ l, w.heap[x.1]? = some (.cells x.2.1 x.2.2)) → Heaps w l
  | [], _ => trivial
  | (_, _, _) :: l, h => ⟨h _ List.mem_cons_self, heaps_of l fun x hx => h x (List.mem_cons_of_mem _ hx)⟩
theorem St.heaps {w0 w : World} {l : List (Nat × Array Value × TypeId)} (h : St w0 w l) : Heaps w l := heaps_of l fun x hx => (h.2 x hx).1
theorem tapsOf_no {h w c kh kw sh sw tp lf bt rt n e : Int} (he : coR h w c kh kw sh sw tp lf bt rt n = (0, 0, e)) (h2 : e ≠ 0) : tapsOf h w c kh kw sh sw tp lf bt rt n = [] := by unfold tapsOf; rw [he, if_neg (by simpa using h2)]
theorem tapsOf_ok {h w c kh kw sh sw tp lf bt rt n t u : Int} (he : coR h w c kh kw sh sw tp lf bt rt n = (t, u, 0)) : tapsOf h w c kh kw sh sw tp lf bt rt n = tapL h w kw t u (kh * kw).toNat := by unfold tapsOf; rw [he, if_pos rfl]
set_option maxHeartbeats 4000000 in
theorem taps_any (h w c kh kw sh sw tp lf bt rt n : Int) (W : World) :
    Calls Try.prog 18 #[.agg #[.int .i64 h, .int .i64 w, .int .i64 c], .agg #[.int .i64 kh, .int .i64 kw, .int .i64 sh, .int .i64 sw, .int .i64 tp, .int .i64 lf, .int .i64 bt, .int .i64 rt], .int .i64 n] W fun e w' => (∃ g lb, e = .returned (.func (.func g) #[] lb) ∧ It W.heap.size w'.heap.size w' (.func (.func g) #[] lb) (tapsOf h w c kh kw sh sw tp lf bt rt n)) ∧ Below W.heap.size W w' := by
  have hmf : ∀ (fn : Fn) (first cap : Array Value) (w : World), (Instr.makeFunc fn first cap).run Try.prog w = .ok (.func fn first cap) w := fun _ _ _ _ => rfl
  rcases coR_cases h w c kh kw sh sw tp lf bt rt n with ⟨e, he, h2⟩ | ⟨r, q, he, hf, hn, hc⟩
  · rw [tapsOf_no he (by omega)]
    have HC : Hid (coR h w c kh kw sh sw tp lf bt rt n = (0, 0, e)) := he
    have z1 : (e == 0) = false := by simp; omega
    clear he
    go_enter Try.func18, Try.ntmps18
    go_wp2_with fail
    refine (corner_any _ _ _ _ _ _ _ _ _ _ _ _ _).mono ?_
    rintro e w1 ⟨rfl, hb'⟩
    have s1 := (St.start W).new.new.call hb'
    clear hb'
    try simp only [World.size_setCell] at s1
    try simp only [World.size_alloc] at s1
    obtain ⟨c1, f1, zw1_1, c2, f2, zw1_2, -⟩ := s1.rules
    rw [HC.out]
    go_wp2
    have s2 := (s1.new (c := #[.int .i64 0]) (t := 3)).new (c := #[.int .i64 0]) (t := 3) |>.new (c := #[.int .i64 0]) (t := 3)
    simp only [World.size_alloc] at s2
    go_ret
    refine ⟨⟨_, _, rfl, ?_⟩, s2.below⟩
    obtain ⟨a1, a2, a3, a4, a5, -⟩ := s2.heaps
    exact it_taps (N := 0) (.inl rfl) a1 a5 a3 a4 a2 (fun b hb => by have := s1.size; simp at hb ⊢; omega)
  · rw [tapsOf_ok hc]
    have HC : Hid (coR h w c kh kw sh sw tp lf bt rt n = (n / q * sh - tp, n % q * sw - lf, 0)) := hc
    have hcor := cor_of hf hn
    have HN : Hid (Cor h w kh kw (n / q * sh - tp) (n % q * sw - lf)) := hcor
    have k1 := hcor.2.2.2.1
    have k2 := hcor.2.2.2.2.1
    clear he hf hn hc hcor
    obtain ⟨t, ht⟩ : ∃ t, n / q * sh - tp = t := ⟨_, rfl⟩
    obtain ⟨u, hu⟩ : ∃ u, n % q * sw - lf = u := ⟨_, rfl⟩
    rw [ht, hu] at HC HN
    rw [ht, hu]
    clear ht hu
    obtain ⟨p1, p2⟩ := mul_bd k1.1 k1.2 k2.1 k2.2
    obtain ⟨p, hp⟩ : ∃ p, kh * kw = p := ⟨_, rfl⟩
    have HP : Hid (kh * kw = p) := hp
    rw [hp] at p1 p2
    go_enter Try.func18, Try.ntmps18
    go_wp2_with fail
    refine (corner_any _ _ _ _ _ _ _ _ _ _ _ _ _).mono ?_
    rintro e w1 ⟨rfl, hb'⟩
    have s1 := (St.start W).new.new.call hb'
    clear hb'
    try simp only [World.size_setCell] at s1
    try simp only [World.size_alloc] at s1
    obtain ⟨c1, f1, zw1_1, c2, f2, zw1_2, -⟩ := s1.rules
    rw [HC.out]
    go_wp2
    have e : p = ((kh * kw).toNat : Int) := by rw [HP.out]; omega
    have s2 := (s1.new (c := #[.int .i64 t]) (t := 3)).new (c := #[.int .i64 u]) (t := 3) |>.new (c := #[.int .i64 p]) (t := 3)
    simp only [World.size_alloc] at s2
    go_ret
    refine ⟨⟨_, _, rfl, ?_⟩, s2.below⟩
    obtain ⟨a1, a2, a3, a4, a5, -⟩ := s2.heaps
    exact it_taps (.inr ⟨HN.out, rfl⟩) (by rw [← e]; exact a1) a5 a3 a4 a2 (fun b hb => by have := s1.size; simp at hb ⊢; omega)
theorem equalIn_func_nil (w : World) (d g : Nat) (lb : Array Value) : (Op.equalIn (d + 1) 46 (.func (.func g) #[] lb) .nilFunc).run Try.prog w = .ok false w := by
  simp [Op.equalIn, run_underlying Try.underlying46]
theorem func_not_nil (g : Nat) (lb : Array Value) (w : World) : (binOp .eql 46 (.func (.func g) #[] lb) .nilFunc).run Try.prog w = .ok (.bool false) w := by
  simp only [binOp]
  simp [Op.equal, Op.maxDepth, equalIn_func_nil w 9999 g lb]
theorem spotsOf_no {h w c kh kw sh sw tp lf bt rt e : Int} (he : ouR h w c kh kw sh sw tp lf bt rt = (0, 0, e)) : spotsOf h w c kh kw sh sw tp lf bt rt = [] := by unfold spotsOf; rw [he]; rfl
theorem spotsOf_ok {h w c kh kw sh sw tp lf bt rt : Int} {r q : Nat} {e : Int} (he : ouR h w c kh kw sh sw tp lf bt rt = ((r : Int), (q : Int), e)) : spotsOf h w c kh kw sh sw tp lf bt rt = spotL q (r * q) := by
  unfold spotsOf
  rw [he]
  have : ((r : Int) * (q : Int)).toNat = r * q := by rw [← Int.natCast_mul]; rfl
  simp only [this]
set_option maxHeartbeats 4000000 in
theorem positions_any (h w c kh kw sh sw tp lf bt rt : Int) (W : World) :
    Calls Try.prog 19 #[.agg #[.int .i64 h, .int .i64 w, .int .i64 c], .agg #[.int .i64 kh, .int .i64 kw, .int .i64 sh, .int .i64 sw, .int .i64 tp, .int .i64 lf, .int .i64 bt, .int .i64 rt]] W fun e w' => (∃ g lb, e = .returned (.func (.func g) #[] lb) ∧ It W.heap.size w'.heap.size w' (.func (.func g) #[] lb) (spotsOf h w c kh kw sh sw tp lf bt rt)) ∧ Below W.heap.size W w' := by
  have hmf : ∀ (fn : Fn) (first cap : Array Value) (w : World), (Instr.makeFunc fn first cap).run Try.prog w = .ok (.func fn first cap) w := fun _ _ _ _ => rfl
  have hx : ∃ (r q : Nat) (e : Int), ouR h w c kh kw sh sw tp lf bt rt = ((r : Int), (q : Int), e) ∧ r ≤ 1200 ∧ q ≤ 1200 := by
    rcases ouR_cases h w c kh kw sh sw tp lf bt rt with ⟨e, he, h2⟩ | ⟨r, q, he, hf⟩
    · exact ⟨0, 0, e, he, by omega, by omega⟩
    · obtain ⟨-, -, r1, q1, -, -⟩ := hf
      exact ⟨r.toNat, q.toNat, 0, by rw [he]; congr 1; · omega
                                     · congr 1; omega, by omega, by omega⟩
  obtain ⟨r, q, e, he, hr, hq⟩ := hx
  rw [spotsOf_ok he]
  have HC : Hid (ouR h w c kh kw sh sw tp lf bt rt = ((r : Int), (q : Int), e)) := he
  clear he
  go_enter Try.func19, Try.ntmps19
  go_wp2_with fail
  refine (out_any _ _ _ _ _ _ _ _ _ _ _ _).mono ?_
  rintro e w1 ⟨rfl, hb'⟩
  have s1 := (St.start W).new.new.call hb'
  clear hb'
  try simp only [World.size_setCell] at s1
  try simp only [World.size_alloc] at s1
  obtain ⟨c1, f1, zw1_1, c2, f2, zw1_2, -⟩ := s1.rules
  rw [HC.out]
  go_wp2
  have s2 := (s1.new (c := #[.int .i64 r]) (t := 3)).new (c := #[.int .i64 q]) (t := 3)
  simp only [World.size_alloc] at s2
  go_ret
  refine ⟨⟨_, _, rfl, ?_⟩, s2.below⟩
  obtain ⟨a1, a2, -⟩ := s2.heaps
  exact it_spots hr hq a2 a1 (fun b hb => by have := s1.size; simp at hb ⊢; omega)
end Go.Proofs.Ytcgpeaamblanlaa
