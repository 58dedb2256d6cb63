/- fixed of law08. -/
import Derived.Test.YtfgbolekenlheaaMdlK
namespace Go.Proofs.Ytfgbolekenlheaa
open Go.ChangeShapes Go.WideShapes Go.ChangeAt Go.RowKit
set_option linter.unusedVariables false
theorem pl_row {w : World} {g p q : Nat} {aa : Int} (h : w.heap[g]? = some (.cells #[.int .i64 1, .int .i64 aa, .int .i64 0, .int .i64 1, .int .i64 0, .int .i64 0, .int .i64 0, .int .i64 0, .int .i64 0, .int .i64 0, .int .i64 0, .int .i64 0, .slice (some ⟨p, 0, none⟩) 2 2, .slice (some ⟨q, 0, none⟩) 1 1, .int .i64 1, .int .i64 0, .int .i64 0, .int .i64 0, .int .i64 0, .int .i64 0, .int .i64 (-128), .int .i64 127] 54 (0, 0))) : MRow w (some ⟨g, 0, none⟩) 1 1 (plO aa) := by
  refine ⟨Nat.le_refl _, by unfold maxLen; omega, fun h => (by cases h), fun x hx i hi => ⟨some ⟨p, 0, none⟩, 2, 2, some ⟨q, 0, none⟩, 1, 1, rfl, rfl, fun j v hj => ?_⟩⟩
  cases hx
  obtain rfl : i = 0 := by omega
  rw [Addr.add_lit, (cells_at h).1, Nat.zero_mul, Nat.zero_add, Nat.zero_add]
  rw [← hj]
  simp [opl, plO]
theorem St.up4 {w0 w : World} {a b c d e : Nat × Array Value × TypeId} {l : List (Nat × Array Value × TypeId)} (h : St w0 w (a :: b :: c :: d :: e :: l)) : St w0 w (e :: a :: b :: c :: d :: l) :=
  h.sub fun z hz => by simp only [List.mem_cons] at *; rcases hz with h | h | h | h | h | h <;> simp [h]
theorem St.add {w0 w : World} {B : Nat} {c : Array Value} {t : TypeId} {l : List (Nat × Array Value × TypeId)} (h : St w0 w l) (hb : w.heap[B]? = some (.cells c t (0, 0))) (hB : w0.heap.size ≤ B) : St w0 w ((B, c, t) :: l) :=
  ⟨h.1, fun x hx => by
    rcases List.mem_cons.1 hx with rfl | hx
    · exact ⟨hb, hB⟩
    · exact h.2 x hx⟩
set_option maxHeartbeats 2000000 in
theorem fixed_any (W : World) : Calls Try.prog 11 #[] W fun e w' => e = .returned (.bool true) ∧ Below W.heap.size W w' := by
  go_enter Try.func11, Try.ntmps11
  go_wp2_with fail
  refine (plain_any _).mono ?_
  rintro e w1 ⟨g, p, q, rfl, ⟨aa, haa, hg⟩, hgW, b1⟩
  subst haa
  have s1 : St W w1 [(g, _, 54)] := ⟨b1, fun x hx => by simp only [List.mem_singleton] at hx; subst hx; exact ⟨hg, hgW⟩⟩
  clear b1 hg
  obtain ⟨-, -, x1, -⟩ := s1.rules
  have s2 := s1.new (c := #[.int .i64 1, .int .i64 1, .int .i64 2, .int .i64 (-128), .int .i64 127, .slice (some ⟨g, 0, none⟩) 1 1, .int .i64 1]) (t := 26)
  have hW : Hid (∀ w, MRow w (some ⟨g, 0, none⟩) 1 1 (plO 0) → _) := fun w h => work_any 1 1 2 (-128) 127 1 (some ⟨g, 0, none⟩) 1 1 (plO 0) w h
  have hSh : Hid (∀ w, MRow w (some ⟨g, 0, none⟩) 1 1 (plO 0) → _) := fun w h => shapes_any 1 1 2 (-128) 127 1 (some ⟨g, 0, none⟩) 1 1 (plO 0) w h
  simp only [pl_0] at hW hSh
  go_wp2_with fail
  refine Calls.mono (hW.out _ (pl_row s2.h2)) ?_
  rintro e w2 ⟨rfl, hb⟩
  have s3 := s2.call hb
  obtain ⟨c1, f1, z1, -⟩ := s3.rules
  have x2 := s2.size
  clear hb hW
  have s4 := s3.new (c := #[.int .i64 0, .int .i64 0, .int .i64 0]) (t := 31)
  go_wp2_with fail
  refine Calls.mono (hSh.out _ (pl_row s4.h3)) ?_
  rintro e w3 ⟨v, rfl, hS, hb⟩
  have s5 := s4.call hb
  rcases hS with ⟨-, hS⟩ | ⟨g2, cap, cur, rfl, hg2, hcur, hCu, hcap⟩
  · cases hS
  have hg3 : w2.heap.size + 1 ≤ g2 := by simpa using hg2
  have s6 := s5.add hcur (by have := s2.size; have := s3.size; simp at *; omega)
  obtain ⟨a0, a1, a2⟩ := hCu.at (i := 0) (by decide)
  obtain ⟨a3, a4, a5⟩ := hCu.at (i := 1) (by decide)
  simp at a0 a1 a2 a3 a4 a5
  clear hb hSh c1 f1 hg2 hcur
  have hle : 2 ≤ cap := hCu.2.1
  have s7 := s6.new (c := #[.int .i64 0, .int .i64 0, .int .i64 0]) (t := 31)
  obtain ⟨c1, f1, y1, c2, f2, y2, c3, f3, y3, -⟩ := s6.rules
  go_upto_region 4 with fail
  clear c1 f1 c2 f2 c3 f3
  obtain ⟨q1, y1, q2, y2, q3, y3, q4, y4, q5, y5, -⟩ := rulesQ_st s7
  have hne := Nonempty.intro (Wd.mk _ s7)
  refine region_held s7 (by kernel_rfl) (by kernel_rfl) ?_
  repeat (go_big_quiet_step (fail))
  refine wpQuiet_nil ?_
  intro _ hw'
  obtain ⟨nq, rfl⟩ := hw'
  obtain ⟨w4, hw4⟩ : ∃ w4, nq.w = w4 := ⟨_, rfl⟩
  have s8 : St W w4 _ := hw4 ▸ nq.h
  rw [hw4]
  clear q1 y1 q2 y2 q3 y3 q4 y4 q5 y5 hne hw4 s7 s6 s5 s4 s3 s2 s1
  clear nq
  have hlg : ∀ x ∈ (w3.heap.size, #[Value.int .i64 0, .int .i64 0, .int .i64 0], 31) :: (g2, cur, 23) :: (w2.heap.size, #[.int .i64 0, .int .i64 0, .int .i64 0], 31) :: (w1.heap.size, #[.int .i64 1, .int .i64 1, .int .i64 2, .int .i64 (-128), .int .i64 127, .slice (some ⟨g, 0, none⟩) 1 1, .int .i64 1], 26) :: [], x.1 ≠ g := by
    intro x hx
    simp only [List.mem_cons, List.not_mem_nil, or_false] at hx
    rcases hx with rfl | rfl | rfl | rfl <;> simp only <;> omega
  have s9 := s8.up4.set hlg (i := 1) (v := .int .i64 1)
  have hCk : Hid (∀ w, MRow w (some ⟨g, 0, none⟩) 1 1 (plO 1) → _) := fun w h => check_any 1 1 2 (-128) 127 1 (some ⟨g, 0, none⟩) 1 1 (plO 1) w h
  simp only [pl_1] at hCk
  obtain ⟨c1, f1, y1, c2, f2, y2, c3, f3, y3, c4, f4, y4, c5, f5, y5, -⟩ := s8.rules
  go_wp2_with fail
  refine Calls.mono (hCk.out _ (pl_row (p := p) (q := q) s9.h1)) ?_
  rintro e w5 ⟨rfl, hb⟩
  have s10 := s9.call hb
  go_wp2_with fail
  refine (red_any _ _).mono ?_
  rintro e w' ⟨rfl, rfl⟩
  go_wp2_with fail
  refine (red_any _ _).mono ?_
  rintro e w' ⟨rfl, rfl⟩
  go_wp2
  go_ret
  exact ⟨rfl, s10.below⟩
end Go.Proofs.Ytfgbolekenlheaa
