/- A nil reader; stores into what the call owns; a reader whose bytes lie apart. -/
import Derived.Test.YtejdepnfilelbaaWirU
namespace Go.Proofs.Ytejdepnfilelbaa
open Go.ChangeShapes Go.WideShapes Go.ChangeAt Go.RowKit Go.BigFrame
theorem nil21 (w : World) : Calls Try.prog 21 #[.pointer none] w fun e w' => e = .returned (.int .u64 0) ∧ w' = w := by
  go_enter Try.func21, Try.ntmps21
  go_wp2
  go_ret
  exact ⟨rfl, rfl⟩
theorem nil18 (w : World) : Calls Try.prog 18 #[.pointer none] w fun e w' => e = .returned (.int .i64 0) ∧ w' = w := by
  go_enter Try.func18, Try.ntmps18
  go_wp2
  go_ret
  exact ⟨rfl, rfl⟩
theorem nil23 (w : World) : Calls Try.prog 23 #[.pointer none] w fun e w' => e = .returned (.int .i64 1) ∧ w' = w := by
  go_enter Try.func23, Try.ntmps23
  go_wp2
  go_ret
  exact ⟨rfl, rfl⟩
theorem nilN (m : Int) (w : World) : Calls Try.prog 24 #[.pointer none, .int .i64 m] w fun e w' => e = .returned (.int .i64 0) ∧ w' = w := by
  go_enter Try.func24, Try.ntmps24
  go_wp2
  go_ret
  exact ⟨rfl, rfl⟩
theorem nilS (w : World) : Calls Try.prog 22 #[.pointer none] w fun e w' => e = .returned (.int .i64 0) ∧ w' = w := by
  have A : bits .and .u64 0 1 = 0 := by decide
  go_enter Try.func22, Try.ntmps22
  go_wp2_with fail
  refine (nil21 _).mono ?_
  rintro e w1 ⟨rfl, rfl⟩
  go_wp2
  go_ret
  exact ⟨rfl, rfl⟩
theorem nilEnd (w : World) : Calls Try.prog 19 #[.pointer none] w fun e w' => e = .returned (.int .i64 1) ∧ w' = w := by
  go_enter Try.func19, Try.ntmps19
  go_wp2_with fail
  refine (nil23 _).mono ?_
  rintro e w1 ⟨rfl, rfl⟩
  go_wp2
  go_ret
  exact ⟨rfl, rfl⟩
theorem Row.take {w : World} {a : Option Addr} {len cap n : Nat} {zs : List Int} (h : Row w a len cap zs) (hn : n ≤ len) : Row w a n cap (zs.take n) := by
  obtain ⟨h1, h2, h3, h4, h5, h6⟩ := h
  refine ⟨by simp; omega, by omega, h3, h4.take n, h5, fun x hx i hi => ?_⟩
  rw [h6 x hx i (by omega)]
  simp [List.getD, hi]
theorem Own.set {w : World} {base g n cap k : Nat} {zs : List Int} {z : Int} (h : Own w base (.slice (some ⟨g, 0, none⟩) n cap) zs) (hz : 0 ≤ z ∧ z < 256) :
    Own (w.setCell ⟨g, k, none⟩ (.int .u8 z)) base (.slice (some ⟨g, 0, none⟩) n cap) (zs.set k z) ∧ w.grownBy (w.setCell ⟨g, k, none⟩ (.int .u8 z)) (some g) := by
  have hn : n = zs.length := by
    rcases h.1.2 with ⟨h', _⟩ | ⟨g', cap', cur, h', _⟩
    · cases h'
    · simp only [Value.slice.injEq] at h'; exact h'.2.1
  subst hn
  have := h.1.stored k (.int .u8 z)
  refine ⟨⟨?_, fun y hy => ?_⟩, this.2⟩
  · rw [List.length_set, List.map_set]; exact this.1
  · rcases List.mem_or_eq_of_mem_set hy with h' | h'
    · exact h.2 y h'
    · rw [h']; exact hz
theorem Own.facts {w : World} {base g n cap : Nat} {zs : List Int} (h : Own w base (.slice (some ⟨g, 0, none⟩) n cap) zs) :
    zs.length = n ∧ base ≤ g ∧ g < w.heap.size ∧ n ≤ cap ∧ cap ≤ 9223372036854775807 ∧ Row w (some ⟨g, 0, none⟩) n cap zs ∧ ∀ i, w.frozen? ⟨g, i, none⟩ = false := by
  have hrow := h.row
  rcases h.shape with ⟨h', _⟩ | ⟨g', cap', h', hg, hl, hn, hm, _, hc, hf⟩
  · cases h'
  · cases h'
    obtain ⟨a, c, e, r, _⟩ := hrow
    cases e
    unfold maxLen at hm
    exact ⟨rfl, hg, hl, hn, by omega, r, hf⟩
theorem xor8 (c : Int) (h : 0 ≤ c ∧ c < 256) : 0 ≤ bits .xor .u8 c 85 ∧ bits .xor .u8 c 85 < 256 := by
  rw [u8_xor c 85 h.1 h.2 (by omega) (by omega)]
  have : c.toNat ^^^ (85 : Int).toNat < 2 ^ 8 := Nat.xor_lt_two_pow (by omega) (by decide)
  omega
/-- A reader whose bytes lie from block 'b' on. -/
def RdA (w : World) (B b : Nat) (zs : List Int) : Prop := ∃ a len cap, w.heap[B]? = some (.cells #[.slice a len cap, .int .i64 0] 61 (0, 0)) ∧ Row w a len cap zs ∧ b ≤ B ∧ ∀ x, a = some x → b ≤ x.block
theorem RdA.rd {w : World} {B b : Nat} {zs : List Int} (h : RdA w B b zs) : Rd w B 61 zs 0 := by
  obtain ⟨a, len, cap, h1, h2, _⟩ := h
  exact ⟨a, len, cap, h1, h2⟩
theorem RdA.grown {w w' : World} {B b g : Nat} {zs : List Int} (h : RdA w B b zs) (k : w.grownBy w' (some g)) (hg : g < b) : RdA w' B b zs := by
  have hl := h.rd.lt
  obtain ⟨a, len, cap, h1, h2, h3, h4⟩ := h
  refine ⟨a, len, cap, (k.block B hl (fun e => by cases e; omega)).trans h1, h2.grown k (fun x c hx hc => ?_), h3, h4⟩
  cases hc
  have := h4 x hx
  omega
theorem RdA.below {w w' : World} {B b : Nat} {zs : List Int} (h : RdA w B b zs) (k : Below w.heap.size w w') : RdA w' B b zs := by
  have hl := h.rd.lt
  obtain ⟨a, len, cap, h1, h2, h3, h4⟩ := h
  exact ⟨a, len, cap, (k.block B hl).trans h1, h2.below k, h3, h4⟩
theorem newA_is (a : Option Addr) (la ca : Nat) (xs : List Int) (w : World) (ha : Row w a la ca xs) (hs : la ≤ 140737488355328) :
    Calls Try.prog 16 #[.slice a la ca] w fun e w' => ∃ B, e = .returned (.pointer (some ⟨B, 0, none⟩)) ∧ RdA w' B w.heap.size xs ∧ Below w.heap.size w w' := by
  go_enter Try.func16, Try.ntmps16
  go_wp2_with fail
  refine (clone_is _ _ _ _ _ ha hs).mono ?_
  rintro e w1 ⟨v, rfl, own, b⟩
  obtain ⟨a', c', rfl, row, hx⟩ := own.row
  go_wp2
  go_ret
  exact ⟨w1.heap.size, rfl, ⟨a', _, c', heap_alloc_new w1 _, row.below (bal _ _), b.size, fun x h => (hx x h).1⟩, b.alloc b.size _⟩
set_option maxHeartbeats 2000000 in
set_option maxRecDepth 1000000 in
theorem wireKeeps_walk (a0 : Option Addr) (len0 cap0 : Nat) (z0 : List Int) (a1 : Option Addr) (len1 cap1 : Nat) (z1 : List (Int × Int)) (w : World)
    (w0 : IRow .u8 w a0 len0 cap0 z0) (r0 : len0 * 1 ≤ 140737488351232) (w1 : PRow .i64 .i64 w a1 len1 cap1 z1) (_r1 : len1 * 16 ≤ 140737488351232) :
    Calls Try.prog 7 #[.slice a0 len0 cap0, .slice a1 len1 cap1] w fun e w' => e = .returned (.bool true) ∧ Below w.heap.size w w' := by
  have row0 := w0.row
  have hlen : Hid (z0.length = len0) := row0.1
  obtain ⟨hn2, hm2⟩ := w1.nn
  clear w0
  go_enter Try.func7, Try.ntmps7
  go_wp2_with fail
  refine (roomy_is _ _ _ _ _ row0 (by omega)).mono ?_
  rintro e wa ⟨g, cap, rfl, own, ba⟩
  obtain ⟨_, hg, hgl, hgc, hgm, rowW, _⟩ := own.facts
  have rowP := rowW.take (n := len0) (by omega)
  rw [← hlen.out, List.take_left, hlen.out] at rowP
  clear rowW
  go_wp2_with fail
  refine (newA_is _ _ _ _ _ rowP (by omega)).mono ?_
  rintro e wb ⟨R, rfl, rdR, bb⟩
  have own1 := own.below bb
  have b1 := bt ba bb
  clear own bb ba rowP
  go_wp2_with fail
  refine (fixed_is _).mono ?_
  rintro e wc ⟨rfl, bc⟩
  have own2 := own1.below bc
  have rdR2 := rdR.below bc
  have b2 := bt b1 bc
  clear own1 rdR bc b1
  go_wp2
  go_loopw [29] (fun i wr => ∃ (k : Nat) (zs : List Int), k ≤ len0 + 12 ∧ i = .int .i64 k ∧ Own wr w.heap.size (.slice (some ⟨g, 0, none⟩) (len0 + 12) cap) zs ∧ RdA wr R wa.heap.size z0 ∧ Below w.heap.size w wr) (fun i _ => len0 + 12 - (intOf i).toNat)
  case atStart => exact ⟨0, _, Nat.zero_le _, rfl, own2, rdR2, b2⟩
  case round =>
    obtain ⟨k, zs, hk, rfl, own3, rd3, b3⟩ := hrel
    clear own2 rdR2 b2
    obtain ⟨hzl, hg3, hgl3, _, _, row3, fr3⟩ := own3.facts
    clear hzl
    by_cases hlt : k < len0 + 12
    · obtain ⟨x, c, hxx, hcell, hc0, hc1, _⟩ := row_at row3 hlt
      cases hxx
      rw [Addr.add_lit, Nat.zero_add] at hcell
      have hx8 := xor8 c ⟨hc0, hc1⟩
      obtain ⟨own4, gr4⟩ := own3.set (k := k) hx8
      have rd4 := rd3.grown gr4 hgl
      have b4 : Below w.heap.size w (wr.setCell ⟨g, k, none⟩ (.int .u8 (bits .xor .u8 c 85))) := b3.setCell (p := ⟨g, k, none⟩) hg _
      have H4 : Hid (Own (wr.setCell ⟨g, k, none⟩ (.int .u8 (bits .xor .u8 c 85))) w.heap.size (.slice (some ⟨g, 0, none⟩) (len0 + 12) cap) (zs.set k (bits .xor .u8 c 85)) ∧ RdA (wr.setCell ⟨g, k, none⟩ (.int .u8 (bits .xor .u8 c 85))) R wa.heap.size z0 ∧ Below w.heap.size w (wr.setCell ⟨g, k, none⟩ (.int .u8 (bits .xor .u8 c 85)))) := ⟨own4, rd4, b4⟩
      clear own4 gr4 rd4 b4 hx8 own3 rd3 b3 row3
      go_wp2
      go_roundw
      case rel => exact ⟨k + 1, _, by omega, by go_num, H4.out.1, H4.out.2.1, H4.out.2.2⟩
      case measure => simp [intOf]; omega
    · go_wp2_with fail
      refine (joined_is _ _ _ _ _ _ _ [] _ row3 (row_nil _) (by omega)).mono ?_
      rintro e wd ⟨v, rfl, ownT, _, bd⟩
      rw [List.append_nil] at ownT
      obtain ⟨at5, ct5, rfl, rowT, _⟩ := ownT.row
      have rowW5 := row3.below bd
      have rd5 := rd3.rd.below bd
      have b5 := bt b3 bd
      have hRw : w.heap.size ≤ R := by obtain ⟨_, _, _, _, _, h, _⟩ := rd3; have := hgl; omega
      clear own3 rd3 b3 row3 fr3 bd ownT
      go_wp2_with fail
      refine (joined_is _ _ _ _ _ _ _ [] _ (row0.below b5) (row_nil _) (by omega)).mono ?_
      rintro e we ⟨v, rfl, ownD, _, be⟩
      rw [List.append_nil] at ownD
      obtain ⟨ad6, cd6, rfl, rowD, _⟩ := ownD.row
      have rdX := rd_new we rowD 0 39
      have bX := bal we (.cells #[.slice ad6 z0.length cd6, .int .i64 0] 39)
      have rowT6 := (rowT.below be).below bX
      have rowW6 := (rowW5.below be).below bX
      have rd6 := (rd5.below be).below bX
      have b6 := bt (bt b5 be) bX
      have hXw : w.heap.size ≤ we.heap.size := Nat.le_trans b5.size be.size
      clear ownD rowD rowT rowW5 rd5 b5 be bX
      go_wp2
      go_loopw [47] (fun i wr => ∃ (k : Nat) (ys : List Int) (f : Int), k ≤ len1 ∧ i = .int .i64 k ∧ Rd wr R 61 ys f ∧ Rd wr we.heap.size 39 ys f ∧ Row wr (some ⟨g, 0, none⟩) (len0 + 12) cap zs ∧ Row wr at5 zs.length ct5 zs ∧ Below w.heap.size w wr) (fun i _ => len1 - (intOf i).toNat)
      case atStart => exact ⟨0, _, _, Nat.zero_le _, rfl, rd6, rdX, rowW6, rowT6, b6⟩
      case round =>
        obtain ⟨k2, ys, f, hk2, rfl, hr, hx, hrw, hrt, hb⟩ := hrel
        clear rd6 rdX rowW6 rowT6 b6
        by_cases hlt2 : k2 < len1
        · obtain ⟨x, p, q, rfl, c0, c1, q1, q2⟩ := w1.at hb hlt2
          have bal1 := bal wr (.cells #[.int .i64 p, .int .i64 q] 41)
          have hr1 := hr.below bal1
          have hx1 := hx.below bal1
          have hrw1 := hrw.below bal1
          have hrt1 := hrt.below bal1
          have hb1 := hb.trans (bal1.mono hb.size)
          clear hr hx hrw hrt hb bal1
          go_wp2_with fail
          refine (play_is R we.heap.size ys f p q _ hr1 hx1 q1 q2).mono ?_
          rintro e w1 ⟨rfl, ⟨ys', f', hr2, hx2⟩, k1⟩
          have hrw2 := hrw1.kept k1 (by simpa using ⟨hr1.noB, hx1.noB⟩)
          have hrt2 := hrt1.kept k1 (by simpa using ⟨hr1.noB, hx1.noB⟩)
          have hb2 := k1.below hb1 hb1.size (by simpa using ⟨hRw, hXw⟩)
          clear hr1 hx1 hrw1 hrt1 hb1 k1 c0 c1
          go_wp2
          go_roundw
          case rel => exact ⟨k2 + 1, _, _, by omega, by go_num, hr2, hx2, hrw2, hrt2, hb2⟩
          case measure => simp [intOf]; omega
        · clear hr hx
          have hS := same_is _ _ _ _ _ _ _ _ _ hrw hrt
          rw [decide_eq_true rfl] at hS
          go_wp2_with fail
          refine hS.mono ?_
          rintro e w7 ⟨rfl, n7, rfl⟩
          have b7 := hb.trans ((dbel wr n7).mono hb.size)
          clear hS hrw hrt hb
          go_wp2_with fail
          refine (nil21 _).mono ?_
          rintro e w8 ⟨rfl, rfl⟩
          go_wp2_with fail
          refine (nilS _).mono ?_
          rintro e w8 ⟨rfl, rfl⟩
          go_wp2_with fail
          refine (nilN _ _).mono ?_
          rintro e w8 ⟨rfl, rfl⟩
          go_wp2_with fail
          refine (nil18 _).mono ?_
          rintro e w8 ⟨rfl, rfl⟩
          go_wp2_with fail
          refine (nil23 _).mono ?_
          rintro e w8 ⟨rfl, rfl⟩
          go_wp2_with fail
          refine (nilEnd _).mono ?_
          rintro e w8 ⟨rfl, rfl⟩
          go_wp2
          go_ret
          exact ⟨rfl, b7⟩
end Go.Proofs.Ytejdepnfilelbaa
