/- same and fixed of law16, sameBytes and certBytes of the whole. -/
import Derived.Test.YthlnhodfgmpabaaSelD
import Derived.Test.YthlnhodfgmpabaaCrtT
import Derived.BigQuiet
namespace Go.Proofs.Ythlnhodfgmpabaa.Sl
open Wr
open Go.ChangeShapes Go.WideShapes Go.ChangeAt Go.RowKit
set_option linter.unusedVariables false
set_option maxHeartbeats 1000000 in
theorem sameb_any (a b : Option Addr) (la ca lb cb : Nat) (xs ys : List Int) (w : World) (ha : Wr.Row w a la ca xs) (hb : Wr.Row w b lb cb ys) :
    Calls Try.prog 13 #[.slice a la ca, .slice b lb cb] w fun e w' => e = .returned (.bool (decide (xs = ys))) ∧ Below w.heap.size w w' := by
  have ha' := ha.2.2.1
  have hb' := hb.2.2.1
  unfold maxLen at ha' hb'
  have hxl : Hid (xs.length = la) := ha.1
  have hyl : Hid (ys.length = lb) := hb.1
  have hac := ha.2.1
  have hbc := hb.2.1
  by_cases hlen : la = lb
  · subst hlen
    go_enter Try.func13, Try.ntmps13
    go_wp2
    go_loopw [13] (fun i wr => ∃ k n : Nat, k ≤ la ∧ i = .int .i64 k ∧ xs.take k = ys.take k ∧ wr = w.drewN n) (fun i _ => la - (intOf i).toNat)
    case atStart => exact ⟨0, 0, Nat.zero_le _, rfl, rfl, rfl⟩
    case round =>
      obtain ⟨k, n, hk, rfl, he, rfl⟩ := hrel
      have he' : Hid (xs.take k = ys.take k) := he
      clear he
      by_cases hlt : k < la
      · obtain ⟨p, c, rfl, hc, hc0, hc1, hcd⟩ := row_at ha hlt
        obtain ⟨q, d, rfl, hd, hd0, hd1, hdd⟩ := row_at hb hlt
        have hcd' : Hid (xs.drop k = c :: xs.drop (k + 1)) := hcd
        have hdd' : Hid (ys.drop k = d :: ys.drop (k + 1)) := hdd
        clear hcd hdd ha hb
        by_cases hcd : c = d
        · subst hcd
          go_wp2
          go_quiet (fail)
          go_wp2
          go_roundw
          case rel => exact ⟨k + 1, _, by omega, by go_num, (same_step hcd'.out hdd'.out he'.out).1 rfl, rfl⟩
          case measure => simp [intOf]; omega
        · have hD : Hid (decide (xs = ys) = false) := (same_step hcd'.out hdd'.out he'.out).2 hcd
          go_wp2
          go_quiet (fail)
          go_wp2
          go_ret
          exact ⟨ret_bool hD.out.symm, by rw [World.drewN_drewN]; exact dbel _ _⟩
      · clear ha hb
        have hD : Hid (decide (xs = ys) = true) := same_end hxl.out hyl.out (by omega) he'.out
        go_wp2
        go_ret
        exact ⟨ret_bool hD.out.symm, dbel _ _⟩
  · have hne : xs ≠ ys := fun e => hlen (by rw [← hxl.out, ← hyl.out, e])
    have hD : Hid (decide (xs = ys) = false) := by simp [Hid, hne]
    clear ha hb hne
    go_enter Try.func13, Try.ntmps13
    go_wp2
    go_ret
    exact ⟨ret_bool hD.out.symm, Below.refl _ _⟩
set_option maxHeartbeats 1000000 in
theorem samet_any (a b : Option Addr) (la ca lb cb : Nat) (xs ys : List Int) (w : World) (ha : Wr.Row w a la ca xs) (hb : Wr.Row w b lb cb ys) :
    Calls Try.prog 19 #[.slice a la ca, .slice b lb cb] w fun e w' => e = .returned (.bool (decide (xs = ys))) ∧ Below w.heap.size w w' := by
  have ha' := ha.2.2.1
  have hb' := hb.2.2.1
  unfold maxLen at ha' hb'
  have hxl : Hid (xs.length = la) := ha.1
  have hyl : Hid (ys.length = lb) := hb.1
  have hac := ha.2.1
  have hbc := hb.2.1
  by_cases hlen : la = lb
  · subst hlen
    go_enter Try.func19, Try.ntmps19
    go_wp2
    go_loopw [13] (fun i wr => ∃ k n : Nat, k ≤ la ∧ i = .int .i64 k ∧ xs.take k = ys.take k ∧ wr = w.drewN n) (fun i _ => la - (intOf i).toNat)
    case atStart => exact ⟨0, 0, Nat.zero_le _, rfl, rfl, rfl⟩
    case round =>
      obtain ⟨k, n, hk, rfl, he, rfl⟩ := hrel
      have he' : Hid (xs.take k = ys.take k) := he
      clear he
      by_cases hlt : k < la
      · obtain ⟨p, c, rfl, hc, hc0, hc1, hcd⟩ := row_at ha hlt
        obtain ⟨q, d, rfl, hd, hd0, hd1, hdd⟩ := row_at hb hlt
        have hcd' : Hid (xs.drop k = c :: xs.drop (k + 1)) := hcd
        have hdd' : Hid (ys.drop k = d :: ys.drop (k + 1)) := hdd
        clear hcd hdd ha hb
        by_cases hcd : c = d
        · subst hcd
          go_wp2
          go_quiet (fail)
          go_wp2
          go_roundw
          case rel => exact ⟨k + 1, _, by omega, by go_num, (same_step hcd'.out hdd'.out he'.out).1 rfl, rfl⟩
          case measure => simp [intOf]; omega
        · have hD : Hid (decide (xs = ys) = false) := (same_step hcd'.out hdd'.out he'.out).2 hcd
          go_wp2
          go_quiet (fail)
          go_wp2
          go_ret
          exact ⟨ret_bool hD.out.symm, by rw [World.drewN_drewN]; exact dbel _ _⟩
      · clear ha hb
        have hD : Hid (decide (xs = ys) = true) := same_end hxl.out hyl.out (by omega) he'.out
        go_wp2
        go_ret
        exact ⟨ret_bool hD.out.symm, dbel _ _⟩
  · have hne : xs ≠ ys := fun e => hlen (by rw [← hxl.out, ← hyl.out, e])
    have hD : Hid (decide (xs = ys) = false) := by simp [Hid, hne]
    clear ha hb hne
    go_enter Try.func19, Try.ntmps19
    go_wp2
    go_ret
    exact ⟨ret_bool hD.out.symm, Below.refl _ _⟩
/-! ### The document's example -/
def bytes17 : List Int := [83, 87, 67, 49, 2, 0, 20, 37, 62, 1, 1, 16, 2, 39, 60, 37, 62]
def exR : List (Int × Int) := [(0, 10), (-19, 31)]
def exP : List (List Pl) := [[(16, 2, -20, 30, -19, 31)]]
theorem ex_bytes : eAll (exR, exP) = bytes17 := by
  have p1 : putR 1 = [1] := putR_lt (by omega)
  have p2 : putR 2 = [2] := putR_lt (by omega)
  have p0 : putR 0 = [0] := putR_lt (by omega)
  have p20 : putR 20 = [20] := putR_lt (by omega)
  have p37 : putR 37 = [37] := putR_lt (by omega)
  have p62 : putR 62 = [62] := putR_lt (by omega)
  have p16 : putR 16 = [16] := putR_lt (by omega)
  have p39 : putR 39 = [39] := putR_lt (by omega)
  have p60 : putR 60 = [60] := putR_lt (by omega)
  have u16 : u64 16 = 16 := u64_of (by omega) (by omega)
  have u2 : u64 2 = 2 := u64_of (by omega) (by omega)
  have f1 : foldR 0 = 0 := by decide
  have f2 : foldR 10 = 20 := by decide
  have f3 : foldR (-19) = 37 := by decide
  have f4 : foldR 31 = 62 := by decide
  have f5 : foldR (-20) = 39 := by decide
  have f6 : foldR 30 = 60 := by decide
  simp only [eAll, eCe, exR, exP, eLi, ePl, eSp, List.flatMap_cons, List.flatMap_nil, List.length_cons, List.length_nil, Nat.zero_add, Nat.reduceAdd, p0, p1, p2, p20, p37, p62, p16, p39, p60, u16, u2, f1, f2, f3, f4, f5, f6, List.append_nil, List.cons_append, List.nil_append, head4]
  rfl
theorem ex_f : CeF (exR, exP) := by
  refine ⟨⟨by simp [exR], fun s hs => ?_⟩, by simp [exP], fun l hl => ?_⟩
  · simp only [exR, List.mem_cons, List.not_mem_nil, or_false] at hs
    rcases hs with rfl | rfl <;> (unfold S64; simp only; omega)
  · simp only [exP, List.mem_cons, List.not_mem_nil, or_false] at hl
    subst hl
    refine ⟨by simp, fun p hp => ?_⟩
    simp only [List.mem_cons, List.not_mem_nil, or_false] at hp
    subst hp
    unfold PlF P64 S64
    simp only
    omega
theorem b17_byt : Byt bytes17 := by
  intro z hz
  simp only [bytes17, List.mem_cons, List.not_mem_nil, or_false] at hz
  omega
theorem row_blk {w : World} {b : Nat} {T : TypeId} (zs : List Int) (h : w.heap[b]? = some (.cells (zs.map (Value.int .u8)).toArray T (0, 0))) (hw : Byt zs) (hm : zs.length ≤ 1000) : Wr.Row w (some ⟨b, 0, none⟩) zs.length zs.length zs := by
  refine ⟨rfl, Nat.le_refl _, by unfold maxLen; omega, hw, fun h => (by cases h), fun x hx i hi => ?_⟩
  cases hx
  rw [Addr.add_lit, Nat.zero_add, (cells_at h).1]
  simp [List.getD, hi]
theorem qrow_ex {w : World} {b d : Nat} {T U : TypeId} (h : w.heap[b]? = some (.cells #[.slice (some ⟨d, 0, none⟩) 1 1] T (0, 0))) (hd : w.heap[d]? = some (.cells #[.int .i64 16, .int .i64 2, .int .i64 (-20), .int .i64 30, .int .i64 (-19), .int .i64 31] U (0, 0))) : QRow w (some ⟨b, 0, none⟩) 1 1 exP := by
  refine ⟨rfl, Nat.le_refl _, by unfold maxLen; omega, fun h => (by cases h), fun x hx i l hl => ?_⟩
  cases hx
  match i, hl with
  | 0, hl =>
    simp only [exP, List.getElem?_cons_zero, Option.some.injEq] at hl
    subst hl
    refine ⟨some ⟨d, 0, none⟩, 1, ?_, ⟨rfl, Nat.le_refl _, by unfold maxLen; omega, fun h => (by cases h), fun x hx i p hp j v hv => ?_⟩, by simp⟩
    · rw [Addr.add_lit, (cells_at h).1]; rfl
    · cases hx
      match i, hp with
      | 0, hp =>
        simp only [List.getElem?_cons_zero, Option.some.injEq] at hp
        subst hp
        rw [Addr.add_lit, Addr.add_lit, (cells_at hd).1]
        simpa [pcs] using hv
      | i + 1, hp => simp at hp
  | i + 1, hl => simp [exP] at hl
theorem Own.rw {w : World} {base : Nat} {v : Value} {zs : List Int} (h : Wr.Own w base v zs) (hv : v ≠ .slice none 0 0) : ∃ d n c, v = .slice (some d) n c ∧ Wr.Row w (some d) n c zs ∧ n = zs.length := by
  obtain ⟨d, c, e, r⟩ := own_get h hv
  exact ⟨d, _, c, e, r, rfl⟩
set_option maxHeartbeats 4000000 in
set_option maxRecDepth 100000 in
theorem fixed16_any (W : World) : Calls Try.prog 12 #[] W fun e w' => e = .returned (.bool true) ∧ Below W.heap.size W w' := by
  have eq0 := eqF 0 0 0 0 0 0 true (by simp)
  have s1 := (((St.start W).new (c := #[.int .i64 0, .int .i64 10, .int .i64 (-19), .int .i64 31]) (t := 44)).new (c := #[.int .i64 16, .int .i64 2, .int .i64 (-20), .int .i64 30, .int .i64 (-19), .int .i64 31]) (t := 47)).new (c := #[.slice (some ⟨W.heap.size + 1, 0, none⟩) 1 1]) (t := 45)
  simp only [World.size_alloc] at s1
  have s2 := (s1.new (c := #[.slice (some ⟨W.heap.size, 0, none⟩) 2 2, .slice (some ⟨W.heap.size + 1 + 1, 0, none⟩) 1 1]) (t := 25)).new (c := #[.int .u8 83, .int .u8 87, .int .u8 67, .int .u8 49, .int .u8 2, .int .u8 0, .int .u8 20, .int .u8 37, .int .u8 62, .int .u8 1, .int .u8 1, .int .u8 16, .int .u8 2, .int .u8 39, .int .u8 60, .int .u8 37, .int .u8 62]) (t := 5)
  simp only [World.size_alloc] at s2
  have S2 : Hid (St W _ _) := s2
  have R2 : Hid (ERow 2 scs _ (some ⟨W.heap.size, 0, none⟩) 2 2 exR) := erow_two s2.tail.h4
  have P2 : Hid (QRow _ (some ⟨W.heap.size + 1 + 1, 0, none⟩) 1 1 exP) := qrow_ex s2.h3 s2.h4
  have V2 : Hid (Wr.Row _ (some ⟨W.heap.size + 1 + 1 + 1 + 1, 0, none⟩) 17 17 bytes17) := row_blk bytes17 s2.h1 b17_byt (by simp [bytes17])
  clear s1 s2
  go_enter Try.func12, Try.ntmps12
  go_wp2_with fail
  refine (encode_ok _ 2 2 exR _ 1 1 exP _ R2.out P2.out ex_f).mono ?_
  rintro e w3 ⟨v, rfl, own, nn, b3⟩
  rw [ex_bytes] at own
  obtain ⟨d, n, c, rfl, R3, hn⟩ := Own.rw own nn
  have hn17 : n = 17 := hn
  clear hn
  subst hn17
  have s4 := (S2.out.call b3).new (c := #[.int .i64 0, .int .i64 0, .int .i64 0]) (t := 30)
  have B4 := bt b3 (bal w3 (.cells #[.int .i64 0, .int .i64 0, .int .i64 0] 30))
  have R4 : Hid (ERow 2 scs _ (some ⟨W.heap.size, 0, none⟩) 2 2 exR) := R2.out.below B4
  have P4 : Hid (QRow _ (some ⟨W.heap.size + 1 + 1, 0, none⟩) 1 1 exP) := P2.out.below B4
  have V4 : Hid (Wr.Row _ (some ⟨W.heap.size + 1 + 1 + 1 + 1, 0, none⟩) 17 17 bytes17) := V2.out.below B4
  have X4 : Hid (Wr.Row _ (some d) 17 c bytes17) := R3.below (bal w3 (.cells #[.int .i64 0, .int .i64 0, .int .i64 0] 30))
  have S4 : Hid (St W _ _) := s4
  clear own nn b3 R3 s4 B4 R2 P2 V2 S2
  go_wp2_with fail
  refine (decode_any _ 17 17 bytes17 _ V4.out (by omega)).mono ?_
  rintro e w5 ⟨hd, b5⟩
  obtain ⟨ra, rc, pa, pc, rfl, oR, oP⟩ := dec_back hd ex_f ex_bytes.symm
  have eR : exR.length = 2 := rfl
  have eP : exP.length = 1 := rfl
  rw [eR] at oR ⊢
  rw [eP] at oP ⊢
  have s6 := ((S4.out.call b5).new (c := #[.slice ra 2 rc, .slice pa 1 pc]) (t := 25)).new (c := #[.int .i64 0, .int .i64 0, .int .i64 0]) (t := 30)
  simp only [World.size_alloc] at s6
  have B5 := bt (bal w5 (.cells #[.slice ra 2 rc, .slice pa 1 pc] 25)) (bal _ (.cells #[.int .i64 0, .int .i64 0, .int .i64 0] 30))
  have B6 := bt b5 B5
  have R6 : Hid (ERow 2 scs _ (some ⟨W.heap.size, 0, none⟩) 2 2 exR) := R4.out.below B6
  have P6 : Hid (QRow _ (some ⟨W.heap.size + 1 + 1, 0, none⟩) 1 1 exP) := P4.out.below B6
  have V6 : Hid (Wr.Row _ (some ⟨W.heap.size + 1 + 1 + 1 + 1, 0, none⟩) 17 17 bytes17) := V4.out.below B6
  have X6 : Hid (Wr.Row _ (some d) 17 c bytes17) := X4.out.below B6
  have RD : Hid (ERow 2 scs _ ra 2 rc exR) := (owns_erow scs_len oR rfl).below B5
  have PD : Hid (QRow _ pa 1 pc exP) := oP.q.below B5
  have S6 : Hid (St W _ _) := s6
  clear hd b5 oR oP B5 B6 s6 R4 P4 V4 X4 S4 eR eP
  go_wp2_with fail
  refine (sameb_any _ _ 17 c 17 17 bytes17 bytes17 _ X6.out V6.out).mono ?_
  rintro e w7 ⟨rfl, b7⟩
  rw [show decide (bytes17 = bytes17) = true from decide_eq_true rfl]
  have s7 := S6.out.call b7
  have R7 : Hid (ERow 2 scs w7 (some ⟨W.heap.size, 0, none⟩) 2 2 exR) := R6.out.below b7
  have P7 : Hid (QRow w7 (some ⟨W.heap.size + 1 + 1, 0, none⟩) 1 1 exP) := P6.out.below b7
  have D7 : Hid (ERow 2 scs w7 ra 2 rc exR) := RD.out.below b7
  have E7 : Hid (QRow w7 pa 1 pc exP) := PD.out.below b7
  have S7 : Hid (St W w7 _) := s7
  obtain ⟨c1, f1, z1, c2, f2, z2, c3, f3, z3, -, -, -, c5, f5, z5, -⟩ := s7.rules
  clear b7 s7 R6 P6 V6 X6 RD PD S6
  go_wp2_with fail
  refine (rsame_any ra 2 rc exR pa 1 pc exP _ 2 2 exR _ 1 1 exP _ D7.out E7.out R7.out P7.out).mono ?_
  rintro e w8 ⟨rfl, b8⟩
  rw [ceB_t]
  have s8 := S7.out.call b8
  have hb : Hid (Below W.heap.size W w8) := s8.below
  clear c1 f1 z1 c2 f2 z2 c3 f3 z3 c5 f5 z5
  obtain ⟨c1, f1, z1, c2, f2, z2, c3, f3, z3, -⟩ := s8.rules
  clear b8 s8
  go_wp2
  go_ret
  exact ⟨rfl, hb.out⟩
set_option maxHeartbeats 4000000 in
set_option maxRecDepth 100000 in
theorem cbytes_any (W : World) : Calls Try.prog 18 #[] W fun e w' => ∃ g p b : Nat, e = .returned (.tuple #[.agg #[.slice (some ⟨g, 0, none⟩) 2 2, .slice (some ⟨p, 0, none⟩) 1 1], .slice (some ⟨b, 0, none⟩) 17 17]) ∧ ERow 2 scs w' (some ⟨g, 0, none⟩) 2 2 exR ∧ QRow w' (some ⟨p, 0, none⟩) 1 1 exP ∧ Wr.Row w' (some ⟨b, 0, none⟩) 17 17 bytes17 ∧ Below W.heap.size W w' := by
  have s1 := ((((St.start W).new (c := #[.slice (some ⟨W.heap.size + 1, 0, none⟩) 2 2, .slice (some ⟨W.heap.size + 1 + 1 + 1, 0, none⟩) 1 1]) (t := 25)).new (c := #[.int .i64 0, .int .i64 10, .int .i64 (-19), .int .i64 31]) (t := 44)).new (c := #[.int .i64 16, .int .i64 2, .int .i64 (-20), .int .i64 30, .int .i64 (-19), .int .i64 31]) (t := 47)).new (c := #[.slice (some ⟨W.heap.size + 1 + 1, 0, none⟩) 1 1]) (t := 45)
  simp only [World.size_alloc] at s1
  have s2 := (s1.new (c := #[.slice (some ⟨W.heap.size + 1, 0, none⟩) 2 2, .slice (some ⟨W.heap.size + 1 + 1 + 1, 0, none⟩) 1 1]) (t := 25)).new (c := #[.int .u8 83, .int .u8 87, .int .u8 67, .int .u8 49, .int .u8 2, .int .u8 0, .int .u8 20, .int .u8 37, .int .u8 62, .int .u8 1, .int .u8 1, .int .u8 16, .int .u8 2, .int .u8 39, .int .u8 60, .int .u8 37, .int .u8 62]) (t := 5)
  simp only [World.size_alloc] at s2
  have S2 : Hid (St W _ _) := s2
  clear s1 s2
  go_enter Try.func18, Try.ntmps18
  go_wp2
  exact bodyPost_ret (v := .tuple #[.agg #[.slice (some ⟨W.heap.size + 1, 0, none⟩) 2 2, .slice (some ⟨W.heap.size + 1 + 1 + 1, 0, none⟩) 1 1], .slice (some ⟨W.heap.size + 1 + 1 + 1 + 1 + 1, 0, none⟩) 17 17]) (by simp [results, Try.results18, go_sem]) rfl ⟨W.heap.size + 1, W.heap.size + 1 + 1 + 1, W.heap.size + 1 + 1 + 1 + 1 + 1, rfl, erow_two S2.out.tail.h4, qrow_ex S2.out.h3 S2.out.h4, row_blk bytes17 S2.out.h1 b17_byt (by simp [bytes17]), S2.out.below⟩
end Go.Proofs.Ythlnhodfgmpabaa.Sl
