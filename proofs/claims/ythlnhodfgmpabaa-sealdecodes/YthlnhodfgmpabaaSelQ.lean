/- The walk of SealDecodes. -/
import Derived.Test.YthlnhodfgmpabaaSelA
import Derived.Test.YthlnhodfgmpabaaSdG
namespace Go.Proofs.Ythlnhodfgmpabaa.Sl
open Wr
open Go.ChangeShapes Go.WideShapes Go.ChangeAt Go.RowKit
set_option linter.unusedVariables false
theorem dec_ok {zs : List Int} {w w' : World} {r : Ending} {R : List (Int × Int)} {P : List (List Pl)} {rn pn : Nat} (hd : Dec zs w w' r) (h : pAll zs = .inr (R, P)) (hr : R.length = rn) (hp : P.length = pn) :
    ∃ (ra : Option Addr) (rc : Nat) (pa : Option Addr) (pc : Nat), r = .returned (.tuple #[.agg #[.slice ra rn rc, .slice pa pn pc], .agg #[.int .i64 0, .int .i64 0, .int .i64 0]]) ∧ ERow 2 scs w' ra rn rc R ∧ QRow w' pa pn pc P := by
  rcases hd with ⟨x, t, h1, -⟩ | ⟨ra, rn', rc, R', pa, pn', pc, P', h1, h2, h3, h4, oR, oP⟩
  · rw [h] at h1; cases h1
  · rw [h] at h1
    simp only [Sum.inr.injEq, Prod.mk.injEq] at h1
    obtain ⟨rfl, rfl⟩ := h1
    rw [hr] at h2
    rw [hp] at h3
    subst h2 h3
    exact ⟨ra, rc, pa, pc, h4, owns_erow scs_len oR hr, oP.q⟩
theorem qrow_nil (w : World) : QRow w none 0 0 [] := ⟨rfl, Nat.le_refl _, by unfold maxLen; omega, fun _ => rfl, fun x h => by cases h⟩
set_option maxHeartbeats 8000000 in
set_option maxRecDepth 100000 in
theorem sealDecodes_w (a : Option Addr) (len cap : Nat) (zs : List Int) (W : World) (hr : Wr.Row W a len cap zs) (hl : len ≤ 140737488351232) :
    Calls Try.prog 4 #[.slice a len cap] W fun e w' => e = .returned (.bool true) ∧ Below W.heap.size W w' := by
  have HR : Hid (Wr.Row W a len cap zs) := hr
  have hlz : Hid (zs.length = len) := HR.out.1
  clear hr
  have b0 : Hid (Below W.heap.size W (W.alloc (.cells #[] 5))) := bal _ _
  have own0 : Hid (Wr.Own (W.alloc (.cells #[] 5)) W.heap.size (.slice (some ⟨W.heap.size, 0, none⟩) 0 0) []) := Wr.own_lit W W.heap.size [] Byt.nil (by simp) (Nat.le_refl _)
  go_enter Try.func4, Try.ntmps4
  go_wp2_with (at_builtin; refine Wr.wpList_app rfl (.tmp 8) (.tmp 9) rfl W.heap.size (.slice (some ⟨W.heap.size, 0, none⟩) 0 0) [] zs rfl own0.out _ _ _ rfl (HR.out.below b0.out) (by have := hlz.out; simp; omega) (by simp) ?_; intro v1 w1 own1 gr1 nn1)
  have b1 : Below W.heap.size W w1 := own0.out.bel b0.out gr1 b0.out.size
  rw [List.nil_append] at own1
  obtain ⟨d, n, cc, rfl, R1, -⟩ := Own.rw own1 (nn1 (by simp))
  have S1 : Hid (St W w1 _) := (St.start W).call b1
  have D1 : Hid (Wr.Row w1 (some d) n cc zs) := R1
  have A1 : Hid (Wr.Row w1 a len cap zs) := HR.out.below b1
  have hdn : Hid (n = zs.length) := R1.1.symm
  clear own1 gr1 nn1 b1 R1 b0 own0 HR
  go_wp2_with fail
  refine (decode_any a len cap zs _ A1.out (by omega)).mono ?_
  rintro e w2 ⟨hd, b2⟩
  have D2 : Hid (Wr.Row w2 (some d) n cc zs) := D1.out.below b2
  have A2 : Hid (Wr.Row w2 a len cap zs) := A1.out.below b2
  have S2 : Hid (St W w2 _) := S1.out.call b2
  have hd' : Hid (Dec zs w1 w2 e) := hd
  clear hd b2 D1 A1 S1
  rcases hpz : pAll zs with ⟨x, t⟩ | ⟨R, P⟩
  · have hPZ : Hid (pAll zs = .inl (x, t)) := hpz
    obtain rfl := dec_bad hd'.out hpz
    clear hpz hd'
    have s3 := (S2.out.new (c := #[.slice none 0 0, .slice none 0 0]) (t := 25)).new (c := #[.int .i64 x, .int .i64 (t / 4096), .int .i64 (t % 4096)]) (t := 30)
    simp only [World.size_alloc] at s3
    have S3 : Hid (St W _ _) := s3
    have B3 := bt (bal w2 (.cells #[.slice none 0 0, .slice none 0 0] 25)) (bal _ (.cells #[.int .i64 x, .int .i64 (t / 4096), .int .i64 (t % 4096)] 30))
    have D3 : Hid (Wr.Row _ (some d) n cc zs) := D2.out.below B3
    have A3 : Hid (Wr.Row _ a len cap zs) := A2.out.below B3
    clear s3 B3 D2 A2 S2
    go_wp2_with fail
    refine (ddecode_any (some d) n cc zs _ D3.out (by have := hdn.out; have := hlz.out; omega)).mono ?_
    rintro e w4 ⟨hd, b4⟩
    obtain rfl := dec_bad hd hPZ.out
    have s5 := ((S3.out.call b4).new (c := #[.slice none 0 0, .slice none 0 0]) (t := 25)).new (c := #[.int .i64 x, .int .i64 (t / 4096), .int .i64 (t % 4096)]) (t := 30)
    simp only [World.size_alloc] at s5
    have S5 : Hid (St W _ _) := s5
    have B5 := bt b4 (bt (bal w4 (.cells #[.slice none 0 0, .slice none 0 0] 25)) (bal _ (.cells #[.int .i64 x, .int .i64 (t / 4096), .int .i64 (t % 4096)] 30)))
    have D5 : Hid (Wr.Row _ (some d) n cc zs) := D3.out.below B5
    have A5 : Hid (Wr.Row _ a len cap zs) := A3.out.below B5
    clear hd b4 s5 B5 D3 A3 S3
    have eq0 := eqF x (t / 4096) (t % 4096) x (t / 4096) (t % 4096) true (by simp)
    go_wp2_with fail
    refine (fixed16_any _).mono ?_
    rintro e w6 ⟨rfl, b6⟩
    have s6 := S5.out.call b6
    have S6 : Hid (St W w6 _) := s6
    have D6 : Hid (Wr.Row w6 (some d) n cc zs) := D5.out.below b6
    have A6 : Hid (Wr.Row w6 a len cap zs) := A5.out.below b6
    obtain ⟨c1, f1, z1, c2, f2, z2, c3, f3, z3, c4, f4, z4, -⟩ := s6.rules
    clear b6 s6 S5 D5 A5
    go_wp2_with fail
    refine (rsame_any none 0 0 [] none 0 0 [] none 0 0 [] none 0 0 [] _ (erow_nil _ _ _) (qrow_nil _) (erow_nil _ _ _) (qrow_nil _)).mono ?_
    rintro e w7 ⟨rfl, b7⟩
    rw [ceB_t]
    have S7 : Hid (St W w7 _) := S6.out.call b7
    have D7 : Hid (Wr.Row w7 (some d) n cc zs) := D6.out.below b7
    have A7 : Hid (Wr.Row w7 a len cap zs) := A6.out.below b7
    clear b7 c1 f1 z1 c2 f2 z2 c3 f3 z3 c4 f4 z4 S6 D6 A6
    go_wp2_with fail
    refine (sameb_any a (some d) len cap n cc zs zs _ A7.out D7.out).mono ?_
    rintro e w8 ⟨rfl, b8⟩
    rw [decide_eq_true rfl]
    have hb : Hid (Below W.heap.size W w8) := (S7.out.call b8).below
    clear b8
    go_wp2
    go_ret
    exact ⟨rfl, hb.out⟩
  · have hPZ : Hid (pAll zs = .inr (R, P)) := hpz
    obtain ⟨rn, hrn⟩ : ∃ rn, R.length = rn := ⟨_, rfl⟩
    obtain ⟨pn, hpn⟩ : ∃ pn, P.length = pn := ⟨_, rfl⟩
    have HRN : Hid (R.length = rn ∧ P.length = pn) := ⟨hrn, hpn⟩
    obtain ⟨ra, rc, pa, pc, rfl, eR, qP⟩ := dec_ok hd'.out hpz hrn hpn
    clear hpz hd' hrn hpn
    have s3 := (S2.out.new (c := #[.slice ra rn rc, .slice pa pn pc]) (t := 25)).new (c := #[.int .i64 0, .int .i64 0, .int .i64 0]) (t := 30)
    simp only [World.size_alloc] at s3
    have S3 : Hid (St W _ _) := s3
    have B3 := bt (bal w2 (.cells #[.slice ra rn rc, .slice pa pn pc] 25)) (bal _ (.cells #[.int .i64 0, .int .i64 0, .int .i64 0] 30))
    have D3 : Hid (Wr.Row _ (some d) n cc zs) := D2.out.below B3
    have A3 : Hid (Wr.Row _ a len cap zs) := A2.out.below B3
    have E3 : Hid (ERow 2 scs _ ra rn rc R) := eR.below B3
    have Q3 : Hid (QRow _ pa pn pc P) := qP.below B3
    clear s3 B3 D2 A2 S2 eR qP
    go_wp2_with fail
    refine (ddecode_any (some d) n cc zs _ D3.out (by have := hdn.out; have := hlz.out; omega)).mono ?_
    rintro e w4 ⟨hd, b4⟩
    obtain ⟨sa, sc, qa, qc, rfl, eS, qS⟩ := dec_ok hd hPZ.out HRN.out.1 HRN.out.2
    have s5 := ((S3.out.call b4).new (c := #[.slice sa rn sc, .slice qa pn qc]) (t := 25)).new (c := #[.int .i64 0, .int .i64 0, .int .i64 0]) (t := 30)
    simp only [World.size_alloc] at s5
    have S5 : Hid (St W _ _) := s5
    have B4 := bt (bal w4 (.cells #[.slice sa rn sc, .slice qa pn qc] 25)) (bal _ (.cells #[.int .i64 0, .int .i64 0, .int .i64 0] 30))
    have B5 := bt b4 B4
    have D5 : Hid (Wr.Row _ (some d) n cc zs) := D3.out.below B5
    have A5 : Hid (Wr.Row _ a len cap zs) := A3.out.below B5
    have E5 : Hid (ERow 2 scs _ ra rn rc R) := E3.out.below B5
    have Q5 : Hid (QRow _ pa pn pc P) := Q3.out.below B5
    have G5 : Hid (ERow 2 scs _ sa rn sc R) := eS.below B4
    have H5 : Hid (QRow _ qa pn qc P) := qS.below B4
    clear hd b4 s5 B4 B5 D3 A3 S3 E3 Q3 eS qS
    have eq0 := eqF 0 0 0 0 0 0 true (by simp)
    go_wp2_with fail
    refine (fixed16_any _).mono ?_
    rintro e w6 ⟨rfl, b6⟩
    have s6 := S5.out.call b6
    have S6 : Hid (St W w6 _) := s6
    have D6 : Hid (Wr.Row w6 (some d) n cc zs) := D5.out.below b6
    have A6 : Hid (Wr.Row w6 a len cap zs) := A5.out.below b6
    have E6 : Hid (ERow 2 scs w6 ra rn rc R) := E5.out.below b6
    have Q6 : Hid (QRow w6 pa pn pc P) := Q5.out.below b6
    have G6 : Hid (ERow 2 scs w6 sa rn sc R) := G5.out.below b6
    have H6 : Hid (QRow w6 qa pn qc P) := H5.out.below b6
    obtain ⟨c1, f1, z1, c2, f2, z2, c3, f3, z3, c4, f4, z4, -⟩ := s6.rules
    clear b6 s6 S5 D5 A5 E5 Q5 G5 H5
    go_wp2_with fail
    refine (rsame_any ra rn rc R pa pn pc P sa rn sc R qa pn qc P _ E6.out Q6.out G6.out H6.out).mono ?_
    rintro e w7 ⟨rfl, b7⟩
    rw [ceB_t]
    have S7 : Hid (St W w7 _) := S6.out.call b7
    have D7 : Hid (Wr.Row w7 (some d) n cc zs) := D6.out.below b7
    have A7 : Hid (Wr.Row w7 a len cap zs) := A6.out.below b7
    clear b7 c1 f1 z1 c2 f2 z2 c3 f3 z3 c4 f4 z4 S6 D6 A6 E6 Q6 G6 H6
    go_wp2_with fail
    refine (sameb_any a (some d) len cap n cc zs zs _ A7.out D7.out).mono ?_
    rintro e w8 ⟨rfl, b8⟩
    rw [decide_eq_true rfl]
    have hb : Hid (Below W.heap.size W w8) := (S7.out.call b8).below
    clear b8
    go_wp2
    go_ret
    exact ⟨rfl, hb.out⟩
end Go.Proofs.Ythlnhodfgmpabaa.Sl
namespace Go.Proofs.Ythlnhodfgmpabaa
open Go.ChangeShapes Go.WideShapes Go.ChangeAt Go.RowKit
set_option linter.unusedVariables false
theorem sealDecodes_walk (a : Option Addr) (len cap : Nat) (zs : List Int) (W : World) (h3 : IRow .u8 W a len cap zs) (r3 : len * 1 ≤ 140737488351232) :
    Calls Try.prog 4 #[.slice a len cap] W fun e w' => e = .returned (.bool true) ∧ Below W.heap.size W w' := Sl.sealDecodes_w a len cap zs W (Sl.irow_row h3) (by omega)
end Go.Proofs.Ythlnhodfgmpabaa
