/- The document's bytes of a model: numbers behind bytes; Check. The walk of WholeModels. -/
import Derived.Test.YthagdpiocmcbmabGr18
import Derived.Test.YthagdpiocmcbmabGr24
/- The document's bytes of a model: numbers behind bytes; Check. -/
namespace Go.Proofs.Ythagdpiocmcbmab
open Wr
open Go.ChangeShapes Go.WideShapes Go.ChangeAt Go.RowKit
set_option linter.unusedVariables false
set_option maxHeartbeats 2000000 in
theorem rcheck_any (h w c lo hi ot : Int) (oa : Option Addr) (on oc : Nat) (O : Nat → Nat → Int) (Z B : Nat → List Int) (W : World) (hL : LRow W oa on oc O Z B) (hon : on ≤ 1000000000000) :
    Calls Try.prog 6 #[.agg #[.int .i64 h, .int .i64 w, .int .i64 c, .int .i64 lo, .int .i64 hi, .slice oa on oc, .int .i64 ot]] W fun e w' => e = .returned (.agg #[.int .i64 (gtR O h w c lo hi ot on).1, .int .i64 (gtR O h w c lo hi ot on).2.1, .int .i64 0]) ∧ Below W.heap.size W w' := by
  have hG : Hid (∀ W, LRow W oa on oc O Z B → _) := fun W hW => look_any h w c lo hi ot oa on oc O Z B W hW hon
  obtain ⟨Re, Ra, RL, Rw, hR⟩ : ∃ Re Ra RL Rw, gtR O h w c lo hi ot on = (Re, Ra, RL, Rw) := ⟨_, _, _, _, rfl⟩
  rw [hR] at hG ⊢
  simp only
  have hM2 : Hid (LRow W oa on oc O Z B) := hL
  clear hR hL
  go_enter Try.func6, Try.ntmps6
  go_wp2_with fail
  refine Calls.mono (hG.out _ (hM2.out.below (St.start W).new.new.below)) ?_
  rintro e w1 ⟨v, rfl, hS, hb⟩
  obtain ⟨va, vc, rfl⟩ := hS.slice
  have s1 := ((St.start W).new.new).call hb
  simp only [World.size_alloc] at s1
  obtain ⟨c1, f1, z1, c2, f2, z2, -⟩ := s1.rules
  have hs1 : Hid (Below W.heap.size W w1) := s1.below
  clear hb hS s1
  go_wp2
  exact bodyPost_ret (v := .agg #[.int .i64 Re, .int .i64 Ra, .int .i64 0]) (by simp [results, Try.results6, go_sem, *]) rfl ⟨rfl, bt (set3b hs1.out (by omega)) (bal _ _)⟩
/-- 'append' of bytes to a writer's. -/
theorem wpList_appW {w : World} {ops : Array Oper} {rest : List Oper} {o : Oper} {a : Act} {Q : Exit → Act → World → Prop} (hgd : o.guard = none) (s x : Operand)
    (ho : o.op = .call { callee := .builtin .append, args := #[s, x], argTypes := #[27, 27] })
    (base : Nat) (v : Value) (xs ys : List Int) (hs : a.eval s = v) (hown : Wo w base v xs) (ad : Addr) (m c : Nat) (hx : a.eval x = .slice (some ad) m c) (hy : Wr.Row w (some ad) m c ys) (hm0 : 0 < ys.length)
    (hlen : xs.length + ys.length ≤ 140737488355328) (hbase : base ≤ w.heap.size)
    (hK : ∀ v' w', Wr.Own w' base v' (xs ++ ys) → v' ≠ .slice none 0 0 → Wk0 base w w' → wpList Try.prog ops Q rest (a.put o.dst v') w') : wpList Try.prog ops Q (o :: rest) a w := by
  refine wpList_plain hgd fun K hK' => ?_
  have := step_appW (ops := ops) (o := o) (a := a) (w := w) (K := K) (Q := Q) (E := False) hgd s x ho base v xs ys hs hown ad m c hx hy hm0 hlen hbase (fun v' w' h1 h2 h3 => hK' _ _ (hK v' w' h1 h2 h3))
  rwa [if_pos (by simp [Region.wanted, hgd])] at this
theorem Wk0.refl (base : Nat) (w : World) : Wk0 base w w := ⟨Below.refl _ _, fun _ _ _ _ h => h⟩
theorem Wk0.trans {base : Nat} {a b c : World} (h : Wk0 base a b) (k : Wk0 base b c) : Wk0 base a c := ⟨h.1.trans k.1, fun i cs T h1 h2 => k.2 i cs T h1 (h.2 i cs T h1 h2)⟩
theorem Wk0.of {base : Nat} {w w' : World} (h : Below w.heap.size w w') (hb : base ≤ w.heap.size) : Wk0 base w w' := ⟨h.mono hb, fun k c T _ hk => (h.block k (lt_of_heap hk)).trans hk⟩
theorem Wk0.size {base : Nat} {w w' : World} (h : Wk0 base w w') : w.heap.size ≤ w'.heap.size := h.1.size
theorem own_pos {w : World} {base : Nat} {v : Value} {zs : List Int} (h : Wr.Own w base v zs) (hp : 0 < zs.length) : v ≠ .slice none 0 0 := by
  rcases h.shape with ⟨-, h0⟩ | ⟨g, cap, e, -⟩
  · rw [h0] at hp; simp at hp
  · rw [e]; simp
end Go.Proofs.Ythagdpiocmcbmab

/- The walk of WholeModels. -/
namespace Go.Proofs.Ythagdpiocmcbmab
open Wr
open Go.ChangeShapes Go.WideShapes Go.ChangeAt Go.RowKit
set_option linter.unusedVariables false
set_option maxHeartbeats 2000000 in
set_option maxRecDepth 100000 in
theorem plainm_any (W : World) :
    Calls Try.prog 10 #[] W fun e w' => ∃ g : Nat, e = .returned (.agg #[.int .i64 1, .int .i64 1, .int .i64 2, .int .i64 (-128), .int .i64 127, .slice (some ⟨g, 0, none⟩) 1 1, .int .i64 1]) ∧ LRow w' (some ⟨g, 0, none⟩) 1 1 (plO 0) plZ plB ∧ Below W.heap.size W w' := by
  go_enter Try.func10, Try.ntmps10
  go_wp2
  have s1 := (((St.start W).new (c := #[.int .i64 1, .int .i64 1, .int .i64 2, .int .i64 (-128), .int .i64 127, .slice (some ⟨W.heap.size + 1 + 1 + 1, 0, none⟩) 1 1, .int .i64 1]) (t := 26)).new (c := #[.int .i16 3, .int .i16 (-2)]) (t := 58)).new (c := #[.int .i32 1]) (t := 21)
  simp only [World.size_alloc] at s1
  have s2 := s1.new (c := #[.int .i64 1, .int .i64 0, .int .i64 0, .int .i64 1, .int .i64 0, .int .i64 0, .int .i64 0, .int .i64 0, .int .i64 0, .int .i64 0, .int .i64 0, .int .i64 0, .slice (some ⟨W.heap.size + 1, 0, none⟩) 2 2, .slice (some ⟨W.heap.size + 1 + 1, 0, none⟩) 1 1, .int .i64 1, .int .i64 0, .int .i64 0, .int .i64 0, .int .i64 0, .int .i64 0, .int .i64 (-128), .int .i64 127]) (t := 57)
  simp only [World.size_alloc] at s2
  exact bodyPost_ret (v := .agg #[.int .i64 1, .int .i64 1, .int .i64 2, .int .i64 (-128), .int .i64 127, .slice (some ⟨W.heap.size + 1 + 1 + 1, 0, none⟩) 1 1, .int .i64 1]) (by simp [results, Try.results10, go_sem]) rfl ⟨W.heap.size + 1 + 1 + 1, rfl, pl_lrow (p := W.heap.size + 1) (q := W.heap.size + 1 + 1) s2.h1 s2.h3 s2.h2, s2.below⟩
set_option maxHeartbeats 2000000 in
set_option maxRecDepth 100000 in
theorem mbytes_any (W : World) :
    Calls Try.prog 11 #[] W fun e w' => ∃ b : Nat, e = .returned (.slice (some ⟨b, 0, none⟩) 40 40) ∧ Wr.Row w' (some ⟨b, 0, none⟩) 40 40 bytes40 ∧ Below W.heap.size W w' := by
  go_enter Try.func11, Try.ntmps11
  go_wp2
  go_ret
  have s2 := (St.start W).new (c := #[.int .u8 83, .int .u8 87, .int .u8 77, .int .u8 49, .int .u8 1, .int .u8 1, .int .u8 2, .int .u8 255, .int .u8 1, .int .u8 254, .int .u8 1, .int .u8 1, .int .u8 1, .int .u8 0, .int .u8 0, .int .u8 1, .int .u8 0, .int .u8 0, .int .u8 0, .int .u8 0, .int .u8 0, .int .u8 0, .int .u8 0, .int .u8 0, .int .u8 2, .int .u8 6, .int .u8 3, .int .u8 1, .int .u8 2, .int .u8 1, .int .u8 0, .int .u8 0, .int .u8 0, .int .u8 0, .int .u8 0, .int .u8 255, .int .u8 1, .int .u8 254, .int .u8 1, .int .u8 1]) (t := 5)
  exact ⟨W.heap.size, rfl, row_blk bytes40 s2.h1 b40_byt (by simp [bytes40]), s2.below⟩
set_option maxHeartbeats 4000000 in
set_option maxRecDepth 100000 in
theorem packs_any (W : World) : Calls Try.prog 4 #[] W fun e w' => e = .returned (.bool true) ∧ Below W.heap.size W w' := by
  have eq0 := eqF 0 0 0 0 0 0 true (by simp)
  go_enter Try.func4, Try.ntmps4
  go_wp2_with fail
  refine (plainm_any _).mono ?_
  rintro e w1 ⟨g, rfl, hL, b1⟩
  have B1 : Hid (Below W.heap.size W w1) := b1
  have L1 : Hid (LRow w1 (some ⟨g, 0, none⟩) 1 1 (plO 0) plZ plB) := hL
  clear hL b1
  go_wp2_with fail
  refine (encode_ok 1 1 2 (-128) 127 1 (some ⟨g, 0, none⟩) 1 1 (plO 0) plZ plB _ L1.out 0 _ _ pl_0).mono ?_
  rintro e w2 ⟨v, rfl, own, nn, b2⟩
  rw [show dMod 1 1 2 (-128) 127 1 1 (plO 0) plZ plB = plM from rfl, pl_bytes] at own
  obtain ⟨d, n, c, rfl, R2, hn⟩ := Own.rw own nn
  have hn40 : n = 40 := hn
  clear hn
  subst hn40
  have s3 := (((St.start W).call B1.out).call b2).new (c := #[.int .i64 0, .int .i64 0, .int .i64 0]) (t := 31)
  have V3 : Hid (Wr.Row _ (some d) 40 c bytes40) := R2.below (bal w2 (.cells #[.int .i64 0, .int .i64 0, .int .i64 0] 31))
  have S3 : Hid (St W _ _) := s3
  clear own nn b2 R2 s3 B1 L1
  go_wp2_with fail
  refine (mbytes_any _).mono ?_
  rintro e w4 ⟨b, rfl, R4, b4⟩
  have s4 := S3.out.call b4
  have V4 : Hid (Wr.Row w4 (some d) 40 c bytes40) := V3.out.below b4
  have S4 : Hid (St W w4 _) := s4
  have RR4 : Hid (Wr.Row w4 (some ⟨b, 0, none⟩) 40 40 bytes40) := R4
  clear b4 R4 s4 S3 V3
  go_wp2_with fail
  refine (decode_any (some ⟨b, 0, none⟩) 40 40 bytes40 _ RR4.out (by omega)).mono ?_
  rintro e w5 ⟨hd, b5⟩
  obtain ⟨oa, oc, rfl, LD, -⟩ := dec_back hd pl_lens pl_0 pl_bytes.symm
  have s6 := ((S4.out.call b5).new (c := #[.int .i64 1, .int .i64 1, .int .i64 2, .int .i64 (-128), .int .i64 127, .slice oa 1 oc, .int .i64 1]) (t := 26)).new (c := #[.int .i64 0, .int .i64 0, .int .i64 0]) (t := 31)
  simp only [World.size_alloc] at s6
  have B6 := bt (bal w5 (.cells #[.int .i64 1, .int .i64 1, .int .i64 2, .int .i64 (-128), .int .i64 127, .slice oa 1 oc, .int .i64 1] 26)) (bal _ (.cells #[.int .i64 0, .int .i64 0, .int .i64 0] 31))
  obtain ⟨w6, hw6⟩ : ∃ w6, w6 = (w5.alloc (.cells #[.int .i64 1, .int .i64 1, .int .i64 2, .int .i64 (-128), .int .i64 127, .slice oa 1 oc, .int .i64 1] 26)).alloc (.cells #[.int .i64 0, .int .i64 0, .int .i64 0] 31) := ⟨_, rfl⟩
  rw [← hw6] at s6 B6
  have D6 : Hid (LRow w6 oa 1 oc (plO 0) plZ plB) := LD.below B6
  have V6 : Hid (Wr.Row w6 (some d) 40 c bytes40) := (V4.out.below b5).below B6
  have S6 : Hid (St W w6 _) := s6
  obtain ⟨c1, f1, z1, c2, f2, z2, c3, f3, z3, -⟩ := s6.rules
  have hS : Hid (∀ w', Below w6.heap.size w6 w' → (∀ i, w'.cell? ⟨w2.heap.size, i, none⟩ = (#[.int .i64 0, .int .i64 0, .int .i64 0] : Array Value)[i]?) ∧ (∀ i, w'.cell? ⟨w5.heap.size, i, none⟩ = (#[.int .i64 1, .int .i64 1, .int .i64 2, .int .i64 (-128), .int .i64 127, .slice oa 1 oc, .int .i64 1] : Array Value)[i]?) ∧ ∀ i, w'.cell? ⟨w5.heap.size + 1, i, none⟩ = (#[.int .i64 0, .int .i64 0, .int .i64 0] : Array Value)[i]?) := fun w' hb' => by
    have s := s6.call hb'
    exact ⟨(cells_at s.h3).1, (cells_at s.h2).1, (cells_at s.h1).1⟩
  clear hd b5 LD B6 s6 S4 V4 RR4
  go_upto_region 3 with fail
  rw [← hw6]
  clear hw6
  have hD : Below w6.heap.size w6 w6.drew := (Below.refl _ _).drew
  go_region_held3 (fun w' => (∀ i, w'.cell? ⟨w2.heap.size, i, none⟩ = (#[.int .i64 0, .int .i64 0, .int .i64 0] : Array Value)[i]?) ∧ (∀ i, w'.cell? ⟨w5.heap.size, i, none⟩ = (#[.int .i64 1, .int .i64 1, .int .i64 2, .int .i64 (-128), .int .i64 127, .slice oa 1 oc, .int .i64 1] : Array Value)[i]?) ∧ ∀ i, w'.cell? ⟨w5.heap.size + 1, i, none⟩ = (#[.int .i64 0, .int .i64 0, .int .i64 0] : Array Value)[i]?) (with_reducible exact hS.out _ hD) (first
    | (go_at_call 11; refine (mbytes_any _).mono ?_; rintro e wa ⟨bb, rfl, Rb, ba⟩; replace hD := bt hD ba; clear ba)
    | (go_at_call 9; refine (sameb_any (some d) (some ⟨bb, 0, none⟩) 40 c 40 40 bytes40 bytes40 _ (V6.out.below hD) Rb).mono ?_; rintro e wb ⟨rfl, b7⟩; rw [decide_eq_true rfl]; replace hD := bt hD b7; clear b7)
    | (go_at_call 10; refine (plainm_any _).mono ?_; rintro e wd ⟨g7, rfl, L7, b8⟩; replace hD := bt hD b8; clear b8)
    | (go_at_call 8; refine (samem_any 1 1 2 (-128) 127 1 oa (some ⟨g7, 0, none⟩) 1 oc 1 (plO 0) plZ plB _ (D6.out.below hD) L7).mono ?_; rintro e we ⟨rfl, b9⟩; replace hD := bt hD b9; clear b9))
  have hb : Hid (Below W.heap.size W we) := (S6.out.call hD).below
  clear hD c1 f1 z1 c2 f2 z2 c3 f3 z3 Rb L7
  go_wp2
  go_ret
  exact ⟨rfl, hb.out⟩
set_option maxHeartbeats 8000000 in
set_option maxRecDepth 100000 in
theorem wholeModels_walk (h w c lo hi : Int) (oa : Option Addr) (on oc : Nat) (ot : Int) (a : Option Addr) (len cap : Nat) (zs : List Int) (W : World) (_ : (Lit.int .i64 h).wf = true) (_ : (Lit.int .i64 w).wf = true) (_ : (Lit.int .i64 c).wf = true) (_ : (Lit.int .i64 lo).wf = true) (_ : (Lit.int .i64 hi).wf = true)
    (wo : ORow 22 (OpIn W) W oa on oc) (hr : on * 208 ≤ 140737488351232) (_ : (Lit.int .i64 ot).wf = true) (hi0 : IRow .u8 W a len cap zs) (hr2 : len * 1 ≤ 140737488351232) :
    Calls Try.prog 3 #[.agg #[.int .i64 h, .int .i64 w, .int .i64 c, .int .i64 lo, .int .i64 hi, .slice oa on oc, .int .i64 ot], .slice a len cap] W fun e w' => e = .returned (.bool true) ∧ Below W.heap.size W w' := by
  rename_i x1 x2 x3 x4 x5 x6
  clear x1 x2 x3 x4 x5 x6
  obtain ⟨O, Z, B, hL⟩ := lrow_of wo
  clear wo
  have hR0 := irow_row hi0
  have hbz : Hid (Byt zs) := hR0.2.2.2.1
  obtain ⟨x, t, L, wk, hG⟩ : ∃ x t L wk, gtR O h w c lo hi ot on = (x, t, L, wk) := ⟨_, _, _, _, rfl⟩
  have s0 := (St.start W).new (c := #[.int .i64 h, .int .i64 w, .int .i64 c, .int .i64 lo, .int .i64 hi, .slice oa on oc, .int .i64 ot]) (t := 26)
  have L0 : Hid (LRow _ oa on oc O Z B) := hL.below s0.below
  have R0 : Hid (Wr.Row _ a len cap zs) := hR0.below s0.below
  have S0 : Hid (St W _ _) := s0
  have hG' : Hid (gtR O h w c lo hi ot on = (x, t, L, wk)) := hG
  have nex := neF x t 0 x t 0 true (by simp)
  clear hi0 hR0 hG s0
  go_enter Try.func3, Try.ntmps3
  go_wp2_with fail
  refine (packs_any _).mono ?_
  rintro e w1 ⟨rfl, b1⟩
  have s1 := S0.out.call b1
  have L1 : Hid (LRow w1 oa on oc O Z B) := L0.out.below b1
  have R1 : Hid (Wr.Row w1 a len cap zs) := R0.out.below b1
  have S1 : Hid (St W w1 _) := s1
  obtain ⟨c1, f1, z1, -⟩ := s1.rules
  clear b1 s1 L0 R0 S0
  by_cases hx : x = 0
  · subst hx
    obtain ⟨-, rfl, -⟩ := gtR_st hG'.out
    have hln : Hid (Lens on O Z B) := lens_of hL
    have hfit := mod_fits hG'.out (lens_of hL)
    have hle : Hid ((eAll (dMod h w c lo hi ot on O Z B)).length ≤ 100000000) := eAll_le hfit.2.1 hfit.2.2
    clear hL hfit
    go_wp2_with fail
    refine (encode_ok h w c lo hi ot oa on oc O Z B _ L1.out 0 L wk hG'.out).mono ?_
    rintro e w2 ⟨v, rfl, own, nn, b2⟩
    obtain ⟨d, n, cc, rfl, V2, hn⟩ := Own.rw own nn
    have hn' : Hid (n = (eAll (dMod h w c lo hi ot on O Z B)).length) := hn
    have s3 := (S1.out.call b2).new (c := #[.int .i64 0, .int .i64 0, .int .i64 0]) (t := 31)
    have B3 := bt b2 (bal w2 (.cells #[.int .i64 0, .int .i64 0, .int .i64 0] 31))
    obtain ⟨w3, hw3⟩ : ∃ w3, w3 = w2.alloc (.cells #[.int .i64 0, .int .i64 0, .int .i64 0] 31) := ⟨_, rfl⟩
    have V3 : Hid (Wr.Row w3 (some d) n cc (eAll (dMod h w c lo hi ot on O Z B))) := by rw [hw3]; exact V2.below (bal w2 (.cells #[.int .i64 0, .int .i64 0, .int .i64 0] 31))
    rw [← hw3] at s3 B3
    have L3 : Hid (LRow w3 oa on oc O Z B) := L1.out.below B3
    have R3 : Hid (Wr.Row w3 a len cap zs) := R1.out.below B3
    have S3 : Hid (St W w3 _) := s3
    have hS : Hid (∀ w', Below w3.heap.size w3 w' → (∀ i, w'.cell? ⟨w2.heap.size, i, none⟩ = (#[.int .i64 0, .int .i64 0, .int .i64 0] : Array Value)[i]?) ∧ ∀ i, w'.cell? ⟨W.heap.size, i, none⟩ = (#[.int .i64 h, .int .i64 w, .int .i64 c, .int .i64 lo, .int .i64 hi, .slice oa on oc, .int .i64 ot] : Array Value)[i]?) := fun w' hb' => by
      have s := s3.call hb'
      exact ⟨(cells_at s.h1).1, (cells_at s.h2).1⟩
    have HCK : Hid (∀ w', LRow w' oa on oc O Z B → _) := fun w' hw => rcheck_any h w c lo hi ot oa on oc O Z B w' hw (by omega)
    rw [hG'.out] at HCK
    simp only at HCK
    clear c1 f1 z1
    obtain ⟨c1, f1, z1, c2, f2, z2, -⟩ := s3.rules
    clear own nn V2 hn b2 s3 B3 L1 R1 S1
    go_upto_region 4 with fail
    rw [← hw3]
    clear hw3
    have hD : Below w3.heap.size w3 w3.drew := (Below.refl _ _).drew
    go_region_held3 (fun w' => (∀ i, w'.cell? ⟨w2.heap.size, i, none⟩ = (#[.int .i64 0, .int .i64 0, .int .i64 0] : Array Value)[i]?) ∧ ∀ i, w'.cell? ⟨W.heap.size, i, none⟩ = (#[.int .i64 h, .int .i64 w, .int .i64 c, .int .i64 lo, .int .i64 hi, .slice oa on oc, .int .i64 ot] : Array Value)[i]?) (with_reducible exact hS.out _ hD)
      ((go_at_call 6; refine Calls.mono (HCK.out _ (L3.out.below hD)) ?_; rintro e w4 ⟨rfl, b4⟩; replace hD := bt hD b4; clear b4))
    have L4 : Hid (LRow w4 oa on oc O Z B) := L3.out.below hD
    have R4 : Hid (Wr.Row w4 a len cap zs) := R3.out.below hD
    have V4 : Hid (Wr.Row w4 (some d) n cc _) := V3.out.below hD
    have s4 := S3.out.call hD
    have S4 : Hid (St W w4 _) := s4
    clear c1 f1 z1 c2 f2 z2 hD hS HCK L3 R3 V3 S3
    obtain ⟨c1, f1, z1, c2, f2, z2, -⟩ := s4.rules
    clear s4
    go_wp2_with fail
    refine (decode_any (some d) n cc _ _ V4.out (by have := hn'.out; have := hle.out; omega)).mono ?_
    rintro e w5 ⟨hd, b5⟩
    obtain ⟨oa1, oc1, rfl, LD, -⟩ := dec_back hd hln.out hG'.out rfl
    have s6 := ((S4.out.call b5).new (c := #[.int .i64 h, .int .i64 w, .int .i64 c, .int .i64 lo, .int .i64 hi, .slice oa1 on oc1, .int .i64 ot]) (t := 26)).new (c := #[.int .i64 0, .int .i64 0, .int .i64 0]) (t := 31)
    simp only [World.size_alloc] at s6
    have B6 := bt (bal w5 (.cells #[.int .i64 h, .int .i64 w, .int .i64 c, .int .i64 lo, .int .i64 hi, .slice oa1 on oc1, .int .i64 ot] 26)) (bal _ (.cells #[.int .i64 0, .int .i64 0, .int .i64 0] 31))
    have L6 : Hid (LRow _ oa on oc O Z B) := (L4.out.below b5).below B6
    have R6 : Hid (Wr.Row _ a len cap zs) := (R4.out.below b5).below B6
    have D6 : Hid (LRow _ oa1 on oc1 O Z B) := LD.below B6
    have S6 : Hid (St W _ _) := s6
    clear c1 f1 z1 c2 f2 z2
    obtain ⟨-, -, -, -, -, -, c3, f3, z3, c4, f4, z4, -⟩ := s6.rules
    clear hd b5 LD B6 s6 L4 R4 V4 S4
    go_wp2_with fail
    refine (samem_any h w c lo hi ot oa oa1 on oc oc1 O Z B _ L6.out D6.out).mono ?_
    rintro e wz ⟨rfl, b7⟩
    have Bz : Hid (Below W.heap.size W wz) := (S6.out.call b7).below
    have Rz : Hid (Wr.Row wz a len cap zs) := R6.out.below b7
    clear b7 c3 f3 z3 c4 f4 z4 L6 R6 D6 S6
    skip
    go_wp2_with fail
    refine (decode_any a len cap zs _ Rz.out (by omega)).mono ?_
    rintro e y1 ⟨hd, b1⟩
    rcases dec_cases hd hbz.out with ⟨x', t', hx', rfl⟩ | ⟨h', v', c', lo', hi', ot', oa', on', oc', O', Z', B', L', wk', hz', hg', rfl, LD, CD⟩
    · have s1 := (((St.start W).call Bz.out).call b1 |>.new (c := #[.int .i64 0, .int .i64 0, .int .i64 0, .int .i64 0, .int .i64 0, .slice none 0 0, .int .i64 0]) (t := 26)).new (c := #[.int .i64 x', .int .i64 t', .int .i64 0]) (t := 31)
      simp only [World.size_alloc] at s1
      have S1 : Hid (St W _ _) := s1
      have hx2 : (x' == 0) = false := by simpa using hx'
      have hx3 : (x' != 0) = true := by simpa using hx'
      clear hd b1 s1 hx'
      go_wp2_with fail
      refine (samem_any 0 0 0 0 0 0 none none 0 0 0 (plO 0) plZ plB _ (lrow_0 _ _ _ _) (lrow_0 _ _ _ _)).mono ?_
      rintro e y2 ⟨rfl, b2⟩
      have hb : Hid (Below W.heap.size W y2) := (S1.out.call b2).below
      clear b2
      go_wp2
      go_ret
      exact ⟨rfl, hb.out⟩
    · have s1 := (((St.start W).call Bz.out).call b1 |>.new (c := #[.int .i64 h', .int .i64 v', .int .i64 c', .int .i64 lo', .int .i64 hi', .slice oa' on' oc', .int .i64 ot']) (t := 26)).new (c := #[.int .i64 0, .int .i64 0, .int .i64 0]) (t := 31)
      simp only [World.size_alloc] at s1
      have B1 := bt (bal y1 (.cells #[.int .i64 h', .int .i64 v', .int .i64 c', .int .i64 lo', .int .i64 hi', .slice oa' on' oc', .int .i64 ot'] 26)) (bal _ (.cells #[.int .i64 0, .int .i64 0, .int .i64 0] 31))
      have L1 : Hid (LRow _ oa' on' oc' O' Z' B') := LD.below B1
      have R1 : Hid (Wr.Row _ a len cap zs) := (Rz.out.below b1).below B1
      have S1 : Hid (St W _ _) := s1
      have hzz : Hid (zs = eAll (dMod h' v' c' lo' hi' ot' on' O' Z' B')) := hz'
      have hgg : Hid (gtR O' h' v' c' lo' hi' ot' on' = (0, 0, L', wk')) := hg'
      have hon' : Hid (on' ≤ 1000000000000) := by
        have := (mod_fits hg' (lens_of LD)).2.1.1; unfold Hid; omega
      clear hd b1 s1 LD CD B1 hz' hg'
      go_wp2_with fail
      refine (encode_ok h' v' c' lo' hi' ot' oa' on' oc' O' Z' B' _ L1.out 0 L' wk' hgg.out).mono ?_
      rintro e y2 ⟨vv, rfl, own, nn, b2⟩
      obtain ⟨d2, n2, c2, rfl, R2, hn2⟩ := Own.rw own nn
      have s2 := (S1.out.call b2).new (c := #[.int .i64 0, .int .i64 0, .int .i64 0]) (t := 31)
      have B2 := bt b2 (bal y2 (.cells #[.int .i64 0, .int .i64 0, .int .i64 0] 31))
      have L2 : Hid (LRow _ oa' on' oc' O' Z' B') := L1.out.below B2
      have A2 : Hid (Wr.Row _ a len cap zs) := R1.out.below B2
      have V2 : Hid (Wr.Row _ (some d2) n2 c2 _) := R2.below (bal y2 (.cells #[.int .i64 0, .int .i64 0, .int .i64 0] 31))
      have S2 : Hid (St W _ _) := s2
      clear own nn b2 R2 s2 B2 S1 L1 R1 hn2
      go_wp2_with fail
      refine (sameb_any (some d2) a n2 c2 len cap _ zs _ V2.out A2.out).mono ?_
      rintro e y3 ⟨rfl, b3⟩
      rw [decide_eq_true hzz.out.symm]
      have s3 := S2.out.call b3
      have L3 : Hid (LRow y3 oa' on' oc' O' Z' B') := L2.out.below b3
      have S3 : Hid (St W y3 _) := s3
      obtain ⟨k1, f1, z1, k2, f2, z2, k3, f3, z3, -⟩ := s3.rules
      have hck := rcheck_any h' v' c' lo' hi' ot' oa' on' oc' O' Z' B' y3 L3.out hon'.out
      rw [hgg.out] at hck
      simp only at hck
      have HCK : Hid _ := hck
      have eq0 := eqF 0 0 0 0 0 0 true (by simp)
      clear b3 s3 S2 L2 A2 V2 hck
      go_wp2_with fail
      refine Calls.mono HCK.out ?_
      rintro e y4 ⟨rfl, b4⟩
      have hb : Hid (Below W.heap.size W y4) := (S3.out.call b4).below
      clear b4 k1 k2 k3
      go_wp2
      go_ret
      exact ⟨rfl, hb.out⟩
  · have hx' : Hid (x ≠ 0) := hx
    have hx2 : (x == 0) = false := by simpa using hx
    have hx3 : (x != 0) = true := by simpa using hx
    clear hL hx
    go_wp2_with fail
    refine (encode_bad h w c lo hi ot oa on oc O Z B _ L1.out x t L wk hG'.out hx'.out).mono ?_
    rintro e w2 ⟨rfl, b2⟩
    have s3 := (S1.out.call b2).new (c := #[.int .i64 x, .int .i64 t, .int .i64 0]) (t := 31)
    have B3 := bt b2 (bal w2 (.cells #[.int .i64 x, .int .i64 t, .int .i64 0] 31))
    obtain ⟨w3, hw3⟩ : ∃ w3, w3 = w2.alloc (.cells #[.int .i64 x, .int .i64 t, .int .i64 0] 31) := ⟨_, rfl⟩
    rw [← hw3] at s3 B3
    have L3 : Hid (LRow w3 oa on oc O Z B) := L1.out.below B3
    have R3 : Hid (Wr.Row w3 a len cap zs) := R1.out.below B3
    have S3 : Hid (St W w3 _) := s3
    have hS : Hid (∀ w', Below w3.heap.size w3 w' → (∀ i, w'.cell? ⟨w2.heap.size, i, none⟩ = (#[.int .i64 x, .int .i64 t, .int .i64 0] : Array Value)[i]?) ∧ ∀ i, w'.cell? ⟨W.heap.size, i, none⟩ = (#[.int .i64 h, .int .i64 w, .int .i64 c, .int .i64 lo, .int .i64 hi, .slice oa on oc, .int .i64 ot] : Array Value)[i]?) := fun w' hb' => by
      have s := s3.call hb'
      exact ⟨(cells_at s.h1).1, (cells_at s.h2).1⟩
    have HCK : Hid (∀ w', LRow w' oa on oc O Z B → _) := fun w' hw => rcheck_any h w c lo hi ot oa on oc O Z B w' hw (by omega)
    rw [hG'.out] at HCK
    simp only at HCK
    clear c1 f1 z1
    obtain ⟨c1, f1, z1, c2, f2, z2, -⟩ := s3.rules
    clear b2 s3 B3 L1 R1 S1
    go_upto_region 4 with fail
    rw [← hw3]
    clear hw3
    have hD : Below w3.heap.size w3 w3.drew := (Below.refl _ _).drew
    go_region_held3 (fun w' => (∀ i, w'.cell? ⟨w2.heap.size, i, none⟩ = (#[.int .i64 x, .int .i64 t, .int .i64 0] : Array Value)[i]?) ∧ ∀ i, w'.cell? ⟨W.heap.size, i, none⟩ = (#[.int .i64 h, .int .i64 w, .int .i64 c, .int .i64 lo, .int .i64 hi, .slice oa on oc, .int .i64 ot] : Array Value)[i]?) (with_reducible exact hS.out _ hD)
      ((go_at_call 6; refine Calls.mono (HCK.out _ (L3.out.below hD)) ?_; rintro e wz ⟨rfl, b4⟩; replace hD := bt hD b4; clear b4))
    have Rz : Hid (Wr.Row wz a len cap zs) := R3.out.below hD
    have s4 := S3.out.call hD
    have Bz : Hid (Below W.heap.size W wz) := s4.below
    clear c1 f1 z1 c2 f2 z2 hD hS HCK L3 R3 S3
    obtain ⟨c1, f1, z1, c2, f2, z2, -⟩ := s4.rules
    clear s4
    skip
    go_wp2_with fail
    refine (decode_any a len cap zs _ Rz.out (by omega)).mono ?_
    rintro e y1 ⟨hd, b1⟩
    rcases dec_cases hd hbz.out with ⟨x', t', hx', rfl⟩ | ⟨h', v', c', lo', hi', ot', oa', on', oc', O', Z', B', L', wk', hz', hg', rfl, LD, CD⟩
    · have s1 := (((St.start W).call Bz.out).call b1 |>.new (c := #[.int .i64 0, .int .i64 0, .int .i64 0, .int .i64 0, .int .i64 0, .slice none 0 0, .int .i64 0]) (t := 26)).new (c := #[.int .i64 x', .int .i64 t', .int .i64 0]) (t := 31)
      simp only [World.size_alloc] at s1
      have S1 : Hid (St W _ _) := s1
      have hx2 : (x' == 0) = false := by simpa using hx'
      have hx3 : (x' != 0) = true := by simpa using hx'
      clear hd b1 s1 hx'
      go_wp2_with fail
      refine (samem_any 0 0 0 0 0 0 none none 0 0 0 (plO 0) plZ plB _ (lrow_0 _ _ _ _) (lrow_0 _ _ _ _)).mono ?_
      rintro e y2 ⟨rfl, b2⟩
      have hb : Hid (Below W.heap.size W y2) := (S1.out.call b2).below
      clear b2
      go_wp2
      go_ret
      exact ⟨rfl, hb.out⟩
    · have s1 := (((St.start W).call Bz.out).call b1 |>.new (c := #[.int .i64 h', .int .i64 v', .int .i64 c', .int .i64 lo', .int .i64 hi', .slice oa' on' oc', .int .i64 ot']) (t := 26)).new (c := #[.int .i64 0, .int .i64 0, .int .i64 0]) (t := 31)
      simp only [World.size_alloc] at s1
      have B1 := bt (bal y1 (.cells #[.int .i64 h', .int .i64 v', .int .i64 c', .int .i64 lo', .int .i64 hi', .slice oa' on' oc', .int .i64 ot'] 26)) (bal _ (.cells #[.int .i64 0, .int .i64 0, .int .i64 0] 31))
      have L1 : Hid (LRow _ oa' on' oc' O' Z' B') := LD.below B1
      have R1 : Hid (Wr.Row _ a len cap zs) := (Rz.out.below b1).below B1
      have S1 : Hid (St W _ _) := s1
      have hzz : Hid (zs = eAll (dMod h' v' c' lo' hi' ot' on' O' Z' B')) := hz'
      have hgg : Hid (gtR O' h' v' c' lo' hi' ot' on' = (0, 0, L', wk')) := hg'
      have hon' : Hid (on' ≤ 1000000000000) := by
        have := (mod_fits hg' (lens_of LD)).2.1.1; unfold Hid; omega
      clear hd b1 s1 LD CD B1 hz' hg'
      go_wp2_with fail
      refine (encode_ok h' v' c' lo' hi' ot' oa' on' oc' O' Z' B' _ L1.out 0 L' wk' hgg.out).mono ?_
      rintro e y2 ⟨vv, rfl, own, nn, b2⟩
      obtain ⟨d2, n2, c2, rfl, R2, hn2⟩ := Own.rw own nn
      have s2 := (S1.out.call b2).new (c := #[.int .i64 0, .int .i64 0, .int .i64 0]) (t := 31)
      have B2 := bt b2 (bal y2 (.cells #[.int .i64 0, .int .i64 0, .int .i64 0] 31))
      have L2 : Hid (LRow _ oa' on' oc' O' Z' B') := L1.out.below B2
      have A2 : Hid (Wr.Row _ a len cap zs) := R1.out.below B2
      have V2 : Hid (Wr.Row _ (some d2) n2 c2 _) := R2.below (bal y2 (.cells #[.int .i64 0, .int .i64 0, .int .i64 0] 31))
      have S2 : Hid (St W _ _) := s2
      clear own nn b2 R2 s2 B2 S1 L1 R1 hn2
      go_wp2_with fail
      refine (sameb_any (some d2) a n2 c2 len cap _ zs _ V2.out A2.out).mono ?_
      rintro e y3 ⟨rfl, b3⟩
      rw [decide_eq_true hzz.out.symm]
      have s3 := S2.out.call b3
      have L3 : Hid (LRow y3 oa' on' oc' O' Z' B') := L2.out.below b3
      have S3 : Hid (St W y3 _) := s3
      obtain ⟨k1, f1, z1, k2, f2, z2, k3, f3, z3, -⟩ := s3.rules
      have hck := rcheck_any h' v' c' lo' hi' ot' oa' on' oc' O' Z' B' y3 L3.out hon'.out
      rw [hgg.out] at hck
      simp only at hck
      have HCK : Hid _ := hck
      have eq0 := eqF 0 0 0 0 0 0 true (by simp)
      clear b3 s3 S2 L2 A2 V2 hck
      go_wp2_with fail
      refine Calls.mono HCK.out ?_
      rintro e y4 ⟨rfl, b4⟩
      have hb : Hid (Below W.heap.size W y4) := (S3.out.call b4).below
      clear b4 k1 k2 k3
      go_wp2
      go_ret
      exact ⟨rfl, hb.out⟩
end Go.Proofs.Ythagdpiocmcbmab
