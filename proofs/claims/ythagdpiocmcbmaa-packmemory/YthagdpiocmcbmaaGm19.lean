/- The walks of PackBack and PackForms. What is written into a decoded model's memory: its own blocks and new ones alone. -/
import Derived.Test.YthagdpiocmcbmaaGr18
/- The walks of PackBack and PackForms. -/
namespace Go.Proofs.Ythagdpiocmcbmaa
open Wr
open Go.ChangeShapes Go.WideShapes Go.ChangeAt Go.RowKit
set_option linter.unusedVariables false
theorem eall_le {m : ModD} {n : Nat} (h : n = (eAll m).length) (hr : n ≤ 100000000) : n ≤ 140737488355328 := by omega
theorem eAll_le {h w c lo hi ot : Int} {on : Nat} {O : Nat → Nat → Int} {Z B : Nat → List Int} (hF : OFit on O Z B) (h64 : In64 [lo, hi]) : (eAll (dMod h w c lo hi ot on O Z B)).length ≤ 100000000 := by
  have a1 := eU_le [h, w, c]
  have a2 := eS_le [lo, hi] h64
  have a3 := eOps_le hF on (Nat.le_refl _)
  have a4 := put_le (n := on) (by have := hF.1; omega)
  have a5 := putR_ten (u64_lt ot)
  have a6 := hF.1
  unfold eAll eMod dMod
  rw [dOps_len]
  simp only [List.length_append, List.length_cons, List.length_nil, head4] at *
  omega
set_option maxHeartbeats 8000000 in
set_option maxRecDepth 100000 in
theorem packBack_walk (h w c lo hi : Int) (oa : Option Addr) (on oc : Nat) (ot : Int) (W : World) (_ : (Lit.int .i64 h).wf = true) (_ : (Lit.int .i64 w).wf = true) (_ : (Lit.int .i64 c).wf = true) (_ : (Lit.int .i64 lo).wf = true) (_ : (Lit.int .i64 hi).wf = true)
    (wo : ORow 22 (OpIn W) W oa on oc) (hr : on * 208 ≤ 140737488351232) (_ : (Lit.int .i64 ot).wf = true) :
    Calls Try.prog 4 #[.agg #[.int .i64 h, .int .i64 w, .int .i64 c, .int .i64 lo, .int .i64 hi, .slice oa on oc, .int .i64 ot]] W fun e w' => e = .returned (.bool true) ∧ Below W.heap.size W w' := by
  rename_i x1 x2 x3 x4 x5 x6
  clear x1 x2 x3 x4 x5 x6
  obtain ⟨O, Z, B, hL⟩ := lrow_of wo
  clear wo
  obtain ⟨x, t, L, wk, hG⟩ : ∃ x t L wk, gtR O h w c lo hi ot on = (x, t, L, wk) := ⟨_, _, _, _, rfl⟩
  have s0 := (St.start W).new (c := #[.int .i64 h, .int .i64 w, .int .i64 c, .int .i64 lo, .int .i64 hi, .slice oa on oc, .int .i64 ot]) (t := 26)
  have L0 : Hid (LRow _ oa on oc O Z B) := hL.below s0.below
  have S0 : Hid (St W _ _) := s0
  by_cases hx : x = 0
  · subst hx
    have hG' : Hid (gtR O h w c lo hi ot on = (0, t, L, wk)) := hG
    have hln : Hid (Lens on O Z B) := lens_of hL
    have hfit := mod_fits hG (lens_of hL)
    have hle : Hid ((eAll (dMod h w c lo hi ot on O Z B)).length ≤ 100000000) := eAll_le hfit.2.1 hfit.2.2
    clear hG hL s0 hfit
    go_enter Try.func4, Try.ntmps4
    go_wp2_with fail
    refine (encode_ok h w c lo hi ot oa on oc O Z B _ L0.out t L wk hG'.out).mono ?_
    rintro e w1 ⟨v, rfl, own, nn, b1⟩
    obtain ⟨d, n, cc, rfl, R1, hn⟩ := Own.rw own nn
    have hn' : Hid (n = (eAll (dMod h w c lo hi ot on O Z B)).length) := hn
    have s1 := (S0.out.call b1).new (c := #[.int .i64 0, .int .i64 0, .int .i64 0]) (t := 31)
    have B1 := bt b1 (bal w1 (.cells #[.int .i64 0, .int .i64 0, .int .i64 0] 31))
    have L1 : Hid (LRow _ oa on oc O Z B) := L0.out.below B1
    have V1 : Hid (Wr.Row _ (some d) n cc (eAll (dMod h w c lo hi ot on O Z B))) := R1.below (bal w1 (.cells #[.int .i64 0, .int .i64 0, .int .i64 0] 31))
    have S1 : Hid (St W _ _) := s1
    clear own nn R1 b1 s1 B1 L0 S0 hn
    go_wp2_with fail
    refine (fixed9_any _).mono ?_
    rintro e w2 ⟨rfl, b2⟩
    have s2 := S1.out.call b2
    have L2 : Hid (LRow w2 oa on oc O Z B) := L1.out.below b2
    have V2 : Hid (Wr.Row w2 (some d) n cc (eAll (dMod h w c lo hi ot on O Z B))) := V1.out.below b2
    have S2 : Hid (St W w2 _) := s2
    obtain ⟨c1, f1, z1, c2, f2, z2, -⟩ := s2.rules
    clear b2 s2 L1 V1 S1
    go_wp2_with fail
    refine (decode_any (some d) n cc _ _ V2.out (by have := hn'.out; have := hle.out; omega)).mono ?_
    rintro e w3 ⟨hd, b3⟩
    obtain ⟨oa', oc', rfl, LD, -⟩ := dec_back hd hln.out hG'.out rfl
    have s4 := ((S2.out.call b3).new (c := #[.int .i64 h, .int .i64 w, .int .i64 c, .int .i64 lo, .int .i64 hi, .slice oa' on oc', .int .i64 ot]) (t := 26)).new (c := #[.int .i64 0, .int .i64 0, .int .i64 0]) (t := 31)
    simp only [World.size_alloc] at s4
    have B4 := bt b3 (bt (bal w3 (.cells #[.int .i64 h, .int .i64 w, .int .i64 c, .int .i64 lo, .int .i64 hi, .slice oa' on oc', .int .i64 ot] 26)) (bal _ (.cells #[.int .i64 0, .int .i64 0, .int .i64 0] 31)))
    have L4 : Hid (LRow _ oa on oc O Z B) := L2.out.below B4
    have D4 : Hid (LRow _ oa' on oc' O Z B) := LD.below (bt (bal w3 (.cells #[.int .i64 h, .int .i64 w, .int .i64 c, .int .i64 lo, .int .i64 hi, .slice oa' on oc', .int .i64 ot] 26)) (bal _ (.cells #[.int .i64 0, .int .i64 0, .int .i64 0] 31)))
    have S4 : Hid (St W _ _) := s4
    have eq0 := eqF 0 0 0 0 0 0 true (by simp)
    clear c1 f1 z1 c2 f2 z2
    obtain ⟨-, -, -, -, -, -, -, -, -, c4, f4, z4, -⟩ := s4.rules
    clear hd b3 LD B4 s4 L2 V2 S2
    go_wp2_with fail
    refine (samem_any h w c lo hi ot oa oa' on oc oc' O Z B _ L4.out D4.out).mono ?_
    rintro e w5 ⟨rfl, b5⟩
    have hb : Hid (Below W.heap.size W w5) := (S4.out.call b5).below
    clear b5 c4 f4 z4
    go_wp2
    go_ret
    exact ⟨rfl, hb.out⟩
  · have hG' : Hid (gtR O h w c lo hi ot on = (x, t, L, wk)) := hG
    have hx' : Hid (x ≠ 0) := hx
    clear hG hL s0
    go_enter Try.func4, Try.ntmps4
    go_wp2_with fail
    refine (encode_bad h w c lo hi ot oa on oc O Z B _ L0.out x t L wk hG'.out hx'.out).mono ?_
    rintro e w1 ⟨rfl, b1⟩
    have s1 := (S0.out.call b1).new (c := #[.int .i64 x, .int .i64 t, .int .i64 0]) (t := 31)
    have S1 : Hid (St W _ _) := s1
    clear b1 s1
    go_wp2_with fail
    refine (fixed9_any _).mono ?_
    rintro e w2 ⟨rfl, b2⟩
    have s2 := S1.out.call b2
    have S2 : Hid (St W w2 _) := s2
    obtain ⟨c1, f1, z1, c2, f2, z2, -⟩ := s2.rules
    clear b2 s2
    have hx2 : (x == 0) = false := by simpa using hx'.out
    have hx3 : (x != 0) = true := by simpa using hx'.out
    go_wp2_with fail
    refine (fixed9_any _).mono ?_
    rintro e w3 ⟨rfl, b3⟩
    have hb : Hid (Below W.heap.size W w3) := (S2.out.call b3).below
    clear b3 c1 c2
    go_wp2
    go_ret
    exact ⟨rfl, hb.out⟩
theorem u8_wf {a : Int} (h : (Lit.int .u8 a).wf = true) : 0 ≤ a ∧ a < 256 := by
  simp [Lit.wf, IntKind.min, IntKind.max, IntKind.bits, IntKind.signed] at h
  omega
theorem irow_row {w : World} {a : Option Addr} {len cap : Nat} {zs : List Int} (h : IRow .u8 w a len cap zs) : Wr.Row w a len cap zs :=
  ⟨h.1, h.2.1, h.2.2.1, fun z hz => u8_wf (h.2.2.2.1 z hz), h.2.2.2.2.1, h.2.2.2.2.2⟩
theorem dec_cases {zs : List Int} {W w' : World} {r : Ending} (hd : Dec zs W w' r) (hb : Byt zs) :
    (∃ x t, x ≠ 0 ∧ r = .returned (.tuple #[.agg #[.int .i64 0, .int .i64 0, .int .i64 0, .int .i64 0, .int .i64 0, .slice none 0 0, .int .i64 0], .agg #[.int .i64 x, .int .i64 t, .int .i64 0]])) ∨
      ∃ (h w c lo hi ot : Int) (oa : Option Addr) (on oc : Nat) (O : Nat → Nat → Int) (Z B : Nat → List Int) (L : List (Int × Int × Int)) (wk : Int), zs = eAll (dMod h w c lo hi ot on O Z B) ∧ gtR O h w c lo hi ot on = (0, 0, L, wk) ∧ r = .returned (.tuple #[.agg #[.int .i64 h, .int .i64 w, .int .i64 c, .int .i64 lo, .int .i64 hi, .slice oa on oc, .int .i64 ot], .agg #[.int .i64 0, .int .i64 0, .int .i64 0]]) ∧ LRow w' oa on oc O Z B ∧ CRow w' W.heap.size (.slice oa on oc) on O Z B := by
  rcases hd with ⟨x, t, h1, h2⟩ | ⟨h, w, c, lo, hi, ot, oa, on, oc, O, Z, B, x, t, L, wk, h1, h2, -, ⟨hx, hr⟩ | ⟨rfl, hr, cr⟩⟩
  · exact .inl ⟨x, t, pall_ne h1, h2⟩
  · exact .inl ⟨x, t, hx, hr⟩
  · obtain ⟨-, rfl, -⟩ := gtR_st h2
    exact .inr ⟨h, w, c, lo, hi, ot, oa, on, oc, O, Z, B, L, wk, (unq_all hb h1).1, h2, hr, cr.l, cr⟩
theorem lrow_0 (w : World) (O : Nat → Nat → Int) (Z B : Nat → List Int) : LRow w none 0 0 O Z B := ⟨Nat.le_refl _, by unfold maxLen; omega, fun _ => rfl, fun x hx => by cases hx⟩
set_option maxHeartbeats 8000000 in
set_option maxRecDepth 100000 in
theorem packForms_walk (a : Option Addr) (len cap : Nat) (zs : List Int) (W : World) (hi0 : IRow .u8 W a len cap zs) (hr : len * 1 ≤ 140737488351232) :
    Calls Try.prog 5 #[.slice a len cap] W fun e w' => e = .returned (.bool true) ∧ Below W.heap.size W w' := by
  have HR : Hid (Wr.Row W a len cap zs) := irow_row hi0
  have hbz : Hid (Byt zs) := HR.out.2.2.2.1
  clear hi0
  go_enter Try.func5, Try.ntmps5
  go_wp2_with fail
  refine (decode_any a len cap zs _ HR.out (by omega)).mono ?_
  rintro e w1 ⟨hd, b1⟩
  rcases dec_cases hd hbz.out with ⟨x, t, hx, rfl⟩ | ⟨h, w, c, lo, hi, ot, oa, on, oc, O, Z, B, L, wk, hz, hg, rfl, LD, -⟩
  · have s1 := (((St.start W).call b1).new (c := #[.int .i64 0, .int .i64 0, .int .i64 0, .int .i64 0, .int .i64 0, .slice none 0 0, .int .i64 0]) (t := 26)).new (c := #[.int .i64 x, .int .i64 t, .int .i64 0]) (t := 31)
    simp only [World.size_alloc] at s1
    have S1 : Hid (St W _ _) := s1
    have hx' : Hid (x ≠ 0) := hx
    clear hd b1 s1 hx
    go_wp2_with fail
    refine (fixed9_any _).mono ?_
    rintro e w2 ⟨rfl, b2⟩
    have s2 := S1.out.call b2
    have S2 : Hid (St W w2 _) := s2
    obtain ⟨c1, f1, z1, c2, f2, z2, -⟩ := s2.rules
    have hx2 : (x == 0) = false := by simpa using hx'.out
    have hx3 : (x != 0) = true := by simpa using hx'.out
    clear b2 s2 S1
    go_wp2_with fail
    refine (fixed9_any _).mono ?_
    rintro e w3 ⟨rfl, b3⟩
    have s3 := S2.out.call b3
    have S3 : Hid (St W w3 _) := s3
    clear c1 f1 z1 c2 f2 z2
    obtain ⟨c1, f1, z1, c2, f2, z2, -⟩ := s3.rules
    clear b3 s3 S2
    go_wp2_with fail
    refine (samem_any 0 0 0 0 0 0 none none 0 0 0 (plO 0) plZ plB _ (lrow_0 _ _ _ _) (lrow_0 _ _ _ _)).mono ?_
    rintro e w4 ⟨rfl, b4⟩
    have hb : Hid (Below W.heap.size W w4) := (S3.out.call b4).below
    clear b4 c1 c2
    go_wp2
    go_ret
    exact ⟨rfl, hb.out⟩
  · have s1 := (((St.start W).call b1).new (c := #[.int .i64 h, .int .i64 w, .int .i64 c, .int .i64 lo, .int .i64 hi, .slice oa on oc, .int .i64 ot]) (t := 26)).new (c := #[.int .i64 0, .int .i64 0, .int .i64 0]) (t := 31)
    simp only [World.size_alloc] at s1
    have S1 : Hid (St W _ _) := s1
    have B1 := bt (bal w1 (.cells #[.int .i64 h, .int .i64 w, .int .i64 c, .int .i64 lo, .int .i64 hi, .slice oa on oc, .int .i64 ot] 26)) (bal _ (.cells #[.int .i64 0, .int .i64 0, .int .i64 0] 31))
    have L1 : Hid (LRow _ oa on oc O Z B) := LD.below B1
    have R1 : Hid (Wr.Row _ a len cap zs) := (HR.out.below b1).below B1
    have hz' : Hid (zs = eAll (dMod h w c lo hi ot on O Z B)) := hz
    have hg' : Hid (gtR O h w c lo hi ot on = (0, 0, L, wk)) := hg
    clear hd b1 s1 LD B1 hz hg
    go_wp2_with fail
    refine (fixed9_any _).mono ?_
    rintro e w2 ⟨rfl, b2⟩
    have s2 := S1.out.call b2
    have S2 : Hid (St W w2 _) := s2
    have L2 : Hid (LRow w2 oa on oc O Z B) := L1.out.below b2
    have R2 : Hid (Wr.Row w2 a len cap zs) := R1.out.below b2
    obtain ⟨c1, f1, z1, c2, f2, z2, -⟩ := s2.rules
    clear b2 s2 S1 L1 R1
    go_wp2_with fail
    refine (encode_ok h w c lo hi ot oa on oc O Z B _ L2.out 0 L wk hg'.out).mono ?_
    rintro e w3 ⟨v, rfl, own, nn, b3⟩
    obtain ⟨d, n, cc, rfl, R3, -⟩ := Own.rw own nn
    have s3 := (S2.out.call b3).new (c := #[.int .i64 0, .int .i64 0, .int .i64 0]) (t := 31)
    have S3 : Hid (St W _ _) := s3
    have V3 : Hid (Wr.Row _ (some d) n cc _) := R3.below (bal w3 (.cells #[.int .i64 0, .int .i64 0, .int .i64 0] 31))
    have A3 : Hid (Wr.Row _ a len cap zs) := (R2.out.below b3).below (bal w3 (.cells #[.int .i64 0, .int .i64 0, .int .i64 0] 31))
    have eq0 := eqF 0 0 0 0 0 0 true (by simp)
    clear c1 f1 z1 c2 f2 z2 own nn R3 b3 s3 S2 L2 R2
    go_wp2_with fail
    refine (sameb_any a (some d) len cap n cc zs _ _ A3.out V3.out).mono ?_
    rintro e w4 ⟨rfl, b4⟩
    rw [decide_eq_true hz'.out]
    have hb : Hid (Below W.heap.size W w4) := (S3.out.call b4).below
    clear b4
    go_wp2
    go_ret
    exact ⟨rfl, hb.out⟩
end Go.Proofs.Ythagdpiocmcbmaa

/- What is written into a decoded model's memory: its own blocks and new ones alone. -/
namespace Go.Proofs.Ythagdpiocmcbmaa
open Wr
open Go.ChangeShapes Go.WideShapes Go.ChangeAt Go.RowKit
set_option linter.unusedVariables false
/-- The two kinds of lists. -/
def KT2 (k : IntKind) (T : TypeId) : Prop := (k = .i16 ∧ T = 51) ∨ (k = .i32 ∧ T = 21)
theorem KT2.one {k k' : IntKind} {T : TypeId} (h : KT2 k T) (h' : KT2 k' T) : k' = k := by
  rcases h with ⟨rfl, rfl⟩ | ⟨rfl, rfl⟩ <;> rcases h' with ⟨rfl, e⟩ | ⟨rfl, e⟩
  · rfl
  · exact absurd e (by decide)
  · exact absurd e (by decide)
  · rfl
theorem KT2.ne {k : IntKind} {T : TypeId} (h : KT2 k T) : T ≠ 50 := by
  rcases h with ⟨rfl, rfl⟩ | ⟨rfl, rfl⟩ <;> decide
theorem kt2_16 : KT2 .i16 51 := .inl ⟨rfl, rfl⟩
theorem kt2_32 : KT2 .i32 21 := .inr ⟨rfl, rfl⟩
/-- From w to w': only blocks of 'lo' to 'hi' and from N on are written, and lists stay lists. -/
structure Sf (lo hi N : Nat) (w w' : World) : Prop where
  b : Below lo w w'
  y : ∀ k, hi ≤ k → k < N → w'.heap[k]? = w.heap[k]?
  l : ∀ (k : IntKind) (T : TypeId) (g : Nat) (cur : Array Value), KT2 k T → w.heap[g]? = some (.cells cur T (0, 0)) → ∃ cur', w'.heap[g]? = some (.cells cur' T (0, 0)) ∧ cur'.size = cur.size ∧ ∀ (i : Nat) (z : Int), cur[i]? = some (.int k z) → ∃ z', cur'[i]? = some (.int k z')
theorem Sf.refl (lo hi N : Nat) (w : World) : Sf lo hi N w w := ⟨Below.refl _ _, fun _ _ _ => rfl, fun _ _ _ cur _ h => ⟨cur, h, rfl, fun _ z h => ⟨z, h⟩⟩⟩
theorem Sf.trans {lo hi N : Nat} {a b c : World} (h : Sf lo hi N a b) (k : Sf lo hi N b c) : Sf lo hi N a c := by
  refine ⟨h.b.trans k.b, fun i h1 h2 => (k.y i h1 h2).trans (h.y i h1 h2), fun kk T g cur hT hg => ?_⟩
  obtain ⟨c1, e1, e2, e3⟩ := h.l kk T g cur hT hg
  obtain ⟨c2, f1, f2, f3⟩ := k.l kk T g c1 hT e1
  refine ⟨c2, f1, f2.trans e2, fun i z hz => ?_⟩
  obtain ⟨z1, h1⟩ := e3 i z hz
  exact f3 i z1 h1
theorem Sf.of {lo hi N : Nat} {w w' : World} (h : Below w.heap.size w w') (h1 : lo ≤ w.heap.size) (h2 : N ≤ w.heap.size) : Sf lo hi N w w' :=
  ⟨h.mono h1, fun k _ hk => h.block k (by omega), fun _ T g cur _ hg => ⟨cur, (h.block g (lt_of_heap hg)).trans hg, rfl, fun _ z h => ⟨z, h⟩⟩⟩
theorem Sf.drew (lo hi N : Nat) (w : World) : Sf lo hi N w w.drew := ⟨(Below.refl _ _).drew, fun _ _ _ => rfl, fun _ _ _ cur _ h => ⟨cur, h, rfl, fun _ z h => ⟨z, h⟩⟩⟩
theorem set_get {cur : Array Value} {i j : Nat} {k : IntKind} {z z1 : Int} (h : cur[j]? = some (.int k z)) : ∃ z', (cur.setIfInBounds i (.int k z1))[j]? = some (.int k z') := by
  rw [Array.getElem?_setIfInBounds]
  by_cases e : i = j
  · subst e
    rw [if_pos rfl, if_pos (Array.getElem?_eq_some_iff.1 h).1]
    exact ⟨_, rfl⟩
  · rw [if_neg e]; exact ⟨z, h⟩
/-- A number of a list, written. -/
theorem Sf.num {lo hi N : Nat} {w : World} {g i : Nat} {k : IntKind} {z : Int} {cur : Array Value} {T : TypeId} (hT : KT2 k T) (h1 : lo ≤ g) (h2 : g < hi ∨ N ≤ g) (hg : w.heap[g]? = some (.cells cur T (0, 0))) : Sf lo hi N w (w.setCell ⟨g, i, none⟩ (.int k z)) := by
  refine ⟨(Below.refl _ _).setCell (p := ⟨g, i, none⟩) h1 _, fun j j1 j2 => Below.heap_setCell _ _ _ _ (fun e => by simp only at e; omega), fun kk S j c hS hj => ?_⟩
  by_cases e : j = g
  · subst e
    rw [hg] at hj
    simp only [Option.some.injEq, Obj.cells.injEq] at hj
    obtain ⟨rfl, rfl, -⟩ := hj
    obtain rfl := hT.one hS
    exact ⟨_, heap_setCell_at hg, by simp, fun q y hy => set_get hy⟩
  · exact ⟨c, (Below.heap_setCell _ _ _ _ e).trans hj, rfl, fun _ z h => ⟨z, h⟩⟩
/-- A cell of the ops, written. -/
theorem Sf.op {lo hi N : Nat} {w : World} {g i : Nat} {v : Value} {cur : Array Value} (h1 : lo ≤ g) (h2 : g < hi) (hg : w.heap[g]? = some (.cells cur 50 (0, 0))) : Sf lo hi N w (w.setCell ⟨g, i, none⟩ v) := by
  refine ⟨(Below.refl _ _).setCell (p := ⟨g, i, none⟩) h1 _, fun j j1 j2 => Below.heap_setCell _ _ _ _ (fun e => by simp only at e; omega), fun kk S j c hS hj => ?_⟩
  by_cases e : j = g
  · subst e
    rw [hg] at hj
    simp only [Option.some.injEq, Obj.cells.injEq] at hj
    exact absurd hj.2.1.symm hS.ne
  · exact ⟨c, (Below.heap_setCell _ _ _ _ e).trans hj, rfl, fun _ z h => ⟨z, h⟩⟩
/-- A list of numbers, within these blocks. -/
def LW (lo hi N : Nat) (w : World) (k : IntKind) (T : TypeId) (a : Option Addr) (l c : Nat) : Prop :=
  (a = none ∧ l = 0 ∧ c = 0) ∨ ∃ g cur, a = some ⟨g, 0, none⟩ ∧ lo ≤ g ∧ (g < hi ∨ N ≤ g) ∧ w.heap[g]? = some (.cells cur T (0, 0)) ∧ l ≤ c ∧ c ≤ maxLen ∧ cur.size = c ∧ ∀ i, i < l → ∃ z, cur[i]? = some (.int k z)
theorem LW.sf {lo hi N : Nat} {w w' : World} {k : IntKind} {T : TypeId} {a : Option Addr} {l c : Nat} (h : LW lo hi N w k T a l c) (s : Sf lo hi N w w') (hT : KT2 k T) : LW lo hi N w' k T a l c := by
  rcases h with h | ⟨g, cur, h1, h2, h3, h4, h5, h6, h7, h8⟩
  · exact .inl h
  · obtain ⟨cur', e1, e2, e3⟩ := s.l k T g cur hT h4
    exact .inr ⟨g, cur', h1, h2, h3, e1, h5, h6, e2.trans h7, fun i hi => by obtain ⟨z, hz⟩ := h8 i hi; exact e3 i z hz⟩
theorem LW.of {lo hi N : Nat} {w w' : World} {k : IntKind} {T : TypeId} {a : Option Addr} {l c : Nat} {zs : List Int} (h : Own k T w lo (.slice a l c) zs) (hs : w.heap.size ≤ hi) (bb : Below w.heap.size w w') : LW lo hi N w' k T a l c := by
  rcases h.1.2 with ⟨e, h0⟩ | ⟨g, cap, cur, e, h2, h3, h4, h5, h6, h7⟩
  · cases e; exact .inl ⟨rfl, rfl, rfl⟩
  · simp only [Value.slice.injEq] at e
    obtain ⟨rfl, rfl, rfl⟩ := e
    have := lt_of_heap h3
    refine .inr ⟨g, cur, rfl, h2, .inl (by omega), (bb.block _ this).trans h3, h4, h5, by omega, fun i hi => ⟨zs.getD i 0, ?_⟩⟩
    have e : (cur.toList.take (zs.length * 1))[i]? = (zs.map (Value.int k))[i]? := by rw [h7]
    rw [List.getElem?_take, if_pos (by omega)] at e
    simpa [List.getD, hi] using e
/-- The ops of a decoded model: their lists within these blocks. -/
def XO (lo hi N : Nat) (w : World) (g n cap k : Nat) : Prop :=
  lo ≤ g ∧ g < hi ∧ n ≤ cap ∧ cap ≤ maxLen ∧ ∃ cur, w.heap[g]? = some (.cells cur 50 (0, 0)) ∧ cur.size = cap * 22 ∧ ∀ q, q < n → ∃ wa lw cw ba lb cb, cur[q * 22 + 12]? = some (.slice wa lw cw) ∧ cur[q * 22 + 13]? = some (.slice ba lb cb) ∧
    LW lo hi N w .i16 51 wa lw cw ∧ LW lo hi N w .i32 21 ba lb cb ∧ lb * 4 ≤ 140737488351232 ∧ (k ≤ q → lw * 2 ≤ 140737488351232)
theorem XO.of {lo hi N : Nat} {w w' : World} {g n cap : Nat} {O : Nat → Nat → Int} {Z B : Nat → List Int} (h : CRow w lo (.slice (some ⟨g, 0, none⟩) n cap) n O Z B) (hs : w.heap.size ≤ hi) (bb : Below w.heap.size w w') : XO lo hi N w' g n cap 0 := by
  obtain ⟨xs, h1, h2⟩ := h
  rcases h1.2 with ⟨e, h0⟩ | ⟨g', cap', cur, e, e2, e3, e4, e5, e6, e7⟩
  · cases e
  · simp only [Value.slice.injEq, Option.some.injEq, Addr.mk.injEq, true_and, and_true] at e
    obtain ⟨rfl, rfl⟩ := e
    have := lt_of_heap e3
    refine ⟨e2, by omega, e4, e5, cur, (bb.block _ this).trans e3, e6, fun q hq => ?_⟩
    obtain ⟨wa, lw, cw, ba, lb, cb, f1, f2, f3, f4, f5, f6, f7⟩ := h2 q hq
    have hx : ∀ j, j < 22 → xs[q * 22 + j]? = cur[q * 22 + j]? := fun j hj => by
      rw [← e7, List.getElem?_take, if_pos (by omega)]; simp
    exact ⟨wa, lw, cw, ba, lb, cb, (hx 12 (by omega)).symm.trans (f3 12 _ rfl), (hx 13 (by omega)).symm.trans (f3 13 _ rfl), LW.of f4 hs bb, LW.of f5 hs bb, f7, fun _ => by omega⟩
theorem XO.sf {lo hi N : Nat} {w w' : World} {g n cap k : Nat} (h : XO lo hi N w g n cap k) (s : Sf lo hi N w w') (e : w'.heap[g]? = w.heap[g]?) : XO lo hi N w' g n cap k := by
  obtain ⟨h1, h2, h3, h4, cur, h5, h6, h7⟩ := h
  refine ⟨h1, h2, h3, h4, cur, e.trans h5, h6, fun q hq => ?_⟩
  obtain ⟨wa, lw, cw, ba, lb, cb, f1, f2, f3, f4, f5⟩ := h7 q hq
  exact ⟨wa, lw, cw, ba, lb, cb, f1, f2, f3.sf s kt2_16, f4.sf s kt2_32, f5⟩
/-- An op's weights, put in another's place; its kind. -/
theorem XO.setW {lo hi N : Nat} {w : World} {g n cap q : Nat} {wa : Option Addr} {lw cw : Nat} (h : XO lo hi N w g n cap q) (hl : LW lo hi N w .i16 51 wa lw cw) (hq : q < n) : XO lo hi N (w.setCell ⟨g, q * 22 + 12, none⟩ (.slice wa lw cw)) g n cap (q + 1) := by
  obtain ⟨h1, h2, h3, h4, cur, h5, h6, h7⟩ := h
  have s : Sf lo hi N w (w.setCell ⟨g, q * 22 + 12, none⟩ (.slice wa lw cw)) := Sf.op h1 h2 h5
  refine ⟨h1, h2, h3, h4, _, heap_setCell_at h5, by simpa using h6, fun r hr => ?_⟩
  obtain ⟨wa', lw', cw', ba, lb, cb, f1, f2, f3, f4, f6, f5⟩ := h7 r hr
  have hlt : q * 22 + 12 < cur.size := by rw [h6]; omega
  by_cases e : r = q
  · subst e
    refine ⟨wa, lw, cw, ba, lb, cb, ?_, ?_, hl.sf s kt2_16, f4.sf s kt2_32, f6, fun h => by omega⟩
    · rw [Array.getElem?_setIfInBounds, if_pos rfl, if_pos hlt]
    · rw [Array.getElem?_setIfInBounds, if_neg (by omega)]; exact f2
  · refine ⟨wa', lw', cw', ba, lb, cb, ?_, ?_, f3.sf s kt2_16, f4.sf s kt2_32, f6, fun h => f5 (by omega)⟩
    · rw [Array.getElem?_setIfInBounds, if_neg (by omega)]; exact f1
    · rw [Array.getElem?_setIfInBounds, if_neg (by omega)]; exact f2
theorem XO.setK {lo hi N : Nat} {w : World} {g n cap q k : Nat} {v : Value} (h : XO lo hi N w g n cap k) (hq : q < n) : XO lo hi N (w.setCell ⟨g, q * 22, none⟩ v) g n cap k := by
  obtain ⟨h1, h2, h3, h4, cur, h5, h6, h7⟩ := h
  have s : Sf lo hi N w (w.setCell ⟨g, q * 22, none⟩ v) := Sf.op h1 h2 h5
  refine ⟨h1, h2, h3, h4, _, heap_setCell_at h5, by simpa using h6, fun r hr => ?_⟩
  obtain ⟨wa', lw', cw', ba, lb, cb, f1, f2, f3, f4, f5⟩ := h7 r hr
  refine ⟨wa', lw', cw', ba, lb, cb, ?_, ?_, f3.sf s kt2_16, f4.sf s kt2_32, f5⟩
  · rw [Array.getElem?_setIfInBounds, if_neg (by omega)]; exact f1
  · rw [Array.getElem?_setIfInBounds, if_neg (by omega)]; exact f2
/-- 'append' of three numbers to such a list. -/
theorem run_app3 {lo hi N : Nat} {w : World} {a : Option Addr} {l c : Nat} (h : LW lo hi N w .i16 51 a l c) (hl : l * 2 ≤ 140737488351240) (hlo : lo ≤ w.heap.size) (hN : N ≤ w.heap.size) (ty : TypeId) (ad : Addr) (x1 x2 x3 : Int) (hn : ∀ j u, [Value.int .i16 x1, .int .i16 x2, .int .i16 x3][j]? = some u → w.cell? (ad.add j) = some u) :
    ∃ a' c' w', (Builtin.append_ #[45, 45] ty #[.slice a l c, .slice (some ad) 3 3]).run Try.prog w = .ok (.slice a' (l + 3) c') w' ∧ LW lo hi N w' .i16 51 a' (l + 3) c' ∧ Sf lo hi N w w' ∧ ∀ (g : Nat) (cur : Array Value), w.heap[g]? = some (.cells cur 50 (0, 0)) → w'.heap[g]? = w.heap[g]? := by
  obtain ⟨hu, hin, b1, b8⟩ := kt_i16
  obtain ⟨i0, hi0, hz0, hz1, hz2⟩ := info_parts hin
  have new : ∀ (olds : List Value) (old : Nat), olds.length = l → old < l + 3 → (∀ i, i < l → ∃ z, olds[i]? = some (.int .i16 z)) →
      LW lo hi N (w.drew.alloc (.cells (olds.toArray ++ [Value.int .i16 x1, .int .i16 x2, .int .i16 x3].toArray ++ Builtin.zeroCells (Value.int .i16 0).cells (grownCap w (l + 3) old 51 - (l + 3))) 51)) .i16 51 (some ⟨w.heap.size, 0, none⟩) (l + 3) (grownCap w (l + 3) old 51) ∧
      Sf lo hi N w (w.drew.alloc (.cells (olds.toArray ++ [Value.int .i16 x1, .int .i16 x2, .int .i16 x3].toArray ++ Builtin.zeroCells (Value.int .i16 0).cells (grownCap w (l + 3) old 51 - (l + 3))) 51)) := by
    intro olds old ho hold hx
    have hge := grownCap_ge w (l + 3) old 51
    refine ⟨.inr ⟨w.heap.size, _, rfl, hlo, .inr hN, heap_alloc_new w.drew _, hge, grownCap_le_maxLen w (l + 3) old 51 (by unfold maxLen; omega), ?_, fun i hi => ?_⟩, Sf.of ((Below.refl _ _).drew.alloc (Nat.le_refl _) _) hlo hN⟩
    · simp only [Array.size_append, List.size_toArray, size_zeroCells, ho]
      simp [Value.cells]
      omega
    · rw [Array.getElem?_append_left (by simp; omega)]
      rcases Nat.lt_or_ge i l with c | c
      · obtain ⟨z, hz⟩ := hx i c
        exact ⟨z, by rw [Array.getElem?_append_left (by simp; omega)]; simpa using hz⟩
      · rw [Array.getElem?_append_right (by simp; omega)]
        have : i - l = 0 ∨ i - l = 1 ∨ i - l = 2 := by omega
        rcases this with e | e | e <;> simp [ho, e]
  rcases h with ⟨rfl, rfl, rfl⟩ | ⟨g, cur, rfl, h2, h3, h4, h5, h6, h7, h8⟩
  · have hr := run_append_nil (P := Try.prog) w 45 ty 51 i0 (.int .i16 0) hu hi0 hz0 ad 3 3 [Value.int .i16 x1, .int .i16 x2, .int .i16 x3] (by rw [hz1]; rfl) hn (by omega) (by omega) (by rw [hz2]; omega)
    obtain ⟨n1, n2⟩ := new [] 0 rfl (by omega) (fun i hi => by omega)
    simp only [Nat.zero_add, Array.empty_append] at n1 n2 ⊢
    refine ⟨_, _, _, hr, n1, n2, fun g c hg => heap_alloc_old w.drew _ (lt_of_heap hg)⟩
  · by_cases hroom : l + 3 ≤ c
    · have hr := run_append_room (P := Try.prog) w 45 ty 51 i0 hu hi0 g l c cur h4 ad 3 3 [Value.int .i16 x1, .int .i16 x2, .int .i16 x3] (by rw [hz1]; rfl) hn (by simp [Value.oneCell']) hroom (by rw [hz1]; simp; omega)
      rw [hz1] at hr
      simp only [Nat.mul_one, List.length_cons, List.length_nil, Nat.zero_add, Nat.reduceAdd] at hr
      have at' : ∀ i, ((cur.toList.take l ++ [Value.int .i16 x1, .int .i16 x2, .int .i16 x3] ++ cur.toList.drop (l + 3)).toArray)[i]? = if i < l then cur[i]? else if i < l + 3 then [Value.int .i16 x1, .int .i16 x2, .int .i16 x3][i - l]? else cur[i]? := by
        intro i
        have hl' : (cur.toList.take l).length = l := by simp; omega
        rw [List.getElem?_toArray]
        by_cases c1 : i < l
        · rw [if_pos c1, List.append_assoc, List.getElem?_append_left (by omega), List.getElem?_take, if_pos c1]; simp
        · rw [if_neg c1, List.append_assoc, List.getElem?_append_right (by omega), hl']
          by_cases c2 : i < l + 3
          · rw [if_pos c2, List.getElem?_append_left (by simp; omega)]
          · rw [if_neg c2, List.getElem?_append_right (by simp; omega), List.getElem?_drop]
            simp only [List.length_cons, List.length_nil]
            rw [show l + 3 + (i - l - (0 + 1 + 1 + 1)) = i by omega]; simp
      have sz : ((cur.toList.take l ++ [Value.int .i16 x1, .int .i16 x2, .int .i16 x3] ++ cur.toList.drop (l + 3)).toArray).size = cur.size := by
        simp; omega
      have nw : ∀ i, ¬ i < l → i < l + 3 → ∃ z, [Value.int .i16 x1, .int .i16 x2, .int .i16 x3][i - l]? = some (.int .i16 z) := fun i c1 c2 => by
        have : i - l = 0 ∨ i - l = 1 ∨ i - l = 2 := by omega
        rcases this with e | e | e <;> rw [e] <;> exact ⟨_, rfl⟩
      refine ⟨_, _, _, hr, .inr ⟨g, _, rfl, h2, h3, setRow_heap w g cur _ _ _ h4, hroom, h6, sz.trans h7, fun i hi => ?_⟩, ⟨?_, fun k k1 k2 => setRow_other w g k _ (by omega), fun kk S j cj hS hj => ?_⟩, fun k ck hk => setRow_other w g k _ (fun e => ?_)⟩
      · rw [at']
        by_cases c1 : i < l
        · rw [if_pos c1]; exact h8 i c1
        · rw [if_neg c1, if_pos hi]; exact nw i c1 hi
      · exact ⟨rfl, rfl, rfl, by simp, fun k hk => setRow_other w g k _ (by omega)⟩
      · by_cases e : j = g
        · subst e
          rw [h4] at hj
          simp only [Option.some.injEq, Obj.cells.injEq] at hj
          obtain ⟨rfl, rfl, -⟩ := hj
          obtain rfl := kt2_16.one hS
          refine ⟨_, setRow_heap w j cur _ _ _ h4, sz, fun i z hz => ?_⟩
          rw [at']
          by_cases c1 : i < l
          · rw [if_pos c1]; exact ⟨z, hz⟩
          · rw [if_neg c1]
            by_cases c2 : i < l + 3
            · rw [if_pos c2]; exact nw i c1 c2
            · rw [if_neg c2]; exact ⟨z, hz⟩
        · exact ⟨cj, (setRow_other w g j _ e).trans hj, rfl, fun _ z h => ⟨z, h⟩⟩
      · subst e
        rw [h4] at hk
        simp only [Option.some.injEq, Obj.cells.injEq] at hk
        exact kt2_16.ne hk.2.1
    · have hlen : (cur.toList.take l).length = l := by simp; omega
      have holds : ∀ j u, (cur.toList.take l)[j]? = some u → w.cell? ((⟨g, 0, none⟩ : Addr).add j) = some u := fun j u hj => by
        rw [Addr.add_lit, Nat.zero_add, (cells_at h4).1]
        have hjl : j < l := by have := (List.getElem?_eq_some_iff.1 hj).1; omega
        rw [List.getElem?_take, if_pos hjl] at hj
        simpa using hj
      have hr := run_append_grow (P := Try.prog) w 45 ty 51 i0 (.int .i16 0) hu hi0 hz0 ⟨g, 0, none⟩ l c (cur.toList.take l) (by rw [hz1, hlen]; omega) holds ad 3 3 [Value.int .i16 x1, .int .i16 x2, .int .i16 x3] (by rw [hz1]; rfl) hn (by omega) (by omega) (growslice_fits (by omega) (by rw [hz2]; omega))
      obtain ⟨n1, n2⟩ := new (cur.toList.take l) c hlen (by omega) (fun i hi => by
        obtain ⟨z, hz⟩ := h8 i hi
        exact ⟨z, by rw [List.getElem?_take, if_pos hi]; simpa using hz⟩)
      exact ⟨_, _, _, hr, n1, n2, fun k ck hk => heap_alloc_old w.drew _ (lt_of_heap hk)⟩
theorem LW.al {lo hi N : Nat} {w : World} {k : IntKind} {T : TypeId} {a : Option Addr} {l c : Nat} (h : LW lo hi N w k T a l c) (hT : KT2 k T) (hlo : lo ≤ w.heap.size) (hN : N ≤ w.heap.size) (o : Obj) : LW lo hi N (w.alloc o) k T a l c := h.sf (Sf.of (bal _ _) hlo hN) hT
/-- 'append' of three numbers, in a region that draws its order. -/
theorem step_app3 {lo hi N : Nat} {w : World} {ops : Array Oper} {oo : Oper} {act : Act} {K : Act → World → Prop} {Q : Exit → Act → World → Prop} {E : Prop} (hgd : oo.guard = none) (sl x : Operand)
    (ho : oo.op = .call { callee := .builtin .append, args := #[sl, x], argTypes := #[45, 45] }) {a : Option Addr} {l c : Nat} {x1 x2 x3 : Int}
    (hs : act.eval sl = .slice a l c) (hx : act.eval x = .slice (some ⟨w.heap.size, 0, none⟩) 3 3) (h : LW lo hi N w .i16 51 a l c) (hl : l * 2 ≤ 140737488351240) (hlo : lo ≤ w.heap.size) (hN : N ≤ w.heap.size)
    (hK : ∀ a' c' w', LW lo hi N w' .i16 51 a' (l + 3) c' → Sf lo hi N w w' → (∀ (g : Nat) (cur : Array Value), w.heap[g]? = some (.cells cur 50 (0, 0)) → w'.heap[g]? = some (.cells cur 50 (0, 0))) → K (act.put oo.dst (.slice a' (l + 3) c')) w') :
    if Region.wanted oo (yielded ops act.tmps) = true then Oper.wp Try.prog oo act (w.alloc (.cells #[.int .i16 x1, .int .i16 x2, .int .i16 x3] 51)) K Q else E := by
  have hw : Region.wanted oo (yielded ops act.tmps) = true := by simp [Region.wanted, hgd]
  rw [if_pos hw]
  obtain ⟨a', c', w', hrun, r1, r2, r3⟩ := run_app3 (w := w.alloc (.cells #[.int .i16 x1, .int .i16 x2, .int .i16 x3] 51)) (h.al kt2_16 hlo hN _) hl (by simp; omega) (by simp; omega) oo.type ⟨w.heap.size, 0, none⟩ x1 x2 x3 (new22 (c := [.int .i16 x1, .int .i16 x2, .int .i16 x3]))
  unfold Oper.wp
  simp [execOp, ho, resolve, invoke, builtin, hs, hx, hrun, Result.andThen]
  exact hK a' c' w' r1 ((Sf.of (bal _ _) hlo hN).trans r2) fun g cur hg => by
    have := ((bal w (.cells #[.int .i16 x1, .int .i16 x2, .int .i16 x3] 51)).block g (lt_of_heap hg)).trans hg
    exact (r3 g cur this).trans this
end Go.Proofs.Ythagdpiocmcbmaa
