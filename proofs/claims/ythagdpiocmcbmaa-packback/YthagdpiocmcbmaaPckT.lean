/- The reader of package pack: lists. -/
import Derived.Test.YthagdpiocmcbmaaPckS
namespace Go.Proofs.Ythagdpiocmcbmaa
open Wr
open Go.ChangeShapes Go.WideShapes Go.ChangeAt Go.RowKit
set_option linter.unusedVariables false
/-- Behind what was taken already. -/
def pre (z : List Int) (x : Sum (Int × Int) (List Int × List Int)) : Sum (Int × Int) (List Int × List Int) := pbind x fun l r => .inr (z ++ l, r)
theorem pre_nil (x : Sum (Int × Int) (List Int × List Int)) : pre [] x = x := by
  match x with
  | .inl e => rfl
  | .inr (l, r) => rfl
theorem pre_ok {p : List Int → Sum (Int × Int) (Int × List Int)} {z r rs : List Int} {n : Nat} {v : Int} (h : p r = .inr (v, rs)) : pre z (pL p (n + 1) r) = pre (z ++ [v]) (pL p n rs) := by
  unfold pre
  rw [pL, h, pbind_r]
  match pL p n rs with
  | .inl e => rfl
  | .inr (l, r') => simp [pbind]
theorem pre_bad {p : List Int → Sum (Int × Int) (Int × List Int)} {z r : List Int} {n : Nat} {x : Int × Int} (h : p r = .inl x) : pre z (pL p (n + 1) r) = .inl x := by
  unfold pre
  rw [pL, h]; rfl
def pT (t most : Int) (p : List Int → Sum (Int × Int) (Int × List Int)) (zs : List Int) : Sum (Int × Int) (List Int × List Int) := pbind (pN t most zs) fun n r => pL p n.toNat r
theorem own_kept {k : IntKind} {T : TypeId} {w w' : World} {base B : Nat} {v : Value} {zs : List Int} (h : Own k T w base v zs) (q : Wr.Kept [B] w w') (hB : B < base) : Own k T w' base v zs := by
  refine ⟨⟨h.1.1, ?_⟩, h.2⟩
  rcases h.1.2 with h0 | ⟨g, cap, cur, h1, h2, h3, h4⟩
  · exact .inl h0
  · exact .inr ⟨g, cap, cur, h1, h2, (q.2.2.2.2 g (lt_of_heap h3) (by simp; omega)).trans h3, h4⟩
theorem kept_below {w w1 w2 : World} {B : Nat} (k : Wr.Kept [B] w w1) (h : Below w.heap.size w1 w2) : Wr.Kept [B] w w2 :=
  ⟨h.os.trans k.1, h.tape.trans k.2.1, h.output.trans k.2.2.1, Nat.le_trans k.2.2.2.1 h.size, fun i hi hB => (h.block i hi).trans (k.2.2.2.2 i hi hB)⟩
theorem inf_i16 {v : Int} (h : -32768 ≤ v ∧ v ≤ 32767) : (Lit.int .i16 v).wf = true := by simp [Lit.wf, IntKind.min, IntKind.max, IntKind.bits, IntKind.signed]; omega
theorem inf_i32 {v : Int} (h : -2147483648 ≤ v ∧ v ≤ 2147483647) : (Lit.int .i32 v).wf = true := by simp [Lit.wf, IntKind.min, IntKind.max, IntKind.bits, IntKind.signed]; omega
set_option maxHeartbeats 2000000 in
set_option maxRecDepth 100000 in
theorem take_i16 (Rb B : Nat) (zs : List Int) (t most : Int) (w : World) (h : PR w Rb B zs t) (hm0 : 0 ≤ most) (hm1 : most ≤ 1000000) :
    Calls Try.prog 91 #[(.pointer (some ⟨Rb, 0, none⟩)), .int .i64 most] w fun r w' => (∃ x, pT t most (p16 t) zs = .inl x ∧ r = fpan x.1 x.2 ∧ Wr.Kept [B] w w') ∨ ∃ z rs v, pT t most (p16 t) zs = .inr (z, rs) ∧ (z.length : Int) ≤ most ∧ r = .returned v ∧ Own .i16 51 w' w.heap.size v z ∧ PR w' Rb B rs t ∧ Wr.Kept [B] w w' := by
  have hlt := h.ltB
  have H : Hid _ := rcount_any Rb B zs t most w h hm0 hm1
  clear h
  go_enter Try.func91, Try.ntmps91
  go_wp2_with fail
  refine Calls.mono H.out ?_
  rintro r w1 (⟨x, hx, rfl, k⟩ | ⟨n, r0, hx, hn, rfl, p, k⟩)
  · exact ⟨rfl, .inl ⟨x, by simp only [pT, pbind, hx], rfl, k⟩⟩
  have hP : Hid (pT t most (p16 t) zs = pre [] (pL (p16 t) n r0)) := by simp only [Hid, pT, hx, pbind_r, Int.toNat_natCast, pre_nil]
  have hp0 : Hid (PR w1 Rb B r0 t ∧ Wr.Kept [B] w w1) := ⟨p, k⟩
  clear hx p k H
  go_wp2
  go_loopw [5, 9] (fun l i wr => ∃ (k : Nat) (z rs : List Int), k ≤ n ∧ i = .int .i64 k ∧ z.length = k ∧ pre [] (pL (p16 t) n r0) = pre z (pL (p16 t) (n - k) rs) ∧ Own .i16 51 wr w.heap.size l z ∧ PR wr Rb B rs t ∧ Wr.Kept [B] w wr) (fun _ i _ => n - (intOf i).toNat)
  case atStart => exact ⟨0, [], r0, Nat.zero_le _, rfl, rfl, rfl, own_none _ _ _ _, hp0.out.1, hp0.out.2⟩
  case round =>
    obtain ⟨k, z, rs, hk, rfl, hz, hE, hO, hp, hK⟩ := hrel
    have hsz := hK.2.2.2.1
    have hz' : Hid (z.length = k) := hz
    have hE' : Hid (pre [] (pL (p16 t) n r0) = pre z (pL (p16 t) (n - k) rs)) := hE
    have hK' : Hid (Wr.Kept [B] w wr) := hK
    obtain ⟨la, lc, rfl⟩ : ∃ la lc, u5 = .slice la k lc := by
      obtain ⟨a, c, e, -⟩ := hO.row
      exact ⟨a, c, by rw [e, hz]⟩
    have hO' : Hid (Own .i16 51 wr w.heap.size (.slice la k lc) z) := hO
    clear hz hE hK hO hp0
    by_cases hlk : k < n
    · obtain ⟨m, hm⟩ : ∃ m, n - k = m + 1 := ⟨n - k - 1, by omega⟩
      have hm' : Hid (n - k = m + 1) := hm
      have H : Hid _ := rsigned_i16 Rb B rs t wr hp
      clear hp hm
      go_wp2_with fail
      refine Calls.mono H.out ?_
      rintro r w2 (⟨x, hx, rfl, k2⟩ | ⟨v, r2, hx, hv, rfl, p2, k2⟩)
      · exact ⟨rfl, .inl ⟨x, by rw [hP.out, hE'.out, hm'.out]; exact pre_bad hx, rfl, hK'.out.trans k2⟩⟩
      have own2 := (own_kept hO'.out k2 hlt).alloc (.cells #[.int .i16 v] 51)
      have hrow := row_one .i16 51 w2 v (inf_i16 hv)
      have hN : Hid (pre [] (pL (p16 t) n r0) = pre (z ++ [v]) (pL (p16 t) (n - (k + 1)) r2)) := by
        unfold Hid; rw [hE'.out, hm'.out, pre_ok hx, show n - (k + 1) = m by have := hm'.out; omega]
      have hp2 : Hid (PR w2 Rb B r2 t) := p2
      have hk2 : Hid (Wr.Kept [B] w w2) := hK'.out.trans k2
      have hs2 := k2.2.2.2.1
      clear hx hv p2 k2 H hE'
      go_wp2_with (at_builtin; refine wpList_app kt_i16 rfl (.tmp 11) (.tmp 14) rfl w.heap.size _ z [v] rfl own2 _ _ _ rfl hrow (by have := hz'.out; simp; omega) (by simp; omega) ?_; intro v3 w3 own3 gr3 nn3)
      have hb3 : Below w.heap.size w2 w3 := own2.bel ((bal w2 _).mono (by omega)) gr3 (Nat.le_refl _) (by simp; omega)
      have hl3 : Hid ((z ++ [v]).length = k + 1) := by unfold Hid; rw [List.length_append, hz'.out]; rfl
      have hR : Hid (Own .i16 51 w3 w.heap.size v3 (z ++ [v]) ∧ PR w3 Rb B r2 t ∧ Wr.Kept [B] w w3) := ⟨own3, hp2.out.keep (hb3.mono (by omega)), kept_below hk2.out hb3⟩
      clear own3 gr3 nn3 hb3 own2 hrow hp2
      go_wp2
      go_roundw
      case rel => exact ⟨k + 1, z ++ [v], r2, by omega, by go_num, hl3.out, hN.out, hR.out.1, hR.out.2.1, hR.out.2.2⟩
      case measure => simp [intOf]; omega
    · obtain rfl : k = n := by omega
      have hF : Hid (pT t most (p16 t) zs = .inr (z, rs)) := by
        unfold Hid; rw [hP.out, hE'.out, Nat.sub_self]; simp [pre, pL, pbind]
      have hp' : Hid (PR wr Rb B rs t) := hp
      clear hp
      go_wp2
      go_ret
      exact .inr ⟨z, rs, _, hF.out, by rw [hz'.out]; exact hn, rfl, hO'.out, hp'.out, hK'.out⟩
set_option maxHeartbeats 2000000 in
set_option maxRecDepth 100000 in
theorem take_i32 (Rb B : Nat) (zs : List Int) (t most : Int) (w : World) (h : PR w Rb B zs t) (hm0 : 0 ≤ most) (hm1 : most ≤ 1000000) :
    Calls Try.prog 92 #[(.pointer (some ⟨Rb, 0, none⟩)), .int .i64 most] w fun r w' => (∃ x, pT t most (p32 t) zs = .inl x ∧ r = fpan x.1 x.2 ∧ Wr.Kept [B] w w') ∨ ∃ z rs v, pT t most (p32 t) zs = .inr (z, rs) ∧ (z.length : Int) ≤ most ∧ r = .returned v ∧ Own .i32 21 w' w.heap.size v z ∧ PR w' Rb B rs t ∧ Wr.Kept [B] w w' := by
  have hlt := h.ltB
  have H : Hid _ := rcount_any Rb B zs t most w h hm0 hm1
  clear h
  go_enter Try.func92, Try.ntmps92
  go_wp2_with fail
  refine Calls.mono H.out ?_
  rintro r w1 (⟨x, hx, rfl, k⟩ | ⟨n, r0, hx, hn, rfl, p, k⟩)
  · exact ⟨rfl, .inl ⟨x, by simp only [pT, pbind, hx], rfl, k⟩⟩
  have hP : Hid (pT t most (p32 t) zs = pre [] (pL (p32 t) n r0)) := by simp only [Hid, pT, hx, pbind_r, Int.toNat_natCast, pre_nil]
  have hp0 : Hid (PR w1 Rb B r0 t ∧ Wr.Kept [B] w w1) := ⟨p, k⟩
  clear hx p k H
  go_wp2
  go_loopw [5, 9] (fun l i wr => ∃ (k : Nat) (z rs : List Int), k ≤ n ∧ i = .int .i64 k ∧ z.length = k ∧ pre [] (pL (p32 t) n r0) = pre z (pL (p32 t) (n - k) rs) ∧ Own .i32 21 wr w.heap.size l z ∧ PR wr Rb B rs t ∧ Wr.Kept [B] w wr) (fun _ i _ => n - (intOf i).toNat)
  case atStart => exact ⟨0, [], r0, Nat.zero_le _, rfl, rfl, rfl, own_none _ _ _ _, hp0.out.1, hp0.out.2⟩
  case round =>
    obtain ⟨k, z, rs, hk, rfl, hz, hE, hO, hp, hK⟩ := hrel
    have hsz := hK.2.2.2.1
    have hz' : Hid (z.length = k) := hz
    have hE' : Hid (pre [] (pL (p32 t) n r0) = pre z (pL (p32 t) (n - k) rs)) := hE
    have hK' : Hid (Wr.Kept [B] w wr) := hK
    obtain ⟨la, lc, rfl⟩ : ∃ la lc, u5 = .slice la k lc := by
      obtain ⟨a, c, e, -⟩ := hO.row
      exact ⟨a, c, by rw [e, hz]⟩
    have hO' : Hid (Own .i32 21 wr w.heap.size (.slice la k lc) z) := hO
    clear hz hE hK hO hp0
    by_cases hlk : k < n
    · obtain ⟨m, hm⟩ : ∃ m, n - k = m + 1 := ⟨n - k - 1, by omega⟩
      have hm' : Hid (n - k = m + 1) := hm
      have H : Hid _ := rsigned_i32 Rb B rs t wr hp
      clear hp hm
      go_wp2_with fail
      refine Calls.mono H.out ?_
      rintro r w2 (⟨x, hx, rfl, k2⟩ | ⟨v, r2, hx, hv, rfl, p2, k2⟩)
      · exact ⟨rfl, .inl ⟨x, by rw [hP.out, hE'.out, hm'.out]; exact pre_bad hx, rfl, hK'.out.trans k2⟩⟩
      have own2 := (own_kept hO'.out k2 hlt).alloc (.cells #[.int .i32 v] 21)
      have hrow := row_one .i32 21 w2 v (inf_i32 hv)
      have hN : Hid (pre [] (pL (p32 t) n r0) = pre (z ++ [v]) (pL (p32 t) (n - (k + 1)) r2)) := by
        unfold Hid; rw [hE'.out, hm'.out, pre_ok hx, show n - (k + 1) = m by have := hm'.out; omega]
      have hp2 : Hid (PR w2 Rb B r2 t) := p2
      have hk2 : Hid (Wr.Kept [B] w w2) := hK'.out.trans k2
      have hs2 := k2.2.2.2.1
      clear hx hv p2 k2 H hE'
      go_wp2_with (at_builtin; refine wpList_app kt_i32 rfl (.tmp 11) (.tmp 14) rfl w.heap.size _ z [v] rfl own2 _ _ _ rfl hrow (by have := hz'.out; simp; omega) (by simp; omega) ?_; intro v3 w3 own3 gr3 nn3)
      have hb3 : Below w.heap.size w2 w3 := own2.bel ((bal w2 _).mono (by omega)) gr3 (Nat.le_refl _) (by simp; omega)
      have hl3 : Hid ((z ++ [v]).length = k + 1) := by unfold Hid; rw [List.length_append, hz'.out]; rfl
      have hR : Hid (Own .i32 21 w3 w.heap.size v3 (z ++ [v]) ∧ PR w3 Rb B r2 t ∧ Wr.Kept [B] w w3) := ⟨own3, hp2.out.keep (hb3.mono (by omega)), kept_below hk2.out hb3⟩
      clear own3 gr3 nn3 hb3 own2 hrow hp2
      go_wp2
      go_roundw
      case rel => exact ⟨k + 1, z ++ [v], r2, by omega, by go_num, hl3.out, hN.out, hR.out.1, hR.out.2.1, hR.out.2.2⟩
      case measure => simp [intOf]; omega
    · obtain rfl : k = n := by omega
      have hF : Hid (pT t most (p32 t) zs = .inr (z, rs)) := by
        unfold Hid; rw [hP.out, hE'.out, Nat.sub_self]; simp [pre, pL, pbind]
      have hp' : Hid (PR wr Rb B rs t) := hp
      clear hp
      go_wp2
      go_ret
      exact .inr ⟨z, rs, _, hF.out, by rw [hz'.out]; exact hn, rfl, hO'.out, hp'.out, hK'.out⟩
end Go.Proofs.Ythagdpiocmcbmaa
