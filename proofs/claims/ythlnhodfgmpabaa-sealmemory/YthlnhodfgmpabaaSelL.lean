/- The reader of package seal: lists. -/
import Derived.Test.YthlnhodfgmpabaaSelR
import Derived.Test.YthlnhodfgmpabaaCrtR
namespace Go.Proofs.Ythlnhodfgmpabaa.Sl
open Wr
open Go.ChangeShapes Go.WideShapes Go.ChangeAt Go.RowKit
set_option linter.unusedVariables false
theorem owns_kept {w w' : World} {base size n : Nat} {e : TypeId} {v : Value} {xs : List Value} {L : List Nat} (h : w.ownsRow base e size v n xs) (q : Wr.Kept L w w') (hL : ∀ i ∈ L, i < base) : w'.ownsRow base e size v n xs := by
  refine ⟨h.1, ?_⟩
  rcases h.2 with h0 | ⟨g, cap, cur, h1, h2, h3, h4⟩
  · exact .inl h0
  · exact .inr ⟨g, cap, cur, h1, h2, (q.2.2.2.2 g (lt_of_heap h3) (fun e => by have := hL g e; omega)).trans h3, h4⟩
theorem qown_kept {w w' : World} {base : Nat} {v : Value} {P : List (List Pl)} {L : List Nat} (h : QOwn w base v P) (q : Wr.Kept L w w') (hL : ∀ i ∈ L, i < base) : QOwn w' base v P := by
  obtain ⟨f, h1, h2, h3⟩ := h
  exact ⟨f, owns_kept h1 q hL, fun i l hl => ⟨owns_kept (h2 i l hl).1 q hL, (h2 i l hl).2⟩, h3⟩
theorem kept_below {w w1 w2 : World} {L : List Nat} (k : Wr.Kept L w w1) (h : Below w.heap.size w1 w2) : Wr.Kept L w w2 :=
  ⟨h.os.trans k.1, h.tape.trans k.2.1, h.output.trans k.2.2.1, Nat.le_trans k.2.2.2.1 h.size, fun i hi hB => (h.block i hi).trans (k.2.2.2.2 i hi hB)⟩
/-- One more list behind lists of lists. -/
theorem QOwn.add {w w' : World} {base B : Nat} {v v' nv : Value} {z : List (List Pl)} {l : List Pl} (f : Nat → Value) (h1 : w.ownsRow base 45 1 v z.length ((List.range z.length).map f))
    (h2 : ∀ i l, z[i]? = some l → w.ownsRow base 47 6 (f i) l.length (l.flatMap pcs) ∧ l.length * 48 ≤ 140737488351232) (h3 : ∀ i j, i < j → j < z.length → ∀ b b', (f i).ownBlock = some b → (f j).ownBlock = some b' → b < b')
    (hB : ∀ i, i < z.length → ∀ b, (f i).ownBlock = some b → b < B) (hn : w.ownsRow B 47 6 nv l.length (l.flatMap pcs)) (hbB : base ≤ B) (hlr : l.length * 48 ≤ 140737488351232) (g : w.grownBy w' v.ownBlock)
    (hown : w'.ownsRow base 45 1 v' (z.length + 1) ((List.range z.length).map f ++ [nv])) : QOwn w' base v' (z ++ [l]) :=
  (QOk.add (P := z ++ [l]) (k := z.length) (l := l) f (fun i l' hi hl' => h2 i l' (by rwa [List.getElem?_append_left hi] at hl')) h3 hB (by simp) hn hbB hlr (owns_ty h1) g hown).all (by simp)
theorem prc_noB {w : World} {Rb B : Nat} {t : Int} (h : PRc w Rb B t) : NoB w Rb := by
  refine ⟨_, _, h, fun i v e => ?_⟩
  match i, e with
  | 0, e => simp at e
  | 1, e => simp at e
  | 2, e => simp at e
  | n + 3, e => simp at e
/-- Where a reader is, written. -/
theorem PR.plan {w : World} {Rb B : Nat} {zs : List Int} {t t' c : Int} (h : PR w Rb B zs t) (h1 : t' / 4096 = t / 4096) (h2 : t' % 4096 = c) : PR (w.setCell ⟨Rb, 2, none⟩ (.int .i64 c)) Rb B zs t' := by
  have hne := h.ne
  obtain ⟨h0, ⟨a, len, cap, g2, g3, g4⟩, h5⟩ := h
  refine ⟨?_, ⟨a, len, cap, by rw [Below.heap_setCell _ _ _ _ (fun e => hne e.symm)]; exact g2, g3.kept Kept.set (by simpa using prc_noB h0), g4⟩, h5⟩
  unfold PRc
  rw [h1, h2]
  exact heap_setCell_at h0
theorem PR.list {w : World} {Rb B : Nat} {zs : List Int} {t t' c : Int} (h : PR w Rb B zs t) (h1 : t' / 4096 = c) (h2 : t' % 4096 = t % 4096) : PR (w.setCell ⟨Rb, 1, none⟩ (.int .i64 c)) Rb B zs t' := by
  have hne := h.ne
  obtain ⟨h0, ⟨a, len, cap, g2, g3, g4⟩, h5⟩ := h
  refine ⟨?_, ⟨a, len, cap, by rw [Below.heap_setCell _ _ _ _ (fun e => hne e.symm)]; exact g2, g3.kept Kept.set (by simpa using prc_noB h0), g4⟩, h5⟩
  unfold PRc
  rw [h1, h2]
  exact heap_setCell_at h0
theorem flat_snoc {α : Type} (E : α → List Value) (z : List α) (p : α) : (z ++ [p]).flatMap E = z.flatMap E ++ E p := by simp
set_option maxHeartbeats 2000000 in
set_option maxRecDepth 100000 in
theorem rranges_any (Rb B : Nat) (zs : List Int) (w : World) (h : PR w Rb B zs 0) :
    Calls Try.prog 45 #[(.pointer (some ⟨Rb, 0, none⟩))] w fun r w' => (∃ x, pRs zs = .inl x ∧ r = fpan x.1 x.2 ∧ Wr.Kept [B] w w') ∨ ∃ z rs v, pRs zs = .inr (z, rs) ∧ z.length ≤ 65 ∧ r = .returned v ∧ w'.ownsRow w.heap.size 44 2 v z.length (z.flatMap scs) ∧ PR w' Rb B rs 0 ∧ Wr.Kept [B] w w' := by
  have hlt := h.ltB
  have H : Hid _ := rcount_any Rb B zs 0 65 w h (by omega) (by omega)
  obtain ⟨i0, hi1, hz0, hz1, hz2⟩ := info_parts (show (Try.prog.info? 44).map (fun i => (i.zero, i.size, i.bytes)) = some (some (.agg #[.int .i64 0, .int .i64 0]), 2, 16) by kernel_rfl)
  clear h
  go_enter Try.func45, Try.ntmps45
  go_wp2_with fail
  refine Calls.mono H.out ?_
  rintro r w1 (⟨x, hx, rfl, k⟩ | ⟨n, r0, hx, hn, rfl, p, k⟩)
  · exact ⟨rfl, .inl ⟨x, by simp only [pRs, pbind, hx], rfl, k⟩⟩
  have hP : Hid (pRs zs = preI [] (pI (fun _ => pSp 0) n 0 r0)) := by simp only [Hid, pRs, hx, pbind_r, Int.toNat_natCast, preI_nil]
  have hp0 : Hid (PR w1 Rb B r0 0 ∧ Wr.Kept [B] w w1) := ⟨p, k⟩
  have hn65 : n ≤ 65 := by omega
  clear hx p k H hn
  go_wp2
  go_loopw [3, 6] (fun l i wr => ∃ (k : Nat) (z : List (Int × Int)) (rs : List Int), k ≤ n ∧ i = .int .i64 k ∧ z.length = k ∧ preI [] (pI (fun _ => pSp 0) n 0 r0) = preI z (pI (fun _ => pSp 0) (n - k) k rs) ∧ wr.ownsRow w.heap.size 44 2 l z.length (z.flatMap scs) ∧ PR wr Rb B rs 0 ∧ Wr.Kept [B] w wr) (fun _ i _ => n - (intOf i).toNat)
  case atStart => exact ⟨0, [], r0, Nat.zero_le _, rfl, rfl, rfl, World.ownsRow_nil _ _ _ _, hp0.out.1, hp0.out.2⟩
  case round =>
    obtain ⟨k, z, rs, hk, rfl, hz, hE, hO, hp, hK⟩ := hrel
    have hsz := hK.2.2.2.1
    rw [hz] at hO
    have hz' : Hid (z.length = k) := hz
    have hE' : Hid (preI [] (pI (fun _ => pSp 0) n 0 r0) = preI z (pI (fun _ => pSp 0) (n - k) k rs)) := hE
    have hK' : Hid (Wr.Kept [B] w wr) := hK
    obtain ⟨la, lc, rfl⟩ := owns_slice hO
    have hO' : Hid (wr.ownsRow w.heap.size 44 2 (.slice la k lc) k (z.flatMap scs)) := hO
    clear hz hE hK hO hp0
    by_cases hlk : k < n
    · obtain ⟨m, hm⟩ : ∃ m, n - k = m + 1 := ⟨n - k - 1, by omega⟩
      have hm' : Hid (n - k = m + 1) := hm
      have H : Hid _ := rspan_any Rb B rs 0 wr hp
      clear hp hm
      go_wp2_with fail
      refine Calls.mono H.out ?_
      rintro r w2 (⟨x, hx, rfl, k2⟩ | ⟨v1, v2, r2, hx, rfl, p2, k2⟩)
      · exact ⟨rfl, .inl ⟨x, by rw [hP.out, hE'.out, hm'.out]; exact preI_bad hx, rfl, hK'.out.trans k2⟩⟩
      have own2 := owns_below (owns_kept hO'.out k2 (by simpa using hlt)) (bal w2 (.cells #[.int .i64 v1, .int .i64 v2] 44))
      have hN : Hid (preI [] (pI (fun _ => pSp 0) n 0 r0) = preI (z ++ [(v1, v2)]) (pI (fun _ => pSp 0) (n - (k + 1)) (k + 1) r2)) := by
        unfold Hid; rw [hE'.out, hm'.out, preI_ok (p := fun _ => pSp 0) hx, show n - (k + 1) = m by have := hm'.out; omega]
      have hp2 : Hid (PR w2 Rb B r2 0) := p2
      have hk2 : Hid (Wr.Kept [B] w w2) := hK'.out.trans k2
      have hs2 := k2.2.2.2.1
      clear hx p2 k2 H hE'
      go_wp2_with (at_builtin; refine wpList_append_own _ rfl (.tmp 8) (.tmp 11) 22 rfl w.heap.size 44 i0 _ 2 16 Try.underlying22 hi1 hz0 hz1 hz2 rfl (by decide) (.slice la k lc) k (z.flatMap scs) rfl own2 ⟨w2.heap.size, 0, none⟩ 1 1 [.int .i64 v1, .int .i64 v2] rfl rfl (ecells (heap_alloc_new w2 _)) (by simp [Value.oneCell']) (by unfold maxLen; omega) (by omega) (by simp; omega) ?_; intro v3 w3 own3 gr3 nn3)
      have hb3 : Below w.heap.size w2 w3 := ((bal w2 _).mono (by omega)).grown gr3 (by simp; omega) (fun b e => (own2.lt b e).1)
      have hl3 : Hid ((z ++ [(v1, v2)]).length = k + 1) := by unfold Hid; rw [List.length_append, hz'.out]; rfl
      have hR : Hid (w3.ownsRow w.heap.size 44 2 v3 (z ++ [(v1, v2)]).length ((z ++ [(v1, v2)]).flatMap scs) ∧ PR w3 Rb B r2 0 ∧ Wr.Kept [B] w w3) := ⟨by rw [hl3.out, flat_snoc]; exact own3, hp2.out.keep (hb3.mono (by omega)), kept_below hk2.out hb3⟩
      clear own3 gr3 nn3 hb3 own2 hp2
      go_wp2
      go_roundw
      case rel => exact ⟨k + 1, z ++ [(v1, v2)], r2, by omega, by go_num, hl3.out, hN.out, hR.out.1, hR.out.2.1, hR.out.2.2⟩
      case measure => simp [intOf]; omega
    · obtain rfl : k = n := by omega
      have hF : Hid (pRs zs = .inr (z, rs)) := by unfold Hid; rw [hP.out, hE'.out, Nat.sub_self]; exact preI_end z rs k
      have hp' : Hid (PR wr Rb B rs 0) := hp
      clear hp
      go_wp2
      go_ret
      exact .inr ⟨z, rs, hF.out, by rw [hz'.out]; exact hn65, .slice la k lc, rfl, by rw [hz'.out]; exact hO'.out, hp'.out, hK'.out⟩
set_option maxHeartbeats 2000000 in
set_option maxRecDepth 100000 in
theorem rplans_any (Rb B : Nat) (zs : List Int) (o : Int) (w : World) (h : PR w Rb B zs (o * 4096)) (ho : 0 ≤ o ∧ o ≤ 1000) :
    Calls Try.prog 60 #[(.pointer (some ⟨Rb, 0, none⟩))] w fun r w' => (∃ x, pLi o zs = .inl x ∧ r = fpan x.1 x.2 ∧ Wr.Kept [B, Rb] w w') ∨ ∃ z rs v, pLi o zs = .inr (z, rs) ∧ z.length ≤ 1024 ∧ r = .returned v ∧ w'.ownsRow w.heap.size 47 6 v z.length (z.flatMap pcs) ∧ PR w' Rb B rs (o * 4096) ∧ Wr.Kept [B, Rb] w w' := by
  have hlt := h.ltB
  have hRB := h.2.2
  have H : Hid _ := rcount_any Rb B zs (o * 4096) 1024 w h (by omega) (by omega)
  obtain ⟨i0, hi1, hz0, hz1, hz2⟩ := info_parts (show (Try.prog.info? 47).map (fun i => (i.zero, i.size, i.bytes)) = some (some (.agg #[.int .i64 0, .int .i64 0, .int .i64 0, .int .i64 0, .int .i64 0, .int .i64 0]), 6, 48) by kernel_rfl)
  clear h
  go_enter Try.func60, Try.ntmps60
  go_wp2_with fail
  refine Calls.mono H.out ?_
  rintro r w1 (⟨x, hx, rfl, k⟩ | ⟨n, r0, hx, hn, rfl, p, k⟩)
  · exact ⟨rfl, .inl ⟨x, by simp only [pLi, pbind, hx], rfl, k.wide (by simp)⟩⟩
  have hP : Hid (pLi o zs = preI [] (pI (fun k => pPl (o * 4096 + ((k : Int) + 1))) n 0 r0)) := by simp only [Hid, pLi, hx, pbind_r, Int.toNat_natCast, preI_nil]
  have hp0 : Hid (PR w1 Rb B r0 (o * 4096) ∧ Wr.Kept [B, Rb] w w1) := ⟨p, k.wide (by simp)⟩
  have hn24 : n ≤ 1024 := by omega
  clear hx p k H hn
  go_wp2
  go_loopw [3, 7] (fun l i wr => ∃ (k : Nat) (z : List Pl) (rs : List Int) (tt : Int), k ≤ n ∧ i = .int .i64 k ∧ z.length = k ∧ tt / 4096 = o ∧ preI [] (pI (fun k => pPl (o * 4096 + ((k : Int) + 1))) n 0 r0) = preI z (pI (fun k => pPl (o * 4096 + ((k : Int) + 1))) (n - k) k rs) ∧ wr.ownsRow w.heap.size 47 6 l z.length (z.flatMap pcs) ∧ PR wr Rb B rs tt ∧ Wr.Kept [B, Rb] w wr) (fun _ i _ => n - (intOf i).toNat)
  case atStart => exact ⟨0, [], r0, o * 4096, Nat.zero_le _, rfl, rfl, by omega, rfl, World.ownsRow_nil _ _ _ _, hp0.out.1, hp0.out.2⟩
  case round =>
    obtain ⟨k, z, rs, tt, hk, rfl, hz, htt, hE, hO, hp, hK⟩ := hrel
    have hsz := hK.2.2.2.1
    rw [hz] at hO
    have hz' : Hid (z.length = k) := hz
    have hE' : Hid (preI [] (pI (fun k => pPl (o * 4096 + ((k : Int) + 1))) n 0 r0) = preI z (pI (fun k => pPl (o * 4096 + ((k : Int) + 1))) (n - k) k rs)) := hE
    have hK' : Hid (Wr.Kept [B, Rb] w wr) := hK
    obtain ⟨la, lc, rfl⟩ := owns_slice hO
    have hO' : Hid (wr.ownsRow w.heap.size 47 6 (.slice la k lc) k (z.flatMap pcs)) := hO
    obtain ⟨c1, f1, y1⟩ := cells_at hp.1
    have htt' : Hid (tt / 4096 = o) := htt
    clear hz hE hK hO hp0 htt
    by_cases hlk : k < n
    · obtain ⟨m, hm⟩ : ∃ m, n - k = m + 1 := ⟨n - k - 1, by omega⟩
      have hm' : Hid (n - k = m + 1) := hm
      have hp1 := hp.plan (t' := o * 4096 + ((k : Int) + 1)) (c := (k : Int) + 1) (by have := htt'.out; omega) (by omega)
      have H : Hid _ := oneplan_any Rb B rs (o * 4096 + ((k : Int) + 1)) _ hp1
      have hO1 : Hid ((wr.setCell ⟨Rb, 2, none⟩ (.int .i64 ((k : Int) + 1))).ownsRow w.heap.size 47 6 (.slice la k lc) k (z.flatMap pcs)) := owns_kept (L := [Rb]) hO'.out Kept.set (by simp; omega)
      have hK1 : Hid (Wr.Kept [B, Rb] w (wr.setCell ⟨Rb, 2, none⟩ (.int .i64 ((k : Int) + 1)))) := hK'.out.trans ((Kept.set (B := Rb)).wide (by simp))
      clear hp hp1 hm hK' hO'
      go_wp2_with fail
      refine Calls.mono H.out ?_
      rintro r w2 (⟨x, hx, rfl, k2⟩ | ⟨v1, v2, v3, v4, v5, v6, r2, hx, rfl, p2, k2⟩)
      · exact ⟨rfl, .inl ⟨x, by rw [hP.out, hE'.out, hm'.out]; exact preI_bad (p := (fun k => pPl (o * 4096 + ((k : Int) + 1)))) hx, rfl, hK1.out.trans (k2.wide (by simp))⟩⟩
      have hs2 := k2.2.2.2.1
      simp only [World.size_setCell] at hs2
      have own2 := owns_below (owns_kept hO1.out k2 (by simpa using hlt)) (bal w2 (.cells #[.int .i64 v1, .int .i64 v2, .int .i64 v3, .int .i64 v4, .int .i64 v5, .int .i64 v6] 47))
      have hN : Hid (preI [] (pI (fun k => pPl (o * 4096 + ((k : Int) + 1))) n 0 r0) = preI (z ++ [(v1, v2, v3, v4, v5, v6)]) (pI (fun k => pPl (o * 4096 + ((k : Int) + 1))) (n - (k + 1)) (k + 1) r2)) := by
        unfold Hid; rw [hE'.out, hm'.out, preI_ok (p := (fun k => pPl (o * 4096 + ((k : Int) + 1)))) hx, show n - (k + 1) = m by have := hm'.out; omega]
      have hp2 : Hid (PR w2 Rb B r2 (o * 4096 + ((k : Int) + 1))) := p2
      have hk2 : Hid (Wr.Kept [B, Rb] w w2) := hK1.out.trans (k2.wide (by simp))
      clear hx p2 k2 H hE' hO1 hK1 c1 f1
      go_wp2_with (at_builtin; refine wpList_append_own _ rfl (.tmp 15) (.tmp 18) 45 rfl w.heap.size 47 i0 _ 6 48 Try.underlying45 hi1 hz0 hz1 hz2 rfl (by decide) (.slice la k lc) k (z.flatMap pcs) rfl own2 ⟨w2.heap.size, 0, none⟩ 1 1 [.int .i64 v1, .int .i64 v2, .int .i64 v3, .int .i64 v4, .int .i64 v5, .int .i64 v6] rfl rfl (ecells (heap_alloc_new w2 _)) (by simp [Value.oneCell']) (by unfold maxLen; omega) (by omega) (by simp; omega) ?_; intro u3 w3 own3 gr3 nn3)
      have hb3 : Below w.heap.size w2 w3 := ((bal w2 _).mono (by omega)).grown gr3 (by simp; omega) (fun b e => (own2.lt b e).1)
      have hl3 : Hid ((z ++ [(v1, v2, v3, v4, v5, v6)]).length = k + 1) := by unfold Hid; rw [List.length_append, hz'.out]; rfl
      have hR : Hid (w3.ownsRow w.heap.size 47 6 u3 (z ++ [(v1, v2, v3, v4, v5, v6)]).length ((z ++ [(v1, v2, v3, v4, v5, v6)]).flatMap pcs) ∧ PR w3 Rb B r2 (o * 4096 + ((k : Int) + 1)) ∧ Wr.Kept [B, Rb] w w3) := ⟨by rw [hl3.out, flat_snoc]; exact own3, hp2.out.keep (hb3.mono (by omega)), kept_below hk2.out hb3⟩
      clear own3 gr3 nn3 hb3 own2 hp2
      go_wp2
      go_roundw
      case rel => exact ⟨k + 1, z ++ [(v1, v2, v3, v4, v5, v6)], r2, o * 4096 + ((k : Int) + 1), by omega, by go_num, hl3.out, by omega, hN.out, hR.out.1, hR.out.2.1, hR.out.2.2⟩
      case measure => simp [intOf]; omega
    · obtain rfl : k = n := by omega
      have hF : Hid (pLi o zs = .inr (z, rs)) := by unfold Hid; rw [hP.out, hE'.out, Nat.sub_self]; exact preI_end z rs k
      have hp' : Hid (PR (wr.setCell ⟨Rb, 2, none⟩ (.int .i64 0)) Rb B rs (o * 4096)) := hp.plan (by have := htt'.out; omega) (by omega)
      have hO1 : Hid ((wr.setCell ⟨Rb, 2, none⟩ (.int .i64 0)).ownsRow w.heap.size 47 6 (.slice la k lc) k (z.flatMap pcs)) := owns_kept (L := [Rb]) hO'.out Kept.set (by simp; omega)
      have hK1 : Hid (Wr.Kept [B, Rb] w (wr.setCell ⟨Rb, 2, none⟩ (.int .i64 0))) := hK'.out.trans ((Kept.set (B := Rb)).wide (by simp))
      clear hp
      go_wp2
      go_ret
      exact .inr ⟨z, rs, _, hF.out, by rw [hz'.out]; exact hn24, rfl, by rw [hz'.out]; exact hO1.out, hp'.out, hK1.out⟩
set_option maxHeartbeats 2000000 in
set_option maxRecDepth 100000 in
theorem rlists_any (Rb B : Nat) (zs : List Int) (w : World) (h : PR w Rb B zs 0) :
    Calls Try.prog 46 #[(.pointer (some ⟨Rb, 0, none⟩))] w fun r w' => (∃ x, pLs zs = .inl x ∧ r = fpan x.1 x.2 ∧ Wr.Kept [B, Rb] w w') ∨ ∃ z rs v, pLs zs = .inr (z, rs) ∧ z.length ≤ 64 ∧ r = .returned v ∧ QOwn w' w.heap.size v z ∧ PR w' Rb B rs 0 ∧ Wr.Kept [B, Rb] w w' := by
  have hlt := h.ltB
  have hRB := h.2.2
  have H : Hid _ := rcount_any Rb B zs 0 64 w h (by omega) (by omega)
  obtain ⟨i0, hi1, hz0, hz1, hz2⟩ := info_parts (show (Try.prog.info? 45).map (fun i => (i.zero, i.size, i.bytes)) = some (some (.slice none 0 0), 1, 24) by kernel_rfl)
  clear h
  go_enter Try.func46, Try.ntmps46
  go_wp2_with fail
  refine Calls.mono H.out ?_
  rintro r w1 (⟨x, hx, rfl, k⟩ | ⟨n, r0, hx, hn, rfl, p, k⟩)
  · exact ⟨rfl, .inl ⟨x, by simp only [pLs, pbind, hx], rfl, k.wide (by simp)⟩⟩
  have hP : Hid (pLs zs = preI [] (pI (fun i => pLi ((i : Int) + 1)) n 0 r0)) := by simp only [Hid, pLs, hx, pbind_r, Int.toNat_natCast, preI_nil]
  have hp0 : Hid (PR w1 Rb B r0 0 ∧ Wr.Kept [B, Rb] w w1) := ⟨p, k.wide (by simp)⟩
  have hn64 : n ≤ 64 := by omega
  clear hx p k H hn
  go_wp2
  go_loopw [3, 7] (fun l i wr => ∃ (k : Nat) (z : List (List Pl)) (rs : List Int) (tt : Int), k ≤ n ∧ i = .int .i64 k ∧ z.length = k ∧ tt % 4096 = 0 ∧ preI [] (pI (fun i => pLi ((i : Int) + 1)) n 0 r0) = preI z (pI (fun i => pLi ((i : Int) + 1)) (n - k) k rs) ∧ QOwn wr w.heap.size l z ∧ PR wr Rb B rs tt ∧ Wr.Kept [B, Rb] w wr) (fun _ i _ => n - (intOf i).toNat)
  case atStart => exact ⟨0, [], r0, 0, Nat.zero_le _, rfl, rfl, by omega, rfl, QOwn.nil _ _, hp0.out.1, hp0.out.2⟩
  case round =>
    obtain ⟨k, z, rs, tt, hk, rfl, hz, htt, hE, hO, hp, hK⟩ := hrel
    have hsz := hK.2.2.2.1
    have hz' : Hid (z.length = k) := hz
    have hE' : Hid (preI [] (pI (fun i => pLi ((i : Int) + 1)) n 0 r0) = preI z (pI (fun i => pLi ((i : Int) + 1)) (n - k) k rs)) := hE
    have hK' : Hid (Wr.Kept [B, Rb] w wr) := hK
    obtain ⟨la, lc, hla⟩ := hO.slice
    rw [hz] at hla
    subst hla
    have hO' : Hid (QOwn wr w.heap.size (.slice la k lc) z) := hO
    obtain ⟨c1, f1, y1⟩ := cells_at hp.1
    have htt' : Hid (tt % 4096 = 0) := htt
    clear hz hE hK hO hp0 htt
    by_cases hlk : k < n
    · obtain ⟨m, hm⟩ : ∃ m, n - k = m + 1 := ⟨n - k - 1, by omega⟩
      have hm' : Hid (n - k = m + 1) := hm
      have hp1 := hp.list (t' := ((k : Int) + 1) * 4096) (c := (k : Int) + 1) (by omega) (by have := htt'.out; omega)
      have H : Hid _ := rplans_any Rb B rs ((k : Int) + 1) _ hp1 (by omega)
      have hO1 : Hid (QOwn (wr.setCell ⟨Rb, 1, none⟩ (.int .i64 ((k : Int) + 1))) w.heap.size (.slice la k lc) z) := qown_kept (L := [Rb]) hO'.out Kept.set (by simp; omega)
      have hK1 : Hid (Wr.Kept [B, Rb] w (wr.setCell ⟨Rb, 1, none⟩ (.int .i64 ((k : Int) + 1)))) := hK'.out.trans ((Kept.set (B := Rb)).wide (by simp))
      clear hp hp1 hm hK' hO'
      go_wp2_with fail
      refine Calls.mono H.out ?_
      rintro r w2 (⟨x, hx, rfl, k2⟩ | ⟨l, r2, nv, hx, hl24, rfl, ol, p2, k2⟩)
      · exact ⟨rfl, .inl ⟨x, by rw [hP.out, hE'.out, hm'.out]; exact preI_bad (p := (fun i => pLi ((i : Int) + 1))) hx, rfl, hK1.out.trans k2⟩⟩
      have hs2 := k2.2.2.2.1
      simp only [World.size_setCell] at hs2 ol
      obtain ⟨na, nc, rfl⟩ := owns_slice ol
      obtain ⟨ln, hln⟩ : ∃ ln, l.length = ln := ⟨_, rfl⟩
      rw [hln] at ol ⊢
      have HLN : Hid (l.length = ln) := hln
      have hl24' : ln ≤ 1024 := by omega
      obtain ⟨f, q1, q2, q3⟩ := hO1.out
      have hlt1 : ∀ i, i < z.length → ∀ b, (f i).ownBlock = some b → b < wr.heap.size := fun i hi b hb => by
        have := ((q2 i z[i] (List.getElem?_eq_getElem hi)).1.lt b hb).2
        simpa using this
      have HB : Hid (∀ i, i < z.length → ∀ b, (f i).ownBlock = some b → b < wr.heap.size) := hlt1
      have K2 := k2
      have own1 := owns_below (owns_kept q1 k2 (by simp; omega)) (bal w2 (.cells #[.slice na ln nc] 45))
      rw [hz'.out] at own1
      have Q2 : Hid (∀ i l', z[i]? = some l' → (w2.alloc (.cells #[.slice na ln nc] 45)).ownsRow w.heap.size 47 6 (f i) l'.length (l'.flatMap pcs) ∧ l'.length * 48 ≤ 140737488351232) := fun i l' hl' => ⟨owns_below (owns_kept (q2 i l' hl').1 k2 (by simp; omega)) (bal _ _), (q2 i l' hl').2⟩
      have Q3 : Hid (∀ i j, i < j → j < z.length → ∀ b b', (f i).ownBlock = some b → (f j).ownBlock = some b' → b < b') := q3
      have OL : Hid ((w2.alloc (.cells #[.slice na ln nc] 45)).ownsRow wr.heap.size 47 6 (.slice na ln nc) ln (l.flatMap pcs)) := owns_below ol (bal _ _)
      have hN : Hid (preI [] (pI (fun i => pLi ((i : Int) + 1)) n 0 r0) = preI (z ++ [l]) (pI (fun i => pLi ((i : Int) + 1)) (n - (k + 1)) (k + 1) r2)) := by
        unfold Hid; rw [hE'.out, hm'.out, preI_ok (p := (fun i => pLi ((i : Int) + 1))) hx, show n - (k + 1) = m by have := hm'.out; omega]
      have hp2 : Hid (PR w2 Rb B r2 (((k : Int) + 1) * 4096)) := p2
      have hk2 : Hid (Wr.Kept [B, Rb] w w2) := hK1.out.trans k2
      clear hx p2 k2 K2 H hE' hO1 hK1 c1 f1 q1 q2 q3 hlt1 hln hl24 ol
      go_wp2_with (at_builtin; refine wpList_append_own _ rfl (.tmp 15) (.tmp 18) 23 rfl w.heap.size 45 i0 _ 1 24 Try.underlying23 hi1 hz0 hz1 hz2 rfl (by decide) (.slice la k lc) k ((List.range k).map f) rfl own1 ⟨w2.heap.size, 0, none⟩ 1 1 [.slice na ln nc] rfl rfl new1 (by simp [Value.oneCell']) (by unfold maxLen; omega) (by omega) (by simp; omega) ?_; intro u3 w3 own3 gr3 nn3)
      have hb3 : Below w.heap.size w2 w3 := ((bal w2 _).mono (by omega)).grown gr3 (by simp; omega) (fun b e => (own1.lt b e).1)
      have hl3 : Hid ((z ++ [l]).length = k + 1) := by unfold Hid; rw [List.length_append, hz'.out]; rfl
      have hQ3 : QOwn w3 w.heap.size u3 (z ++ [l]) := QOwn.add (B := wr.heap.size) f (by rw [hz'.out]; exact own1) Q2.out Q3.out HB.out (by rw [HLN.out]; exact OL.out) hsz (by rw [HLN.out]; omega) gr3 (by rw [hz'.out]; exact own3)
      have hR : Hid (QOwn w3 w.heap.size u3 (z ++ [l]) ∧ PR w3 Rb B r2 (((k : Int) + 1) * 4096) ∧ Wr.Kept [B, Rb] w w3) := ⟨hQ3, hp2.out.keep (hb3.mono (by omega)), kept_below hk2.out hb3⟩
      clear own3 gr3 nn3 hb3 own1 hp2 hQ3 Q2 Q3 OL HB
      go_wp2
      go_roundw
      case rel => exact ⟨k + 1, z ++ [l], r2, ((k : Int) + 1) * 4096, by omega, by go_num, hl3.out, by omega, hN.out, hR.out.1, hR.out.2.1, hR.out.2.2⟩
      case measure => simp [intOf]; omega
    · obtain rfl : k = n := by omega
      have hF : Hid (pLs zs = .inr (z, rs)) := by unfold Hid; rw [hP.out, hE'.out, Nat.sub_self]; exact preI_end z rs k
      have hp' : Hid (PR (wr.setCell ⟨Rb, 1, none⟩ (.int .i64 0)) Rb B rs 0) := hp.list (by omega) (by have := htt'.out; omega)
      have hO1 : Hid (QOwn (wr.setCell ⟨Rb, 1, none⟩ (.int .i64 0)) w.heap.size (.slice la k lc) z) := qown_kept (L := [Rb]) hO'.out Kept.set (by simp; omega)
      have hK1 : Hid (Wr.Kept [B, Rb] w (wr.setCell ⟨Rb, 1, none⟩ (.int .i64 0))) := hK'.out.trans ((Kept.set (B := Rb)).wide (by simp))
      clear hp
      go_wp2
      go_ret
      exact .inr ⟨z, rs, _, hF.out, by rw [hz'.out]; exact hn64, rfl, hO1.out, hp'.out, hK1.out⟩
end Go.Proofs.Ythlnhodfgmpabaa.Sl
