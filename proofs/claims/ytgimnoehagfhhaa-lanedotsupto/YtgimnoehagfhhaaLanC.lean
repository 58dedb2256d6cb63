/- What lane's gathered, spilled, refused, trackOf return; Dot. -/
import Derived.Test.YtgimnoehagfhhaaLanB
namespace Go.Proofs.Ytgimnoehagfhhaa
open Go.ChangeShapes Go.WideShapes Go.ChangeAt Go.RowKit
set_option linter.unusedVariables false
/-! ### The errors -/
def rfE (n m wd dp : Int) : Int := if n ≠ m ∨ n = 0 then 70 else if wd ≠ 16 ∧ wd ≠ 32 then 150 else if dp < 1 ∨ n < dp ∨ (wd = 32 ∧ dp ≠ n) then 151 else 0
set_option maxHeartbeats 1000000 in
theorem lref_any (n m wd dp : Int) (w : World) (hn : 0 ≤ n) (E : Int) (hE : rfE n m wd dp = E) :
    Calls Try.prog 29 #[.int .i64 n, .int .i64 m, .int .i64 wd, .int .i64 dp] w fun e w' => e = .returned (.int .i64 E) ∧ w' = w := by
  unfold rfE at hE
  by_cases h1 : n = m
  · by_cases h2 : n = 0
    · rw [if_pos (.inr h2)] at hE
      subst hE h1
      have h3 : n < 1 := by omega
      go_enter Try.func29, Try.ntmps29
      go_wp2
      go_ret
      exact ⟨rfl, rfl⟩
    · rw [if_neg (by omega)] at hE
      subst h1
      have h3 : ¬ n < 1 := by omega
      by_cases h4 : wd = 16
      · rw [if_neg (by omega)] at hE
        subst h4
        by_cases h5 : dp < 1
        · rw [if_pos (by omega)] at hE
          subst hE
          go_enter Try.func29, Try.ntmps29
          go_wp2
          go_ret
          exact ⟨rfl, rfl⟩
        · by_cases h6 : n < dp
          · rw [if_pos (by omega)] at hE
            subst hE
            go_enter Try.func29, Try.ntmps29
            go_wp2
            go_ret
            exact ⟨rfl, rfl⟩
          · rw [if_neg (by omega)] at hE
            subst hE
            go_enter Try.func29, Try.ntmps29
            go_wp2
            go_ret
            exact ⟨rfl, rfl⟩
      · by_cases h7 : wd = 32
        · rw [if_neg (by omega)] at hE
          subst h7
          clear h4
          by_cases h5 : dp < 1
          · rw [if_pos (by omega)] at hE
            subst hE
            go_enter Try.func29, Try.ntmps29
            go_wp2
            go_ret
            exact ⟨rfl, rfl⟩
          · by_cases h6 : n < dp
            · rw [if_pos (by omega)] at hE
              subst hE
              go_enter Try.func29, Try.ntmps29
              go_wp2
              go_ret
              exact ⟨rfl, rfl⟩
            · by_cases h8 : dp = n
              · rw [if_neg (by omega)] at hE
                subst hE h8
                go_enter Try.func29, Try.ntmps29
                go_wp2
                go_ret
                exact ⟨rfl, rfl⟩
              · rw [if_pos (by omega)] at hE
                subst hE
                go_enter Try.func29, Try.ntmps29
                go_wp2
                go_ret
                exact ⟨rfl, rfl⟩
        · rw [if_pos (by omega)] at hE
          subst hE
          have e1 : (wd != 16) = true := by simp [h4]
          have e2 : (wd != 32) = true := by simp [h7]
          go_enter Try.func29, Try.ntmps29
          go_wp2
          go_ret
          exact ⟨rfl, rfl⟩
  · rw [if_pos (.inl h1)] at hE
    subst hE
    go_enter Try.func29, Try.ntmps29
    go_wp2
    go_ret
    exact ⟨rfl, rfl⟩
set_option maxHeartbeats 1000000 in
theorem rref_any (n m wd dp : Int) (w : World) (hn : 0 ≤ n) (E : Int) (hE : rfE n m wd dp = E) :
    Calls Try.prog 21 #[.int .i64 n, .int .i64 m, .int .i64 wd, .int .i64 dp] w fun e w' => e = .returned (.int .i64 E) ∧ w' = w := by
  unfold rfE at hE
  by_cases h1 : n = m
  · by_cases h2 : n = 0
    · rw [if_pos (.inr h2)] at hE
      subst hE h1
      have h3 : n < 1 := by omega
      go_enter Try.func21, Try.ntmps21
      go_wp2
      go_ret
      exact ⟨rfl, rfl⟩
    · rw [if_neg (by omega)] at hE
      subst h1
      have h3 : ¬ n < 1 := by omega
      by_cases h4 : wd = 16
      · rw [if_neg (by omega)] at hE
        subst h4
        by_cases h5 : dp < 1
        · rw [if_pos (by omega)] at hE
          subst hE
          go_enter Try.func21, Try.ntmps21
          go_wp2
          go_ret
          exact ⟨rfl, rfl⟩
        · by_cases h6 : n < dp
          · rw [if_pos (by omega)] at hE
            subst hE
            go_enter Try.func21, Try.ntmps21
            go_wp2
            go_ret
            exact ⟨rfl, rfl⟩
          · rw [if_neg (by omega)] at hE
            subst hE
            go_enter Try.func21, Try.ntmps21
            go_wp2
            go_ret
            exact ⟨rfl, rfl⟩
      · by_cases h7 : wd = 32
        · rw [if_neg (by omega)] at hE
          subst h7
          clear h4
          by_cases h5 : dp < 1
          · rw [if_pos (by omega)] at hE
            subst hE
            go_enter Try.func21, Try.ntmps21
            go_wp2
            go_ret
            exact ⟨rfl, rfl⟩
          · by_cases h6 : n < dp
            · rw [if_pos (by omega)] at hE
              subst hE
              go_enter Try.func21, Try.ntmps21
              go_wp2
              go_ret
              exact ⟨rfl, rfl⟩
            · by_cases h8 : dp = n
              · rw [if_neg (by omega)] at hE
                subst hE h8
                go_enter Try.func21, Try.ntmps21
                go_wp2
                go_ret
                exact ⟨rfl, rfl⟩
              · rw [if_pos (by omega)] at hE
                subst hE
                go_enter Try.func21, Try.ntmps21
                go_wp2
                go_ret
                exact ⟨rfl, rfl⟩
        · rw [if_pos (by omega)] at hE
          subst hE
          have e1 : (wd != 16) = true := by simp [h4]
          have e2 : (wd != 32) = true := by simp [h7]
          go_enter Try.func21, Try.ntmps21
          go_wp2
          go_ret
          exact ⟨rfl, rfl⟩
  · rw [if_pos (.inl h1)] at hE
    subst hE
    go_enter Try.func21, Try.ntmps21
    go_wp2
    go_ret
    exact ⟨rfl, rfl⟩
/-! ### Products added one by one -/
set_option maxHeartbeats 2000000 in
theorem lga_i16 (t0 : Ty) (r0 n0 : Int) (wa xa : Option Addr) (n wc xc : Nat) (zs ys : List Int) (W0 W : World) (B : Nat) (l : List (Nat × Array Value × TypeId)) (s : St W0 W ((B, t0.cs, 67) :: l)) (hl : ∀ x ∈ l, x.1 ≠ B) (ht : t0.ok n0) (hn : n0 + n ≤ 900000000000000) (hr0 : -32768 ≤ r0 ∧ r0 ≤ 32767)
    (hw : IRow .i16 W0 wa n wc zs) (hx : IRow .i8 W0 xa n xc ys) (F : Ty × Int) (hF : gaT 32768 t0 r0 (pz zs ys) = F) :
    Calls Try.prog 40 #[.pointer (some ⟨B, 0, none⟩), .int .i16 r0, .slice wa n wc, .slice xa n xc] W fun e w' => e = .returned (.int .i16 F.2) ∧ St W0 w' ((B, F.1.cs, 67) :: l) := by
  have hlz : Hid (zs.length = n) := hw.1
  have hly : Hid (ys.length = n) := hx.1
  have hcm := hw.2.1
  have hmm := hw.2.2.1
  have hcx := hx.2.1
  have hmx := hx.2.2.1
  unfold maxLen at hmm hmx
  have HT : Hid (t0.ok n0) := ht
  have HL : Hid (∀ x ∈ l, x.1 ≠ B) := hl
  have HS : Hid (St W0 W ((B, t0.cs, 67) :: l)) := s
  have HF : Hid (gaT 32768 t0 r0 (pz zs ys) = F) := hF
  clear ht hl s hF
  go_enter Try.func40, Try.ntmps40
  go_wp2
  go_loopw [1, 13] (fun v i wr => ∃ (k : Nat) (r : Int) (t : Ty), k ≤ n ∧ i = .int .i64 k ∧ v = .int .i16 r ∧ (-32768 ≤ r ∧ r ≤ 32767) ∧ t.ok (n0 + k) ∧ St W0 wr ((B, t.cs, 67) :: l) ∧ gaT 32768 t r ((pz zs ys).drop k) = F) (fun _ i _ => n - (intOf i).toNat)
  case atStart => exact ⟨0, r0, t0, Nat.zero_le _, rfl, rfl, hr0, by have := HT.out; simpa using this, HS.out, HF.out⟩
  case round =>
    obtain ⟨k, r, t, hk, rfl, rfl, hrb, htk, sk, hgk⟩ := hrel
    by_cases hlt : k < n
    · obtain ⟨x, d, rfl, hc, hwf, -, hdr⟩ := (hw.below sk.below).at hlt
      obtain ⟨y, c, rfl, hc2, hwf2, -, hdr2⟩ := (hx.below sk.below).at hlt
      have hdb := wf_i16 hwf
      have hcb := wf_i8 hwf2
      have HP : Hid ((pz zs ys).drop k = d * c :: (pz zs ys).drop (k + 1)) := pz_at hdr hdr2
      rw [HP.out] at hgk
      have HG : Hid (gaT 32768 (t.ma 32768 r (d * c)) (wrapN 32768 (r + wrapN 32768 (d * c))) ((pz zs ys).drop (k + 1)) = F) := hgk
      have HTM : Hid ((t.ma 32768 r (d * c)).ok (n0 + k + 1)) := htk.ma (by omega) _ _
      have HM : Hid (Calls Try.prog 44 #[.pointer (some ⟨B, 0, none⟩), .int .i16 d, .int .i16 c] wr _) := lmd_i16 t d c W0 wr B l sk HL.out (htk.mono (by unfold BD; omega)) (by omega) (by omega)
      have HA : Hid (∀ w2, St W0 w2 ((B, (t.mu 32768 (d * c)).cs, 67) :: l) → _) := fun w2 s2 => lad_i16 (t.mu 32768 (d * c)) r (wrapN 32768 (d * c)) W0 w2 B l s2 HL.out (by
        have h1 := bw_bd 32768 (d * c)
        obtain ⟨g1, g2, g3, g4, g5⟩ := htk
        unfold BD
        refine ⟨?_, ?_, ?_, g4, g5⟩ <;> simp only [Ty.mu] <;> omega) hrb (by have := wrapN_bd (N := 32768) (by omega) (d * c); omega)
      have hV := wrapN_bd (N := 32768) (by omega) (r + wrapN 32768 (d * c))
      have HV : Hid (-32768 ≤ wrapN 32768 (r + wrapN 32768 (d * c)) ∧ wrapN 32768 (r + wrapN 32768 (d * c)) ≤ 32767) := by unfold Hid; omega
      clear hwf hwf2 hdr hdr2 hgk htk sk hV HP
      go_wp2_with fail
      refine HM.out.mono ?_
      rintro e w2 ⟨rfl, s2⟩
      have HA2 := HA.out w2 s2
      clear s2 HA
      go_wp2_with fail
      refine HA2.mono ?_
      rintro e w3 ⟨rfl, s3⟩
      clear HA2
      go_wp2
      go_roundw
      case rel => exact ⟨k + 1, _, _, by omega, by go_num, rfl, HV.out, by have := HTM.out; rw [show n0 + ((k + 1 : Nat) : Int) = n0 + k + 1 by omega]; exact this, s3, HG.out⟩
      case measure => simp [intOf]; omega
    · have hT : (pz zs ys).drop k = [] := List.drop_of_length_le (by rw [pz_len (by rw [hlz.out, hly.out]), hlz.out]; omega)
      rw [hT] at hgk
      have HG : Hid ((t, r) = F) := hgk
      clear hT hgk
      go_wp2
      go_ret
      exact ⟨by rw [← HG.out]; rfl, by rw [← HG.out]; exact sk⟩
set_option maxHeartbeats 2000000 in
theorem lga_i32 (t0 : Ty) (r0 n0 : Int) (wa xa : Option Addr) (n wc xc : Nat) (zs ys : List Int) (W0 W : World) (B : Nat) (l : List (Nat × Array Value × TypeId)) (s : St W0 W ((B, t0.cs, 67) :: l)) (hl : ∀ x ∈ l, x.1 ≠ B) (ht : t0.ok n0) (hn : n0 + n ≤ 900000000000000) (hr0 : -2147483648 ≤ r0 ∧ r0 ≤ 2147483647)
    (hw : IRow .i16 W0 wa n wc zs) (hx : IRow .i8 W0 xa n xc ys) (F : Ty × Int) (hF : gaT 2147483648 t0 r0 (pz zs ys) = F) :
    Calls Try.prog 30 #[.pointer (some ⟨B, 0, none⟩), .int .i32 r0, .slice wa n wc, .slice xa n xc] W fun e w' => e = .returned (.int .i32 F.2) ∧ St W0 w' ((B, F.1.cs, 67) :: l) := by
  have hlz : Hid (zs.length = n) := hw.1
  have hly : Hid (ys.length = n) := hx.1
  have hcm := hw.2.1
  have hmm := hw.2.2.1
  have hcx := hx.2.1
  have hmx := hx.2.2.1
  unfold maxLen at hmm hmx
  have HT : Hid (t0.ok n0) := ht
  have HL : Hid (∀ x ∈ l, x.1 ≠ B) := hl
  have HS : Hid (St W0 W ((B, t0.cs, 67) :: l)) := s
  have HF : Hid (gaT 2147483648 t0 r0 (pz zs ys) = F) := hF
  clear ht hl s hF
  go_enter Try.func30, Try.ntmps30
  go_wp2
  go_loopw [1, 13] (fun v i wr => ∃ (k : Nat) (r : Int) (t : Ty), k ≤ n ∧ i = .int .i64 k ∧ v = .int .i32 r ∧ (-2147483648 ≤ r ∧ r ≤ 2147483647) ∧ t.ok (n0 + k) ∧ St W0 wr ((B, t.cs, 67) :: l) ∧ gaT 2147483648 t r ((pz zs ys).drop k) = F) (fun _ i _ => n - (intOf i).toNat)
  case atStart => exact ⟨0, r0, t0, Nat.zero_le _, rfl, rfl, hr0, by have := HT.out; simpa using this, HS.out, HF.out⟩
  case round =>
    obtain ⟨k, r, t, hk, rfl, rfl, hrb, htk, sk, hgk⟩ := hrel
    by_cases hlt : k < n
    · obtain ⟨x, d, rfl, hc, hwf, -, hdr⟩ := (hw.below sk.below).at hlt
      obtain ⟨y, c, rfl, hc2, hwf2, -, hdr2⟩ := (hx.below sk.below).at hlt
      have hdb := wf_i16 hwf
      have hcb := wf_i8 hwf2
      have HP : Hid ((pz zs ys).drop k = d * c :: (pz zs ys).drop (k + 1)) := pz_at hdr hdr2
      rw [HP.out] at hgk
      have HG : Hid (gaT 2147483648 (t.ma 2147483648 r (d * c)) (wrapN 2147483648 (r + wrapN 2147483648 (d * c))) ((pz zs ys).drop (k + 1)) = F) := hgk
      have HTM : Hid ((t.ma 2147483648 r (d * c)).ok (n0 + k + 1)) := htk.ma (by omega) _ _
      have HM : Hid (Calls Try.prog 39 #[.pointer (some ⟨B, 0, none⟩), .int .i32 d, .int .i32 c] wr _) := lmd_i32 t d c W0 wr B l sk HL.out (htk.mono (by unfold BD; omega)) (by omega) (by omega)
      have HA : Hid (∀ w2, St W0 w2 ((B, (t.mu 2147483648 (d * c)).cs, 67) :: l) → _) := fun w2 s2 => lad_i32 (t.mu 2147483648 (d * c)) r (wrapN 2147483648 (d * c)) W0 w2 B l s2 HL.out (by
        have h1 := bw_bd 2147483648 (d * c)
        obtain ⟨g1, g2, g3, g4, g5⟩ := htk
        unfold BD
        refine ⟨?_, ?_, ?_, g4, g5⟩ <;> simp only [Ty.mu] <;> omega) hrb (by have := wrapN_bd (N := 2147483648) (by omega) (d * c); omega)
      have hV := wrapN_bd (N := 2147483648) (by omega) (r + wrapN 2147483648 (d * c))
      have HV : Hid (-2147483648 ≤ wrapN 2147483648 (r + wrapN 2147483648 (d * c)) ∧ wrapN 2147483648 (r + wrapN 2147483648 (d * c)) ≤ 2147483647) := by unfold Hid; omega
      clear hwf hwf2 hdr hdr2 hgk htk sk hV HP
      go_wp2_with fail
      refine HM.out.mono ?_
      rintro e w2 ⟨rfl, s2⟩
      have HA2 := HA.out w2 s2
      clear s2 HA
      go_wp2_with fail
      refine HA2.mono ?_
      rintro e w3 ⟨rfl, s3⟩
      clear HA2
      go_wp2
      go_roundw
      case rel => exact ⟨k + 1, _, _, by omega, by go_num, rfl, HV.out, by have := HTM.out; rw [show n0 + ((k + 1 : Nat) : Int) = n0 + k + 1 by omega]; exact this, s3, HG.out⟩
      case measure => simp [intOf]; omega
    · have hT : (pz zs ys).drop k = [] := List.drop_of_length_le (by rw [pz_len (by rw [hlz.out, hly.out]), hlz.out]; omega)
      rw [hT] at hgk
      have HG : Hid ((t, r) = F) := hgk
      clear hT hgk
      go_wp2
      go_ret
      exact ⟨by rw [← HG.out]; rfl, by rw [← HG.out]; exact sk⟩
end Go.Proofs.Ytgimnoehagfhhaa
