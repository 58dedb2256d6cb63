/- The front of what is left: both the program's and the document's. -/
import Derived.Test.YthlnhodfgmpabaaWqN
import Derived.BigQuiet
import Derived.Deep.DeepCutAuto
namespace Go.Proofs.Ythlnhodfgmpabaa.Wr
open Go.ChangeShapes Go.WideShapes Go.ChangeAt Go.RowKit
theorem row_at {w : World} {a : Option Addr} {len cap : Nat} {zs : List Int} (hr : Row w a len cap zs) {k : Nat} (hk : k < len) :
    ∃ x c, a = some x ∧ w.cell? (x.add k) = some (.int .u8 c) ∧ 0 ≤ c ∧ c < 256 ∧ zs.drop k = c :: zs.drop (k + 1) := by
  obtain ⟨hl, hc, hm, hb, hn, hcell⟩ := hr
  have hk' : k < zs.length := by omega
  obtain ⟨x, rfl⟩ : ∃ x, a = some x := by
    cases a with
    | none => have := hn rfl; omega
    | some x => exact ⟨x, rfl⟩
  have hcx := hcell x rfl k hk
  rw [List.getD_eq_getElem?_getD, List.getElem?_eq_getElem hk', Option.getD_some] at hcx
  exact ⟨x, zs[k], rfl, hcx, (hb.at hk').1, (hb.at hk').2, List.drop_eq_getElem_cons hk'⟩
set_option maxHeartbeats 1000000 in
theorem get_is (a : Option Addr) (len cap : Nat) (zs : List Int) (w : World) (hr : Row w a len cap zs) :
    Calls Try.prog 63 #[.slice a len cap] w fun e w' => e = .returned (.tuple #[.int .u64 (getR zs).1, .int .i64 (getR zs).2.1, .int .i64 (getR zs).2.2]) ∧ w' = w := by
  have hr' := hr
  obtain ⟨hl, hc, hm, hb, hn, hcell⟩ := hr'
  clear hcell hn hb
  unfold maxLen at hm
  have hl' : Hid (zs.length = len) := hl
  clear hl
  go_enter Try.func63, Try.ntmps63
  go_wp2
  go_loop [5, 6] (fun x i => ∃ (k : Nat) (acc : Int), k ≤ len ∧ k ≤ 9 ∧ i = .int .i64 k ∧ x = .int .u64 acc ∧ 0 ≤ acc ∧ acc < 2 ^ (7 * k) ∧ gR k acc (zs.drop k) = getR zs) (fun _ i => len - (intOf i).toNat)
  case atStart => exact ⟨0, 0, Nat.zero_le _, by omega, rfl, rfl, by omega, by simp, rfl⟩
  case round =>
    obtain ⟨k, acc, hk, hk9, rfl, rfl, h0, h1, hg⟩ := hrel
    have h1' : Hid (acc < 2 ^ (7 * k)) := h1
    clear h1
    by_cases hlt : k < len
    · obtain ⟨x, c, rfl, hcx, hc0, hc1, hd⟩ := row_at hr hlt
      have hg' : Hid (gR k acc (c :: zs.drop (k + 1)) = getR zs) := by rw [← hd]; exact hg
      clear hg hd hr
      go_wp2
      rotate_right
      · have h128 : 128 ≤ c := by assumption
        have hk8 : ¬ (k : Int) = 9 := by assumption
        obtain ⟨r1, r2, r3⟩ := go_on (k := k) (by omega) h0 h1'.out h128 hc1
        have R := (gR_next (i := k) (acc := acc) (c := c) (r := zs.drop (k + 1)) (by omega) (by omega)).symm.trans hg'.out
        go_round
        case rel => exact ⟨k + 1, _, by omega, by omega, by go_num, by rw [r1], r2, r3, R⟩
        case measure => simp [intOf]; omega
      all_goals go_ret3
      · have R := (gR_form (i := k) (acc := acc) (c := c) (r := zs.drop (k + 1)) (.inr ⟨by omega, by assumption⟩)).symm.trans hg'.out
        exact ⟨ret3 R rfl rfl, rfl⟩
      · have R := (gR_form (i := k) (acc := acc) (c := c) (r := zs.drop (k + 1)) (.inl ⟨by omega, by assumption⟩)).symm.trans hg'.out
        exact ⟨ret3 R rfl rfl, rfl⟩
      · have R := (gR_last (i := k) (acc := acc) (c := c) (r := zs.drop (k + 1)) (by omega) (by assumption)).symm.trans hg'.out
        have E := go_nine (k := k) (by omega) h0 h1'.out hc0 (by assumption)
        exact ⟨ret3 R E (by omega), rfl⟩
      · have R := (gR_form (i := k) (acc := acc) (c := c) (r := zs.drop (k + 1)) (.inl ⟨by omega, by assumption⟩)).symm.trans hg'.out
        exact ⟨ret3 R rfl rfl, rfl⟩
      · have R := (gR_last (i := k) (acc := acc) (c := c) (r := zs.drop (k + 1)) (by omega) (by assumption)).symm.trans hg'.out
        have E := go_zero (c := c) hk9 h0 h1'.out (by assumption)
        exact ⟨ret3 R E (by omega), rfl⟩
      · have R := (gR_last (i := k) (acc := acc) (c := c) (r := zs.drop (k + 1)) (by omega) (by assumption)).symm.trans hg'.out
        have E := go_off hk9 h0 h1'.out hc0 (by assumption) (by omega)
        exact ⟨ret3 R E (by omega), rfl⟩
    · have hd : zs.drop k = [] := List.drop_eq_nil_of_le (by have := hl'.out; omega)
      have R : Hid ((0, 0, 40) = getR zs) := by have e := hg; rw [hd] at e; exact e
      clear hg hd hr
      go_wp2
      go_ret3
      exact ⟨ret3 R.out rfl rfl, rfl⟩
/-- What a reader holds. -/
def Rd (w : World) (B : Nat) (T : TypeId) (zs : List Int) (f : Int) : Prop := ∃ a len cap, w.heap[B]? = some (.cells #[.slice a len cap, .int .i64 f] T (0, 0)) ∧ Row w a len cap zs ∧ ∀ x, a = some x → x.block < B
theorem cells_at {w : World} {B : Nat} {c : Array Value} {T : TypeId} (h : w.heap[B]? = some (.cells c T (0, 0))) : (∀ i, w.cell? ⟨B, i, none⟩ = c[i]?) ∧ (∀ i, w.frozen? ⟨B, i, none⟩ = false) ∧ B < w.heap.size := by
  refine ⟨fun i => by simp [World.cell?, h], fun i => by simp only [World.frozen?, h]; simp, ?_⟩
  rcases Nat.lt_or_ge B w.heap.size with k | k
  · exact k
  · rw [Array.getElem?_eq_none k] at h; cases h
def frR (zs : List Int) (f : Int) : Int × Nat × Int := if f = 0 then getR zs else (0, 0, f)
set_option maxHeartbeats 2000000 in
theorem front_is (B : Nat) (zs : List Int) (f : Int) (w : World) (h : Rd w B 101 zs f) :
    Calls Try.prog 73 #[.pointer (some ⟨B, 0, none⟩)] w fun e w' => e = .returned (.tuple #[.int .u64 (frR zs f).1, .int .i64 (frR zs f).2.1, .int .i64 (frR zs f).2.2]) ∧ ∃ n, w' = w.drewN n := by
  obtain ⟨a, len, cap, hB, hr, -⟩ := h
  obtain ⟨cB, fB, zB⟩ := cells_at hB
  clear hB
  have hr' := hr
  obtain ⟨hl, hc, hm, hb, hn, hcell⟩ := hr'
  clear hcell hb
  unfold maxLen at hm
  have hl' : Hid (zs.length = len) := hl
  clear hl
  by_cases hf : f = 0
  · subst hf
    have R0 : Hid (frR zs 0 = getR zs) := rfl
    go_enter Try.func73, Try.ntmps73
    go_wp2
    by_cases hm10 : len ≤ 10
    all_goals
      go_quiet (fail)
      go_wp2
      go_loop [2, 28] (fun x i => ∃ (k : Nat) (acc : Int), k ≤ len ∧ k ≤ 9 ∧ i = .int .i64 k ∧ x = .int .u64 acc ∧ 0 ≤ acc ∧ acc < 2 ^ (7 * k) ∧ gR k acc (zs.drop k) = getR zs) (fun _ i => 10 - (intOf i).toNat)
      case atStart => exact ⟨0, 0, Nat.zero_le _, by omega, rfl, rfl, by omega, by simp, rfl⟩
      case round =>
        obtain ⟨k, acc, hk, hk9, rfl, rfl, h0, h1, hg⟩ := hrel
        have h1' : Hid (acc < 2 ^ (7 * k)) := h1
        clear h1
        by_cases hlt : k < len
        · obtain ⟨x, c, rfl, hcx, hc0, hc1, hd⟩ := row_at hr hlt
          have hg' : Hid (gR k acc (c :: zs.drop (k + 1)) = getR zs) := by rw [← hd]; exact hg
          clear hg hd hr
          by_cases hA : (0 < k ∧ c = 0) ∨ (k = 9 ∧ 1 < c)
          · have R := (gR_form (i := k) (acc := acc) (c := c) (r := zs.drop (k + 1)) hA).symm.trans hg'.out
            have R' : Hid ((0, 0, 41) = frR zs 0) := R.trans R0.out.symm
            clear hg' R
            rcases hA with ⟨hA3, rfl⟩ | ⟨hA3, hA4⟩
            · go_wp2
              go_ret3
              exact ⟨ret3 R'.out rfl rfl, _, rfl⟩
            · have hcz : (c == 0) = false := by simp; omega
              have hk0 : 0 < k := by omega
              have hk9i : (k : Int) = 9 := by omega
              have hcx9 : w.cell? ⟨x.block, x.off + 9, none⟩ = some (.int .u8 c) := by
                have h := hcx
                rw [show k = 9 by omega] at h
                exact h
              clear hA3
              go_wp2
              all_goals first
                | (exfalso
                   have hx : (c == 0) = false ∧ c ≤ 1 := by assumption
                   omega)
                | (go_ret3
                   exact ⟨ret3 R'.out rfl rfl, _, rfl⟩)
          · by_cases h128 : c < 128
            · have R := (gR_last (i := k) (acc := acc) (c := c) (r := zs.drop (k + 1)) hA h128).symm.trans hg'.out
              have R' : Hid ((acc + c * 2 ^ (7 * k), k + 1, 0) = frR zs 0) := R.trans R0.out.symm
              have A8 := and8 c hc0 hc1
              have E : Hid (bits .or .u64 acc (IntKind.u64.wrap (c % 128 * 2 ^ (7 * k))) = acc + c * 2 ^ (7 * k)) := go_off hk9 h0 h1'.out hc0 h128 (by omega)
              clear hg' R
              by_cases hk0 : 0 < k
              · have hcz : (c == 0) = false := by simp; omega
                by_cases hk9i : (k : Int) = 9
                · have hc1' : c ≤ 1 := by omega
                  have E2 : Hid (bits .or .u64 acc (c % 128 * 9223372036854775808) = acc + c * 2 ^ (7 * k)) := go_nine (k := k) (by omega) h0 h1'.out hc0 hc1'
                  have hcx9 : w.cell? ⟨x.block, x.off + 9, none⟩ = some (.int .u8 c) := by
                    have h := hcx
                    rw [show k = 9 by omega] at h
                    exact h
                  clear hA
                  go_wp2
                  all_goals first
                    | (exfalso
                       have hx : (c == 0) = true ∨ 1 < c := by assumption
                       rw [hcz] at hx
                       rcases hx with hx | hx
                       · cases hx
                       · omega)
                    | (go_ret3
                       exact ⟨ret3 R'.out E2.out (by omega), _, rfl⟩)
                · clear hA
                  go_wp2
                  go_ret3
                  exact ⟨ret3 R'.out E.out (by omega), _, rfl⟩
              · have hk9i : ¬ (k : Int) = 9 := by omega
                clear hA
                go_wp2
                go_ret3
                exact ⟨ret3 R'.out E.out (by omega), _, rfl⟩
            · obtain ⟨r1, r2, r3⟩ := go_on (k := k) (acc := acc) (c := c) (by omega) h0 h1'.out (by omega) hc1
              have R := (gR_next (i := k) (acc := acc) (c := c) (r := zs.drop (k + 1)) hA h128).symm.trans hg'.out
              have A8 := and8 c hc0 hc1
              have hk8 : ¬ (k : Int) = 9 := by omega
              have hcz : ¬ c = 0 := by omega
              have R' : Hid (gR (k + 1) (acc + (c - 128) * 2 ^ (7 * k)) (zs.drop (k + 1)) = getR zs) := R
              have E : Hid (bits .or .u64 acc (IntKind.u64.wrap (c % 128 * 2 ^ (7 * k))) = acc + (c - 128) * 2 ^ (7 * k)) := r1
              have r2' : Hid (0 ≤ acc + (c - 128) * 2 ^ (7 * k)) := r2
              have r3' : Hid (acc + (c - 128) * 2 ^ (7 * k) < 2 ^ (7 * (k + 1))) := r3
              have hcz' : (c == 0) = false := by simp; omega
              clear hg' R r1 r2 r3 hA
              by_cases hk0 : 0 < k
              all_goals
                go_wp2
                go_round
                case rel => exact ⟨k + 1, _, by omega, by omega, by go_num, by rw [E.out], r2'.out, r3'.out, R'.out⟩
                case measure => simp [intOf]; omega
        · have hd : zs.drop k = [] := List.drop_eq_nil_of_le (by have := hl'.out; omega)
          have R : Hid ((0, 0, 40) = frR zs 0) := by have e := hg; rw [hd] at e; exact e.trans R0.out.symm
          clear hg hd hr
          first
            | (exfalso; omega)
            | (go_wp2
               go_ret3
               exact ⟨ret3 R.out rfl rfl, _, rfl⟩)
  · go_enter Try.func73, Try.ntmps73
    go_wp2
    go_quiet (fail)
    go_wp2
    go_ret3
    exact ⟨ret3 (by rw [frR, if_neg hf]) rfl rfl, _, rfl⟩
end Go.Proofs.Ythlnhodfgmpabaa.Wr
