/- bytes.Equal, HasPrefix, CutPrefix, at a prefix of four bytes. -/
import Derived.Test.YthlnhodfgmpabaaWqR
import Derived.Laws.BytesArg
import Derived.Lib.Bytes
namespace Go.Proofs.Ythlnhodfgmpabaa
open Wr
open Go.ChangeShapes Go.WideShapes Go.ChangeAt Go.RowKit
set_option linter.unusedVariables false
theorem row_conv {w : World} {a : Option Addr} {n c : Nat} {xs : List Int} (h : Wr.Row w a n c xs) (hn : 0 < n) : (convert 27 9 (.slice a n c)).run Try.prog w = .ok (.string (strOfNums xs)) w := by
  obtain ⟨h1, h2, h3, h4, h5, h6⟩ := h
  cases a with
  | none => have := h5 rfl; omega
  | some x =>
    have hc := h6 x rfl
    obtain ⟨b, o, s⟩ := x
    obtain rfl : s = none := by simpa [Addr.add] using World.cell?_spot (hc 0 hn)
    exact run_convert_bytes_arg (P := Try.prog) w 27 5 Try.underlying27 Try.underlying5 b o n c xs h1 (fun i hi => by have := hc i hi; rw [Addr.add_lit] at this; exact this) 9 Try.underlying9
theorem u8_inj {x y : Int} (hx : 0 ≤ x ∧ x < 256) (hy : 0 ≤ y ∧ y < 256) (h : UInt8.ofNat x.toNat = UInt8.ofNat y.toNat) : x = y := by
  have := congrArg UInt8.toNat h
  simp only [UInt8.toNat_ofNat'] at this
  omega
theorem map_u8 : ∀ {xs ys : List Int}, Byt xs → Byt ys → Lib.bytesOf xs = Lib.bytesOf ys → xs = ys
  | [], [], _, _, _ => rfl
  | [], y :: ys, _, _, h => by simp [Lib.bytesOf] at h
  | x :: xs, [], _, _, h => by simp [Lib.bytesOf] at h
  | x :: xs, y :: ys, hx, hy, h => by
    simp only [Lib.bytesOf, List.map_cons, List.cons.injEq] at h
    rw [u8_inj (hx x List.mem_cons_self) (hy y List.mem_cons_self) h.1, map_u8 (fun z hz => hx z (List.mem_cons_of_mem _ hz)) (fun z hz => hy z (List.mem_cons_of_mem _ hz)) h.2]
theorem str_eq {xs ys : List Int} (hx : Byt xs) (hy : Byt ys) : ((strOfNums xs).toList == (strOfNums ys).toList) = decide (xs = ys) := by
  rw [Lib.strOfNums_toList, Lib.strOfNums_toList]
  by_cases h : xs = ys
  · subst h; simp
  · rw [decide_eq_false h]
    have : ¬ Lib.bytesOf xs = Lib.bytesOf ys := fun e => h (map_u8 hx hy e)
    simpa using this
theorem equal_any (a b : Option Addr) (n c d : Nat) (xs ys : List Int) (w : World) (hx : Wr.Row w a n c xs) (hy : Wr.Row w b n d ys) (hn : 0 < n) :
    Calls Try.prog 69 #[.slice a n c, .slice b n d] w fun e w' => e = .returned (.bool (decide (xs = ys))) ∧ w' = w := by
  have e1 := row_conv hx hn
  have e2 := row_conv hy hn
  have hs : Hid _ := str_eq hx.2.2.2.1 hy.2.2.2.1
  clear hx hy
  go_enter Try.func69, Try.ntmps69
  go_wp2
  go_ret
  exact ⟨by rw [hs.out]; rfl, rfl⟩
theorem row_front {w : World} {a : Option Addr} {n c m : Nat} {xs : List Int} (h : Wr.Row w a n c xs) (hm : m ≤ n) : Wr.Row w a m c (xs.take m) := by
  obtain ⟨h1, h2, h3, h4, h5, h6⟩ := h
  refine ⟨by rw [List.length_take]; omega, by omega, h3, h4.take m, h5, fun x hx i hi => ?_⟩
  rw [h6 x hx i (by omega)]
  simp [List.getD, hi]
set_option maxHeartbeats 1000000 in
theorem hasp_any (a b : Option Addr) (n c d : Nat) (xs ys : List Int) (w : World) (hx : Wr.Row w a n c xs) (hy : Wr.Row w b 4 d ys) (hn : 4 ≤ n) :
    Calls Try.prog 56 #[.slice a n c, .slice b 4 d] w fun e w' => e = .returned (.bool (decide (xs.take 4 = ys))) ∧ w' = w := by
  have H : Hid _ := equal_any a b 4 c d (xs.take 4) ys w (row_front hx hn) hy (by omega)
  have hc := hx.2.1
  have hm := hx.2.2.1
  unfold maxLen at hm
  clear hx hy
  go_enter Try.func56, Try.ntmps56
  go_wp2_with fail
  refine Calls.mono H.out ?_
  rintro e w1 ⟨rfl, rfl⟩
  go_wp2
  go_ret
  exact ⟨rfl, rfl⟩
set_option maxHeartbeats 1000000 in
theorem cutp_any (a b : Option Addr) (n c d : Nat) (xs ys : List Int) (w : World) (hx : Wr.Row w a n c xs) (hy : Wr.Row w b 4 d ys) (hn : 4 ≤ n) :
    Calls Try.prog 43 #[.slice a n c, .slice b 4 d] w fun e w' => ((xs.take 4 ≠ ys ∧ e = .returned (.tuple #[.slice a n c, .bool false])) ∨ xs.take 4 = ys ∧ ∃ a', e = .returned (.tuple #[.slice a' (n - 4) (c - 4), .bool true]) ∧ Wr.Row w a' (n - 4) (c - 4) (xs.drop 4)) ∧ w' = w := by
  have H : Hid _ := hasp_any a b n c d xs ys w hx hy hn
  have HX : Hid (Wr.Row w a n c xs) := hx
  have hc := hx.2.1
  have hm := hx.2.2.1
  unfold maxLen at hm
  obtain ⟨q, hq⟩ : ∃ q, decide (xs.take 4 = ys) = q := ⟨_, rfl⟩
  rw [hq] at H
  have hq' : Hid (decide (xs.take 4 = ys) = q) := hq
  clear hx hy hq
  cases q with
  | false =>
    go_enter Try.func43, Try.ntmps43
    go_wp2_with fail
    refine Calls.mono H.out ?_
    rintro e w1 ⟨rfl, rfl⟩
    go_wp2
    go_ret2
    exact ⟨.inl ⟨of_decide_eq_false hq'.out, rfl⟩, rfl⟩
  | true =>
    go_enter Try.func43, Try.ntmps43
    go_wp2_with fail
    refine Calls.mono H.out ?_
    rintro e w1 ⟨rfl, rfl⟩
    go_wp2
    all_goals go_ret2
    · obtain rfl : c = 4 := by assumption
      exact ⟨.inr ⟨of_decide_eq_true hq'.out, a, rfl, HX.out.drop hn (fun x _ hx => absurd hx (by omega)) id⟩, rfl⟩
    · exact ⟨.inr ⟨of_decide_eq_true hq'.out, a.map (·.add 4), rfl, HX.out.drop hn (fun x hx _ => by rw [hx]; rfl) (fun hx => by rw [hx]; rfl)⟩, rfl⟩
end Go.Proofs.Ythlnhodfgmpabaa
