/- The document's Front, at a certificate's four bytes. -/
import Derived.Test.YthlnhodfgmpabaaSdA
import Derived.Test.YthlnhodfgmpabaaWqB
namespace Go.Proofs.Ythlnhodfgmpabaa.Sl
open Wr
open Go.ChangeShapes Go.WideShapes Go.ChangeAt Go.RowKit
set_option linter.unusedVariables false
/-- Front's error. -/
def frontE (zs : List Int) : Int := if zs.length < 4 then 40 else if zs.take 4 ≠ head4 then 41 else 0
theorem head_at {zs : List Int} {k : Nat} {x y : Int} (h : zs.take k = head4.take k) (hx : zs[k]? = some x) (hy : head4[k]? = some y) (e : x = y) : zs.take (k + 1) = head4.take (k + 1) := by
  rw [List.take_add_one, List.take_add_one, h, hx, hy, e]
theorem head_ne {zs : List Int} {k : Nat} {x y : Int} (hx : zs[k]? = some x) (hy : head4[k]? = some y) (e : x ≠ y) (hk : k < 4) : zs.take 4 ≠ head4 := fun h => by
  have h1 : (zs.take 4)[k]? = zs[k]? := List.getElem?_take_of_lt hk
  rw [h, hx, hy] at h1
  exact e (Option.some.inj h1).symm
set_option maxHeartbeats 2000000 in
theorem dfront_any (a : Option Addr) (len cap : Nat) (zs : List Int) (w : World) (hr : Wr.Row w a len cap zs) :
    Calls Try.prog 26 #[.slice a len cap, .string ⟨#[83, 87, 67, 49]⟩] w fun r w' => ((frontE zs ≠ 0 ∧ r = .returned (.tuple #[.slice none 0 0, .int .i64 (frontE zs)])) ∨
      (frontE zs = 0 ∧ ∃ a', r = .returned (.tuple #[.slice a' (len - 4) (cap - 4), .int .i64 0]) ∧ Wr.Row w' a' (len - 4) (cap - 4) (zs.drop 4) ∧ ∀ x, a' = some x → ∃ y, a = some y ∧ x.block = y.block)) ∧ Below w.heap.size w w' := by
  have hl := hr.1
  have hc := hr.2.1
  have hm := hr.2.2.1
  unfold maxLen at hm
  have HR : Hid (Wr.Row w a len cap zs) := hr
  clear hr
  by_cases h4 : len < 4
  · have hE : Hid (frontE zs = 40) := if_pos (by omega)
    go_enter Try.func26, Try.ntmps26
    go_wp2
    go_ret2
    exact ⟨.inl ⟨by rw [hE.out]; decide, by rw [hE.out]; rfl⟩, Below.refl _ _⟩
  · have hl4 : 4 ≤ len := by omega
    have hE : Hid (frontE zs = if zs.take 4 ≠ head4 then 41 else 0) := if_neg (by omega)
    go_enter Try.func26, Try.ntmps26
    go_wp2
    go_loopw [6] (fun i wr => ∃ k n : Nat, k ≤ 4 ∧ i = .int .i64 k ∧ zs.take k = head4.take k ∧ wr = w.drewN n) (fun i _ => 4 - (intOf i).toNat)
    case atStart => exact ⟨0, 0, by omega, rfl, rfl, rfl⟩
    case round =>
      obtain ⟨k, n, hk, rfl, hT, rfl⟩ := hrel
      have hT' : Hid (zs.take k = head4.take k) := hT
      clear hT
      by_cases hk4 : k < 4
      · obtain ⟨p, c, rfl, hcc, hc0, hc1, hcd⟩ := row_at HR.out (show k < len by omega)
        have hx : Hid (zs[k]? = some c) := by
          unfold Hid
          have := congrArg List.head? hcd
          rw [List.head?_drop] at this
          exact this
        clear hcd HR
        have h4 : k = 0 ∨ k = 1 ∨ k = 2 ∨ k = 3 := by omega
        rcases h4 with rfl | rfl | rfl | rfl
        · have hq : 0 < len := by omega
          have hq' : (0 : Int) < (len : Int) := by omega
          have hcc2 := hcc
          simp [go_sem] at hcc2
          by_cases hy : c = 83
          · subst hy
            go_wp2
            go_quiet (fail)
            go_wp2
            go_roundw
            case rel => exact ⟨_, _, by omega, by go_num, head_at hT'.out hx.out rfl rfl, rfl⟩
            case measure => simp [intOf]
          · have hN : Hid (frontE zs = 41) := by unfold Hid; rw [hE.out, if_pos (head_ne hx.out rfl hy (by omega))]
            go_wp2
            go_quiet (fail)
            go_wp2
            · go_ret2
              exact ⟨.inl ⟨by rw [hN.out]; decide, by rw [hN.out]; rfl⟩, by rw [World.drewN_drewN]; exact dbel _ _⟩
            · rename_i hh
              simp at hh
              exact absurd (hh.trans rfl) hy
        · have hq : 1 < len := by omega
          have hq' : (1 : Int) < (len : Int) := by omega
          have hcc2 := hcc
          simp [go_sem] at hcc2
          by_cases hy : c = 87
          · subst hy
            go_wp2
            go_quiet (fail)
            go_wp2
            go_roundw
            case rel => exact ⟨_, _, by omega, by go_num, head_at hT'.out hx.out rfl rfl, rfl⟩
            case measure => simp [intOf]
          · have hN : Hid (frontE zs = 41) := by unfold Hid; rw [hE.out, if_pos (head_ne hx.out rfl hy (by omega))]
            go_wp2
            go_quiet (fail)
            go_wp2
            · go_ret2
              exact ⟨.inl ⟨by rw [hN.out]; decide, by rw [hN.out]; rfl⟩, by rw [World.drewN_drewN]; exact dbel _ _⟩
            · rename_i hh
              simp at hh
              exact absurd (hh.trans rfl) hy
        · have hq : 2 < len := by omega
          have hq' : (2 : Int) < (len : Int) := by omega
          have hcc2 := hcc
          simp [go_sem] at hcc2
          by_cases hy : c = 67
          · subst hy
            go_wp2
            go_quiet (fail)
            go_wp2
            go_roundw
            case rel => exact ⟨_, _, by omega, by go_num, head_at hT'.out hx.out rfl rfl, rfl⟩
            case measure => simp [intOf]
          · have hN : Hid (frontE zs = 41) := by unfold Hid; rw [hE.out, if_pos (head_ne hx.out rfl hy (by omega))]
            go_wp2
            go_quiet (fail)
            go_wp2
            · go_ret2
              exact ⟨.inl ⟨by rw [hN.out]; decide, by rw [hN.out]; rfl⟩, by rw [World.drewN_drewN]; exact dbel _ _⟩
            · rename_i hh
              simp at hh
              exact absurd (hh.trans rfl) hy
        · have hq : 3 < len := by omega
          have hq' : (3 : Int) < (len : Int) := by omega
          have hcc2 := hcc
          simp [go_sem] at hcc2
          by_cases hy : c = 49
          · subst hy
            go_wp2
            go_quiet (fail)
            go_wp2
            go_roundw
            case rel => exact ⟨_, _, by omega, by go_num, head_at hT'.out hx.out rfl rfl, rfl⟩
            case measure => simp [intOf]
          · have hN : Hid (frontE zs = 41) := by unfold Hid; rw [hE.out, if_pos (head_ne hx.out rfl hy (by omega))]
            go_wp2
            go_quiet (fail)
            go_wp2
            · go_ret2
              exact ⟨.inl ⟨by rw [hN.out]; decide, by rw [hN.out]; rfl⟩, by rw [World.drewN_drewN]; exact dbel _ _⟩
            · rename_i hh
              simp at hh
              exact absurd (hh.trans rfl) hy
      · obtain rfl : k = 4 := by omega
        have hN : Hid (frontE zs = 0) := by unfold Hid; rw [hE.out, if_neg (fun h => h hT'.out)]
        go_wp2
        all_goals go_ret2
        · obtain rfl : cap = 4 := by assumption
          exact ⟨.inr ⟨hN.out, a, rfl, (HR.out.drop hl4 (fun x _ hx => absurd hx (by omega)) id).below (dbel _ _), fun x hx => ⟨x, hx, rfl⟩⟩, dbel _ _⟩
        · refine ⟨.inr ⟨hN.out, a.map (·.add 4), rfl, (HR.out.drop hl4 (fun x hx _ => by rw [hx]; rfl) (fun hx => by rw [hx]; rfl)).below (dbel _ _), fun x hx => ?_⟩, dbel _ _⟩
          cases a with
          | none => cases hx
          | some y => cases hx; exact ⟨y, rfl, blk_add y 4⟩
end Go.Proofs.Ythlnhodfgmpabaa.Sl
