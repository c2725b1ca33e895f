/- Decibels of the reference. -/
import Derived.Test.YtjgbbafmjdapdaaDoorForm
namespace Go.Proofs.YtjgbbafmjdapdaaDoor
open Go.RowKit

theorem level2_at (k : Nat) (hk : k < 108) (w : World) : Calls Tryd.prog 13 #[.int .i64 ((k : Int) + 1)] w fun e w' => e = .returned (.tuple #[.int .i64 (lev (k + 1) : Nat), .int .i64 0]) ∧ Same w w' := by
  have h := level2_any ((k : Int) + 1) w
  have e : levS ((k : Int) + 1) = ((lev (k + 1) : Int), 0) := by
    unfold levS; rw [if_pos (by omega), show ((k : Int) + 1).toNat = k + 1 by omega]
  rw [e] at h; exact h
set_option maxHeartbeats 800000 in
theorem decibels2_any (p : Int) (w : World) : Calls Tryd.prog 15 #[.int .i64 p] w fun e w' => e = .returned (.tuple #[.int .i64 (dcbS p).1, .int .i64 (dcbS p).2]) ∧ Same w w' := by
  by_cases h : Ok p
  · rw [show dcbS p = _ from if_pos h]
    have hle := dcb_le p
    have hlow : ∀ k, k < dcb p → (lev (k + 1) : Int) ≤ p := fun k hk => by
      have h1 := lev_mono (a := k + 1) (b := dcb p) (by omega) hle
      have h2 := dcb_low p h.1
      omega
    have hhigh := dcb_high p h.1
    have HLOW := Lib.hid hlow; clear hlow
    have HHIGH := Lib.hid hhigh; clear hhigh
    obtain ⟨h1, h2⟩ := h
    have HL := Lib.hid (fun k hk w => level2_at k hk w)
    generalize dcb p = d at *
    go_enter Tryd.func15, Tryd.ntmps15
    go_wp2
    go_loopw [4] (fun i wr => ∃ k : Nat, k ≤ d ∧ i = .int .i64 k ∧ Same w wr) (fun i _ => d - (intOf i).toNat)
    case atStart => exact ⟨0, by omega, rfl, Same.refl w⟩
    case round =>
      obtain ⟨k, hk, rfl, hsm⟩ := hrel
      have HSM := Lib.hid hsm; clear hsm
      by_cases hlt : k < d
      · have hl := HLOW.out k hlt
        have hk8 : k < 108 := by omega
        go_wp2_with (go_at_call 13; with_reducible refine (HL.out k hk8 _).mono ?_; rintro e w' ⟨rfl, h⟩; have HSM' := Lib.hid (HSM.out.trans h); clear h HSM; have HSM := HSM'; clear HSM')
        go_roundw
        case rel => exact ⟨k + 1, by omega, by go_num, HSM.out⟩
        case measure => simp [intOf]; omega
      · obtain rfl : k = d := by omega
        by_cases hk8 : k < 108
        · have hl := HHIGH.out hk8
          go_wp2_with (go_at_call 13; with_reducible refine (HL.out k hk8 _).mono ?_; rintro e w' ⟨rfl, h⟩; have HSM' := Lib.hid (HSM.out.trans h); clear h HSM; have HSM := HSM'; clear HSM')
          go_ret2
          exact ⟨rfl, HSM.out⟩
        · go_wp2
          go_ret2
          exact ⟨rfl, HSM.out⟩
  · rw [show dcbS p = _ from if_neg h]
    have hc : p < 1 ∨ (1 ≤ p ∧ 68719476736 < p) := by unfold Ok at h; omega
    clear h
    rcases hc with g1 | ⟨g1, g2⟩
    all_goals
      go_enter Tryd.func15, Tryd.ntmps15
      go_wp2
      go_ret2
      exact ⟨rfl, Same.refl w⟩
end Go.Proofs.YtjgbbafmjdapdaaDoor
