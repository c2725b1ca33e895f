/- The examples of the chapter, which each statement checks first. -/
import Derived.Test.YtgeodffcbphepaaSynd
namespace Go.Proofs.Ytgeodffcbphepaa
open Go.RowKit
open Crc

theorem x1 (w : World) : Calls Try.prog 24 #[.string ⟨#[0, 0, 1]⟩] w fun e w' => e = .returned (.tuple #[.int .u16 1, .int .i64 0]) ∧ Same w w' := by
  have h := syndrome_any ⟨#[0, 0, 1]⟩ (by decide) (by decide) w
  rw [show syn ⟨#[0, 0, 1]⟩ = 1 by decide +kernel] at h; exact h
theorem x2 (w : World) : Calls Try.prog 26 #[.int .u16 1, .int .i64 24] w fun e w' => e = .returned (.tuple #[.int .i64 0, .bool true]) ∧ w' = w :=
  locate_yes 1 24 0 (by decide) (by decide) rfl w
theorem x3 (w : World) : Calls Try.prog 12 #[.string ⟨#[49, 50, 51, 52, 53, 54, 55, 56, 57]⟩] w fun e w' => e = .returned (.int .u16 12739) ∧ Same w w' := by
  have h := sum_any ⟨#[49, 50, 51, 52, 53, 54, 55, 56, 57]⟩ (by decide) w
  rw [show U 0 (⟨#[49, 50, 51, 52, 53, 54, 55, 56, 57]⟩ : ByteArray).data.toList = 12739 by decide +kernel] at h; exact h
theorem x4 (w : World) : Calls Try.prog 20 #[.int .i64 16] w fun e w' => e = .returned (.int .u16 4129) ∧ Same w w' := by
  have h := power_any 16 (by decide) w
  rw [show powr 16 = 4129 by decide +kernel] at h
  exact h.mono fun e w' ⟨he, hw⟩ => ⟨he, Same.ofDrewN hw⟩
theorem x5 (w : World) : Calls Try.prog 18 #[.int .u16 32768, .int .u16 2] w fun e w' => e = .returned (.int .u16 4129) ∧ Same w w' := by
  have h := multiply_any 32768 2 (by decide) (by decide) w
  rw [show M 32768 2 = 4129 by decide +kernel] at h
  exact h.mono fun e w' ⟨he, hw⟩ => ⟨he, Same.ofDrewN hw⟩
theorem x6 (w : World) : Calls Try.prog 22 #[.string ⟨#[65]⟩] w fun e w' => e = .returned (.string ⟨#[65, 88, 229]⟩) ∧ Same w w' := by
  have h := protect_any ⟨#[65]⟩ (by decide) w
  rw [show prot ⟨#[65]⟩ = ⟨#[65, 88, 229]⟩ by decide +kernel] at h; exact h

set_option maxHeartbeats 800000 in
theorem awake_any (w : World) : Calls Try.prog 11 #[] w fun e w' => e = .returned (.bool true) ∧ Same w w' := by
  go_enter Try.func11, Try.ntmps11
  go_wp2_with (first
    | (go_at_call 24; refine (x1 _).mono ?_; rintro e w1 ⟨rfl, h⟩; have H := Lib.hid h; clear h)
    | (go_at_call 26; refine (x2 _).mono ?_; rintro e w2 ⟨rfl, rfl⟩)
    | (go_at_call 12; refine (x3 _).mono ?_; rintro e w3 ⟨rfl, h⟩; have H' := Lib.hid (H.out.trans h); clear h H; have H := H'; clear H')
    | (go_at_call 20; refine (x4 _).mono ?_; rintro e w4 ⟨rfl, h⟩; have H' := Lib.hid (H.out.trans h); clear h H; have H := H'; clear H')
    | (go_at_call 18; refine (x5 _).mono ?_; rintro e w5 ⟨rfl, h⟩; have H' := Lib.hid (H.out.trans h); clear h H; have H := H'; clear H')
    | (go_at_call 22; refine (x6 _).mono ?_; rintro e w6 ⟨rfl, h⟩; have H' := Lib.hid (H.out.trans h); clear h H; have H := H'; clear H'))
  go_ret
  exact ⟨rfl, H.out⟩
end Go.Proofs.Ytgeodffcbphepaa
