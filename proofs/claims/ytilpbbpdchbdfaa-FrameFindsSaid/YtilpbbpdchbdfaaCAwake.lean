
/- The examples of the chapter, which each statement checks first. -/
import Derived.Test.YtilpbbpdchbdfaaCSynd
namespace Go.Proofs.Ytilpbbpdchbdfaa.Cr
open Go.RowKit
set_option maxRecDepth 100000
open Crc

theorem x1 (w : World) : Calls Try.prog 75 #[.string ⟨#[0, 0, 1]⟩] w fun e w' => e = .returned (.tuple #[.int .u16 1, .int .i64 0]) ∧ Same w w' := by
  have h := syndrome_any ⟨#[0, 0, 1]⟩ (by decide) (by decide) w
  rw [show syn ⟨#[0, 0, 1]⟩ = 1 by decide +kernel] at h; exact h
theorem x3 (w : World) : Calls Try.prog 60 #[.string ⟨#[49, 50, 51, 52, 53, 54, 55, 56, 57]⟩] w fun e w' => e = .returned (.int .u16 12739) ∧ Same w w' := by
  have h := sum_any ⟨#[49, 50, 51, 52, 53, 54, 55, 56, 57]⟩ (by decide) w
  rw [show U 0 (⟨#[49, 50, 51, 52, 53, 54, 55, 56, 57]⟩ : ByteArray).data.toList = 12739 by decide +kernel] at h; exact h
theorem x6 (w : World) : Calls Try.prog 29 #[.string ⟨#[65]⟩] w fun e w' => e = .returned (.string ⟨#[65, 88, 229]⟩) ∧ Same w w' := by
  have h := protect_any ⟨#[65]⟩ (by decide) w
  rw [show prot ⟨#[65]⟩ = ⟨#[65, 88, 229]⟩ by decide +kernel] at h; exact h

end Go.Proofs.Ytilpbbpdchbdfaa.Cr
