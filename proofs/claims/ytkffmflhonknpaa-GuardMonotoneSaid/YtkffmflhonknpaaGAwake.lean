/- The example of the chapter of guard, which each statement checks first. -/
import Derived.Test.YtkffmflhonknpaaGArgs
namespace Go.Proofs.Ytkffmflhonknpaa
open Go.RowKit Go.Lib Go.Sort

theorem isS_ex : IsS 2 3 100000 109 := by
  refine ⟨by decide, fun i hi => ?_⟩
  have a1 : spS 2 3 108 100000 ≤ 1100 := by decide
  have a2 : 1100 < spS 2 3 109 100000 := by decide
  constructor
  · intro h
    have : spS 2 3 (i : Int) 100000 ≤ spS 2 3 108 100000 := sp_mono (by decide) (by decide) (by omega) (by decide) (by decide)
    omega
  · intro h
    by_cases e : i < 109
    · exact e
    · have : spS 2 3 109 100000 ≤ spS 2 3 (i : Int) 100000 := sp_mono (by decide) (by decide) (by omega) (by decide) (by decide)
      omega
theorem isR_ex : IsR 0 0 (0 * 10000 + 2120) 2120 := by
  refine ⟨by decide, fun i hi => ?_⟩
  have a : shS 0 0 (i : Int) = i := by unfold shS; simp
  rw [a]
  omega
theorem gawake_any (w : World) : Calls Try.prog 11 #[] w fun e w' => e = .returned (.bool true) ∧ Same w w' := by
  have h1 := fun w => Growth_any 1000000 100000 w
  rw [show GrS 1000000 100000 = (202, 0) by decide +kernel] at h1
  have h2 := fun w => Length_any 100 100000 w
  rw [show LnS 100 100000 = (1000102, 0) by decide +kernel] at h2
  have h3 := fun w => Step_any 100 100000 w
  rw [show StS 100 100000 = (203, 0) by decide +kernel] at h3
  have h4 := fun w => gSpread_any 2 3 100 100000 w
  rw [show SpS 2 3 100 100000 = (1015, 0) by decide +kernel] at h4
  have h5 := fun w => gSlots_any 2 3 100000 109 (fun _ => isS_ex) w
  rw [show SlS 2 3 100000 109 = (108, 0) by decide +kernel] at h5
  have h6 : CSend 0 0 0 2120 0 := fun w => by
    have := Send_any 0 0 0 2120 (fun _ _ => isR_ex) w
    rw [show inS 0 0 0 2120 = (2120, 0) by decide +kernel] at this
    exact this
  have h7 := fun w => End_of h6 (by decide) w
  rw [show enF 2120 0 = (8208, 0) by decide +kernel] at h7
  have H1 := Lib.hid h1; clear h1
  have H2 := Lib.hid h2; clear h2
  have H3 := Lib.hid h3; clear h3
  have H4 := Lib.hid h4; clear h4
  have H5 := Lib.hid h5; clear h5
  have H6 := Lib.hid h7; clear h6 h7
  go_enter Try.func11, Try.ntmps11
  go_wp2_with (first
    | (go_at_call 12; (with_reducible refine (H1.out _).mono ?_); rintro e w1 ⟨rfl, rfl⟩)
    | (go_at_call 14; (with_reducible refine (H2.out _).mono ?_); rintro e w1 ⟨rfl, rfl⟩)
    | (go_at_call 16; (with_reducible refine (H3.out _).mono ?_); rintro e w1 ⟨rfl, rfl⟩)
    | (go_at_call 18; (with_reducible refine (H4.out _).mono ?_); rintro e w1 ⟨rfl, rfl⟩)
    | (go_at_call 20; (with_reducible refine (H5.out _).mono ?_); rintro e w2 ⟨rfl, hw⟩; have HB := Lib.hid hw; clear hw)
    | (go_at_call 22; (with_reducible refine (H6.out _).mono ?_); rintro e w3 ⟨rfl, hw⟩; have HC := Lib.hid (HB.out.trans hw); clear hw HB))
  go_ret
  exact ⟨rfl, HC.out.toSame⟩
end Go.Proofs.Ytkffmflhonknpaa
