/- The example of the chapter, which each statement checks first. -/
import Derived.Test.YtjgbbafmjdapdaaDoorForm
namespace Go.Proofs.YtjgbbafmjdapdaaDoor
open Go.RowKit

theorem x1 (w : World) (ht : Tab w) : Calls Tryd.prog 12 #[.int .i64 13] w fun e w' => e = .returned (.tuple #[.int .i64 19, .int .i64 0]) ∧ w' = w := by
  have h := level_api 13 w ht
  rw [show levS 13 = (19, 0) by decide +kernel] at h; exact h
theorem x2 (w : World) (ht : Tab w) : Calls Tryd.prog 14 #[.int .i64 24] w fun e w' => e = .returned (.tuple #[.int .i64 13, .int .i64 0]) ∧ Same w w' := by
  have h := decibels_any 24 w ht
  rw [show dcbS 24 = (13, 0) by decide +kernel] at h; exact h
theorem x3 (w : World) : Calls Tryd.prog 23 #[.int .i64 100, .int .i64 2000, .int .i64 10] w fun e w' => e = .returned (.tuple #[.int .i64 40, .int .i64 0]) ∧ w' = w := by
  have h := margin_any 100 2000 10 w
  rw [show marginS 100 2000 10 = (40, 0) by decide +kernel] at h; exact h
theorem x4 (w : World) : Calls Tryd.prog 25 #[.int .i64 2000, .int .i64 10, .int .i64 40] w fun e w' => e = .returned (.tuple #[.int .i64 100, .int .i64 0]) ∧ w' = w := by
  have h := least_any 2000 10 40 w
  rw [show leastS 2000 10 40 = (100, 0) by decide +kernel] at h; exact h
theorem x5 (w : World) (ht : Tab w) : Calls Tryd.prog 14 #[.int .i64 1000] w fun e w' => e = .returned (.tuple #[.int .i64 30, .int .i64 0]) ∧ Same w w' := by
  have h := decibels_any 1000 w ht
  rw [show dcbS 1000 = (30, 0) by decide +kernel] at h; exact h
theorem x6 (w : World) (ht : Tab w) : Calls Tryd.prog 27 #[.int .i64 1000] w fun e w' => e = .returned (.tuple #[.string ⟨#[51, 48, 32, 100, 66]⟩, .int .i64 0]) ∧ Same w w' := by
  have H5 := Lib.hid (x5 w ht)
  have H6 := Lib.hid (fun w => small30 w)
  clear ht
  go_enter Tryd.func27, Tryd.ntmps27
  go_wp2_with (first | (go_at_call 14; with_reducible refine H5.out.mono ?_; rintro e w1 ⟨rfl, h⟩; have H := Lib.hid h; clear h) | (go_at_call 41; with_reducible refine (H6.out _).mono ?_; rintro e w2 ⟨rfl, rfl⟩))
  go_ret2
  exact ⟨rfl, H.out⟩
theorem awake_any (w : World) (ht : Tab w) : Calls Tryd.prog 11 #[] w fun e w' => e = .returned (.bool true) ∧ Same w w' := by
  have H1 := Lib.hid (x1 w ht)
  have H2 := Lib.hid (x2 w ht)
  have H3 := Lib.hid (fun w => x3 w)
  have H4 := Lib.hid (fun w => x4 w)
  have H6 := Lib.hid (fun (w1 : World) (h : Same w w1) => x6 w1 (ht.same h))
  clear ht
  go_enter Tryd.func11, Tryd.ntmps11
  go_wp2_with (first
    | (go_at_call 12; with_reducible refine H1.out.mono ?_; rintro e w1 ⟨rfl, rfl⟩)
    | (go_at_call 14; with_reducible refine H2.out.mono ?_; rintro e w1 ⟨rfl, h⟩; have H := Lib.hid h; clear h)
    | (go_at_call 23; with_reducible refine (H3.out _).mono ?_; rintro e w2 ⟨rfl, rfl⟩)
    | (go_at_call 25; with_reducible refine (H4.out _).mono ?_; rintro e w2 ⟨rfl, rfl⟩)
    | (go_at_call 27; with_reducible refine (H6.out _ H.out).mono ?_; rintro e w2 ⟨rfl, h⟩; have H' := Lib.hid (H.out.trans h); clear h H; have H := H'; clear H'))
  go_ret
  exact ⟨rfl, H.out⟩
end Go.Proofs.YtjgbbafmjdapdaaDoor
