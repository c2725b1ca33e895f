/- Frames: the check by the reference, way by way: kinds 2. -/
import Derived.Test.YtilpbbpdchbdfaaF5
namespace Go.Proofs.Ytilpbbpdchbdfaa
open Go.RowKit

set_option maxRecDepth 100000 in
theorem c2_2_1 (s t l q fl n e sl r ep : Int) (d : ByteArray) (hA : inB s 0 31 = false) (w : World) : Calls Try.prog 19 #[frV ⟨2, s, t, l, q, fl, n, e, sl, r, ep, d⟩] w fun E w' => E = .returned (.int .i64 1) ∧ Same w w' := by
  have HS := Lib.hid ((Same.refl w).alloc (.cells (frC ⟨2, s, t, l, q, fl, n, e, sl, r, ep, d⟩) 23))
  have gA := fun w1 => within2_any s 31 w1
  rw [hA] at gA
  have GA := Lib.hid gA; clear gA hA
  go_enter Try.func19, Try.ntmps19
  go_wp2
  go_region
  go_wp2_with (first
    | (go_at_call 41; (with_reducible refine (GA.out _).mono ?_); rintro e w1 ⟨rfl, hw⟩; replace hw := hw.symm; subst hw))
  go_ret
  exact ⟨rfl, by first | exact HS.out | exact HS.out.drew⟩
set_option maxRecDepth 100000 in
theorem c2_2_2 (s t l q fl n e sl r ep : Int) (d : ByteArray) (hA : inB s 0 31 = true) (hB : inB l 0 255 = false) (w : World) : Calls Try.prog 19 #[frV ⟨2, s, t, l, q, fl, n, e, sl, r, ep, d⟩] w fun E w' => E = .returned (.int .i64 1) ∧ Same w w' := by
  have HS := Lib.hid ((Same.refl w).alloc (.cells (frC ⟨2, s, t, l, q, fl, n, e, sl, r, ep, d⟩) 23))
  have gA := fun w1 => within2_any s 31 w1
  rw [hA] at gA
  have GA := Lib.hid gA; clear gA hA
  have gB := fun w1 => within2_any l 255 w1
  rw [hB] at gB
  have GB := Lib.hid gB; clear gB hB
  go_enter Try.func19, Try.ntmps19
  go_wp2
  go_region
  go_wp2_with (first
    | (go_at_call 41; (with_reducible refine (GA.out _).mono ?_); rintro e w1 ⟨rfl, hw⟩; replace hw := hw.symm; subst hw)
    | (go_at_call 41; (with_reducible refine (GB.out _).mono ?_); rintro e w1 ⟨rfl, hw⟩; replace hw := hw.symm; subst hw))
  go_ret
  exact ⟨rfl, by first | exact HS.out | exact HS.out.drew⟩
set_option maxRecDepth 100000 in
theorem c2_2_3 (s t l q fl n e sl r ep : Int) (d : ByteArray) (hA : inB s 0 31 = true) (hB : inB l 0 255 = true) (hC : inB q 0 255 = false) (w : World) : Calls Try.prog 19 #[frV ⟨2, s, t, l, q, fl, n, e, sl, r, ep, d⟩] w fun E w' => E = .returned (.int .i64 1) ∧ Same w w' := by
  have HS := Lib.hid ((Same.refl w).alloc (.cells (frC ⟨2, s, t, l, q, fl, n, e, sl, r, ep, d⟩) 23))
  have gA := fun w1 => within2_any s 31 w1
  rw [hA] at gA
  have GA := Lib.hid gA; clear gA hA
  have gB := fun w1 => within2_any l 255 w1
  rw [hB] at gB
  have GB := Lib.hid gB; clear gB hB
  have gC := fun w1 => within2_any q 255 w1
  rw [hC] at gC
  have GC := Lib.hid gC; clear gC hC
  go_enter Try.func19, Try.ntmps19
  go_wp2
  go_region
  go_wp2_with (first
    | (go_at_call 41; (with_reducible refine (GA.out _).mono ?_); rintro e w1 ⟨rfl, hw⟩; replace hw := hw.symm; subst hw)
    | (go_at_call 41; (with_reducible refine (GB.out _).mono ?_); rintro e w1 ⟨rfl, hw⟩; replace hw := hw.symm; subst hw)
    | (go_at_call 41; (with_reducible refine (GC.out _).mono ?_); rintro e w1 ⟨rfl, hw⟩; replace hw := hw.symm; subst hw))
  go_ret
  exact ⟨rfl, by first | exact HS.out | exact HS.out.drew⟩
set_option maxRecDepth 100000 in
theorem c2_2_4 (s t l q fl n e sl r ep : Int) (d : ByteArray) (hA : inB s 0 31 = true) (hB : inB l 0 255 = true) (hC : inB q 0 255 = true) (t1 : decide (t < -1) = true) (w : World) : Calls Try.prog 19 #[frV ⟨2, s, t, l, q, fl, n, e, sl, r, ep, d⟩] w fun E w' => E = .returned (.int .i64 1) ∧ Same w w' := by
  have HS := Lib.hid ((Same.refl w).alloc (.cells (frC ⟨2, s, t, l, q, fl, n, e, sl, r, ep, d⟩) 23))
  have gA := fun w1 => within2_any s 31 w1
  rw [hA] at gA
  have GA := Lib.hid gA; clear gA hA
  have gB := fun w1 => within2_any l 255 w1
  rw [hB] at gB
  have GB := Lib.hid gB; clear gB hB
  have gC := fun w1 => within2_any q 255 w1
  rw [hC] at gC
  have GC := Lib.hid gC; clear gC hC
  go_enter Try.func19, Try.ntmps19
  go_wp2
  go_region
  go_wp2_with (first
    | (go_at_call 41; (with_reducible refine (GA.out _).mono ?_); rintro e w1 ⟨rfl, hw⟩; replace hw := hw.symm; subst hw)
    | (go_at_call 41; (with_reducible refine (GB.out _).mono ?_); rintro e w1 ⟨rfl, hw⟩; replace hw := hw.symm; subst hw)
    | (go_at_call 41; (with_reducible refine (GC.out _).mono ?_); rintro e w1 ⟨rfl, hw⟩; replace hw := hw.symm; subst hw))
  go_ret
  exact ⟨rfl, by first | exact HS.out | exact HS.out.drew⟩
set_option maxRecDepth 100000 in
theorem c2_2_5 (s t l q fl n e sl r ep : Int) (d : ByteArray) (hA : inB s 0 31 = true) (hB : inB l 0 255 = true) (hC : inB q 0 255 = true) (t1 : decide (t < -1) = false) (t2 : decide (31 < t) = true) (w : World) : Calls Try.prog 19 #[frV ⟨2, s, t, l, q, fl, n, e, sl, r, ep, d⟩] w fun E w' => E = .returned (.int .i64 1) ∧ Same w w' := by
  have HS := Lib.hid ((Same.refl w).alloc (.cells (frC ⟨2, s, t, l, q, fl, n, e, sl, r, ep, d⟩) 23))
  have gA := fun w1 => within2_any s 31 w1
  rw [hA] at gA
  have GA := Lib.hid gA; clear gA hA
  have gB := fun w1 => within2_any l 255 w1
  rw [hB] at gB
  have GB := Lib.hid gB; clear gB hB
  have gC := fun w1 => within2_any q 255 w1
  rw [hC] at gC
  have GC := Lib.hid gC; clear gC hC
  go_enter Try.func19, Try.ntmps19
  go_wp2
  go_region
  go_wp2_with (first
    | (go_at_call 41; (with_reducible refine (GA.out _).mono ?_); rintro e w1 ⟨rfl, hw⟩; replace hw := hw.symm; subst hw)
    | (go_at_call 41; (with_reducible refine (GB.out _).mono ?_); rintro e w1 ⟨rfl, hw⟩; replace hw := hw.symm; subst hw)
    | (go_at_call 41; (with_reducible refine (GC.out _).mono ?_); rintro e w1 ⟨rfl, hw⟩; replace hw := hw.symm; subst hw))
  go_ret
  exact ⟨rfl, by first | exact HS.out | exact HS.out.drew⟩
set_option maxRecDepth 100000 in
theorem c2_2_6 (s t l q fl n e sl r ep : Int) (d : ByteArray) (hA : inB s 0 31 = true) (hB : inB l 0 255 = true) (hC : inB q 0 255 = true) (t1 : decide (t < -1) = false) (t2 : decide (31 < t) = false) (t3 : (t == s) = true) (w : World) : Calls Try.prog 19 #[frV ⟨2, s, t, l, q, fl, n, e, sl, r, ep, d⟩] w fun E w' => E = .returned (.int .i64 1) ∧ Same w w' := by
  have HS := Lib.hid ((Same.refl w).alloc (.cells (frC ⟨2, s, t, l, q, fl, n, e, sl, r, ep, d⟩) 23))
  have gA := fun w1 => within2_any s 31 w1
  rw [hA] at gA
  have GA := Lib.hid gA; clear gA hA
  have gB := fun w1 => within2_any l 255 w1
  rw [hB] at gB
  have GB := Lib.hid gB; clear gB hB
  have gC := fun w1 => within2_any q 255 w1
  rw [hC] at gC
  have GC := Lib.hid gC; clear gC hC
  go_enter Try.func19, Try.ntmps19
  go_wp2
  go_region
  go_wp2_with (first
    | (go_at_call 41; (with_reducible refine (GA.out _).mono ?_); rintro e w1 ⟨rfl, hw⟩; replace hw := hw.symm; subst hw)
    | (go_at_call 41; (with_reducible refine (GB.out _).mono ?_); rintro e w1 ⟨rfl, hw⟩; replace hw := hw.symm; subst hw)
    | (go_at_call 41; (with_reducible refine (GC.out _).mono ?_); rintro e w1 ⟨rfl, hw⟩; replace hw := hw.symm; subst hw))
  go_ret
  exact ⟨rfl, by first | exact HS.out | exact HS.out.drew⟩
set_option maxRecDepth 100000 in
theorem c2_2_7 (s t l q fl n e sl r ep : Int) (d : ByteArray) (hA : inB s 0 31 = true) (hB : inB l 0 255 = true) (hC : inB q 0 255 = true) (t1 : decide (t < -1) = false) (t2 : decide (31 < t) = false) (t3 : (t == s) = false) (t4 : (t == -1) = true) (w : World) : Calls Try.prog 19 #[frV ⟨2, s, t, l, q, fl, n, e, sl, r, ep, d⟩] w fun E w' => E = .returned (.int .i64 1) ∧ Same w w' := by
  have HS := Lib.hid ((Same.refl w).alloc (.cells (frC ⟨2, s, t, l, q, fl, n, e, sl, r, ep, d⟩) 23))
  have gA := fun w1 => within2_any s 31 w1
  rw [hA] at gA
  have GA := Lib.hid gA; clear gA hA
  have gB := fun w1 => within2_any l 255 w1
  rw [hB] at gB
  have GB := Lib.hid gB; clear gB hB
  have gC := fun w1 => within2_any q 255 w1
  rw [hC] at gC
  have GC := Lib.hid gC; clear gC hC
  go_enter Try.func19, Try.ntmps19
  go_wp2
  go_region
  go_wp2_with (first
    | (go_at_call 41; (with_reducible refine (GA.out _).mono ?_); rintro e w1 ⟨rfl, hw⟩; replace hw := hw.symm; subst hw)
    | (go_at_call 41; (with_reducible refine (GB.out _).mono ?_); rintro e w1 ⟨rfl, hw⟩; replace hw := hw.symm; subst hw)
    | (go_at_call 41; (with_reducible refine (GC.out _).mono ?_); rintro e w1 ⟨rfl, hw⟩; replace hw := hw.symm; subst hw))
  go_ret
  exact ⟨rfl, by first | exact HS.out | exact HS.out.drew⟩
set_option maxRecDepth 100000 in
theorem c2_2_8 (s t l q fl n e sl r ep : Int) (d : ByteArray) (hA : inB s 0 31 = true) (hB : inB l 0 255 = true) (hC : inB q 0 255 = true) (t1 : decide (t < -1) = false) (t2 : decide (31 < t) = false) (t3 : (t == s) = false) (t4 : (t == -1) = false) (zfl : (fl != 0) = true) (w : World) : Calls Try.prog 19 #[frV ⟨2, s, t, l, q, fl, n, e, sl, r, ep, d⟩] w fun E w' => E = .returned (.int .i64 1) ∧ Same w w' := by
  have HS := Lib.hid ((Same.refl w).alloc (.cells (frC ⟨2, s, t, l, q, fl, n, e, sl, r, ep, d⟩) 23))
  have gA := fun w1 => within2_any s 31 w1
  rw [hA] at gA
  have GA := Lib.hid gA; clear gA hA
  have gB := fun w1 => within2_any l 255 w1
  rw [hB] at gB
  have GB := Lib.hid gB; clear gB hB
  have gC := fun w1 => within2_any q 255 w1
  rw [hC] at gC
  have GC := Lib.hid gC; clear gC hC
  go_enter Try.func19, Try.ntmps19
  go_wp2
  go_region
  go_wp2_with (first
    | (go_at_call 41; (with_reducible refine (GA.out _).mono ?_); rintro e w1 ⟨rfl, hw⟩; replace hw := hw.symm; subst hw)
    | (go_at_call 41; (with_reducible refine (GB.out _).mono ?_); rintro e w1 ⟨rfl, hw⟩; replace hw := hw.symm; subst hw)
    | (go_at_call 41; (with_reducible refine (GC.out _).mono ?_); rintro e w1 ⟨rfl, hw⟩; replace hw := hw.symm; subst hw))
  go_ret
  exact ⟨rfl, by first | exact HS.out | exact HS.out.drew⟩
set_option maxRecDepth 100000 in
theorem c2_2_9 (s t l q n e sl r ep : Int) (d : ByteArray) (hA : inB s 0 31 = true) (hB : inB l 0 255 = true) (hC : inB q 0 255 = true) (t1 : decide (t < -1) = false) (t2 : decide (31 < t) = false) (t3 : (t == s) = false) (t4 : (t == -1) = false) (zn : (n != 0) = true) (w : World) : Calls Try.prog 19 #[frV ⟨2, s, t, l, q, 0, n, e, sl, r, ep, d⟩] w fun E w' => E = .returned (.int .i64 1) ∧ Same w w' := by
  have HS := Lib.hid ((Same.refl w).alloc (.cells (frC ⟨2, s, t, l, q, 0, n, e, sl, r, ep, d⟩) 23))
  have gA := fun w1 => within2_any s 31 w1
  rw [hA] at gA
  have GA := Lib.hid gA; clear gA hA
  have gB := fun w1 => within2_any l 255 w1
  rw [hB] at gB
  have GB := Lib.hid gB; clear gB hB
  have gC := fun w1 => within2_any q 255 w1
  rw [hC] at gC
  have GC := Lib.hid gC; clear gC hC
  have HN := Lib.hid (fun (m : Int) (hm : 0 ≤ m) (w1 : World) => within2_zero m hm w1)
  go_enter Try.func19, Try.ntmps19
  go_wp2
  go_region
  go_wp2_with (first
    | (go_at_call 41; (with_reducible refine (GA.out _).mono ?_); rintro e w1 ⟨rfl, hw⟩; replace hw := hw.symm; subst hw)
    | (go_at_call 41; (with_reducible refine (GB.out _).mono ?_); rintro e w1 ⟨rfl, hw⟩; replace hw := hw.symm; subst hw)
    | (go_at_call 41; (with_reducible refine (GC.out _).mono ?_); rintro e w1 ⟨rfl, hw⟩; replace hw := hw.symm; subst hw)
    | (go_at_call 41; (with_reducible refine (HN.out _ (by decide) _).mono ?_); rintro e w1 ⟨rfl, hw⟩; replace hw := hw.symm; subst hw))
  go_ret
  exact ⟨rfl, by first | exact HS.out | exact HS.out.drew⟩
set_option maxRecDepth 100000 in
theorem c2_2_10 (s t l q e sl r ep : Int) (d : ByteArray) (hA : inB s 0 31 = true) (hB : inB l 0 255 = true) (hC : inB q 0 255 = true) (t1 : decide (t < -1) = false) (t2 : decide (31 < t) = false) (t3 : (t == s) = false) (t4 : (t == -1) = false) (zsl : (sl != 0) = true) (w : World) : Calls Try.prog 19 #[frV ⟨2, s, t, l, q, 0, 0, e, sl, r, ep, d⟩] w fun E w' => E = .returned (.int .i64 1) ∧ Same w w' := by
  have HS := Lib.hid ((Same.refl w).alloc (.cells (frC ⟨2, s, t, l, q, 0, 0, e, sl, r, ep, d⟩) 23))
  have gA := fun w1 => within2_any s 31 w1
  rw [hA] at gA
  have GA := Lib.hid gA; clear gA hA
  have gB := fun w1 => within2_any l 255 w1
  rw [hB] at gB
  have GB := Lib.hid gB; clear gB hB
  have gC := fun w1 => within2_any q 255 w1
  rw [hC] at gC
  have GC := Lib.hid gC; clear gC hC
  have HN := Lib.hid (fun (m : Int) (hm : 0 ≤ m) (w1 : World) => within2_zero m hm w1)
  go_enter Try.func19, Try.ntmps19
  go_wp2
  go_region
  go_wp2_with (first
    | (go_at_call 41; (with_reducible refine (GA.out _).mono ?_); rintro e w1 ⟨rfl, hw⟩; replace hw := hw.symm; subst hw)
    | (go_at_call 41; (with_reducible refine (GB.out _).mono ?_); rintro e w1 ⟨rfl, hw⟩; replace hw := hw.symm; subst hw)
    | (go_at_call 41; (with_reducible refine (GC.out _).mono ?_); rintro e w1 ⟨rfl, hw⟩; replace hw := hw.symm; subst hw)
    | (go_at_call 41; (with_reducible refine (HN.out _ (by decide) _).mono ?_); rintro e w1 ⟨rfl, hw⟩; replace hw := hw.symm; subst hw))
  go_ret
  exact ⟨rfl, by first | exact HS.out | exact HS.out.drew⟩
set_option maxRecDepth 100000 in
theorem c2_2_11 (s t l q e r ep : Int) (d : ByteArray) (hA : inB s 0 31 = true) (hB : inB l 0 255 = true) (hC : inB q 0 255 = true) (t1 : decide (t < -1) = false) (t2 : decide (31 < t) = false) (t3 : (t == s) = false) (t4 : (t == -1) = false) (zr : (r != 0) = true) (w : World) : Calls Try.prog 19 #[frV ⟨2, s, t, l, q, 0, 0, e, 0, r, ep, d⟩] w fun E w' => E = .returned (.int .i64 1) ∧ Same w w' := by
  have HS := Lib.hid ((Same.refl w).alloc (.cells (frC ⟨2, s, t, l, q, 0, 0, e, 0, r, ep, d⟩) 23))
  have gA := fun w1 => within2_any s 31 w1
  rw [hA] at gA
  have GA := Lib.hid gA; clear gA hA
  have gB := fun w1 => within2_any l 255 w1
  rw [hB] at gB
  have GB := Lib.hid gB; clear gB hB
  have gC := fun w1 => within2_any q 255 w1
  rw [hC] at gC
  have GC := Lib.hid gC; clear gC hC
  have HN := Lib.hid (fun (m : Int) (hm : 0 ≤ m) (w1 : World) => within2_zero m hm w1)
  go_enter Try.func19, Try.ntmps19
  go_wp2
  go_region
  go_wp2_with (first
    | (go_at_call 41; (with_reducible refine (GA.out _).mono ?_); rintro e w1 ⟨rfl, hw⟩; replace hw := hw.symm; subst hw)
    | (go_at_call 41; (with_reducible refine (GB.out _).mono ?_); rintro e w1 ⟨rfl, hw⟩; replace hw := hw.symm; subst hw)
    | (go_at_call 41; (with_reducible refine (GC.out _).mono ?_); rintro e w1 ⟨rfl, hw⟩; replace hw := hw.symm; subst hw)
    | (go_at_call 41; (with_reducible refine (HN.out _ (by decide) _).mono ?_); rintro e w1 ⟨rfl, hw⟩; replace hw := hw.symm; subst hw))
  go_ret
  exact ⟨rfl, by first | exact HS.out | exact HS.out.drew⟩
set_option maxRecDepth 100000 in
theorem c2_2_12 (s t l q e ep : Int) (d : ByteArray) (hA : inB s 0 31 = true) (hB : inB l 0 255 = true) (hC : inB q 0 255 = true) (t1 : decide (t < -1) = false) (t2 : decide (31 < t) = false) (t3 : (t == s) = false) (t4 : (t == -1) = false) (zep : (ep != 0) = true) (w : World) : Calls Try.prog 19 #[frV ⟨2, s, t, l, q, 0, 0, e, 0, 0, ep, d⟩] w fun E w' => E = .returned (.int .i64 1) ∧ Same w w' := by
  have HS := Lib.hid ((Same.refl w).alloc (.cells (frC ⟨2, s, t, l, q, 0, 0, e, 0, 0, ep, d⟩) 23))
  have gA := fun w1 => within2_any s 31 w1
  rw [hA] at gA
  have GA := Lib.hid gA; clear gA hA
  have gB := fun w1 => within2_any l 255 w1
  rw [hB] at gB
  have GB := Lib.hid gB; clear gB hB
  have gC := fun w1 => within2_any q 255 w1
  rw [hC] at gC
  have GC := Lib.hid gC; clear gC hC
  have HN := Lib.hid (fun (m : Int) (hm : 0 ≤ m) (w1 : World) => within2_zero m hm w1)
  go_enter Try.func19, Try.ntmps19
  go_wp2
  go_region
  go_wp2_with (first
    | (go_at_call 41; (with_reducible refine (GA.out _).mono ?_); rintro e w1 ⟨rfl, hw⟩; replace hw := hw.symm; subst hw)
    | (go_at_call 41; (with_reducible refine (GB.out _).mono ?_); rintro e w1 ⟨rfl, hw⟩; replace hw := hw.symm; subst hw)
    | (go_at_call 41; (with_reducible refine (GC.out _).mono ?_); rintro e w1 ⟨rfl, hw⟩; replace hw := hw.symm; subst hw)
    | (go_at_call 41; (with_reducible refine (HN.out _ (by decide) _).mono ?_); rintro e w1 ⟨rfl, hw⟩; replace hw := hw.symm; subst hw))
  go_ret
  exact ⟨rfl, by first | exact HS.out | exact HS.out.drew⟩
set_option maxRecDepth 100000 in
theorem c2_2_13 (s t l q e : Int) (d : ByteArray) (hA : inB s 0 31 = true) (hB : inB l 0 255 = true) (hC : inB q 0 255 = true) (t1 : decide (t < -1) = false) (t2 : decide (31 < t) = false) (t3 : (t == s) = false) (t4 : (t == -1) = false) (dd : d.toList.isEmpty = false) (w : World) : Calls Try.prog 19 #[frV ⟨2, s, t, l, q, 0, 0, e, 0, 0, 0, d⟩] w fun E w' => E = .returned (.int .i64 1) ∧ Same w w' := by
  have HS := Lib.hid ((Same.refl w).alloc (.cells (frC ⟨2, s, t, l, q, 0, 0, e, 0, 0, 0, d⟩) 23))
  have gA := fun w1 => within2_any s 31 w1
  rw [hA] at gA
  have GA := Lib.hid gA; clear gA hA
  have gB := fun w1 => within2_any l 255 w1
  rw [hB] at gB
  have GB := Lib.hid gB; clear gB hB
  have gC := fun w1 => within2_any q 255 w1
  rw [hC] at gC
  have GC := Lib.hid gC; clear gC hC
  have HN := Lib.hid (fun (m : Int) (hm : 0 ≤ m) (w1 : World) => within2_zero m hm w1)
  go_enter Try.func19, Try.ntmps19
  go_wp2
  go_region
  go_wp2_with (first
    | (go_at_call 41; (with_reducible refine (GA.out _).mono ?_); rintro e w1 ⟨rfl, hw⟩; replace hw := hw.symm; subst hw)
    | (go_at_call 41; (with_reducible refine (GB.out _).mono ?_); rintro e w1 ⟨rfl, hw⟩; replace hw := hw.symm; subst hw)
    | (go_at_call 41; (with_reducible refine (GC.out _).mono ?_); rintro e w1 ⟨rfl, hw⟩; replace hw := hw.symm; subst hw)
    | (go_at_call 41; (with_reducible refine (HN.out _ (by decide) _).mono ?_); rintro e w1 ⟨rfl, hw⟩; replace hw := hw.symm; subst hw))
  go_ret
  exact ⟨rfl, by first | exact HS.out | exact HS.out.drew⟩
set_option maxRecDepth 100000 in
theorem c2_2_14 (s t l q e : Int) (d : ByteArray) (hA : inB s 0 31 = true) (hB : inB l 0 255 = true) (hC : inB q 0 255 = true) (t1 : decide (t < -1) = false) (t2 : decide (31 < t) = false) (t3 : (t == s) = false) (t4 : (t == -1) = false) (dd : d.toList.isEmpty = true) (e1 : decide (e < -32768) = true) (w : World) : Calls Try.prog 19 #[frV ⟨2, s, t, l, q, 0, 0, e, 0, 0, 0, d⟩] w fun E w' => E = .returned (.int .i64 1) ∧ Same w w' := by
  have HS := Lib.hid ((Same.refl w).alloc (.cells (frC ⟨2, s, t, l, q, 0, 0, e, 0, 0, 0, d⟩) 23))
  have gA := fun w1 => within2_any s 31 w1
  rw [hA] at gA
  have GA := Lib.hid gA; clear gA hA
  have gB := fun w1 => within2_any l 255 w1
  rw [hB] at gB
  have GB := Lib.hid gB; clear gB hB
  have gC := fun w1 => within2_any q 255 w1
  rw [hC] at gC
  have GC := Lib.hid gC; clear gC hC
  have HN := Lib.hid (fun (m : Int) (hm : 0 ≤ m) (w1 : World) => within2_zero m hm w1)
  go_enter Try.func19, Try.ntmps19
  go_wp2
  go_region
  go_wp2_with (first
    | (go_at_call 41; (with_reducible refine (GA.out _).mono ?_); rintro e w1 ⟨rfl, hw⟩; replace hw := hw.symm; subst hw)
    | (go_at_call 41; (with_reducible refine (GB.out _).mono ?_); rintro e w1 ⟨rfl, hw⟩; replace hw := hw.symm; subst hw)
    | (go_at_call 41; (with_reducible refine (GC.out _).mono ?_); rintro e w1 ⟨rfl, hw⟩; replace hw := hw.symm; subst hw)
    | (go_at_call 41; (with_reducible refine (HN.out _ (by decide) _).mono ?_); rintro e w1 ⟨rfl, hw⟩; replace hw := hw.symm; subst hw))
  go_ret
  exact ⟨rfl, by first | exact HS.out | exact HS.out.drew⟩
set_option maxRecDepth 100000 in
theorem c2_2_15 (s t l q e : Int) (d : ByteArray) (hA : inB s 0 31 = true) (hB : inB l 0 255 = true) (hC : inB q 0 255 = true) (t1 : decide (t < -1) = false) (t2 : decide (31 < t) = false) (t3 : (t == s) = false) (t4 : (t == -1) = false) (dd : d.toList.isEmpty = true) (e1 : decide (e < -32768) = false) (e2 : decide (32767 < e) = true) (w : World) : Calls Try.prog 19 #[frV ⟨2, s, t, l, q, 0, 0, e, 0, 0, 0, d⟩] w fun E w' => E = .returned (.int .i64 1) ∧ Same w w' := by
  have HS := Lib.hid ((Same.refl w).alloc (.cells (frC ⟨2, s, t, l, q, 0, 0, e, 0, 0, 0, d⟩) 23))
  have gA := fun w1 => within2_any s 31 w1
  rw [hA] at gA
  have GA := Lib.hid gA; clear gA hA
  have gB := fun w1 => within2_any l 255 w1
  rw [hB] at gB
  have GB := Lib.hid gB; clear gB hB
  have gC := fun w1 => within2_any q 255 w1
  rw [hC] at gC
  have GC := Lib.hid gC; clear gC hC
  have HN := Lib.hid (fun (m : Int) (hm : 0 ≤ m) (w1 : World) => within2_zero m hm w1)
  go_enter Try.func19, Try.ntmps19
  go_wp2
  go_region
  go_wp2_with (first
    | (go_at_call 41; (with_reducible refine (GA.out _).mono ?_); rintro e w1 ⟨rfl, hw⟩; replace hw := hw.symm; subst hw)
    | (go_at_call 41; (with_reducible refine (GB.out _).mono ?_); rintro e w1 ⟨rfl, hw⟩; replace hw := hw.symm; subst hw)
    | (go_at_call 41; (with_reducible refine (GC.out _).mono ?_); rintro e w1 ⟨rfl, hw⟩; replace hw := hw.symm; subst hw)
    | (go_at_call 41; (with_reducible refine (HN.out _ (by decide) _).mono ?_); rintro e w1 ⟨rfl, hw⟩; replace hw := hw.symm; subst hw))
  go_ret
  exact ⟨rfl, by first | exact HS.out | exact HS.out.drew⟩
set_option maxRecDepth 100000 in
theorem c2_2_16 (s t l q e : Int) (d : ByteArray) (hA : inB s 0 31 = true) (hB : inB l 0 255 = true) (hC : inB q 0 255 = true) (t1 : decide (t < -1) = false) (t2 : decide (31 < t) = false) (t3 : (t == s) = false) (t4 : (t == -1) = false) (dd : d.toList.isEmpty = true) (e1 : decide (e < -32768) = false) (e2 : decide (32767 < e) = false) (w : World) : Calls Try.prog 19 #[frV ⟨2, s, t, l, q, 0, 0, e, 0, 0, 0, d⟩] w fun E w' => E = .returned (.int .i64 0) ∧ Same w w' := by
  have HS := Lib.hid ((Same.refl w).alloc (.cells (frC ⟨2, s, t, l, q, 0, 0, e, 0, 0, 0, d⟩) 23))
  have gA := fun w1 => within2_any s 31 w1
  rw [hA] at gA
  have GA := Lib.hid gA; clear gA hA
  have gB := fun w1 => within2_any l 255 w1
  rw [hB] at gB
  have GB := Lib.hid gB; clear gB hB
  have gC := fun w1 => within2_any q 255 w1
  rw [hC] at gC
  have GC := Lib.hid gC; clear gC hC
  have HN := Lib.hid (fun (m : Int) (hm : 0 ≤ m) (w1 : World) => within2_zero m hm w1)
  go_enter Try.func19, Try.ntmps19
  go_wp2
  go_region
  go_wp2_with (first
    | (go_at_call 41; (with_reducible refine (GA.out _).mono ?_); rintro e w1 ⟨rfl, hw⟩; replace hw := hw.symm; subst hw)
    | (go_at_call 41; (with_reducible refine (GB.out _).mono ?_); rintro e w1 ⟨rfl, hw⟩; replace hw := hw.symm; subst hw)
    | (go_at_call 41; (with_reducible refine (GC.out _).mono ?_); rintro e w1 ⟨rfl, hw⟩; replace hw := hw.symm; subst hw)
    | (go_at_call 41; (with_reducible refine (HN.out _ (by decide) _).mono ?_); rintro e w1 ⟨rfl, hw⟩; replace hw := hw.symm; subst hw))
  go_ret
  exact ⟨rfl, by first | exact HS.out | exact HS.out.drew⟩
end Go.Proofs.Ytilpbbpdchbdfaa
