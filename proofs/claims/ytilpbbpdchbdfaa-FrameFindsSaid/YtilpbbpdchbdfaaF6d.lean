/- Frames: the check by the reference, way by way: kinds 4. -/
import Derived.Test.YtilpbbpdchbdfaaF5
namespace Go.Proofs.Ytilpbbpdchbdfaa
open Go.RowKit

set_option maxRecDepth 100000 in
theorem c2_4_1 (s t l q fl n e sl r ep : Int) (d : ByteArray) (hA : inB s 0 31 = false) (w : World) : Calls Try.prog 19 #[frV ⟨4, s, t, l, q, fl, n, e, sl, r, ep, d⟩] w fun E w' => E = .returned (.int .i64 1) ∧ Same w w' := by
  have HS := Lib.hid ((Same.refl w).alloc (.cells (frC ⟨4, s, t, l, q, fl, n, e, sl, r, ep, d⟩) 23))
  have gA := fun w1 => within2_any s 31 w1
  rw [hA] at gA
  have GA := Lib.hid gA; clear gA hA
  go_enter Try.func19, Try.ntmps19
  go_wp2
  go_region
  go_wp2_with (first
    | (go_at_call 41; (with_reducible refine (GA.out _).mono ?_); rintro e w1 ⟨rfl, hw⟩; replace hw := hw.symm; subst hw))
  go_ret
  exact ⟨rfl, by first | exact HS.out | exact HS.out.drew⟩
set_option maxRecDepth 100000 in
theorem c2_4_2 (s t l q fl n e sl r ep : Int) (d : ByteArray) (hA : inB s 0 31 = true) (hB : inB l 0 255 = false) (w : World) : Calls Try.prog 19 #[frV ⟨4, s, t, l, q, fl, n, e, sl, r, ep, d⟩] w fun E w' => E = .returned (.int .i64 1) ∧ Same w w' := by
  have HS := Lib.hid ((Same.refl w).alloc (.cells (frC ⟨4, s, t, l, q, fl, n, e, sl, r, ep, d⟩) 23))
  have gA := fun w1 => within2_any s 31 w1
  rw [hA] at gA
  have GA := Lib.hid gA; clear gA hA
  have gB := fun w1 => within2_any l 255 w1
  rw [hB] at gB
  have GB := Lib.hid gB; clear gB hB
  go_enter Try.func19, Try.ntmps19
  go_wp2
  go_region
  go_wp2_with (first
    | (go_at_call 41; (with_reducible refine (GA.out _).mono ?_); rintro e w1 ⟨rfl, hw⟩; replace hw := hw.symm; subst hw)
    | (go_at_call 41; (with_reducible refine (GB.out _).mono ?_); rintro e w1 ⟨rfl, hw⟩; replace hw := hw.symm; subst hw))
  go_ret
  exact ⟨rfl, by first | exact HS.out | exact HS.out.drew⟩
set_option maxRecDepth 100000 in
theorem c2_4_3 (s t l q fl n e sl r ep : Int) (d : ByteArray) (hA : inB s 0 31 = true) (hB : inB l 0 255 = true) (hC : inB q 0 255 = false) (w : World) : Calls Try.prog 19 #[frV ⟨4, s, t, l, q, fl, n, e, sl, r, ep, d⟩] w fun E w' => E = .returned (.int .i64 1) ∧ Same w w' := by
  have HS := Lib.hid ((Same.refl w).alloc (.cells (frC ⟨4, s, t, l, q, fl, n, e, sl, r, ep, d⟩) 23))
  have gA := fun w1 => within2_any s 31 w1
  rw [hA] at gA
  have GA := Lib.hid gA; clear gA hA
  have gB := fun w1 => within2_any l 255 w1
  rw [hB] at gB
  have GB := Lib.hid gB; clear gB hB
  have gC := fun w1 => within2_any q 255 w1
  rw [hC] at gC
  have GC := Lib.hid gC; clear gC hC
  go_enter Try.func19, Try.ntmps19
  go_wp2
  go_region
  go_wp2_with (first
    | (go_at_call 41; (with_reducible refine (GA.out _).mono ?_); rintro e w1 ⟨rfl, hw⟩; replace hw := hw.symm; subst hw)
    | (go_at_call 41; (with_reducible refine (GB.out _).mono ?_); rintro e w1 ⟨rfl, hw⟩; replace hw := hw.symm; subst hw)
    | (go_at_call 41; (with_reducible refine (GC.out _).mono ?_); rintro e w1 ⟨rfl, hw⟩; replace hw := hw.symm; subst hw))
  go_ret
  exact ⟨rfl, by first | exact HS.out | exact HS.out.drew⟩
set_option maxRecDepth 100000 in
theorem c2_4_4 (s t l q fl n e sl r ep : Int) (d : ByteArray) (hA : inB s 0 31 = true) (hB : inB l 0 255 = true) (hC : inB q 0 255 = true) (t1 : decide (t < -1) = true) (w : World) : Calls Try.prog 19 #[frV ⟨4, s, t, l, q, fl, n, e, sl, r, ep, d⟩] w fun E w' => E = .returned (.int .i64 1) ∧ Same w w' := by
  have HS := Lib.hid ((Same.refl w).alloc (.cells (frC ⟨4, s, t, l, q, fl, n, e, sl, r, ep, d⟩) 23))
  have gA := fun w1 => within2_any s 31 w1
  rw [hA] at gA
  have GA := Lib.hid gA; clear gA hA
  have gB := fun w1 => within2_any l 255 w1
  rw [hB] at gB
  have GB := Lib.hid gB; clear gB hB
  have gC := fun w1 => within2_any q 255 w1
  rw [hC] at gC
  have GC := Lib.hid gC; clear gC hC
  go_enter Try.func19, Try.ntmps19
  go_wp2
  go_region
  go_wp2_with (first
    | (go_at_call 41; (with_reducible refine (GA.out _).mono ?_); rintro e w1 ⟨rfl, hw⟩; replace hw := hw.symm; subst hw)
    | (go_at_call 41; (with_reducible refine (GB.out _).mono ?_); rintro e w1 ⟨rfl, hw⟩; replace hw := hw.symm; subst hw)
    | (go_at_call 41; (with_reducible refine (GC.out _).mono ?_); rintro e w1 ⟨rfl, hw⟩; replace hw := hw.symm; subst hw))
  go_ret
  exact ⟨rfl, by first | exact HS.out | exact HS.out.drew⟩
set_option maxRecDepth 100000 in
theorem c2_4_5 (s t l q fl n e sl r ep : Int) (d : ByteArray) (hA : inB s 0 31 = true) (hB : inB l 0 255 = true) (hC : inB q 0 255 = true) (t1 : decide (t < -1) = false) (t2 : decide (31 < t) = true) (w : World) : Calls Try.prog 19 #[frV ⟨4, s, t, l, q, fl, n, e, sl, r, ep, d⟩] w fun E w' => E = .returned (.int .i64 1) ∧ Same w w' := by
  have HS := Lib.hid ((Same.refl w).alloc (.cells (frC ⟨4, s, t, l, q, fl, n, e, sl, r, ep, d⟩) 23))
  have gA := fun w1 => within2_any s 31 w1
  rw [hA] at gA
  have GA := Lib.hid gA; clear gA hA
  have gB := fun w1 => within2_any l 255 w1
  rw [hB] at gB
  have GB := Lib.hid gB; clear gB hB
  have gC := fun w1 => within2_any q 255 w1
  rw [hC] at gC
  have GC := Lib.hid gC; clear gC hC
  go_enter Try.func19, Try.ntmps19
  go_wp2
  go_region
  go_wp2_with (first
    | (go_at_call 41; (with_reducible refine (GA.out _).mono ?_); rintro e w1 ⟨rfl, hw⟩; replace hw := hw.symm; subst hw)
    | (go_at_call 41; (with_reducible refine (GB.out _).mono ?_); rintro e w1 ⟨rfl, hw⟩; replace hw := hw.symm; subst hw)
    | (go_at_call 41; (with_reducible refine (GC.out _).mono ?_); rintro e w1 ⟨rfl, hw⟩; replace hw := hw.symm; subst hw))
  go_ret
  exact ⟨rfl, by first | exact HS.out | exact HS.out.drew⟩
set_option maxRecDepth 100000 in
theorem c2_4_6 (s t l q fl n e sl r ep : Int) (d : ByteArray) (hA : inB s 0 31 = true) (hB : inB l 0 255 = true) (hC : inB q 0 255 = true) (t1 : decide (t < -1) = false) (t2 : decide (31 < t) = false) (t3 : (t == s) = true) (w : World) : Calls Try.prog 19 #[frV ⟨4, s, t, l, q, fl, n, e, sl, r, ep, d⟩] w fun E w' => E = .returned (.int .i64 1) ∧ Same w w' := by
  have HS := Lib.hid ((Same.refl w).alloc (.cells (frC ⟨4, s, t, l, q, fl, n, e, sl, r, ep, d⟩) 23))
  have gA := fun w1 => within2_any s 31 w1
  rw [hA] at gA
  have GA := Lib.hid gA; clear gA hA
  have gB := fun w1 => within2_any l 255 w1
  rw [hB] at gB
  have GB := Lib.hid gB; clear gB hB
  have gC := fun w1 => within2_any q 255 w1
  rw [hC] at gC
  have GC := Lib.hid gC; clear gC hC
  go_enter Try.func19, Try.ntmps19
  go_wp2
  go_region
  go_wp2_with (first
    | (go_at_call 41; (with_reducible refine (GA.out _).mono ?_); rintro e w1 ⟨rfl, hw⟩; replace hw := hw.symm; subst hw)
    | (go_at_call 41; (with_reducible refine (GB.out _).mono ?_); rintro e w1 ⟨rfl, hw⟩; replace hw := hw.symm; subst hw)
    | (go_at_call 41; (with_reducible refine (GC.out _).mono ?_); rintro e w1 ⟨rfl, hw⟩; replace hw := hw.symm; subst hw))
  go_ret
  exact ⟨rfl, by first | exact HS.out | exact HS.out.drew⟩
set_option maxRecDepth 100000 in
theorem c2_4_7 (s t l q fl n e sl r ep : Int) (d : ByteArray) (hA : inB s 0 31 = true) (hB : inB l 0 255 = true) (hC : inB q 0 255 = true) (t1 : decide (t < -1) = false) (t2 : decide (31 < t) = false) (t3 : (t == s) = false) (zfl : (fl != 0) = true) (w : World) : Calls Try.prog 19 #[frV ⟨4, s, t, l, q, fl, n, e, sl, r, ep, d⟩] w fun E w' => E = .returned (.int .i64 1) ∧ Same w w' := by
  have HS := Lib.hid ((Same.refl w).alloc (.cells (frC ⟨4, s, t, l, q, fl, n, e, sl, r, ep, d⟩) 23))
  have gA := fun w1 => within2_any s 31 w1
  rw [hA] at gA
  have GA := Lib.hid gA; clear gA hA
  have gB := fun w1 => within2_any l 255 w1
  rw [hB] at gB
  have GB := Lib.hid gB; clear gB hB
  have gC := fun w1 => within2_any q 255 w1
  rw [hC] at gC
  have GC := Lib.hid gC; clear gC hC
  go_enter Try.func19, Try.ntmps19
  go_wp2
  go_region
  go_wp2_with (first
    | (go_at_call 41; (with_reducible refine (GA.out _).mono ?_); rintro e w1 ⟨rfl, hw⟩; replace hw := hw.symm; subst hw)
    | (go_at_call 41; (with_reducible refine (GB.out _).mono ?_); rintro e w1 ⟨rfl, hw⟩; replace hw := hw.symm; subst hw)
    | (go_at_call 41; (with_reducible refine (GC.out _).mono ?_); rintro e w1 ⟨rfl, hw⟩; replace hw := hw.symm; subst hw))
  go_ret
  exact ⟨rfl, by first | exact HS.out | exact HS.out.drew⟩
set_option maxRecDepth 100000 in
theorem c2_4_8 (s t l q n e sl r ep : Int) (d : ByteArray) (hA : inB s 0 31 = true) (hB : inB l 0 255 = true) (hC : inB q 0 255 = true) (t1 : decide (t < -1) = false) (t2 : decide (31 < t) = false) (t3 : (t == s) = false) (zn : (n != 0) = true) (w : World) : Calls Try.prog 19 #[frV ⟨4, s, t, l, q, 0, n, e, sl, r, ep, d⟩] w fun E w' => E = .returned (.int .i64 1) ∧ Same w w' := by
  have HS := Lib.hid ((Same.refl w).alloc (.cells (frC ⟨4, s, t, l, q, 0, n, e, sl, r, ep, d⟩) 23))
  have gA := fun w1 => within2_any s 31 w1
  rw [hA] at gA
  have GA := Lib.hid gA; clear gA hA
  have gB := fun w1 => within2_any l 255 w1
  rw [hB] at gB
  have GB := Lib.hid gB; clear gB hB
  have gC := fun w1 => within2_any q 255 w1
  rw [hC] at gC
  have GC := Lib.hid gC; clear gC hC
  have HN := Lib.hid (fun (m : Int) (hm : 0 ≤ m) (w1 : World) => within2_zero m hm w1)
  go_enter Try.func19, Try.ntmps19
  go_wp2
  go_region
  go_wp2_with (first
    | (go_at_call 41; (with_reducible refine (GA.out _).mono ?_); rintro e w1 ⟨rfl, hw⟩; replace hw := hw.symm; subst hw)
    | (go_at_call 41; (with_reducible refine (GB.out _).mono ?_); rintro e w1 ⟨rfl, hw⟩; replace hw := hw.symm; subst hw)
    | (go_at_call 41; (with_reducible refine (GC.out _).mono ?_); rintro e w1 ⟨rfl, hw⟩; replace hw := hw.symm; subst hw)
    | (go_at_call 41; (with_reducible refine (HN.out _ (by decide) _).mono ?_); rintro e w1 ⟨rfl, hw⟩; replace hw := hw.symm; subst hw))
  go_ret
  exact ⟨rfl, by first | exact HS.out | exact HS.out.drew⟩
set_option maxRecDepth 100000 in
theorem c2_4_9 (s t l q e sl r ep : Int) (d : ByteArray) (hA : inB s 0 31 = true) (hB : inB l 0 255 = true) (hC : inB q 0 255 = true) (t1 : decide (t < -1) = false) (t2 : decide (31 < t) = false) (t3 : (t == s) = false) (ze : (e != 0) = true) (w : World) : Calls Try.prog 19 #[frV ⟨4, s, t, l, q, 0, 0, e, sl, r, ep, d⟩] w fun E w' => E = .returned (.int .i64 1) ∧ Same w w' := by
  have HS := Lib.hid ((Same.refl w).alloc (.cells (frC ⟨4, s, t, l, q, 0, 0, e, sl, r, ep, d⟩) 23))
  have gA := fun w1 => within2_any s 31 w1
  rw [hA] at gA
  have GA := Lib.hid gA; clear gA hA
  have gB := fun w1 => within2_any l 255 w1
  rw [hB] at gB
  have GB := Lib.hid gB; clear gB hB
  have gC := fun w1 => within2_any q 255 w1
  rw [hC] at gC
  have GC := Lib.hid gC; clear gC hC
  have HN := Lib.hid (fun (m : Int) (hm : 0 ≤ m) (w1 : World) => within2_zero m hm w1)
  go_enter Try.func19, Try.ntmps19
  go_wp2
  go_region
  go_wp2_with (first
    | (go_at_call 41; (with_reducible refine (GA.out _).mono ?_); rintro e w1 ⟨rfl, hw⟩; replace hw := hw.symm; subst hw)
    | (go_at_call 41; (with_reducible refine (GB.out _).mono ?_); rintro e w1 ⟨rfl, hw⟩; replace hw := hw.symm; subst hw)
    | (go_at_call 41; (with_reducible refine (GC.out _).mono ?_); rintro e w1 ⟨rfl, hw⟩; replace hw := hw.symm; subst hw)
    | (go_at_call 41; (with_reducible refine (HN.out _ (by decide) _).mono ?_); rintro e w1 ⟨rfl, hw⟩; replace hw := hw.symm; subst hw))
  go_ret
  exact ⟨rfl, by first | exact HS.out | exact HS.out.drew⟩
set_option maxRecDepth 100000 in
theorem c2_4_10 (s t l q sl r ep : Int) (d : ByteArray) (hA : inB s 0 31 = true) (hB : inB l 0 255 = true) (hC : inB q 0 255 = true) (t1 : decide (t < -1) = false) (t2 : decide (31 < t) = false) (t3 : (t == s) = false) (zsl : (sl != 0) = true) (w : World) : Calls Try.prog 19 #[frV ⟨4, s, t, l, q, 0, 0, 0, sl, r, ep, d⟩] w fun E w' => E = .returned (.int .i64 1) ∧ Same w w' := by
  have HS := Lib.hid ((Same.refl w).alloc (.cells (frC ⟨4, s, t, l, q, 0, 0, 0, sl, r, ep, d⟩) 23))
  have gA := fun w1 => within2_any s 31 w1
  rw [hA] at gA
  have GA := Lib.hid gA; clear gA hA
  have gB := fun w1 => within2_any l 255 w1
  rw [hB] at gB
  have GB := Lib.hid gB; clear gB hB
  have gC := fun w1 => within2_any q 255 w1
  rw [hC] at gC
  have GC := Lib.hid gC; clear gC hC
  have HN := Lib.hid (fun (m : Int) (hm : 0 ≤ m) (w1 : World) => within2_zero m hm w1)
  go_enter Try.func19, Try.ntmps19
  go_wp2
  go_region
  go_wp2_with (first
    | (go_at_call 41; (with_reducible refine (GA.out _).mono ?_); rintro e w1 ⟨rfl, hw⟩; replace hw := hw.symm; subst hw)
    | (go_at_call 41; (with_reducible refine (GB.out _).mono ?_); rintro e w1 ⟨rfl, hw⟩; replace hw := hw.symm; subst hw)
    | (go_at_call 41; (with_reducible refine (GC.out _).mono ?_); rintro e w1 ⟨rfl, hw⟩; replace hw := hw.symm; subst hw)
    | (go_at_call 41; (with_reducible refine (HN.out _ (by decide) _).mono ?_); rintro e w1 ⟨rfl, hw⟩; replace hw := hw.symm; subst hw))
  go_ret
  exact ⟨rfl, by first | exact HS.out | exact HS.out.drew⟩
set_option maxRecDepth 100000 in
theorem c2_4_11 (s t l q r ep : Int) (d : ByteArray) (hA : inB s 0 31 = true) (hB : inB l 0 255 = true) (hC : inB q 0 255 = true) (t1 : decide (t < -1) = false) (t2 : decide (31 < t) = false) (t3 : (t == s) = false) (zr : (r != 0) = true) (w : World) : Calls Try.prog 19 #[frV ⟨4, s, t, l, q, 0, 0, 0, 0, r, ep, d⟩] w fun E w' => E = .returned (.int .i64 1) ∧ Same w w' := by
  have HS := Lib.hid ((Same.refl w).alloc (.cells (frC ⟨4, s, t, l, q, 0, 0, 0, 0, r, ep, d⟩) 23))
  have gA := fun w1 => within2_any s 31 w1
  rw [hA] at gA
  have GA := Lib.hid gA; clear gA hA
  have gB := fun w1 => within2_any l 255 w1
  rw [hB] at gB
  have GB := Lib.hid gB; clear gB hB
  have gC := fun w1 => within2_any q 255 w1
  rw [hC] at gC
  have GC := Lib.hid gC; clear gC hC
  have HN := Lib.hid (fun (m : Int) (hm : 0 ≤ m) (w1 : World) => within2_zero m hm w1)
  go_enter Try.func19, Try.ntmps19
  go_wp2
  go_region
  go_wp2_with (first
    | (go_at_call 41; (with_reducible refine (GA.out _).mono ?_); rintro e w1 ⟨rfl, hw⟩; replace hw := hw.symm; subst hw)
    | (go_at_call 41; (with_reducible refine (GB.out _).mono ?_); rintro e w1 ⟨rfl, hw⟩; replace hw := hw.symm; subst hw)
    | (go_at_call 41; (with_reducible refine (GC.out _).mono ?_); rintro e w1 ⟨rfl, hw⟩; replace hw := hw.symm; subst hw)
    | (go_at_call 41; (with_reducible refine (HN.out _ (by decide) _).mono ?_); rintro e w1 ⟨rfl, hw⟩; replace hw := hw.symm; subst hw))
  go_ret
  exact ⟨rfl, by first | exact HS.out | exact HS.out.drew⟩
set_option maxRecDepth 100000 in
theorem c2_4_12 (s t l q ep : Int) (d : ByteArray) (hA : inB s 0 31 = true) (hB : inB l 0 255 = true) (hC : inB q 0 255 = true) (t1 : decide (t < -1) = false) (t2 : decide (31 < t) = false) (t3 : (t == s) = false) (zep : (ep != 0) = true) (w : World) : Calls Try.prog 19 #[frV ⟨4, s, t, l, q, 0, 0, 0, 0, 0, ep, d⟩] w fun E w' => E = .returned (.int .i64 1) ∧ Same w w' := by
  have HS := Lib.hid ((Same.refl w).alloc (.cells (frC ⟨4, s, t, l, q, 0, 0, 0, 0, 0, ep, d⟩) 23))
  have gA := fun w1 => within2_any s 31 w1
  rw [hA] at gA
  have GA := Lib.hid gA; clear gA hA
  have gB := fun w1 => within2_any l 255 w1
  rw [hB] at gB
  have GB := Lib.hid gB; clear gB hB
  have gC := fun w1 => within2_any q 255 w1
  rw [hC] at gC
  have GC := Lib.hid gC; clear gC hC
  have HN := Lib.hid (fun (m : Int) (hm : 0 ≤ m) (w1 : World) => within2_zero m hm w1)
  go_enter Try.func19, Try.ntmps19
  go_wp2
  go_region
  go_wp2_with (first
    | (go_at_call 41; (with_reducible refine (GA.out _).mono ?_); rintro e w1 ⟨rfl, hw⟩; replace hw := hw.symm; subst hw)
    | (go_at_call 41; (with_reducible refine (GB.out _).mono ?_); rintro e w1 ⟨rfl, hw⟩; replace hw := hw.symm; subst hw)
    | (go_at_call 41; (with_reducible refine (GC.out _).mono ?_); rintro e w1 ⟨rfl, hw⟩; replace hw := hw.symm; subst hw)
    | (go_at_call 41; (with_reducible refine (HN.out _ (by decide) _).mono ?_); rintro e w1 ⟨rfl, hw⟩; replace hw := hw.symm; subst hw))
  go_ret
  exact ⟨rfl, by first | exact HS.out | exact HS.out.drew⟩
set_option maxRecDepth 100000 in
theorem c2_4_13 (s t l q : Int) (d : ByteArray) (hA : inB s 0 31 = true) (hB : inB l 0 255 = true) (hC : inB q 0 255 = true) (t1 : decide (t < -1) = false) (t2 : decide (31 < t) = false) (t3 : (t == s) = false) (w : World) : Calls Try.prog 19 #[frV ⟨4, s, t, l, q, 0, 0, 0, 0, 0, 0, d⟩] w fun E w' => E = .returned (.int .i64 0) ∧ Same w w' := by
  have HS := Lib.hid ((Same.refl w).alloc (.cells (frC ⟨4, s, t, l, q, 0, 0, 0, 0, 0, 0, d⟩) 23))
  have gA := fun w1 => within2_any s 31 w1
  rw [hA] at gA
  have GA := Lib.hid gA; clear gA hA
  have gB := fun w1 => within2_any l 255 w1
  rw [hB] at gB
  have GB := Lib.hid gB; clear gB hB
  have gC := fun w1 => within2_any q 255 w1
  rw [hC] at gC
  have GC := Lib.hid gC; clear gC hC
  have HN := Lib.hid (fun (m : Int) (hm : 0 ≤ m) (w1 : World) => within2_zero m hm w1)
  go_enter Try.func19, Try.ntmps19
  go_wp2
  go_region
  go_wp2_with (first
    | (go_at_call 41; (with_reducible refine (GA.out _).mono ?_); rintro e w1 ⟨rfl, hw⟩; replace hw := hw.symm; subst hw)
    | (go_at_call 41; (with_reducible refine (GB.out _).mono ?_); rintro e w1 ⟨rfl, hw⟩; replace hw := hw.symm; subst hw)
    | (go_at_call 41; (with_reducible refine (GC.out _).mono ?_); rintro e w1 ⟨rfl, hw⟩; replace hw := hw.symm; subst hw)
    | (go_at_call 41; (with_reducible refine (HN.out _ (by decide) _).mono ?_); rintro e w1 ⟨rfl, hw⟩; replace hw := hw.symm; subst hw))
  go_ret
  exact ⟨rfl, by first | exact HS.out | exact HS.out.drew⟩
end Go.Proofs.Ytilpbbpdchbdfaa
