/- Frames: the check by the reference, way by way: kinds 3 and none. -/
import Derived.Test.YtilpbbpdchbdfaaF5
namespace Go.Proofs.Ytilpbbpdchbdfaa
open Go.RowKit

set_option maxRecDepth 100000 in
theorem c2_3_1 (s t l q fl n e sl r ep : Int) (d : ByteArray) (hA : inB s 0 31 = false) (w : World) : Calls Try.prog 19 #[frV ⟨3, s, t, l, q, fl, n, e, sl, r, ep, d⟩] w fun E w' => E = .returned (.int .i64 1) ∧ Same w w' := by
  have HS := Lib.hid ((Same.refl w).alloc (.cells (frC ⟨3, s, t, l, q, fl, n, e, sl, r, ep, d⟩) 23))
  have gA := fun w1 => within2_any s 31 w1
  rw [hA] at gA
  have GA := Lib.hid gA; clear gA hA
  go_enter Try.func19, Try.ntmps19
  go_wp2
  go_region
  go_wp2_with (first
    | (go_at_call 41; (with_reducible refine (GA.out _).mono ?_); rintro e w1 ⟨rfl, hw⟩; replace hw := hw.symm; subst hw))
  go_ret
  exact ⟨rfl, by first | exact HS.out | exact HS.out.drew⟩
set_option maxRecDepth 100000 in
theorem c2_3_2 (s t l q fl n e sl r ep : Int) (d : ByteArray) (hA : inB s 0 31 = true) (hB : inB l 0 255 = false) (w : World) : Calls Try.prog 19 #[frV ⟨3, s, t, l, q, fl, n, e, sl, r, ep, d⟩] w fun E w' => E = .returned (.int .i64 1) ∧ Same w w' := by
  have HS := Lib.hid ((Same.refl w).alloc (.cells (frC ⟨3, s, t, l, q, fl, n, e, sl, r, ep, d⟩) 23))
  have gA := fun w1 => within2_any s 31 w1
  rw [hA] at gA
  have GA := Lib.hid gA; clear gA hA
  have gB := fun w1 => within2_any l 255 w1
  rw [hB] at gB
  have GB := Lib.hid gB; clear gB hB
  go_enter Try.func19, Try.ntmps19
  go_wp2
  go_region
  go_wp2_with (first
    | (go_at_call 41; (with_reducible refine (GA.out _).mono ?_); rintro e w1 ⟨rfl, hw⟩; replace hw := hw.symm; subst hw)
    | (go_at_call 41; (with_reducible refine (GB.out _).mono ?_); rintro e w1 ⟨rfl, hw⟩; replace hw := hw.symm; subst hw))
  go_ret
  exact ⟨rfl, by first | exact HS.out | exact HS.out.drew⟩
set_option maxRecDepth 100000 in
theorem c2_3_3 (s t l q fl n e sl r ep : Int) (d : ByteArray) (hA : inB s 0 31 = true) (hB : inB l 0 255 = true) (hC : inB q 0 255 = false) (w : World) : Calls Try.prog 19 #[frV ⟨3, s, t, l, q, fl, n, e, sl, r, ep, d⟩] w fun E w' => E = .returned (.int .i64 1) ∧ Same w w' := by
  have HS := Lib.hid ((Same.refl w).alloc (.cells (frC ⟨3, s, t, l, q, fl, n, e, sl, r, ep, d⟩) 23))
  have gA := fun w1 => within2_any s 31 w1
  rw [hA] at gA
  have GA := Lib.hid gA; clear gA hA
  have gB := fun w1 => within2_any l 255 w1
  rw [hB] at gB
  have GB := Lib.hid gB; clear gB hB
  have gC := fun w1 => within2_any q 255 w1
  rw [hC] at gC
  have GC := Lib.hid gC; clear gC hC
  go_enter Try.func19, Try.ntmps19
  go_wp2
  go_region
  go_wp2_with (first
    | (go_at_call 41; (with_reducible refine (GA.out _).mono ?_); rintro e w1 ⟨rfl, hw⟩; replace hw := hw.symm; subst hw)
    | (go_at_call 41; (with_reducible refine (GB.out _).mono ?_); rintro e w1 ⟨rfl, hw⟩; replace hw := hw.symm; subst hw)
    | (go_at_call 41; (with_reducible refine (GC.out _).mono ?_); rintro e w1 ⟨rfl, hw⟩; replace hw := hw.symm; subst hw))
  go_ret
  exact ⟨rfl, by first | exact HS.out | exact HS.out.drew⟩
set_option maxRecDepth 100000 in
theorem c2_3_4 (s t l q fl n e sl r ep : Int) (d : ByteArray) (hA : inB s 0 31 = true) (hB : inB l 0 255 = true) (hC : inB q 0 255 = true) (t0 : (t != -1) = true) (w : World) : Calls Try.prog 19 #[frV ⟨3, s, t, l, q, fl, n, e, sl, r, ep, d⟩] w fun E w' => E = .returned (.int .i64 1) ∧ Same w w' := by
  have HS := Lib.hid ((Same.refl w).alloc (.cells (frC ⟨3, s, t, l, q, fl, n, e, sl, r, ep, d⟩) 23))
  have gA := fun w1 => within2_any s 31 w1
  rw [hA] at gA
  have GA := Lib.hid gA; clear gA hA
  have gB := fun w1 => within2_any l 255 w1
  rw [hB] at gB
  have GB := Lib.hid gB; clear gB hB
  have gC := fun w1 => within2_any q 255 w1
  rw [hC] at gC
  have GC := Lib.hid gC; clear gC hC
  go_enter Try.func19, Try.ntmps19
  go_wp2
  go_region
  go_wp2_with (first
    | (go_at_call 41; (with_reducible refine (GA.out _).mono ?_); rintro e w1 ⟨rfl, hw⟩; replace hw := hw.symm; subst hw)
    | (go_at_call 41; (with_reducible refine (GB.out _).mono ?_); rintro e w1 ⟨rfl, hw⟩; replace hw := hw.symm; subst hw)
    | (go_at_call 41; (with_reducible refine (GC.out _).mono ?_); rintro e w1 ⟨rfl, hw⟩; replace hw := hw.symm; subst hw))
  go_ret
  exact ⟨rfl, by first | exact HS.out | exact HS.out.drew⟩
set_option maxRecDepth 100000 in
theorem c2_3_5 (s l q fl n e sl r ep : Int) (d : ByteArray) (hA : inB s 0 31 = true) (hB : inB l 0 255 = true) (hC : inB q 0 255 = true) (t3 : (-1 == s) = false) (zfl : (fl != 0) = true) (w : World) : Calls Try.prog 19 #[frV ⟨3, s, (-1), l, q, fl, n, e, sl, r, ep, d⟩] w fun E w' => E = .returned (.int .i64 1) ∧ Same w w' := by
  have HS := Lib.hid ((Same.refl w).alloc (.cells (frC ⟨3, s, (-1), l, q, fl, n, e, sl, r, ep, d⟩) 23))
  have gA := fun w1 => within2_any s 31 w1
  rw [hA] at gA
  have GA := Lib.hid gA; clear gA hA
  have gB := fun w1 => within2_any l 255 w1
  rw [hB] at gB
  have GB := Lib.hid gB; clear gB hB
  have gC := fun w1 => within2_any q 255 w1
  rw [hC] at gC
  have GC := Lib.hid gC; clear gC hC
  go_enter Try.func19, Try.ntmps19
  go_wp2
  go_region
  go_wp2_with (first
    | (go_at_call 41; (with_reducible refine (GA.out _).mono ?_); rintro e w1 ⟨rfl, hw⟩; replace hw := hw.symm; subst hw)
    | (go_at_call 41; (with_reducible refine (GB.out _).mono ?_); rintro e w1 ⟨rfl, hw⟩; replace hw := hw.symm; subst hw)
    | (go_at_call 41; (with_reducible refine (GC.out _).mono ?_); rintro e w1 ⟨rfl, hw⟩; replace hw := hw.symm; subst hw))
  go_ret
  exact ⟨rfl, by first | exact HS.out | exact HS.out.drew⟩
set_option maxRecDepth 100000 in
theorem c2_3_6 (s l q n e sl r ep : Int) (d : ByteArray) (hA : inB s 0 31 = true) (hB : inB l 0 255 = true) (hC : inB q 0 255 = true) (t3 : (-1 == s) = false) (zn : (n != 0) = true) (w : World) : Calls Try.prog 19 #[frV ⟨3, s, (-1), l, q, 0, n, e, sl, r, ep, d⟩] w fun E w' => E = .returned (.int .i64 1) ∧ Same w w' := by
  have HS := Lib.hid ((Same.refl w).alloc (.cells (frC ⟨3, s, (-1), l, q, 0, n, e, sl, r, ep, d⟩) 23))
  have gA := fun w1 => within2_any s 31 w1
  rw [hA] at gA
  have GA := Lib.hid gA; clear gA hA
  have gB := fun w1 => within2_any l 255 w1
  rw [hB] at gB
  have GB := Lib.hid gB; clear gB hB
  have gC := fun w1 => within2_any q 255 w1
  rw [hC] at gC
  have GC := Lib.hid gC; clear gC hC
  have HN := Lib.hid (fun (m : Int) (hm : 0 ≤ m) (w1 : World) => within2_zero m hm w1)
  go_enter Try.func19, Try.ntmps19
  go_wp2
  go_region
  go_wp2_with (first
    | (go_at_call 41; (with_reducible refine (GA.out _).mono ?_); rintro e w1 ⟨rfl, hw⟩; replace hw := hw.symm; subst hw)
    | (go_at_call 41; (with_reducible refine (GB.out _).mono ?_); rintro e w1 ⟨rfl, hw⟩; replace hw := hw.symm; subst hw)
    | (go_at_call 41; (with_reducible refine (GC.out _).mono ?_); rintro e w1 ⟨rfl, hw⟩; replace hw := hw.symm; subst hw)
    | (go_at_call 41; (with_reducible refine (HN.out _ (by decide) _).mono ?_); rintro e w1 ⟨rfl, hw⟩; replace hw := hw.symm; subst hw))
  go_ret
  exact ⟨rfl, by first | exact HS.out | exact HS.out.drew⟩
set_option maxRecDepth 100000 in
theorem c2_3_7 (s l q e sl r ep : Int) (d : ByteArray) (hA : inB s 0 31 = true) (hB : inB l 0 255 = true) (hC : inB q 0 255 = true) (t3 : (-1 == s) = false) (ze : (e != 0) = true) (w : World) : Calls Try.prog 19 #[frV ⟨3, s, (-1), l, q, 0, 0, e, sl, r, ep, d⟩] w fun E w' => E = .returned (.int .i64 1) ∧ Same w w' := by
  have HS := Lib.hid ((Same.refl w).alloc (.cells (frC ⟨3, s, (-1), l, q, 0, 0, e, sl, r, ep, d⟩) 23))
  have gA := fun w1 => within2_any s 31 w1
  rw [hA] at gA
  have GA := Lib.hid gA; clear gA hA
  have gB := fun w1 => within2_any l 255 w1
  rw [hB] at gB
  have GB := Lib.hid gB; clear gB hB
  have gC := fun w1 => within2_any q 255 w1
  rw [hC] at gC
  have GC := Lib.hid gC; clear gC hC
  have HN := Lib.hid (fun (m : Int) (hm : 0 ≤ m) (w1 : World) => within2_zero m hm w1)
  go_enter Try.func19, Try.ntmps19
  go_wp2
  go_region
  go_wp2_with (first
    | (go_at_call 41; (with_reducible refine (GA.out _).mono ?_); rintro e w1 ⟨rfl, hw⟩; replace hw := hw.symm; subst hw)
    | (go_at_call 41; (with_reducible refine (GB.out _).mono ?_); rintro e w1 ⟨rfl, hw⟩; replace hw := hw.symm; subst hw)
    | (go_at_call 41; (with_reducible refine (GC.out _).mono ?_); rintro e w1 ⟨rfl, hw⟩; replace hw := hw.symm; subst hw)
    | (go_at_call 41; (with_reducible refine (HN.out _ (by decide) _).mono ?_); rintro e w1 ⟨rfl, hw⟩; replace hw := hw.symm; subst hw))
  go_ret
  exact ⟨rfl, by first | exact HS.out | exact HS.out.drew⟩
set_option maxRecDepth 100000 in
theorem c2_3_8 (s l q sl r ep : Int) (d : ByteArray) (hA : inB s 0 31 = true) (hB : inB l 0 255 = true) (hC : inB q 0 255 = true) (hD : inB sl 0 109951162 = false) (t3 : (-1 == s) = false) (w : World) : Calls Try.prog 19 #[frV ⟨3, s, (-1), l, q, 0, 0, 0, sl, r, ep, d⟩] w fun E w' => E = .returned (.int .i64 1) ∧ Same w w' := by
  have HS := Lib.hid ((Same.refl w).alloc (.cells (frC ⟨3, s, (-1), l, q, 0, 0, 0, sl, r, ep, d⟩) 23))
  have gA := fun w1 => within2_any s 31 w1
  rw [hA] at gA
  have GA := Lib.hid gA; clear gA hA
  have gB := fun w1 => within2_any l 255 w1
  rw [hB] at gB
  have GB := Lib.hid gB; clear gB hB
  have gC := fun w1 => within2_any q 255 w1
  rw [hC] at gC
  have GC := Lib.hid gC; clear gC hC
  have gD := fun w1 => within2_any sl 109951162 w1
  rw [hD] at gD
  have GD := Lib.hid gD; clear gD hD
  have HN := Lib.hid (fun (m : Int) (hm : 0 ≤ m) (w1 : World) => within2_zero m hm w1)
  go_enter Try.func19, Try.ntmps19
  go_wp2
  go_region
  go_wp2_with (first
    | (go_at_call 41; (with_reducible refine (GA.out _).mono ?_); rintro e w1 ⟨rfl, hw⟩; replace hw := hw.symm; subst hw)
    | (go_at_call 41; (with_reducible refine (GB.out _).mono ?_); rintro e w1 ⟨rfl, hw⟩; replace hw := hw.symm; subst hw)
    | (go_at_call 41; (with_reducible refine (GC.out _).mono ?_); rintro e w1 ⟨rfl, hw⟩; replace hw := hw.symm; subst hw)
    | (go_at_call 41; (with_reducible refine (GD.out _).mono ?_); rintro e w1 ⟨rfl, hw⟩; replace hw := hw.symm; subst hw)
    | (go_at_call 41; (with_reducible refine (HN.out _ (by decide) _).mono ?_); rintro e w1 ⟨rfl, hw⟩; replace hw := hw.symm; subst hw))
  go_ret
  exact ⟨rfl, by first | exact HS.out | exact HS.out.drew⟩
set_option maxRecDepth 100000 in
theorem c2_3_9 (s l q sl r ep : Int) (d : ByteArray) (hA : inB s 0 31 = true) (hB : inB l 0 255 = true) (hC : inB q 0 255 = true) (hD : inB sl 0 109951162 = true) (hE : inB r 0 65535 = false) (t3 : (-1 == s) = false) (w : World) : Calls Try.prog 19 #[frV ⟨3, s, (-1), l, q, 0, 0, 0, sl, r, ep, d⟩] w fun E w' => E = .returned (.int .i64 1) ∧ Same w w' := by
  have HS := Lib.hid ((Same.refl w).alloc (.cells (frC ⟨3, s, (-1), l, q, 0, 0, 0, sl, r, ep, d⟩) 23))
  have gA := fun w1 => within2_any s 31 w1
  rw [hA] at gA
  have GA := Lib.hid gA; clear gA hA
  have gB := fun w1 => within2_any l 255 w1
  rw [hB] at gB
  have GB := Lib.hid gB; clear gB hB
  have gC := fun w1 => within2_any q 255 w1
  rw [hC] at gC
  have GC := Lib.hid gC; clear gC hC
  have gD := fun w1 => within2_any sl 109951162 w1
  rw [hD] at gD
  have GD := Lib.hid gD; clear gD hD
  have gE := fun w1 => within2_any r 65535 w1
  rw [hE] at gE
  have GE := Lib.hid gE; clear gE hE
  have HN := Lib.hid (fun (m : Int) (hm : 0 ≤ m) (w1 : World) => within2_zero m hm w1)
  go_enter Try.func19, Try.ntmps19
  go_wp2
  go_region
  go_wp2_with (first
    | (go_at_call 41; (with_reducible refine (GA.out _).mono ?_); rintro e w1 ⟨rfl, hw⟩; replace hw := hw.symm; subst hw)
    | (go_at_call 41; (with_reducible refine (GB.out _).mono ?_); rintro e w1 ⟨rfl, hw⟩; replace hw := hw.symm; subst hw)
    | (go_at_call 41; (with_reducible refine (GC.out _).mono ?_); rintro e w1 ⟨rfl, hw⟩; replace hw := hw.symm; subst hw)
    | (go_at_call 41; (with_reducible refine (GD.out _).mono ?_); rintro e w1 ⟨rfl, hw⟩; replace hw := hw.symm; subst hw)
    | (go_at_call 41; (with_reducible refine (GE.out _).mono ?_); rintro e w1 ⟨rfl, hw⟩; replace hw := hw.symm; subst hw)
    | (go_at_call 41; (with_reducible refine (HN.out _ (by decide) _).mono ?_); rintro e w1 ⟨rfl, hw⟩; replace hw := hw.symm; subst hw))
  go_ret
  exact ⟨rfl, by first | exact HS.out | exact HS.out.drew⟩
set_option maxRecDepth 100000 in
theorem c2_3_10 (s l q sl r ep : Int) (d : ByteArray) (hA : inB s 0 31 = true) (hB : inB l 0 255 = true) (hC : inB q 0 255 = true) (hD : inB sl 0 109951162 = true) (hE : inB r 0 65535 = true) (hG : inB ep 0 65535 = false) (t3 : (-1 == s) = false) (w : World) : Calls Try.prog 19 #[frV ⟨3, s, (-1), l, q, 0, 0, 0, sl, r, ep, d⟩] w fun E w' => E = .returned (.int .i64 1) ∧ Same w w' := by
  have HS := Lib.hid ((Same.refl w).alloc (.cells (frC ⟨3, s, (-1), l, q, 0, 0, 0, sl, r, ep, d⟩) 23))
  have gA := fun w1 => within2_any s 31 w1
  rw [hA] at gA
  have GA := Lib.hid gA; clear gA hA
  have gB := fun w1 => within2_any l 255 w1
  rw [hB] at gB
  have GB := Lib.hid gB; clear gB hB
  have gC := fun w1 => within2_any q 255 w1
  rw [hC] at gC
  have GC := Lib.hid gC; clear gC hC
  have gD := fun w1 => within2_any sl 109951162 w1
  rw [hD] at gD
  have GD := Lib.hid gD; clear gD hD
  have gE := fun w1 => within2_any r 65535 w1
  rw [hE] at gE
  have GE := Lib.hid gE; clear gE hE
  have gG := fun w1 => within2_any ep 65535 w1
  rw [hG] at gG
  have GG := Lib.hid gG; clear gG hG
  have HN := Lib.hid (fun (m : Int) (hm : 0 ≤ m) (w1 : World) => within2_zero m hm w1)
  go_enter Try.func19, Try.ntmps19
  go_wp2
  go_region
  go_wp2_with (first
    | (go_at_call 41; (with_reducible refine (GA.out _).mono ?_); rintro e w1 ⟨rfl, hw⟩; replace hw := hw.symm; subst hw)
    | (go_at_call 41; (with_reducible refine (GB.out _).mono ?_); rintro e w1 ⟨rfl, hw⟩; replace hw := hw.symm; subst hw)
    | (go_at_call 41; (with_reducible refine (GC.out _).mono ?_); rintro e w1 ⟨rfl, hw⟩; replace hw := hw.symm; subst hw)
    | (go_at_call 41; (with_reducible refine (GD.out _).mono ?_); rintro e w1 ⟨rfl, hw⟩; replace hw := hw.symm; subst hw)
    | (go_at_call 41; (with_reducible refine (GE.out _).mono ?_); rintro e w1 ⟨rfl, hw⟩; replace hw := hw.symm; subst hw)
    | (go_at_call 41; (with_reducible refine (GG.out _).mono ?_); rintro e w1 ⟨rfl, hw⟩; replace hw := hw.symm; subst hw)
    | (go_at_call 41; (with_reducible refine (HN.out _ (by decide) _).mono ?_); rintro e w1 ⟨rfl, hw⟩; replace hw := hw.symm; subst hw))
  go_ret
  exact ⟨rfl, by first | exact HS.out | exact HS.out.drew⟩
set_option maxRecDepth 100000 in
theorem c2_3_11 (s l q sl r ep : Int) (d : ByteArray) (hA : inB s 0 31 = true) (hB : inB l 0 255 = true) (hC : inB q 0 255 = true) (hD : inB sl 0 109951162 = true) (hE : inB r 0 65535 = true) (hG : inB ep 0 65535 = true) (t3 : (-1 == s) = false) (w : World) : Calls Try.prog 19 #[frV ⟨3, s, (-1), l, q, 0, 0, 0, sl, r, ep, d⟩] w fun E w' => E = .returned (.int .i64 0) ∧ Same w w' := by
  have HS := Lib.hid ((Same.refl w).alloc (.cells (frC ⟨3, s, (-1), l, q, 0, 0, 0, sl, r, ep, d⟩) 23))
  have gA := fun w1 => within2_any s 31 w1
  rw [hA] at gA
  have GA := Lib.hid gA; clear gA hA
  have gB := fun w1 => within2_any l 255 w1
  rw [hB] at gB
  have GB := Lib.hid gB; clear gB hB
  have gC := fun w1 => within2_any q 255 w1
  rw [hC] at gC
  have GC := Lib.hid gC; clear gC hC
  have gD := fun w1 => within2_any sl 109951162 w1
  rw [hD] at gD
  have GD := Lib.hid gD; clear gD hD
  have gE := fun w1 => within2_any r 65535 w1
  rw [hE] at gE
  have GE := Lib.hid gE; clear gE hE
  have gG := fun w1 => within2_any ep 65535 w1
  rw [hG] at gG
  have GG := Lib.hid gG; clear gG hG
  have HN := Lib.hid (fun (m : Int) (hm : 0 ≤ m) (w1 : World) => within2_zero m hm w1)
  go_enter Try.func19, Try.ntmps19
  go_wp2
  go_region
  go_wp2_with (first
    | (go_at_call 41; (with_reducible refine (GA.out _).mono ?_); rintro e w1 ⟨rfl, hw⟩; replace hw := hw.symm; subst hw)
    | (go_at_call 41; (with_reducible refine (GB.out _).mono ?_); rintro e w1 ⟨rfl, hw⟩; replace hw := hw.symm; subst hw)
    | (go_at_call 41; (with_reducible refine (GC.out _).mono ?_); rintro e w1 ⟨rfl, hw⟩; replace hw := hw.symm; subst hw)
    | (go_at_call 41; (with_reducible refine (GD.out _).mono ?_); rintro e w1 ⟨rfl, hw⟩; replace hw := hw.symm; subst hw)
    | (go_at_call 41; (with_reducible refine (GE.out _).mono ?_); rintro e w1 ⟨rfl, hw⟩; replace hw := hw.symm; subst hw)
    | (go_at_call 41; (with_reducible refine (GG.out _).mono ?_); rintro e w1 ⟨rfl, hw⟩; replace hw := hw.symm; subst hw)
    | (go_at_call 41; (with_reducible refine (HN.out _ (by decide) _).mono ?_); rintro e w1 ⟨rfl, hw⟩; replace hw := hw.symm; subst hw))
  go_ret
  exact ⟨rfl, by first | exact HS.out | exact HS.out.drew⟩
set_option maxRecDepth 100000 in
theorem c2_k_1 (k s t l q fl n e sl r ep : Int) (d : ByteArray) (n1 : (k == 1) = false) (n2 : (k == 2) = false) (n3 : (k == 3) = false) (n4 : (k == 4) = false) (w : World) : Calls Try.prog 19 #[frV ⟨k, s, t, l, q, fl, n, e, sl, r, ep, d⟩] w fun E w' => E = .returned (.int .i64 1) ∧ Same w w' := by
  have HS := Lib.hid ((Same.refl w).alloc (.cells (frC ⟨k, s, t, l, q, fl, n, e, sl, r, ep, d⟩) 23))
  go_enter Try.func19, Try.ntmps19
  go_wp2
  go_region
  go_wp2
  go_ret
  exact ⟨rfl, by first | exact HS.out | exact HS.out.drew⟩
end Go.Proofs.Ytilpbbpdchbdfaa
