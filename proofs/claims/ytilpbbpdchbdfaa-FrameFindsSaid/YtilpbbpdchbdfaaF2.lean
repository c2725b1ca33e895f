/- Frames: their fields, by package frame. -/
import Derived.Test.YtilpbbpdchbdfaaF1
namespace Go.Proofs.Ytilpbbpdchbdfaa
open Go.RowKit

set_option maxRecDepth 100000 in
set_option maxHeartbeats 1600000 in
theorem hasFields_1 (s t l q fl n e sl r ep : Int) (d : ByteArray) (a b : Bool) (ha : inB fl 0 255 = a) (hb : inB n 0 65535 = b) (R : Bool) (hR : (a && b && (e == 0 && sl == 0 && r == 0 && ep == 0)) = R) (w : World) : Calls Try.prog 40 #[frV ⟨1, s, t, l, q, fl, n, e, sl, r, ep, d⟩] w fun E w' => E = .returned (.bool R) ∧ Same w w' := by
  have hA := fun w1 => within_any fl 0 255 w1
  have hB := fun w1 => within_any n 0 65535 w1
  rw [ha] at hA
  rw [hb] at hB
  have HR := Lib.hid hR; clear hR
  have HA := Lib.hid hA; have HB := Lib.hid hB; clear hA hB ha hb
  cases a <;> cases b
  all_goals
    go_enter Try.func40, Try.ntmps40
    go_wp2
    go_region
    all_goals go_wp2_with (first
      | (go_at_call 39; (with_reducible refine (HA.out _).mono ?_); rintro e w1 ⟨rfl, hw⟩; replace hw := hw.symm; subst hw)
      | (go_at_call 39; (with_reducible refine (HB.out _).mono ?_); rintro e w1 ⟨rfl, hw⟩; replace hw := hw.symm; subst hw))
    all_goals
      go_ret
      exact ⟨ret_bool (by rw [← HR.out]; simp [*]), by first | exact (((Same.refl w).alloc _).alloc _).drew | exact ((Same.refl w).alloc _).alloc _⟩
set_option maxRecDepth 100000 in
set_option maxHeartbeats 1600000 in
theorem hasFields_2 (s t l q fl n e sl r ep : Int) (d : ByteArray) (a : Bool) (ha : inB e (-32768) 32767 = a) (R : Bool) (hR : (a && (fl == 0 && n == 0 && sl == 0 && r == 0 && ep == 0 && d.toList == [])) = R) (w : World) : Calls Try.prog 40 #[frV ⟨2, s, t, l, q, fl, n, e, sl, r, ep, d⟩] w fun E w' => E = .returned (.bool R) ∧ Same w w' := by
  have hA := fun w1 => isDifference_any e w1
  rw [ha] at hA
  have HR := Lib.hid hR; clear hR
  have HA := Lib.hid hA; clear hA ha
  cases a
  all_goals
    go_enter Try.func40, Try.ntmps40
    go_wp2_with (first
      | (go_at_call 52; (with_reducible refine (HA.out _).mono ?_); rintro e w1 ⟨rfl, hw⟩; replace hw := hw.symm; subst hw))
    all_goals
      go_ret
      exact ⟨ret_bool (by rw [← HR.out]; simp [*]), by first | exact (((Same.refl w).alloc _).alloc _).drew | exact ((Same.refl w).alloc _).alloc _⟩
set_option maxRecDepth 100000 in
set_option maxHeartbeats 1600000 in
theorem hasFields_3 (s t l q fl n e sl r ep : Int) (d : ByteArray) (a b c : Bool) (ha : inB sl 0 109951162 = a) (hb : inB r 0 65535 = b) (hc : inB ep 0 65535 = c) (R : Bool) (hR : (a && b && c && (fl == 0 && n == 0 && e == 0)) = R) (w : World) : Calls Try.prog 40 #[frV ⟨3, s, t, l, q, fl, n, e, sl, r, ep, d⟩] w fun E w' => E = .returned (.bool R) ∧ Same w w' := by
  have hA := fun w1 => within_any sl 0 109951162 w1
  have hB := fun w1 => within_any r 0 65535 w1
  have hC := fun w1 => within_any ep 0 65535 w1
  rw [ha] at hA
  rw [hb] at hB
  rw [hc] at hC
  have HR := Lib.hid hR; clear hR
  have HA := Lib.hid hA; have HB := Lib.hid hB; have HC := Lib.hid hC; clear hA hB hC ha hb hc
  cases a <;> cases b <;> cases c
  all_goals
    go_enter Try.func40, Try.ntmps40
    go_wp2
    go_region
    all_goals go_wp2_with (first
      | (go_at_call 39; (with_reducible refine (HA.out _).mono ?_); rintro e w1 ⟨rfl, hw⟩; replace hw := hw.symm; subst hw)
      | (go_at_call 39; (with_reducible refine (HB.out _).mono ?_); rintro e w1 ⟨rfl, hw⟩; replace hw := hw.symm; subst hw)
      | (go_at_call 39; (with_reducible refine (HC.out _).mono ?_); rintro e w1 ⟨rfl, hw⟩; replace hw := hw.symm; subst hw))
    all_goals
      go_ret
      exact ⟨ret_bool (by rw [← HR.out]; simp [*]), by first | exact (((Same.refl w).alloc _).alloc _).drew | exact ((Same.refl w).alloc _).alloc _⟩
set_option maxRecDepth 100000 in
set_option maxHeartbeats 1600000 in
theorem hasFields_4 (s t l q fl n e sl r ep : Int) (d : ByteArray) (R : Bool) (hR : (fl == 0 && n == 0 && e == 0 && sl == 0 && r == 0 && ep == 0) = R) (w : World) : Calls Try.prog 40 #[frV ⟨4, s, t, l, q, fl, n, e, sl, r, ep, d⟩] w fun E w' => E = .returned (.bool R) ∧ Same w w' := by
  have HR := Lib.hid hR; clear hR
  go_enter Try.func40, Try.ntmps40
  go_wp2
  all_goals
    go_ret
    exact ⟨ret_bool (by rw [← HR.out]; simp [*]), by first | exact (((Same.refl w).alloc _).alloc _).drew | exact ((Same.refl w).alloc _).alloc _⟩
set_option maxRecDepth 100000 in
set_option maxHeartbeats 1600000 in
theorem hasFields_9 (k s t l q fl n e sl r ep : Int) (d : ByteArray) (n1 : (k == 1) = false) (n2 : (k == 2) = false) (n3 : (k == 3) = false) (n4 : (k == 4) = false) (w : World) : Calls Try.prog 40 #[frV ⟨k, s, t, l, q, fl, n, e, sl, r, ep, d⟩] w fun E w' => E = .returned (.bool false) ∧ Same w w' := by
  go_enter Try.func40, Try.ntmps40
  go_wp2
  all_goals
    go_ret
    exact ⟨rfl, by first | exact (((Same.refl w).alloc _).alloc _).drew | exact ((Same.refl w).alloc _).alloc _⟩
end Go.Proofs.Ytilpbbpdchbdfaa
