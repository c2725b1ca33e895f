/- The calls of package power and of the reference on signals, thresholds and noise. -/
import Derived.Test.YtjgbbafmjdapdaaDoorCalls1
namespace Go.Proofs.YtjgbbafmjdapdaaDoor
open Go.RowKit

def Pw (n : Int) : Prop := 0 ≤ n ∧ n ≤ 68719476736
def Rt (t n : Int) : Prop := (1000 ≤ t ∧ t ≤ 100000) ∧ (1 ≤ n ∧ n ≤ 68719476736)
instance (n : Int) : Decidable (Pw n) := by unfold Pw; infer_instance
instance (t n : Int) : Decidable (Rt t n) := by unfold Rt; infer_instance

theorem receives_yes (t n : Int) (h : Rt t n) (w : World) : Calls Tryd.prog 38 #[.int .i64 t, .int .i64 n] w fun e w' => e = .returned (.bool true) ∧ w' = w := by
  obtain ⟨⟨h1, h2⟩, h3, h4⟩ := h
  have HA := Lib.hid (fun w => within_yes t 1000 100000 h1 h2 w)
  have HB := Lib.hid (fun w => within_yes n 1 68719476736 h3 h4 w)
  clear h1 h2 h3 h4
  go_enter Tryd.func38, Tryd.ntmps38
  go_wp2_with (first | (go_at_call 32; with_reducible refine (HA.out _).mono ?_; rintro e w' ⟨rfl, rfl⟩) | (go_at_call 32; with_reducible refine (HB.out _).mono ?_; rintro e w' ⟨rfl, rfl⟩))
  go_ret
  exact ⟨rfl, rfl⟩
theorem receives_no (t n : Int) (h : ¬ Rt t n) (w : World) : Calls Tryd.prog 38 #[.int .i64 t, .int .i64 n] w fun e w' => e = .returned (.bool false) ∧ w' = w := by
  by_cases h1 : 1000 ≤ t ∧ t ≤ 100000
  · have h2 : ¬ (1 ≤ n ∧ n ≤ 68719476736) := fun h' => h ⟨h1, h'⟩
    have HA := Lib.hid (fun w => within_yes t 1000 100000 h1.1 h1.2 w)
    have HB := Lib.hid (fun w => within_no n 1 68719476736 (by omega) w)
    clear h h1 h2
    go_enter Tryd.func38, Tryd.ntmps38
    go_wp2_with (first | (go_at_call 32; with_reducible refine (HA.out _).mono ?_; rintro e w' ⟨rfl, rfl⟩) | (go_at_call 32; with_reducible refine (HB.out _).mono ?_; rintro e w' ⟨rfl, rfl⟩))
    go_ret
    exact ⟨rfl, rfl⟩
  · have HA := Lib.hid (fun w => within_no t 1000 100000 (by omega) w)
    clear h h1
    go_enter Tryd.func38, Tryd.ntmps38
    go_wp2_with (go_at_call 32; with_reducible refine (HA.out _).mono ?_; rintro e w' ⟨rfl, rfl⟩)
    go_ret
    exact ⟨rfl, rfl⟩
theorem is_any (n : Int) (w : World) : Calls Tryd.prog 36 #[.int .i64 n] w fun e w' => e = .returned (.bool (decide (Pw n))) ∧ w' = w := by
  by_cases h1 : 0 ≤ n
  · have e : decide (Pw n) = decide (n ≤ 68719476736) := by unfold Pw; simp [h1]
    rw [e]
    go_enter Tryd.func36, Tryd.ntmps36
    go_wp2
    go_ret
    exact ⟨rfl, rfl⟩
  · have e : decide (Pw n) = false := by unfold Pw; simp [h1]
    rw [e]
    go_enter Tryd.func36, Tryd.ntmps36
    go_wp2
    go_ret
    exact ⟨rfl, rfl⟩
theorem is_yes (n : Int) (h : Pw n) (w : World) : Calls Tryd.prog 36 #[.int .i64 n] w fun e w' => e = .returned (.bool true) ∧ w' = w := by
  have := is_any n w; rw [decide_eq_true h] at this; exact this
theorem is_no (n : Int) (h : ¬ Pw n) (w : World) : Calls Tryd.prog 36 #[.int .i64 n] w fun e w' => e = .returned (.bool false) ∧ w' = w := by
  have := is_any n w; rw [decide_eq_false h] at this; exact this
theorem right_yes (t n : Int) (h : Rt t n) (w : World) : Calls Tryd.prog 39 #[.int .i64 t, .int .i64 n] w fun e w' => e = .returned (.bool true) ∧ w' = w := by
  obtain ⟨⟨h1, h2⟩, h3, h4⟩ := h
  go_enter Tryd.func39, Tryd.ntmps39
  go_wp2
  go_ret
  exact ⟨rfl, rfl⟩
theorem right_no (t n : Int) (h : ¬ Rt t n) (w : World) : Calls Tryd.prog 39 #[.int .i64 t, .int .i64 n] w fun e w' => e = .returned (.bool false) ∧ w' = w := by
  have hc : t < 1000 ∨ (1000 ≤ t ∧ 100000 < t) ∨ (1000 ≤ t ∧ t ≤ 100000 ∧ n < 1) ∨ (1000 ≤ t ∧ t ≤ 100000 ∧ 1 ≤ n ∧ decide (n ≤ 68719476736) = false) := by
    unfold Rt at h; simp; omega
  clear h
  rcases hc with g1 | ⟨g1, g2⟩ | ⟨g1, g2, g3⟩ | ⟨g1, g2, g3, g4⟩
  all_goals
    go_enter Tryd.func39, Tryd.ntmps39
    go_wp2
    go_ret
    exact ⟨rfl, rfl⟩

/-- Scale. -/
def scaleS (p f : Int) : Int × Int := if Pw p ∧ (0 ≤ f ∧ f ≤ 1000) then (p * f / 1000, 0) else (0, 2)
theorem mul_bd {a b m n : Int} (h1 : 0 ≤ a) (h2 : a ≤ m) (h3 : 0 ≤ b) (h4 : b ≤ n) : 0 ≤ a * b ∧ a * b ≤ m * n :=
  ⟨Int.mul_nonneg h1 h3, Int.mul_le_mul h2 h4 h3 (by omega)⟩
theorem scale_any (p f : Int) (w : World) : Calls Tryd.prog 16 #[.int .i64 p, .int .i64 f] w fun e w' => e = .returned (.tuple #[.int .i64 (scaleS p f).1, .int .i64 (scaleS p f).2]) ∧ w' = w := by
  by_cases h : Pw p
  · by_cases h2 : 0 ≤ f ∧ f ≤ 1000
    · have hs : scaleS p f = (p * f / 1000, 0) := if_pos ⟨h, h2⟩
      have hb := mul_bd h.1 h.2 h2.1 h2.2
      rw [hs]
      have HA := Lib.hid (fun w => within_yes p 0 68719476736 h.1 h.2 w)
      have HB := Lib.hid (fun w => within_yes f 0 1000 h2.1 h2.2 w)
      clear hs h h2
      obtain ⟨h1, h2⟩ := hb
      have h3 : p * f ≤ 68719476736000 := by omega
      clear h2
      go_enter Tryd.func16, Tryd.ntmps16
      go_wp2_with (first | (go_at_call 32; with_reducible refine (HA.out _).mono ?_; rintro e w' ⟨rfl, rfl⟩) | (go_at_call 32; with_reducible refine (HB.out _).mono ?_; rintro e w' ⟨rfl, rfl⟩))
      go_ret2
      exact ⟨rfl, rfl⟩
    · have hs : scaleS p f = (0, 2) := if_neg (fun h' => h2 h'.2)
      rw [hs]
      have HA := Lib.hid (fun w => within_yes p 0 68719476736 h.1 h.2 w)
      have HB := Lib.hid (fun w => within_no f 0 1000 (by omega) w)
      clear hs h h2
      go_enter Tryd.func16, Tryd.ntmps16
      go_wp2_with (first | (go_at_call 32; with_reducible refine (HA.out _).mono ?_; rintro e w' ⟨rfl, rfl⟩) | (go_at_call 32; with_reducible refine (HB.out _).mono ?_; rintro e w' ⟨rfl, rfl⟩))
      go_ret2
      exact ⟨rfl, rfl⟩
  · have hs : scaleS p f = (0, 2) := if_neg (fun h' => h h'.1)
    rw [hs]
    have HA := Lib.hid (fun w => within_no p 0 68719476736 (by unfold Pw at h; omega) w)
    clear hs h
    go_enter Tryd.func16, Tryd.ntmps16
    go_wp2_with (go_at_call 32; with_reducible refine (HA.out _).mono ?_; rintro e w' ⟨rfl, rfl⟩)
    go_ret2
    exact ⟨rfl, rfl⟩
theorem scale2_any (p f : Int) (w : World) : Calls Tryd.prog 17 #[.int .i64 p, .int .i64 f] w fun e w' => e = .returned (.tuple #[.int .i64 (scaleS p f).1, .int .i64 (scaleS p f).2]) ∧ w' = w := by
  by_cases h : Pw p
  · have HA := Lib.hid (fun w => is_yes p h w)
    by_cases h2 : 0 ≤ f ∧ f ≤ 1000
    · have hs : scaleS p f = (p * f / 1000, 0) := if_pos ⟨h, h2⟩
      have hb := mul_bd h.1 h.2 h2.1 h2.2
      rw [hs]
      clear hs h
      obtain ⟨g1, g2⟩ := h2
      obtain ⟨h1, h2⟩ := hb
      have h3 : p * f ≤ 68719476736000 := by omega
      clear h2
      go_enter Tryd.func17, Tryd.ntmps17
      go_wp2_with (go_at_call 36; with_reducible refine (HA.out _).mono ?_; rintro e w' ⟨rfl, rfl⟩)
      go_ret2
      exact ⟨rfl, rfl⟩
    · have hs : scaleS p f = (0, 2) := if_neg (fun h' => h2 h'.2)
      rw [hs]
      have hc : f < 0 ∨ (0 ≤ f ∧ 1000 < f) := by omega
      clear hs h h2
      rcases hc with g1 | ⟨g1, g2⟩
      all_goals
        go_enter Tryd.func17, Tryd.ntmps17
        go_wp2_with (go_at_call 36; with_reducible refine (HA.out _).mono ?_; rintro e w' ⟨rfl, rfl⟩)
        go_ret2
        exact ⟨rfl, rfl⟩
  · have hs : scaleS p f = (0, 2) := if_neg (fun h' => h h'.1)
    rw [hs]
    have HA := Lib.hid (fun w => is_no p h w)
    clear hs h
    go_enter Tryd.func17, Tryd.ntmps17
    go_wp2_with (go_at_call 36; with_reducible refine (HA.out _).mono ?_; rintro e w' ⟨rfl, rfl⟩)
    go_ret2
    exact ⟨rfl, rfl⟩

theorem ret2_i64 {a b c : Int} (h : a = b) : Ending.returned (.tuple #[.int .i64 a, .int .i64 c]) = .returned (.tuple #[.int .i64 b, .int .i64 c]) := by rw [h]
/-- Margin. -/
def marginS (s t n : Int) : Int × Int := if Pw s ∧ Rt t n then (max (-1) (1000 * s / t - n), 0) else (0, 2)
theorem margin_any (s t n : Int) (w : World) : Calls Tryd.prog 23 #[.int .i64 s, .int .i64 t, .int .i64 n] w fun e w' => e = .returned (.tuple #[.int .i64 (marginS s t n).1, .int .i64 (marginS s t n).2]) ∧ w' = w := by
  by_cases h : Pw s
  · have HA := Lib.hid (fun w => within_yes s 0 68719476736 h.1 h.2 w)
    by_cases h2 : Rt t n
    · have hs : marginS s t n = (max (-1) (1000 * s / t - n), 0) := if_pos ⟨h, h2⟩
      have HB := Lib.hid (fun w => receives_yes t n h2 w)
      rw [hs]
      obtain ⟨⟨g1, g2⟩, g3, g4⟩ := h2
      obtain ⟨k1, k2⟩ := h
      have k3 : 0 ≤ 1000 * s / t := Int.ediv_nonneg (by omega) (by omega)
      have k4 : 1000 * s / t ≤ 1000 * s := Int.ediv_le_self _ (by omega)
      by_cases hm : 1000 * s / t - n < -1
      · have e : max (-1) (1000 * s / t - n) = -1 := by omega
        rw [e]
        have HS := Lib.hid hs; clear hs e
        go_enter Tryd.func23, Tryd.ntmps23
        go_wp2_with (first | (go_at_call 32; with_reducible refine (HA.out _).mono ?_; rintro e w' ⟨rfl, rfl⟩) | (go_at_call 38; with_reducible refine (HB.out _).mono ?_; rintro e w' ⟨rfl, rfl⟩))
        go_ret2
        exact ⟨rfl, rfl⟩
      · have e : max (-1) (1000 * s / t - n) = 1000 * s / t - n := by omega
        have hm2 : -1 ≤ 1000 * s / t - n := by omega
        rw [e]
        have HS := Lib.hid hs; clear hs e
        go_enter Tryd.func23, Tryd.ntmps23
        go_wp2_with (first | (go_at_call 32; with_reducible refine (HA.out _).mono ?_; rintro e w' ⟨rfl, rfl⟩) | (go_at_call 38; with_reducible refine (HB.out _).mono ?_; rintro e w' ⟨rfl, rfl⟩))
        all_goals go_ret2
        all_goals exact ⟨ret2_i64 (by omega), rfl⟩
    · have hs : marginS s t n = (0, 2) := if_neg (fun h' => h2 h'.2)
      rw [hs]
      have HB := Lib.hid (fun w => receives_no t n h2 w)
      clear hs h h2
      go_enter Tryd.func23, Tryd.ntmps23
      go_wp2_with (first | (go_at_call 32; with_reducible refine (HA.out _).mono ?_; rintro e w' ⟨rfl, rfl⟩) | (go_at_call 38; with_reducible refine (HB.out _).mono ?_; rintro e w' ⟨rfl, rfl⟩))
      go_ret2
      exact ⟨rfl, rfl⟩
  · have hs : marginS s t n = (0, 2) := if_neg (fun h' => h h'.1)
    rw [hs]
    have HA := Lib.hid (fun w => within_no s 0 68719476736 (by unfold Pw at h; omega) w)
    clear hs h
    go_enter Tryd.func23, Tryd.ntmps23
    go_wp2_with (go_at_call 32; with_reducible refine (HA.out _).mono ?_; rintro e w' ⟨rfl, rfl⟩)
    go_ret2
    exact ⟨rfl, rfl⟩
theorem margin2_any (s t n : Int) (w : World) : Calls Tryd.prog 24 #[.int .i64 s, .int .i64 t, .int .i64 n] w fun e w' => e = .returned (.tuple #[.int .i64 (marginS s t n).1, .int .i64 (marginS s t n).2]) ∧ w' = w := by
  by_cases h : Pw s
  · have HA := Lib.hid (fun w => is_yes s h w)
    by_cases h2 : Rt t n
    · have hs : marginS s t n = (max (-1) (1000 * s / t - n), 0) := if_pos ⟨h, h2⟩
      have HB := Lib.hid (fun w => right_yes t n h2 w)
      rw [hs]
      obtain ⟨⟨g1, g2⟩, g3, g4⟩ := h2
      obtain ⟨k1, k2⟩ := h
      have k3 : 0 ≤ 1000 * s / t := Int.ediv_nonneg (by omega) (by omega)
      have k4 : 1000 * s / t ≤ 1000 * s := Int.ediv_le_self _ (by omega)
      by_cases hm : 1000 * s / t - n < -1
      · have e : max (-1) (1000 * s / t - n) = -1 := by omega
        rw [e]
        have HS := Lib.hid hs; clear hs e
        go_enter Tryd.func24, Tryd.ntmps24
        go_wp2_with (first | (go_at_call 36; with_reducible refine (HA.out _).mono ?_; rintro e w' ⟨rfl, rfl⟩) | (go_at_call 39; with_reducible refine (HB.out _).mono ?_; rintro e w' ⟨rfl, rfl⟩))
        go_ret2
        exact ⟨rfl, rfl⟩
      · have e : max (-1) (1000 * s / t - n) = 1000 * s / t - n := by omega
        have hm2 : -1 ≤ 1000 * s / t - n := by omega
        rw [e]
        have HS := Lib.hid hs; clear hs e
        go_enter Tryd.func24, Tryd.ntmps24
        go_wp2_with (first | (go_at_call 36; with_reducible refine (HA.out _).mono ?_; rintro e w' ⟨rfl, rfl⟩) | (go_at_call 39; with_reducible refine (HB.out _).mono ?_; rintro e w' ⟨rfl, rfl⟩))
        all_goals go_ret2
        all_goals exact ⟨ret2_i64 (by omega), rfl⟩
    · have hs : marginS s t n = (0, 2) := if_neg (fun h' => h2 h'.2)
      rw [hs]
      have HB := Lib.hid (fun w => right_no t n h2 w)
      clear hs h h2
      go_enter Tryd.func24, Tryd.ntmps24
      go_wp2_with (first | (go_at_call 36; with_reducible refine (HA.out _).mono ?_; rintro e w' ⟨rfl, rfl⟩) | (go_at_call 39; with_reducible refine (HB.out _).mono ?_; rintro e w' ⟨rfl, rfl⟩))
      go_ret2
      exact ⟨rfl, rfl⟩
  · have hs : marginS s t n = (0, 2) := if_neg (fun h' => h h'.1)
    rw [hs]
    have HA := Lib.hid (fun w => is_no s h w)
    clear hs h
    go_enter Tryd.func24, Tryd.ntmps24
    go_wp2_with (go_at_call 36; with_reducible refine (HA.out _).mono ?_; rintro e w' ⟨rfl, rfl⟩)
    go_ret2
    exact ⟨rfl, rfl⟩

/-- Least. -/
def leastS (t n i : Int) : Int × Int := if Rt t n ∧ (0 ≤ i ∧ i ≤ 4398046511104) then (if (t * (n + i) + 999) / 1000 ≤ 68719476736 then ((t * (n + i) + 999) / 1000, 0) else (0, 8)) else (0, 2)
theorem least_any (t n i : Int) (w : World) : Calls Tryd.prog 25 #[.int .i64 t, .int .i64 n, .int .i64 i] w fun e w' => e = .returned (.tuple #[.int .i64 (leastS t n i).1, .int .i64 (leastS t n i).2]) ∧ w' = w := by
  by_cases h : Rt t n
  · have HB := Lib.hid (fun w => receives_yes t n h w)
    by_cases h2 : 0 ≤ i ∧ i ≤ 4398046511104
    · have hs : leastS t n i = _ := if_pos ⟨h, h2⟩
      have HA := Lib.hid (fun w => within_yes i 0 4398046511104 h2.1 h2.2 w)
      rw [hs]
      obtain ⟨⟨g1, g2⟩, g3, g4⟩ := h
      obtain ⟨k1, k2⟩ := h2
      have hb := mul_bd (a := t) (b := n + i) (m := 100000) (n := 4466765987840) (by omega) g2 (by omega) (by omega)
      obtain ⟨m1, m2⟩ := hb
      have m3 : t * (n + i) ≤ 446676598784000000 := by omega
      have m4 : t * (n + i) + 1000 - 1 = t * (n + i) + 999 := by omega
      clear m2 hs
      by_cases hq : (t * (n + i) + 999) / 1000 ≤ 68719476736
      · rw [if_pos hq]
        go_enter Tryd.func25, Tryd.ntmps25
        go_wp2_with (first | (go_at_call 32; with_reducible refine (HA.out _).mono ?_; rintro e w' ⟨rfl, rfl⟩) | (go_at_call 38; with_reducible refine (HB.out _).mono ?_; rintro e w' ⟨rfl, rfl⟩))
        go_ret2
        exact ⟨rfl, rfl⟩
      · rw [if_neg hq]
        go_enter Tryd.func25, Tryd.ntmps25
        go_wp2_with (first | (go_at_call 32; with_reducible refine (HA.out _).mono ?_; rintro e w' ⟨rfl, rfl⟩) | (go_at_call 38; with_reducible refine (HB.out _).mono ?_; rintro e w' ⟨rfl, rfl⟩))
        go_ret2
        exact ⟨rfl, rfl⟩
    · have hs : leastS t n i = (0, 2) := if_neg (fun h' => h2 h'.2)
      rw [hs]
      have HA := Lib.hid (fun w => within_no i 0 4398046511104 (by omega) w)
      clear hs h h2
      go_enter Tryd.func25, Tryd.ntmps25
      go_wp2_with (first | (go_at_call 32; with_reducible refine (HA.out _).mono ?_; rintro e w' ⟨rfl, rfl⟩) | (go_at_call 38; with_reducible refine (HB.out _).mono ?_; rintro e w' ⟨rfl, rfl⟩))
      go_ret2
      exact ⟨rfl, rfl⟩
  · have hs : leastS t n i = (0, 2) := if_neg (fun h' => h h'.1)
    rw [hs]
    have HB := Lib.hid (fun w => receives_no t n h w)
    clear hs h
    go_enter Tryd.func25, Tryd.ntmps25
    go_wp2_with (go_at_call 38; with_reducible refine (HB.out _).mono ?_; rintro e w' ⟨rfl, rfl⟩)
    go_ret2
    exact ⟨rfl, rfl⟩
theorem least2_any (t n i : Int) (w : World) : Calls Tryd.prog 26 #[.int .i64 t, .int .i64 n, .int .i64 i] w fun e w' => e = .returned (.tuple #[.int .i64 (leastS t n i).1, .int .i64 (leastS t n i).2]) ∧ w' = w := by
  by_cases h : Rt t n
  · have HB := Lib.hid (fun w => right_yes t n h w)
    by_cases h2 : 0 ≤ i ∧ i ≤ 4398046511104
    · have hs : leastS t n i = _ := if_pos ⟨h, h2⟩
      rw [hs]
      obtain ⟨⟨g1, g2⟩, g3, g4⟩ := h
      obtain ⟨k1, k2⟩ := h2
      have hb := mul_bd (a := t) (b := n + i) (m := 100000) (n := 4466765987840) (by omega) g2 (by omega) (by omega)
      obtain ⟨m1, m2⟩ := hb
      have m3 : t * (n + i) ≤ 446676598784000000 := by omega
      clear m2 hs
      by_cases hq : (t * (n + i) + 999) / 1000 ≤ 68719476736
      · rw [if_pos hq]
        go_enter Tryd.func26, Tryd.ntmps26
        go_wp2_with (go_at_call 39; with_reducible refine (HB.out _).mono ?_; rintro e w' ⟨rfl, rfl⟩)
        go_ret2
        exact ⟨rfl, rfl⟩
      · rw [if_neg hq]
        go_enter Tryd.func26, Tryd.ntmps26
        go_wp2_with (go_at_call 39; with_reducible refine (HB.out _).mono ?_; rintro e w' ⟨rfl, rfl⟩)
        go_ret2
        exact ⟨rfl, rfl⟩
    · have hs : leastS t n i = (0, 2) := if_neg (fun h' => h2 h'.2)
      rw [hs]
      have hc : i < 0 ∨ (0 ≤ i ∧ 4398046511104 < i) := by omega
      clear hs h h2
      rcases hc with g1 | ⟨g1, g2⟩
      all_goals
        go_enter Tryd.func26, Tryd.ntmps26
        go_wp2_with (go_at_call 39; with_reducible refine (HB.out _).mono ?_; rintro e w' ⟨rfl, rfl⟩)
        go_ret2
        exact ⟨rfl, rfl⟩
  · have hs : leastS t n i = (0, 2) := if_neg (fun h' => h h'.1)
    rw [hs]
    have HB := Lib.hid (fun w => right_no t n h w)
    clear hs h
    go_enter Tryd.func26, Tryd.ntmps26
    go_wp2_with (go_at_call 39; with_reducible refine (HB.out _).mono ?_; rintro e w' ⟨rfl, rfl⟩)
    go_ret2
    exact ⟨rfl, rfl⟩
end Go.Proofs.YtjgbbafmjdapdaaDoor
