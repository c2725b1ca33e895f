/- The numbers of package guard, and of the reference: growth, length, step, spread. -/
import Derived.Test.YtkffmflhonknpaaCalls2
namespace Go.Proofs.Ytkffmflhonknpaa
open Go.RowKit Go.Lib Go.Sort

theorem gwithin_any (n m : Int) (w : World) : Calls Try.prog 34 #[.int .i64 n, .int .i64 m] w fun e w' => e = .returned (.bool (inB n 0 m)) ∧ w' = w := by
  cases h : inB n 0 m with
  | true =>
    obtain ⟨h1, h2⟩ := inB_yes h
    clear h
    go_enter Try.func34, Try.ntmps34
    go_wp2
    go_ret
    exact ⟨rfl, rfl⟩
  | false =>
    have hh := inB_no h
    clear h
    by_cases a1 : n < 0
    · clear hh
      go_enter Try.func34, Try.ntmps34
      go_wp2
      go_ret
      exact ⟨rfl, rfl⟩
    · have b1 : 0 ≤ n := by omega
      have b2 : decide (n ≤ m) = false := by simp; omega
      clear hh a1
      go_enter Try.func34, Try.ntmps34
      go_wp2
      go_ret
      exact ⟨rfl, rfl⟩
def drB (d : Int) : Bool := inB d 0 100000
def slotsB (n : Int) : Bool := inB n 0 4096
def depB (a : Int) : Bool := inB a 0 32
theorem areSlots_any (n d : Int) (w : World) : Calls Try.prog 38 #[.int .i64 n, .int .i64 d] w fun e w' => e = .returned (.bool (slotsB n && drB d)) ∧ w' = w := by
  have h1 := fun w => gwithin_any n 4096 w
  have h2 := fun w => gwithin_any d 100000 w
  change ∀ w, Calls Try.prog 34 #[.int .i64 n, .int .i64 4096] w fun e w' => e = .returned (.bool (slotsB n)) ∧ w' = w at h1
  change ∀ w, Calls Try.prog 34 #[.int .i64 d, .int .i64 100000] w fun e w' => e = .returned (.bool (drB d)) ∧ w' = w at h2
  have H1 := Lib.hid h1; clear h1
  have H2 := Lib.hid h2; clear h2
  cases e1 : slotsB n <;> cases e2 : drB d <;> rw [e1] at H1 <;> rw [e2] at H2 <;> clear e1 e2
  all_goals
    go_enter Try.func38, Try.ntmps38
    go_wp2_with (first | (go_at_call 34; ((with_reducible refine (H1.out _).mono ?_)); rintro e w' ⟨rfl, rfl⟩) | (go_at_call 34; ((with_reducible refine (H2.out _).mono ?_)); rintro e w' ⟨rfl, rfl⟩))
    go_ret
    exact ⟨rfl, rfl⟩
theorem areDepths_any (n d : Int) (w : World) : Calls Try.prog 42 #[.int .i64 n, .int .i64 d] w fun e w' => e = .returned (.bool (depB n && depB d)) ∧ w' = w := by
  have h1 := fun w => gwithin_any n 32 w
  have h2 := fun w => gwithin_any d 32 w
  change ∀ w, Calls Try.prog 34 #[.int .i64 n, .int .i64 32] w fun e w' => e = .returned (.bool (depB n)) ∧ w' = w at h1
  change ∀ w, Calls Try.prog 34 #[.int .i64 d, .int .i64 32] w fun e w' => e = .returned (.bool (depB d)) ∧ w' = w at h2
  have H1 := Lib.hid h1; clear h1
  have H2 := Lib.hid h2; clear h2
  cases e1 : depB n <;> cases e2 : depB d <;> rw [e1] at H1 <;> rw [e2] at H2 <;> clear e1 e2
  all_goals
    go_enter Try.func42, Try.ntmps42
    go_wp2_with (first | (go_at_call 34; ((with_reducible refine (H1.out _).mono ?_)); rintro e w' ⟨rfl, rfl⟩) | (go_at_call 34; ((with_reducible refine (H2.out _).mono ?_)); rintro e w' ⟨rfl, rfl⟩))
    go_ret
    exact ⟨rfl, rfl⟩
theorem drifts2_any (n : Int) (w : World) : Calls Try.prog 37 #[.int .i64 n] w fun e w' => e = .returned (.bool (drB n)) ∧ w' = w := by
  cases h : drB n with
  | true =>
    obtain ⟨h1, h2⟩ := inB_yes h
    clear h
    go_enter Try.func37, Try.ntmps37
    go_wp2
    go_ret
    exact ⟨rfl, rfl⟩
  | false =>
    have hh := inB_no h
    clear h
    by_cases a1 : n < 0
    · clear hh
      go_enter Try.func37, Try.ntmps37
      go_wp2
      go_ret
      exact ⟨rfl, rfl⟩
    · have b1 : 0 ≤ n := by omega
      have b2 : decide (n ≤ 100000) = false := by simp; omega
      clear hh a1
      go_enter Try.func37, Try.ntmps37
      go_wp2
      go_ret
      exact ⟨rfl, rfl⟩
theorem slots2_any (n : Int) (w : World) : Calls Try.prog 40 #[.int .i64 n] w fun e w' => e = .returned (.bool (slotsB n)) ∧ w' = w := by
  cases h : slotsB n with
  | true =>
    obtain ⟨h1, h2⟩ := inB_yes h
    clear h
    go_enter Try.func40, Try.ntmps40
    go_wp2
    go_ret
    exact ⟨rfl, rfl⟩
  | false =>
    have hh := inB_no h
    clear h
    by_cases a1 : n < 0
    · clear hh
      go_enter Try.func40, Try.ntmps40
      go_wp2
      go_ret
      exact ⟨rfl, rfl⟩
    · have b1 : 0 ≤ n := by omega
      have b2 : decide (n ≤ 4096) = false := by simp; omega
      clear hh a1
      go_enter Try.func40, Try.ntmps40
      go_wp2
      go_ret
      exact ⟨rfl, rfl⟩
/-- The growth. -/
def grS (t d : Int) : Int := 2 * t * d / 1000000000 + 2
theorem gprod {t d : Int} (h1 : 0 ≤ t) (h2 : t ≤ 1099511627776) (h3 : 0 ≤ d) (h4 : d ≤ 100000) : 0 ≤ 2 * t * d ∧ 2 * t * d ≤ 219902325555200000 := by
  have a : 2 * t * d ≤ 2 * t * 100000 := Int.mul_le_mul_of_nonneg_left h4 (by omega)
  have b : 0 ≤ 2 * t * d := Int.mul_nonneg (by omega) h3
  omega
theorem growth_any (t d : Int) (h1 : 0 ≤ t) (h2 : t ≤ 1099511627776) (h3 : 0 ≤ d) (h4 : d ≤ 100000) (w : World) : Calls Try.prog 35 #[.int .i64 t, .int .i64 d] w fun e w' => e = .returned (.int .i64 (grS t d)) ∧ w' = w := by
  obtain ⟨p1, p2⟩ := gprod h1 h2 h3 h4
  have hg : grS t d = 2 * t * d / 1000000000 + 2 := rfl
  have HG := Lib.hid hg; clear hg h3 h4
  have hm0 : IntKind.i64.wrap (2 * t) = 2 * t := IntWalk.i64_in _ (by omega)
  have hm : IntKind.i64.wrap (2 * t * d) = 2 * t * d := IntWalk.i64_in _ (by omega)
  have ht : (2 * t * d).tdiv 1000000000 = 2 * t * d / 1000000000 := Int.tdiv_eq_ediv_of_nonneg p1
  have q1 : 0 ≤ 2 * t * d / 1000000000 := by omega
  have q2 : 2 * t * d / 1000000000 ≤ 219902326 := by omega
  generalize 2 * t * d / 1000000000 = q at *
  go_enter Try.func35, Try.ntmps35
  go_wp2
  go_ret
  exact ⟨ret_i64 HG.out.symm, rfl⟩
/-- The length. -/
def lnS (n d : Int) : Int := ((n * 10000 + 1) * 1000000000 + (1000000000 - d) - 1) / (1000000000 - d)
theorem ln_bd {n d : Int} (h1 : 0 ≤ n) (h2 : n ≤ 4096) (h3 : 0 ≤ d) (h4 : d ≤ 100000) : 1 ≤ lnS n d ∧ lnS n d ≤ 41000000 := by
  unfold lnS
  constructor
  · refine Int.le_ediv_of_mul_le (by omega) ?_
    omega
  · refine Int.ediv_le_of_le_mul (by omega) ?_
    omega
theorem length_any (n d : Int) (h1 : 0 ≤ n) (h2 : n ≤ 4096) (h3 : 0 ≤ d) (h4 : d ≤ 100000) (w : World) : Calls Try.prog 39 #[.int .i64 n, .int .i64 d] w fun e w' => e = .returned (.int .i64 (lnS n d)) ∧ w' = w := by
  obtain ⟨l1, l2⟩ := ln_bd h1 h2 h3 h4
  have hl : lnS n d = ((n * 10000 + 1) * 1000000000 + (1000000000 - d) - 1) / (1000000000 - d) := rfl
  have ht : ((n * 10000 + 1) * 1000000000 + (1000000000 - d) - 1).tdiv (1000000000 - d) = lnS n d := by
    rw [hl]; exact Int.tdiv_eq_ediv_of_nonneg (by omega)
  clear hl
  generalize lnS n d = q at *
  have hz : (1000000000 - d == 0) = false := by rw [beq_eq_false_iff_ne]; omega
  go_enter Try.func39, Try.ntmps39
  go_wp2
  go_ret
  exact ⟨rfl, rfl⟩
/-- The step. -/
def stS (n d : Int) : Int := 1 + grS (lnS n d) d
theorem gr_bd {t d : Int} (h1 : 0 ≤ t) (h2 : t ≤ 41000000) (h3 : 0 ≤ d) (h4 : d ≤ 100000) : 2 ≤ grS t d ∧ grS t d ≤ 8202 := by
  have a : 2 * t * d ≤ 2 * t * 100000 := Int.mul_le_mul_of_nonneg_left h4 (by omega)
  have b : 0 ≤ 2 * t * d := Int.mul_nonneg (by omega) h3
  unfold grS
  omega
theorem st_bd {n d : Int} (h1 : 0 ≤ n) (h2 : n ≤ 4096) (h3 : 0 ≤ d) (h4 : d ≤ 100000) : 3 ≤ stS n d ∧ stS n d ≤ 8203 := by
  obtain ⟨l1, l2⟩ := ln_bd h1 h2 h3 h4
  have := gr_bd (t := lnS n d) (by omega) l2 h3 h4
  unfold stS
  omega
theorem step_any (n d : Int) (h1 : 0 ≤ n) (h2 : n ≤ 4096) (h3 : 0 ≤ d) (h4 : d ≤ 100000) (w : World) : Calls Try.prog 41 #[.int .i64 n, .int .i64 d] w fun e w' => e = .returned (.int .i64 (stS n d)) ∧ w' = w := by
  obtain ⟨l1, l2⟩ := ln_bd h1 h2 h3 h4
  obtain ⟨g1, g2⟩ := gr_bd (t := lnS n d) (by omega) l2 h3 h4
  have H1 := Lib.hid (fun w => length_any n d h1 h2 h3 h4 w)
  have H2 := Lib.hid (fun w => growth_any (lnS n d) d (by omega) (by omega) h3 h4 w)
  have hs : stS n d = 1 + grS (lnS n d) d := rfl
  have HS := Lib.hid hs; clear hs
  generalize grS (lnS n d) d = g at *
  generalize lnS n d = l at *
  go_enter Try.func41, Try.ntmps41
  go_wp2_with (first | (go_at_call 39; ((with_reducible refine (H1.out _).mono ?_)); rintro e w' ⟨rfl, rfl⟩) | (go_at_call 35; ((with_reducible refine (H2.out _).mono ?_)); rintro e w' ⟨rfl, rfl⟩))
  go_ret
  exact ⟨ret_i64 HS.out.symm, rfl⟩
/-- The spread. -/
def spS (a b n d : Int) : Int := (a + b) * stS n d
theorem sp_bd {a b n d : Int} (ha : 0 ≤ a ∧ a ≤ 32) (hb : 0 ≤ b ∧ b ≤ 32) (h1 : 0 ≤ n) (h2 : n ≤ 4096) (h3 : 0 ≤ d) (h4 : d ≤ 100000) : 0 ≤ spS a b n d ∧ spS a b n d ≤ 524992 := by
  obtain ⟨s1, s2⟩ := st_bd h1 h2 h3 h4
  unfold spS
  generalize stS n d = s at *
  have x : (a + b) * s ≤ (a + b) * 8203 := Int.mul_le_mul_of_nonneg_left s2 (by omega)
  have y : 0 ≤ (a + b) * s := Int.mul_nonneg (by omega) (by omega)
  omega
end Go.Proofs.Ytkffmflhonknpaa
