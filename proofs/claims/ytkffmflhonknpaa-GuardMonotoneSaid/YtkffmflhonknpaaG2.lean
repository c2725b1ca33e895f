/- Growth, Length, Step and Spread of package guard and of the reference. -/
import Derived.Test.YtkffmflhonknpaaG1
namespace Go.Proofs.Ytkffmflhonknpaa
open Go.RowKit Go.Lib Go.Sort

theorem gwT (t : Int) (w : World) : Calls Try.prog 34 #[.int .i64 t, .int .i64 1099511627776] w fun e w' => e = .returned (.bool (timeB t)) ∧ w' = w := gwithin_any t 1099511627776 w
theorem gwD (t : Int) (w : World) : Calls Try.prog 34 #[.int .i64 t, .int .i64 100000] w fun e w' => e = .returned (.bool (drB t)) ∧ w' = w := gwithin_any t 100000 w
def GrS (t d : Int) : Int × Int := if (timeB t && drB d) = true then (grS t d, 0) else (0, 2)
def LnS (n d : Int) : Int × Int := if (slotsB n && drB d) = true then (lnS n d, 0) else (0, 2)
def StS (n d : Int) : Int × Int := if (slotsB n && drB d) = true then (stS n d, 0) else (0, 2)
def SpS (a b n d : Int) : Int × Int := if (depB a && depB b && (slotsB n && drB d)) = true then (spS a b n d, 0) else (0, 2)
theorem Gr_cases (t d : Int) : (timeB t = true ∧ drB d = true ∧ GrS t d = (grS t d, 0)) ∨ (timeB t = false ∧ GrS t d = (0, 2)) ∨ (timeB t = true ∧ drB d = false ∧ GrS t d = (0, 2)) := by
  unfold GrS; cases timeB t <;> cases drB d <;> simp
theorem Ln_cases (n d : Int) : (slotsB n = true ∧ drB d = true ∧ LnS n d = (lnS n d, 0)) ∨ (slotsB n = false ∧ LnS n d = (0, 2)) ∨ (slotsB n = true ∧ drB d = false ∧ LnS n d = (0, 2)) := by
  unfold LnS; cases slotsB n <;> cases drB d <;> simp
theorem St_cases (n d : Int) : ((slotsB n && drB d) = true ∧ slotsB n = true ∧ drB d = true ∧ StS n d = (stS n d, 0)) ∨ ((slotsB n && drB d) = false ∧ StS n d = (0, 2)) := by
  unfold StS; cases slotsB n <;> cases drB d <;> simp
theorem Sp_cases (a b n d : Int) : ((depB a && depB b) = true ∧ depB a = true ∧ depB b = true ∧ (slotsB n && drB d) = true ∧ slotsB n = true ∧ drB d = true ∧ SpS a b n d = (spS a b n d, 0)) ∨ ((depB a && depB b) = false ∧ SpS a b n d = (0, 2)) ∨ ((depB a && depB b) = true ∧ (slotsB n && drB d) = false ∧ SpS a b n d = (0, 2)) := by
  unfold SpS; cases depB a <;> cases depB b <;> cases slotsB n <;> cases drB d <;> simp
theorem Growth_any (t d : Int) (w : World) : Calls Try.prog 12 #[.int .i64 t, .int .i64 d] w fun e w' => e = .returned (.tuple #[.int .i64 (GrS t d).1, .int .i64 (GrS t d).2]) ∧ w' = w := by
  have h1 := fun w => gwT t w
  have h2 := fun w => gwD d w
  rcases Gr_cases t d with ⟨a, b, hs⟩ | ⟨a, hs⟩ | ⟨a, b, hs⟩ <;> rw [hs] <;> rw [a] at h1 <;> clear hs
  · rw [b] at h2
    have h3 := fun w => growth_any t d (inB_yes a).1 (inB_yes a).2 (inB_yes b).1 (inB_yes b).2 w
    generalize grS t d = s at *
    have H1 := Lib.hid h1; clear h1
    have H2 := Lib.hid h2; clear h2
    have H3 := Lib.hid h3; clear h3 a b
    go_enter Try.func12, Try.ntmps12
    go_wp2_with (first | (go_at_call 34; ((with_reducible refine (H1.out _).mono ?_)); rintro e w' ⟨rfl, rfl⟩) | (go_at_call 34; ((with_reducible refine (H2.out _).mono ?_)); rintro e w' ⟨rfl, rfl⟩) | (go_at_call 35; ((with_reducible refine (H3.out _).mono ?_)); rintro e w' ⟨rfl, rfl⟩))
    go_ret2
    exact ⟨rfl, rfl⟩
  · have H1 := Lib.hid h1; clear h1 h2 a
    go_enter Try.func12, Try.ntmps12
    go_wp2_with (first | (go_at_call 34; ((with_reducible refine (H1.out _).mono ?_)); rintro e w' ⟨rfl, rfl⟩))
    go_ret2
    exact ⟨rfl, rfl⟩
  · rw [b] at h2
    have H1 := Lib.hid h1; clear h1
    have H2 := Lib.hid h2; clear h2 a b
    go_enter Try.func12, Try.ntmps12
    go_wp2_with (first | (go_at_call 34; ((with_reducible refine (H1.out _).mono ?_)); rintro e w' ⟨rfl, rfl⟩) | (go_at_call 34; ((with_reducible refine (H2.out _).mono ?_)); rintro e w' ⟨rfl, rfl⟩))
    go_ret2
    exact ⟨rfl, rfl⟩
theorem gGrowth2_any (t d : Int) (w : World) : Calls Try.prog 13 #[.int .i64 t, .int .i64 d] w fun e w' => e = .returned (.tuple #[.int .i64 (GrS t d).1, .int .i64 (GrS t d).2]) ∧ w' = w := by
  have h1 := fun w => time2_any t w
  have h2 := fun w => drifts2_any d w
  rcases Gr_cases t d with ⟨a, b, hs⟩ | ⟨a, hs⟩ | ⟨a, b, hs⟩ <;> rw [hs] <;> rw [a] at h1 <;> clear hs
  · rw [b] at h2
    obtain ⟨p1, p2⟩ := gprod (inB_yes a).1 (inB_yes a).2 (inB_yes b).1 (inB_yes b).2
    have hg : grS t d = 2 * t * d / 1000000000 + 2 := rfl
    have t1 := (inB_yes a).1
    have t2 := (inB_yes a).2
    have H1 := Lib.hid h1; clear h1
    have H2 := Lib.hid h2; clear h2 a b
    have HG := Lib.hid hg; clear hg
    have hm0 : IntKind.i64.wrap (2 * t) = 2 * t := IntWalk.i64_in _ (by omega)
    have hm : IntKind.i64.wrap (2 * t * d) = 2 * t * d := IntWalk.i64_in _ (by omega)
    have ht : (2 * t * d).tdiv 1000000000 = 2 * t * d / 1000000000 := Int.tdiv_eq_ediv_of_nonneg p1
    have q1 : 0 ≤ 2 * t * d / 1000000000 := by omega
    have q2 : 2 * t * d / 1000000000 ≤ 219902326 := by omega
    generalize 2 * t * d / 1000000000 = q at *
    clear t1 t2
    go_enter Try.func13, Try.ntmps13
    go_wp2_with (first | (go_at_call 36; ((with_reducible refine (H1.out _).mono ?_)); rintro e w' ⟨rfl, rfl⟩) | (go_at_call 37; ((with_reducible refine (H2.out _).mono ?_)); rintro e w' ⟨rfl, rfl⟩))
    go_ret2
    exact ⟨ret2_i64 HG.out.symm rfl, rfl⟩
  · have H1 := Lib.hid h1; clear h1 h2 a
    go_enter Try.func13, Try.ntmps13
    go_wp2_with (first | (go_at_call 36; ((with_reducible refine (H1.out _).mono ?_)); rintro e w' ⟨rfl, rfl⟩))
    go_ret2
    exact ⟨rfl, rfl⟩
  · rw [b] at h2
    have H1 := Lib.hid h1; clear h1
    have H2 := Lib.hid h2; clear h2 a b
    go_enter Try.func13, Try.ntmps13
    go_wp2_with (first | (go_at_call 36; ((with_reducible refine (H1.out _).mono ?_)); rintro e w' ⟨rfl, rfl⟩) | (go_at_call 37; ((with_reducible refine (H2.out _).mono ?_)); rintro e w' ⟨rfl, rfl⟩))
    go_ret2
    exact ⟨rfl, rfl⟩
theorem Length_any (n d : Int) (w : World) : Calls Try.prog 14 #[.int .i64 n, .int .i64 d] w fun e w' => e = .returned (.tuple #[.int .i64 (LnS n d).1, .int .i64 (LnS n d).2]) ∧ w' = w := by
  have h1 := fun w => areSlots_any n d w
  rcases Ln_cases n d with ⟨a, b, hs⟩ | ⟨a, hs⟩ | ⟨a, b, hs⟩ <;> rw [hs] <;> rw [a] at h1 <;> clear hs
  · rw [b] at h1
    simp only [Bool.and_self] at h1
    have h3 := fun w => length_any n d (inB_yes a).1 (inB_yes a).2 (inB_yes b).1 (inB_yes b).2 w
    generalize lnS n d = s at *
    have H1 := Lib.hid h1; clear h1
    have H3 := Lib.hid h3; clear h3 a b
    go_enter Try.func14, Try.ntmps14
    go_wp2_with (first | (go_at_call 38; ((with_reducible refine (H1.out _).mono ?_)); rintro e w' ⟨rfl, rfl⟩) | (go_at_call 39; ((with_reducible refine (H3.out _).mono ?_)); rintro e w' ⟨rfl, rfl⟩))
    go_ret2
    exact ⟨rfl, rfl⟩
  all_goals
    try rw [b] at h1
    simp only [Bool.false_and, Bool.and_false] at h1
    have H1 := Lib.hid h1; clear h1
    go_enter Try.func14, Try.ntmps14
    go_wp2_with (first | (go_at_call 38; ((with_reducible refine (H1.out _).mono ?_)); rintro e w' ⟨rfl, rfl⟩))
    go_ret2
    exact ⟨rfl, rfl⟩
theorem gLength2_any (n d : Int) (w : World) : Calls Try.prog 15 #[.int .i64 n, .int .i64 d] w fun e w' => e = .returned (.tuple #[.int .i64 (LnS n d).1, .int .i64 (LnS n d).2]) ∧ w' = w := by
  have h1 := fun w => slots2_any n w
  have h2 := fun w => drifts2_any d w
  rcases Ln_cases n d with ⟨a, b, hs⟩ | ⟨a, hs⟩ | ⟨a, b, hs⟩ <;> rw [hs] <;> rw [a] at h1 <;> clear hs
  · rw [b] at h2
    obtain ⟨n1, n2⟩ := inB_yes a
    obtain ⟨d1, d2⟩ := inB_yes b
    obtain ⟨l1, l2⟩ := ln_bd n1 n2 d1 d2
    have hl : lnS n d = ((n * 10000 + 1) * 1000000000 + (1000000000 - d) - 1) / (1000000000 - d) := rfl
    have ht : ((n * 10000 + 1) * 1000000000 + (1000000000 - d) - 1).tdiv (1000000000 - d) = lnS n d := by
      rw [hl]; exact Int.tdiv_eq_ediv_of_nonneg (by omega)
    clear hl
    generalize lnS n d = q at *
    have hz : (1000000000 - d == 0) = false := by rw [beq_eq_false_iff_ne]; omega
    have H1 := Lib.hid h1; clear h1
    have H2 := Lib.hid h2; clear h2 a b
    go_enter Try.func15, Try.ntmps15
    go_wp2_with (first | (go_at_call 40; ((with_reducible refine (H1.out _).mono ?_)); rintro e w' ⟨rfl, rfl⟩) | (go_at_call 37; ((with_reducible refine (H2.out _).mono ?_)); rintro e w' ⟨rfl, rfl⟩))
    go_ret2
    exact ⟨rfl, rfl⟩
  · have H1 := Lib.hid h1; clear h1 h2 a
    go_enter Try.func15, Try.ntmps15
    go_wp2_with (first | (go_at_call 40; ((with_reducible refine (H1.out _).mono ?_)); rintro e w' ⟨rfl, rfl⟩))
    go_ret2
    exact ⟨rfl, rfl⟩
  · rw [b] at h2
    have H1 := Lib.hid h1; clear h1
    have H2 := Lib.hid h2; clear h2 a b
    go_enter Try.func15, Try.ntmps15
    go_wp2_with (first | (go_at_call 40; ((with_reducible refine (H1.out _).mono ?_)); rintro e w' ⟨rfl, rfl⟩) | (go_at_call 37; ((with_reducible refine (H2.out _).mono ?_)); rintro e w' ⟨rfl, rfl⟩))
    go_ret2
    exact ⟨rfl, rfl⟩
theorem Step_any (n d : Int) (w : World) : Calls Try.prog 16 #[.int .i64 n, .int .i64 d] w fun e w' => e = .returned (.tuple #[.int .i64 (StS n d).1, .int .i64 (StS n d).2]) ∧ w' = w := by
  have h1 := fun w => areSlots_any n d w
  rcases St_cases n d with ⟨c, a, b, hs⟩ | ⟨c, hs⟩ <;> rw [hs] <;> rw [c] at h1 <;> clear hs c
  · have h3 := fun w => step_any n d (inB_yes a).1 (inB_yes a).2 (inB_yes b).1 (inB_yes b).2 w
    generalize stS n d = s at *
    have H1 := Lib.hid h1; clear h1
    have H3 := Lib.hid h3; clear h3 a b
    go_enter Try.func16, Try.ntmps16
    go_wp2_with (first | (go_at_call 38; ((with_reducible refine (H1.out _).mono ?_)); rintro e w' ⟨rfl, rfl⟩) | (go_at_call 41; ((with_reducible refine (H3.out _).mono ?_)); rintro e w' ⟨rfl, rfl⟩))
    go_ret2
    exact ⟨rfl, rfl⟩
  · have H1 := Lib.hid h1; clear h1
    go_enter Try.func16, Try.ntmps16
    go_wp2_with (first | (go_at_call 38; ((with_reducible refine (H1.out _).mono ?_)); rintro e w' ⟨rfl, rfl⟩))
    go_ret2
    exact ⟨rfl, rfl⟩
theorem gStep2_any (n d : Int) (w : World) : Calls Try.prog 17 #[.int .i64 n, .int .i64 d] w fun e w' => e = .returned (.tuple #[.int .i64 (StS n d).1, .int .i64 (StS n d).2]) ∧ w' = w := by
  have h1 := fun w => gLength2_any n d w
  rcases St_cases n d with ⟨c, a, b, hs⟩ | ⟨c, hs⟩ <;> rw [hs] <;> clear hs
  · rw [show LnS n d = (lnS n d, 0) from if_pos c] at h1
    obtain ⟨n1, n2⟩ := inB_yes a
    obtain ⟨d1, d2⟩ := inB_yes b
    obtain ⟨l1, l2⟩ := ln_bd n1 n2 d1 d2
    obtain ⟨g1, g2⟩ := gr_bd (t := lnS n d) (by omega) l2 d1 d2
    have h2 := fun w => gGrowth2_any (lnS n d) d w
    rw [show GrS (lnS n d) d = (grS (lnS n d) d, 0) from if_pos (by rw [b, Bool.and_true]; simp [timeB, inB]; omega)] at h2
    have hs : stS n d = 1 + grS (lnS n d) d := rfl
    have HS := Lib.hid hs; clear hs
    generalize grS (lnS n d) d = g at *
    generalize lnS n d = l at *
    have H1 := Lib.hid h1; clear h1
    have H2 := Lib.hid h2; clear h2 a b c n1 n2 d1 d2
    go_enter Try.func17, Try.ntmps17
    go_wp2_with (first | (go_at_call 15; ((with_reducible refine (H1.out _).mono ?_)); rintro e w' ⟨rfl, rfl⟩) | (go_at_call 13; ((with_reducible refine (H2.out _).mono ?_)); rintro e w' ⟨rfl, rfl⟩))
    go_ret2
    exact ⟨ret2_i64 HS.out.symm rfl, rfl⟩
  · rw [show LnS n d = (0, 2) from if_neg (by rw [c]; decide)] at h1
    have H1 := Lib.hid h1; clear h1 c
    go_enter Try.func17, Try.ntmps17
    go_wp2_with (first | (go_at_call 15; ((with_reducible refine (H1.out _).mono ?_)); rintro e w' ⟨rfl, rfl⟩))
    go_ret2
    exact ⟨rfl, rfl⟩
theorem gSpread_any (a b n d : Int) (w : World) : Calls Try.prog 18 #[.int .i64 a, .int .i64 b, .int .i64 n, .int .i64 d] w fun e w' => e = .returned (.tuple #[.int .i64 (SpS a b n d).1, .int .i64 (SpS a b n d).2]) ∧ w' = w := by
  have h1 := fun w => areDepths_any a b w
  have h2 := fun w => areSlots_any n d w
  rcases Sp_cases a b n d with ⟨c, ca, cb, k, kn, kd, hs⟩ | ⟨c, hs⟩ | ⟨c, k, hs⟩ <;> rw [hs] <;> rw [c] at h1 <;> clear hs
  · rw [k] at h2
    obtain ⟨a1, a2⟩ := inB_yes ca
    obtain ⟨b1, b2⟩ := inB_yes cb
    obtain ⟨n1, n2⟩ := inB_yes kn
    obtain ⟨d1, d2⟩ := inB_yes kd
    have h3 := fun w => step_any n d n1 n2 d1 d2 w
    obtain ⟨s1, s2⟩ := sp_bd (n := n) (d := d) ⟨a1, a2⟩ ⟨b1, b2⟩ n1 n2 d1 d2
    have hw : wrap64 ((a + b) * stS n d) = spS a b n d := IntWalk.wrap64_in ((a + b) * stS n d) (by unfold spS at s1 s2; omega)
    generalize spS a b n d = q at *
    generalize stS n d = s at *
    have H1 := Lib.hid h1; clear h1
    have H2 := Lib.hid h2; clear h2
    have H3 := Lib.hid h3; clear h3 c ca cb k kn kd n1 n2 d1 d2
    go_enter Try.func18, Try.ntmps18
    go_wp2_with (first | (go_at_call 42; ((with_reducible refine (H1.out _).mono ?_)); rintro e w' ⟨rfl, rfl⟩) | (go_at_call 38; ((with_reducible refine (H2.out _).mono ?_)); rintro e w' ⟨rfl, rfl⟩) | (go_at_call 41; ((with_reducible refine (H3.out _).mono ?_)); rintro e w' ⟨rfl, rfl⟩))
    go_ret2
    exact ⟨ret2_i64 hw rfl, rfl⟩
  · have H1 := Lib.hid h1; clear h1 h2 c
    go_enter Try.func18, Try.ntmps18
    go_wp2_with (first | (go_at_call 42; ((with_reducible refine (H1.out _).mono ?_)); rintro e w' ⟨rfl, rfl⟩))
    go_ret2
    exact ⟨rfl, rfl⟩
  · rw [k] at h2
    have H1 := Lib.hid h1; clear h1
    have H2 := Lib.hid h2; clear h2 c k
    go_enter Try.func18, Try.ntmps18
    go_wp2_with (first | (go_at_call 42; ((with_reducible refine (H1.out _).mono ?_)); rintro e w' ⟨rfl, rfl⟩) | (go_at_call 38; ((with_reducible refine (H2.out _).mono ?_)); rintro e w' ⟨rfl, rfl⟩))
    go_ret2
    exact ⟨rfl, rfl⟩
theorem dep_no {a b : Int} (h : (depB a && depB b) = false) : a < 0 ∨ (0 ≤ a ∧ 32 < a) ∨ (0 ≤ a ∧ a ≤ 32 ∧ b < 0) ∨ (0 ≤ a ∧ a ≤ 32 ∧ 0 ≤ b ∧ 32 < b) := by
  rw [Bool.and_eq_false_iff] at h
  rcases h with h | h <;> have := inB_no h <;> omega
theorem gSpread2_any (a b n d : Int) (w : World) : Calls Try.prog 19 #[.int .i64 a, .int .i64 b, .int .i64 n, .int .i64 d] w fun e w' => e = .returned (.tuple #[.int .i64 (SpS a b n d).1, .int .i64 (SpS a b n d).2]) ∧ w' = w := by
  have h1 := fun w => gStep2_any n d w
  rcases Sp_cases a b n d with ⟨c, ca, cb, k, kn, kd, hs⟩ | ⟨c, hs⟩ | ⟨c, k, hs⟩ <;> rw [hs] <;> clear hs
  · obtain ⟨a1, a2⟩ := inB_yes ca
    obtain ⟨b1, b2⟩ := inB_yes cb
    obtain ⟨n1, n2⟩ := inB_yes kn
    obtain ⟨d1, d2⟩ := inB_yes kd
    rw [show StS n d = (stS n d, 0) from if_pos k] at h1
    obtain ⟨s1, s2⟩ := sp_bd (n := n) (d := d) ⟨a1, a2⟩ ⟨b1, b2⟩ n1 n2 d1 d2
    have hw : wrap64 ((a + b) * stS n d) = spS a b n d := IntWalk.wrap64_in ((a + b) * stS n d) (by unfold spS at s1 s2; omega)
    generalize spS a b n d = q at *
    generalize stS n d = s at *
    have H1 := Lib.hid h1; clear h1 c ca cb k kn kd n1 n2 d1 d2
    go_enter Try.func19, Try.ntmps19
    go_wp2_with (first | (go_at_call 17; ((with_reducible refine (H1.out _).mono ?_)); rintro e w' ⟨rfl, rfl⟩))
    go_ret2
    exact ⟨ret2_i64 hw rfl, rfl⟩
  · clear h1
    rcases dep_no c with x | ⟨x, y⟩ | ⟨x, y, z⟩ | ⟨x, y, z, u⟩ <;> clear c
    all_goals
      go_enter Try.func19, Try.ntmps19
      go_wp2
      go_ret2
      exact ⟨rfl, rfl⟩
  · rw [Bool.and_eq_true] at c
    obtain ⟨a1, a2⟩ := inB_yes c.1
    obtain ⟨b1, b2⟩ := inB_yes c.2
    rw [show StS n d = (0, 2) from if_neg (by rw [k]; decide)] at h1
    have H1 := Lib.hid h1; clear h1 c k
    go_enter Try.func19, Try.ntmps19
    go_wp2_with (first | (go_at_call 17; ((with_reducible refine (H1.out _).mono ?_)); rintro e w' ⟨rfl, rfl⟩))
    go_ret2
    exact ⟨rfl, rfl⟩
end Go.Proofs.Ytkffmflhonknpaa
