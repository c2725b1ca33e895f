/- Hear, Acked and Synchronized of package timesync and of the reference. -/
import Derived.Test.YtffcoeadpicohaaT3
namespace Go.Proofs.Ytffcoeadpicohaa
open Go.RowKit Go.Lib Go.Sort

theorem okY_of {o d s c : Int} (h : okY o d s c = true) : okC o d = true ∧ ((s = -1 ∧ c = 0) ∨ ((0 ≤ s ∧ s ≤ 109951162) ∧ 1 ≤ c ∧ c ≤ 4096)) := by
  unfold okY newB sltB inB at h
  simp only [Bool.and_eq_true, Bool.or_eq_true, decide_eq_true_eq] at h
  exact h
theorem chkY_cases (o d s c : Int) : (okY o d s c = true ∧ chkY o d s c = 0) ∨ (okY o d s c = false ∧ chkY o d s c = 1) := by
  cases h : okY o d s c with
  | true => exact .inl ⟨rfl, if_pos h⟩
  | false => exact .inr ⟨rfl, if_neg (by rw [h]; decide)⟩
theorem me_bd (o d n t : Int) : -9000000000000 ≤ (meS o d n t).1 ∧ (meS o d n t).1 ≤ 9000000000000 := by
  rcases me_cases o d n t with ⟨a, b, c, hs⟩ | ⟨_, _, _, hs⟩ | ⟨_, _, hs⟩ | ⟨_, hs⟩ <;> rw [hs]
  · obtain ⟨n1, n2⟩ := inB_yes b
    have q := shS_bd (t := t) a (inB_yes c).1 (inB_yes c).2
    simp only; omega
  all_goals exact ⟨by decide, by decide⟩
/-- Hear. -/
def heS (o d s c n t : Int) : St × Int := if okY o d s c = true then (if (meS o d n t).2 = 0 then coS o d s c n (-(meS o d n t).1) else ((0, 0, 0, 0), (meS o d n t).2)) else ((0, 0, 0, 0), 1)
theorem he_cases (o d s c n t : Int) : (okY o d s c = true ∧ (meS o d n t).2 = 0 ∧ heS o d s c n t = coS o d s c n (-(meS o d n t).1)) ∨ (okY o d s c = true ∧ ((meS o d n t).2 != 0) = true ∧ heS o d s c n t = ((0, 0, 0, 0), (meS o d n t).2)) ∨ (okY o d s c = false ∧ heS o d s c n t = ((0, 0, 0, 0), 1)) := by
  unfold heS
  cases okY o d s c with
  | false => exact .inr (.inr ⟨rfl, rfl⟩)
  | true =>
    rw [if_pos rfl]
    by_cases h : (meS o d n t).2 = 0
    · rw [if_pos h]; exact .inl ⟨rfl, h, rfl⟩
    · rw [if_neg h]; exact .inr (.inl ⟨rfl, by simpa using h, rfl⟩)
/-- Acked. -/
def acS (o d s c n k : Int) : St × Int := if okY o d s c = true then (if sltB n = true then coS o d s c n k else ((0, 0, 0, 0), 2)) else ((0, 0, 0, 0), 1)
theorem ac_cases (o d s c n k : Int) : (okY o d s c = true ∧ sltB n = true ∧ acS o d s c n k = coS o d s c n k) ∨ (okY o d s c = true ∧ sltB n = false ∧ acS o d s c n k = ((0, 0, 0, 0), 2)) ∨ (okY o d s c = false ∧ acS o d s c n k = ((0, 0, 0, 0), 1)) := by
  unfold acS
  cases okY o d s c <;> cases sltB n <;> simp
set_option maxHeartbeats 1000000 in
theorem Hear_any (o d s c n t : Int) (w : World) : Calls Try.prog 13 #[.agg #[.int .i64 o, .int .i64 d, .int .i64 s, .int .i64 c], .int .i64 n, .int .i64 t] w
    fun e w' => e = .returned (.tuple #[vS (heS o d s c n t).1, .int .i64 (heS o d s c n t).2]) ∧ Same w w' := by
  have h1 := fun w => tCheck_any o d s c w
  have h2 := fun w => Measure_any o d n t w
  obtain ⟨a0, a1, a2, a3, z0, z1, z2, z3, f0, f1, f2, f3⟩ := (Bt.new w o d s c).cells
  have HN := Lib.hid (Bt.new w o d s c)
  rcases he_cases o d s c n t with ⟨x1, x2, hs⟩ | ⟨x1, x2, hs⟩ | ⟨x1, hs⟩ <;> rw [hs] <;> clear hs
  · rw [show chkY o d s c = 0 from if_pos x1] at h1
    have hb := me_bd o d n t
    have h3 := fun w => corrected_any o d s c n (-(meS o d n t).1) (by have := (okY_of x1).2; omega) w
    generalize meS o d n t = m at *
    obtain ⟨m1, m2⟩ := m
    simp only at x2 hb h3 h2
    subst x2
    simp only
    generalize coS o d s c n (-m1) = q at *
    obtain ⟨⟨q1, q2, q3, q4⟩, q5⟩ := q
    obtain ⟨hb1, hb2⟩ := hb
    have H1 := Lib.hid h1; clear h1 x1
    have H2 := Lib.hid h2; clear h2
    have H3 := Lib.hid h3; clear h3
    go_enter Try.func13, Try.ntmps13
    go_wp2_with (first
      | (go_at_call 17; (with_reducible refine (H1.out _).mono ?_); rintro e w1 ⟨rfl, hw⟩; have HB := Lib.hid (HN.out.keep hw.toSame); clear hw a0 a1 a2 a3 z0 z1 z2 z3 f0 f1 f2 f3; obtain ⟨a0, a1, a2, a3, z0, z1, z2, z3, f0, f1, f2, f3⟩ := HB.out.cells)
      | (go_at_call 11; (with_reducible refine (H2.out _).mono ?_); rintro e w2 ⟨rfl, hw⟩; have HC := Lib.hid (HB.out.keep hw.toSame); clear hw HB a0 a1 a2 a3 z0 z1 z2 z3 f0 f1 f2 f3; obtain ⟨a0, a1, a2, a3, z0, z1, z2, z3, f0, f1, f2, f3⟩ := HC.out.cells)
      | (go_at_call 48; (with_reducible refine (H3.out _).mono ?_); rintro e w3 ⟨rfl, hw⟩; have HD := Lib.hid (HC.out.keep hw); clear hw HC a0 a1 a2 a3 z0 z1 z2 z3 f0 f1 f2 f3; obtain ⟨a0, a1, a2, a3, z0, z1, z2, z3, f0, f1, f2, f3⟩ := HD.out.cells))
    exact bodyPost_ret (v := .tuple #[.agg #[.int .i64 q1, .int .i64 q2, .int .i64 q3, .int .i64 q4], .int .i64 q5]) (by simp [results, Try.results13, go_sem, z0, z1, z2, z3]) rfl ⟨rfl, HD.out.done _ _ _ _⟩
  · rw [show chkY o d s c = 0 from if_pos x1] at h1
    generalize meS o d n t = m at *
    obtain ⟨m1, m2⟩ := m
    have H1 := Lib.hid h1; clear h1 x1
    have H2 := Lib.hid h2; clear h2
    go_enter Try.func13, Try.ntmps13
    go_wp2_with (first
      | (go_at_call 17; (with_reducible refine (H1.out _).mono ?_); rintro e w1 ⟨rfl, hw⟩; have HB := Lib.hid (HN.out.keep hw.toSame); clear hw a0 a1 a2 a3 z0 z1 z2 z3 f0 f1 f2 f3; obtain ⟨a0, a1, a2, a3, z0, z1, z2, z3, f0, f1, f2, f3⟩ := HB.out.cells)
      | (go_at_call 11; (with_reducible refine (H2.out _).mono ?_); rintro e w2 ⟨rfl, hw⟩; have HC := Lib.hid (HB.out.keep hw.toSame); clear hw HB a0 a1 a2 a3 z0 z1 z2 z3 f0 f1 f2 f3; obtain ⟨a0, a1, a2, a3, z0, z1, z2, z3, f0, f1, f2, f3⟩ := HC.out.cells))
    exact bodyPost_ret (v := nil4 m2) (by simp [results, Try.results13, go_sem, z0, z1, z2, z3]) rfl ⟨rfl, HC.out.done _ _ _ _⟩
  · rw [show chkY o d s c = 1 from if_neg (by rw [x1]; decide)] at h1
    have H1 := Lib.hid h1; clear h1 x1 h2
    go_enter Try.func13, Try.ntmps13
    go_wp2_with (go_at_call 17; (with_reducible refine (H1.out _).mono ?_); rintro e w1 ⟨rfl, hw⟩; have HB := Lib.hid (HN.out.keep hw.toSame); clear hw a0 a1 a2 a3 z0 z1 z2 z3 f0 f1 f2 f3; obtain ⟨a0, a1, a2, a3, z0, z1, z2, z3, f0, f1, f2, f3⟩ := HB.out.cells)
    exact bodyPost_ret (v := nil4 1) (by simp [results, Try.results13, go_sem, z0, z1, z2, z3]) rfl ⟨rfl, HB.out.done _ _ _ _⟩
set_option maxHeartbeats 1000000 in
theorem Acked_any (o d s c n k : Int) (w : World) : Calls Try.prog 15 #[.agg #[.int .i64 o, .int .i64 d, .int .i64 s, .int .i64 c], .int .i64 n, .int .i64 k] w
    fun e w' => e = .returned (.tuple #[vS (acS o d s c n k).1, .int .i64 (acS o d s c n k).2]) ∧ Same w w' := by
  have h1 := fun w => tCheck_any o d s c w
  have h2 := fun w => isSlot_any n w
  obtain ⟨a0, a1, a2, a3, z0, z1, z2, z3, f0, f1, f2, f3⟩ := (Bt.new w o d s c).cells
  have HN := Lib.hid (Bt.new w o d s c)
  rcases ac_cases o d s c n k with ⟨x1, x2, hs⟩ | ⟨x1, x2, hs⟩ | ⟨x1, hs⟩ <;> rw [hs] <;> clear hs
  · rw [show chkY o d s c = 0 from if_pos x1] at h1
    rw [x2] at h2
    have h3 := fun w => corrected_any o d s c n k (by have := (okY_of x1).2; omega) w
    generalize coS o d s c n k = q at *
    obtain ⟨⟨q1, q2, q3, q4⟩, q5⟩ := q
    have H1 := Lib.hid h1; clear h1 x1 x2
    have H2 := Lib.hid h2; clear h2
    have H3 := Lib.hid h3; clear h3
    go_enter Try.func15, Try.ntmps15
    go_wp2_with (first
      | (go_at_call 17; (with_reducible refine (H1.out _).mono ?_); rintro e w1 ⟨rfl, hw⟩; have HB := Lib.hid (HN.out.keep hw.toSame); clear hw a0 a1 a2 a3 z0 z1 z2 z3 f0 f1 f2 f3; obtain ⟨a0, a1, a2, a3, z0, z1, z2, z3, f0, f1, f2, f3⟩ := HB.out.cells)
      | (go_at_call 42; (with_reducible refine (H2.out _).mono ?_); rintro e w2 ⟨rfl, rfl⟩)
      | (go_at_call 48; (with_reducible refine (H3.out _).mono ?_); rintro e w3 ⟨rfl, hw⟩; have HD := Lib.hid (HB.out.keep hw); clear hw HB a0 a1 a2 a3 z0 z1 z2 z3 f0 f1 f2 f3; obtain ⟨a0, a1, a2, a3, z0, z1, z2, z3, f0, f1, f2, f3⟩ := HD.out.cells))
    exact bodyPost_ret (v := .tuple #[.agg #[.int .i64 q1, .int .i64 q2, .int .i64 q3, .int .i64 q4], .int .i64 q5]) (by simp [results, Try.results15, go_sem, z0, z1, z2, z3]) rfl ⟨rfl, HD.out.done _ _ _ _⟩
  · rw [show chkY o d s c = 0 from if_pos x1] at h1
    rw [x2] at h2
    have H1 := Lib.hid h1; clear h1 x1 x2
    have H2 := Lib.hid h2; clear h2
    go_enter Try.func15, Try.ntmps15
    go_wp2_with (first
      | (go_at_call 17; (with_reducible refine (H1.out _).mono ?_); rintro e w1 ⟨rfl, hw⟩; have HB := Lib.hid (HN.out.keep hw.toSame); clear hw a0 a1 a2 a3 z0 z1 z2 z3 f0 f1 f2 f3; obtain ⟨a0, a1, a2, a3, z0, z1, z2, z3, f0, f1, f2, f3⟩ := HB.out.cells)
      | (go_at_call 42; (with_reducible refine (H2.out _).mono ?_); rintro e w2 ⟨rfl, rfl⟩))
    exact bodyPost_ret (v := nil4 2) (by simp [results, Try.results15, go_sem, z0, z1, z2, z3]) rfl ⟨rfl, HB.out.done _ _ _ _⟩
  · rw [show chkY o d s c = 1 from if_neg (by rw [x1]; decide)] at h1
    have H1 := Lib.hid h1; clear h1 x1 h2
    go_enter Try.func15, Try.ntmps15
    go_wp2_with (go_at_call 17; (with_reducible refine (H1.out _).mono ?_); rintro e w1 ⟨rfl, hw⟩; have HB := Lib.hid (HN.out.keep hw.toSame); clear hw a0 a1 a2 a3 z0 z1 z2 z3 f0 f1 f2 f3; obtain ⟨a0, a1, a2, a3, z0, z1, z2, z3, f0, f1, f2, f3⟩ := HB.out.cells)
    exact bodyPost_ret (v := nil4 1) (by simp [results, Try.results15, go_sem, z0, z1, z2, z3]) rfl ⟨rfl, HB.out.done _ _ _ _⟩
set_option maxHeartbeats 1000000 in
theorem Hear2_any (o d s c n t : Int) (w : World) : Calls Try.prog 14 #[.agg #[.int .i64 o, .int .i64 d, .int .i64 s, .int .i64 c], .int .i64 n, .int .i64 t] w
    fun e w' => e = .returned (.tuple #[vS (heS o d s c n t).1, .int .i64 (heS o d s c n t).2]) ∧ Same w w' := by
  have h1 := fun w => tCheck2_any o d s c w
  have h2 := fun w => Measure2_any o d n t w
  obtain ⟨a0, a1, a2, a3, z0, z1, z2, z3, f0, f1, f2, f3⟩ := (Bt.new w o d s c).cells
  have HN := Lib.hid (Bt.new w o d s c)
  rcases he_cases o d s c n t with ⟨x1, x2, hs⟩ | ⟨x1, x2, hs⟩ | ⟨x1, hs⟩ <;> rw [hs] <;> clear hs
  · rw [show chkY o d s c = 0 from if_pos x1] at h1
    have hb := me_bd o d n t
    have h3 := fun w => correct2_any o d s c n (-(meS o d n t).1) (by have := (okY_of x1).2; omega) w
    generalize meS o d n t = m at *
    obtain ⟨m1, m2⟩ := m
    simp only at x2 hb h3 h2
    subst x2
    simp only
    generalize coS o d s c n (-m1) = q at *
    obtain ⟨⟨q1, q2, q3, q4⟩, q5⟩ := q
    obtain ⟨hb1, hb2⟩ := hb
    have H1 := Lib.hid h1; clear h1 x1
    have H2 := Lib.hid h2; clear h2
    have H3 := Lib.hid h3; clear h3
    go_enter Try.func14, Try.ntmps14
    go_wp2_with (first
      | (go_at_call 18; (with_reducible refine (H1.out _).mono ?_); rintro e w1 ⟨rfl, hw⟩; have HB := Lib.hid (HN.out.keep hw.toSame); clear hw a0 a1 a2 a3 z0 z1 z2 z3 f0 f1 f2 f3; obtain ⟨a0, a1, a2, a3, z0, z1, z2, z3, f0, f1, f2, f3⟩ := HB.out.cells)
      | (go_at_call 12; (with_reducible refine (H2.out _).mono ?_); rintro e w2 ⟨rfl, hw⟩; have HC := Lib.hid (HB.out.keep hw.toSame); clear hw HB a0 a1 a2 a3 z0 z1 z2 z3 f0 f1 f2 f3; obtain ⟨a0, a1, a2, a3, z0, z1, z2, z3, f0, f1, f2, f3⟩ := HC.out.cells)
      | (go_at_call 49; (with_reducible refine (H3.out _).mono ?_); rintro e w3 ⟨rfl, hw⟩; have HD := Lib.hid (HC.out.keep hw); clear hw HC a0 a1 a2 a3 z0 z1 z2 z3 f0 f1 f2 f3; obtain ⟨a0, a1, a2, a3, z0, z1, z2, z3, f0, f1, f2, f3⟩ := HD.out.cells))
    exact bodyPost_ret (v := .tuple #[.agg #[.int .i64 q1, .int .i64 q2, .int .i64 q3, .int .i64 q4], .int .i64 q5]) (by simp [results, Try.results14, go_sem, z0, z1, z2, z3]) rfl ⟨rfl, HD.out.done _ _ _ _⟩
  · rw [show chkY o d s c = 0 from if_pos x1] at h1
    generalize meS o d n t = m at *
    obtain ⟨m1, m2⟩ := m
    have H1 := Lib.hid h1; clear h1 x1
    have H2 := Lib.hid h2; clear h2
    go_enter Try.func14, Try.ntmps14
    go_wp2_with (first
      | (go_at_call 18; (with_reducible refine (H1.out _).mono ?_); rintro e w1 ⟨rfl, hw⟩; have HB := Lib.hid (HN.out.keep hw.toSame); clear hw a0 a1 a2 a3 z0 z1 z2 z3 f0 f1 f2 f3; obtain ⟨a0, a1, a2, a3, z0, z1, z2, z3, f0, f1, f2, f3⟩ := HB.out.cells)
      | (go_at_call 12; (with_reducible refine (H2.out _).mono ?_); rintro e w2 ⟨rfl, hw⟩; have HC := Lib.hid (HB.out.keep hw.toSame); clear hw HB a0 a1 a2 a3 z0 z1 z2 z3 f0 f1 f2 f3; obtain ⟨a0, a1, a2, a3, z0, z1, z2, z3, f0, f1, f2, f3⟩ := HC.out.cells))
    exact bodyPost_ret (v := nil4 m2) (by simp [results, Try.results14, go_sem, z0, z1, z2, z3]) rfl ⟨rfl, HC.out.done _ _ _ _⟩
  · rw [show chkY o d s c = 1 from if_neg (by rw [x1]; decide)] at h1
    have H1 := Lib.hid h1; clear h1 x1 h2
    go_enter Try.func14, Try.ntmps14
    go_wp2_with (go_at_call 18; (with_reducible refine (H1.out _).mono ?_); rintro e w1 ⟨rfl, hw⟩; have HB := Lib.hid (HN.out.keep hw.toSame); clear hw a0 a1 a2 a3 z0 z1 z2 z3 f0 f1 f2 f3; obtain ⟨a0, a1, a2, a3, z0, z1, z2, z3, f0, f1, f2, f3⟩ := HB.out.cells)
    exact bodyPost_ret (v := nil4 1) (by simp [results, Try.results14, go_sem, z0, z1, z2, z3]) rfl ⟨rfl, HB.out.done _ _ _ _⟩
set_option maxHeartbeats 1000000 in
theorem Acked2_any (o d s c n k : Int) (w : World) : Calls Try.prog 16 #[.agg #[.int .i64 o, .int .i64 d, .int .i64 s, .int .i64 c], .int .i64 n, .int .i64 k] w
    fun e w' => e = .returned (.tuple #[vS (acS o d s c n k).1, .int .i64 (acS o d s c n k).2]) ∧ Same w w' := by
  have h1 := fun w => tCheck2_any o d s c w
  have h2 := fun w => tslots2_any n w
  obtain ⟨a0, a1, a2, a3, z0, z1, z2, z3, f0, f1, f2, f3⟩ := (Bt.new w o d s c).cells
  have HN := Lib.hid (Bt.new w o d s c)
  rcases ac_cases o d s c n k with ⟨x1, x2, hs⟩ | ⟨x1, x2, hs⟩ | ⟨x1, hs⟩ <;> rw [hs] <;> clear hs
  · rw [show chkY o d s c = 0 from if_pos x1] at h1
    rw [x2] at h2
    have h3 := fun w => correct2_any o d s c n k (by have := (okY_of x1).2; omega) w
    generalize coS o d s c n k = q at *
    obtain ⟨⟨q1, q2, q3, q4⟩, q5⟩ := q
    have H1 := Lib.hid h1; clear h1 x1 x2
    have H2 := Lib.hid h2; clear h2
    have H3 := Lib.hid h3; clear h3
    go_enter Try.func16, Try.ntmps16
    go_wp2_with (first
      | (go_at_call 18; (with_reducible refine (H1.out _).mono ?_); rintro e w1 ⟨rfl, hw⟩; have HB := Lib.hid (HN.out.keep hw.toSame); clear hw a0 a1 a2 a3 z0 z1 z2 z3 f0 f1 f2 f3; obtain ⟨a0, a1, a2, a3, z0, z1, z2, z3, f0, f1, f2, f3⟩ := HB.out.cells)
      | (go_at_call 45; (with_reducible refine (H2.out _).mono ?_); rintro e w2 ⟨rfl, rfl⟩)
      | (go_at_call 49; (with_reducible refine (H3.out _).mono ?_); rintro e w3 ⟨rfl, hw⟩; have HD := Lib.hid (HB.out.keep hw); clear hw HB a0 a1 a2 a3 z0 z1 z2 z3 f0 f1 f2 f3; obtain ⟨a0, a1, a2, a3, z0, z1, z2, z3, f0, f1, f2, f3⟩ := HD.out.cells))
    exact bodyPost_ret (v := .tuple #[.agg #[.int .i64 q1, .int .i64 q2, .int .i64 q3, .int .i64 q4], .int .i64 q5]) (by simp [results, Try.results16, go_sem, z0, z1, z2, z3]) rfl ⟨rfl, HD.out.done _ _ _ _⟩
  · rw [show chkY o d s c = 0 from if_pos x1] at h1
    rw [x2] at h2
    have H1 := Lib.hid h1; clear h1 x1 x2
    have H2 := Lib.hid h2; clear h2
    go_enter Try.func16, Try.ntmps16
    go_wp2_with (first
      | (go_at_call 18; (with_reducible refine (H1.out _).mono ?_); rintro e w1 ⟨rfl, hw⟩; have HB := Lib.hid (HN.out.keep hw.toSame); clear hw a0 a1 a2 a3 z0 z1 z2 z3 f0 f1 f2 f3; obtain ⟨a0, a1, a2, a3, z0, z1, z2, z3, f0, f1, f2, f3⟩ := HB.out.cells)
      | (go_at_call 45; (with_reducible refine (H2.out _).mono ?_); rintro e w2 ⟨rfl, rfl⟩))
    exact bodyPost_ret (v := nil4 2) (by simp [results, Try.results16, go_sem, z0, z1, z2, z3]) rfl ⟨rfl, HB.out.done _ _ _ _⟩
  · rw [show chkY o d s c = 1 from if_neg (by rw [x1]; decide)] at h1
    have H1 := Lib.hid h1; clear h1 x1 h2
    go_enter Try.func16, Try.ntmps16
    go_wp2_with (go_at_call 18; (with_reducible refine (H1.out _).mono ?_); rintro e w1 ⟨rfl, hw⟩; have HB := Lib.hid (HN.out.keep hw.toSame); clear hw a0 a1 a2 a3 z0 z1 z2 z3 f0 f1 f2 f3; obtain ⟨a0, a1, a2, a3, z0, z1, z2, z3, f0, f1, f2, f3⟩ := HB.out.cells)
    exact bodyPost_ret (v := nil4 1) (by simp [results, Try.results16, go_sem, z0, z1, z2, z3]) rfl ⟨rfl, HB.out.done _ _ _ _⟩
end Go.Proofs.Ytffcoeadpicohaa
