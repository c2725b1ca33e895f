/- Synchronized of package timesync and of the reference; the example of the chapter. -/
import Derived.Test.YtffcoeadpicohaaT4
namespace Go.Proofs.Ytffcoeadpicohaa
open Go.RowKit Go.Lib Go.Sort

/-- Synchronized. -/
def syS (o d s c n k : Int) : Bool := okY o d s c && decide (0 ≤ s) && decide (s ≤ n) && decide (n - s ≤ k)
theorem sy_cases (o d s c n k : Int) : (okY o d s c = false ∧ syS o d s c n k = false) ∨ (okY o d s c = true ∧ s = -1 ∧ c = 0 ∧ syS o d s c n k = false) ∨ (okY o d s c = true ∧ newB s c = false ∧ (0 ≤ s ∧ s ≤ 109951162) ∧ n < s ∧ syS o d s c n k = false) ∨ (okY o d s c = true ∧ newB s c = false ∧ (0 ≤ s ∧ s ≤ 109951162) ∧ s ≤ n ∧ syS o d s c n k = decide (n - s ≤ k)) := by
  unfold syS
  cases h : okY o d s c with
  | false => exact .inl ⟨rfl, rfl⟩
  | true =>
    rcases (okY_of h).2 with ⟨rfl, rfl⟩ | ⟨h1, h2, h3⟩
    · exact .inr (.inl ⟨rfl, rfl, rfl, rfl⟩)
    · have h4 : newB s c = false := by
        have : ¬ s = -1 := by omega
        simp [newB, this]
      by_cases k1 : n < s
      · refine .inr (.inr (.inl ⟨rfl, h4, h1, k1, ?_⟩))
        have : ¬ s ≤ n := by omega
        simp [this]
      · refine .inr (.inr (.inr ⟨rfl, h4, h1, by omega, ?_⟩))
        have a : s ≤ n := by omega
        simp [a, h1.1]
theorem Synchronized_any (o d s c n k : Int) (hn : n ≤ 9223372036854775807) (w : World) : Calls Try.prog 19 #[.agg #[.int .i64 o, .int .i64 d, .int .i64 s, .int .i64 c], .int .i64 n, .int .i64 k] w fun e w' => e = .returned (.bool (syS o d s c n k)) ∧ Grew w w' := by
  have h1 := fun w => tCheck_any o d s c w
  have h2 := fun w => isNew_any o d s c w
  rcases sy_cases o d s c n k with ⟨x1, hs⟩ | ⟨x1, rfl, rfl, hs⟩ | ⟨x1, x2, ⟨x3, x4⟩, x5, hs⟩ | ⟨x1, x2, ⟨x3, x4⟩, x5, hs⟩ <;> rw [hs] <;> clear hs
  · rw [show chkY o d s c = 1 from if_neg (by rw [x1]; decide)] at h1
    have H1 := Lib.hid h1; clear h1 x1 h2
    go_enter Try.func19, Try.ntmps19
    go_wp2_with (go_at_call 17; (with_reducible refine (H1.out _).mono ?_); rintro e w1 ⟨rfl, hw⟩; have HB := Lib.hid ((By1.new w o d s c 25).keep hw); clear hw; obtain ⟨k0, k1, k2, k3, k4⟩ := HB.out)
    go_ret
    exact ⟨rfl, HB.out.2.2.2.2⟩
  · rw [show chkY o d (-1) 0 = 0 from if_pos x1] at h1
    rw [show newB (-1) 0 = true by decide] at h2
    have H1 := Lib.hid h1; clear h1 x1
    have H2 := Lib.hid h2; clear h2
    go_enter Try.func19, Try.ntmps19
    go_wp2_with (first
      | (go_at_call 17; (with_reducible refine (H1.out _).mono ?_); rintro e w1 ⟨rfl, hw⟩; have HB := Lib.hid ((By1.new w o d (-1) 0 25).keep hw); clear hw; obtain ⟨k0, k1, k2, k3, k4⟩ := HB.out)
      | (go_at_call 50; (with_reducible refine (H2.out _).mono ?_); rintro e w2 ⟨rfl, hw⟩; have HC := Lib.hid (HB.out.keep hw); clear hw HB k0 k1 k2 k3 k4; obtain ⟨k0, k1, k2, k3, k4⟩ := HC.out))
    go_ret
    exact ⟨rfl, HC.out.2.2.2.2⟩
  all_goals
    rw [show chkY o d s c = 0 from if_pos x1] at h1
    rw [x2] at h2
    have H1 := Lib.hid h1; clear h1 x1 x2
    have H2 := Lib.hid h2; clear h2
    go_enter Try.func19, Try.ntmps19
    go_wp2_with (first
      | (go_at_call 17; (with_reducible refine (H1.out _).mono ?_); rintro e w1 ⟨rfl, hw⟩; have HB := Lib.hid ((By1.new w o d s c 25).keep hw); clear hw; obtain ⟨k0, k1, k2, k3, k4⟩ := HB.out)
      | (go_at_call 50; (with_reducible refine (H2.out _).mono ?_); rintro e w2 ⟨rfl, hw⟩; have HC := Lib.hid (HB.out.keep hw); clear hw HB k0 k1 k2 k3 k4; obtain ⟨k0, k1, k2, k3, k4⟩ := HC.out))
    go_ret
    exact ⟨rfl, HC.out.2.2.2.2⟩
theorem Synchronized2_any (o d s c n k : Int) (hn : n ≤ 9223372036854775807) (w : World) : Calls Try.prog 20 #[.agg #[.int .i64 o, .int .i64 d, .int .i64 s, .int .i64 c], .int .i64 n, .int .i64 k] w fun e w' => e = .returned (.bool (syS o d s c n k)) ∧ Grew w w' := by
  have h1 := fun w => tCheck2_any o d s c w
  rcases sy_cases o d s c n k with ⟨x1, hs⟩ | ⟨x1, rfl, rfl, hs⟩ | ⟨x1, x2, ⟨x3, x4⟩, x5, hs⟩ | ⟨x1, x2, ⟨x3, x4⟩, x5, hs⟩ <;> rw [hs] <;> clear hs
  · rw [show chkY o d s c = 1 from if_neg (by rw [x1]; decide)] at h1
    have H1 := Lib.hid h1; clear h1 x1
    go_enter Try.func20, Try.ntmps20
    go_wp2_with (go_at_call 18; (with_reducible refine (H1.out _).mono ?_); rintro e w1 ⟨rfl, hw⟩; have HB := Lib.hid ((By1.new w o d s c 25).keep hw); clear hw; obtain ⟨k0, k1, k2, k3, k4⟩ := HB.out)
    go_ret
    exact ⟨rfl, HB.out.2.2.2.2⟩
  · rw [show chkY o d (-1) 0 = 0 from if_pos x1] at h1
    have H1 := Lib.hid h1; clear h1 x1
    go_enter Try.func20, Try.ntmps20
    go_wp2_with (go_at_call 18; (with_reducible refine (H1.out _).mono ?_); rintro e w1 ⟨rfl, hw⟩; have HB := Lib.hid ((By1.new w o d (-1) 0 25).keep hw); clear hw; obtain ⟨k0, k1, k2, k3, k4⟩ := HB.out)
    go_ret
    exact ⟨rfl, HB.out.2.2.2.2⟩
  all_goals
    rw [show chkY o d s c = 0 from if_pos x1] at h1
    have H1 := Lib.hid h1; clear h1 x1 x2
    go_enter Try.func20, Try.ntmps20
    go_wp2_with (go_at_call 18; (with_reducible refine (H1.out _).mono ?_); rintro e w1 ⟨rfl, hw⟩; have HB := Lib.hid ((By1.new w o d s c 25).keep hw); clear hw; obtain ⟨k0, k1, k2, k3, k4⟩ := HB.out)
    go_ret
    exact ⟨rfl, HB.out.2.2.2.2⟩
theorem cells4 {w w1 : World} {a b c d : Int} {t : TypeId} (h : Same (w.alloc (.cells #[.int .i64 a, .int .i64 b, .int .i64 c, .int .i64 d] t)) w1) :
    w1.cell? ⟨w.heap.size, 0, none⟩ = some (.int .i64 a) ∧ w1.cell? ⟨w.heap.size, 1, none⟩ = some (.int .i64 b) ∧ w1.cell? ⟨w.heap.size, 2, none⟩ = some (.int .i64 c) ∧ w1.cell? ⟨w.heap.size, 3, none⟩ = some (.int .i64 d) :=
  ⟨h.cell (by go_simp), h.cell (by go_simp), h.cell (by go_simp), h.cell (by go_simp)⟩
abbrev sy4 (a b c d : Int) : Obj := .cells #[.int .i64 a, .int .i64 b, .int .i64 c, .int .i64 d] 25
set_option maxHeartbeats 1000000 in
theorem tawake_any (w : World) : Calls Try.prog 10 #[] w fun e w' => e = .returned (.bool true) ∧ Same w w' := by
  have h1 := fun w => Hear_any 40 0 (-1) 0 1 12120 w
  rw [show heS 40 0 (-1) 0 1 12120 = ((0, 0, 1, 1), 0) by decide +kernel] at h1
  have h2 := fun w => Measure_any 0 0 1 12080 w
  rw [show meS 0 0 1 12080 = (-40, 0) by decide +kernel] at h2
  have h3 := fun w => Acked_any 40 0 (-1) 0 1 (-40) w
  rw [show acS 40 0 (-1) 0 1 (-40) = ((0, 0, 1, 1), 0) by decide +kernel] at h3
  have h4 := fun w => Synchronized_any 0 0 1 1 5 4 (by decide) w
  rw [show syS 0 0 1 1 5 4 = true by decide +kernel] at h4
  have h5 := fun w => Synchronized_any 0 0 1 1 6 4 (by decide) w
  rw [show syS 0 0 1 1 6 4 = false by decide +kernel] at h5
  have H1 := Lib.hid h1; clear h1
  have H2 := Lib.hid h2; clear h2
  have H3 := Lib.hid h3; clear h3
  have H4 := Lib.hid h4; clear h4
  have H5 := Lib.hid h5; clear h5
  have HA := Lib.hid ((Same.refl w).alloc (sy4 40 0 (-1) 0))
  have c := cells4 (Same.refl (w.alloc (sy4 40 0 (-1) 0)))
  obtain ⟨c0, c1, c2, c3⟩ := c
  go_enter Try.func10, Try.ntmps10
  go_wp2_with (first
    | (go_at_call 13; (with_reducible refine (H1.out _).mono ?_); rintro e w1 ⟨rfl, hw⟩; have HB := Lib.hid (hw.alloc (sy4 0 0 1 1)); have HB' := Lib.hid (Same.refl (w1.alloc (sy4 0 0 1 1))); clear hw c0 c1 c2 c3; obtain ⟨c0, c1, c2, c3⟩ := cells4 HB.out; obtain ⟨a0, a1, a2, a3⟩ := cells4 HB'.out)
    | (go_at_call 11; (with_reducible refine (H2.out _).mono ?_); rintro e w2 ⟨rfl, hw⟩; have HC := Lib.hid (HB.out.trans hw.toSame); have HC' := Lib.hid (HB'.out.trans hw.toSame); clear hw c0 c1 c2 c3 a0 a1 a2 a3 HB HB'; obtain ⟨c0, c1, c2, c3⟩ := cells4 HC.out; obtain ⟨a0, a1, a2, a3⟩ := cells4 HC'.out)
    | (go_at_call 15; (with_reducible refine (H3.out _).mono ?_); rintro e w3 ⟨rfl, hw⟩; have HD := Lib.hid (HC.out.trans (hw.alloc (sy4 0 0 1 1))); have HD' := Lib.hid (HC'.out.trans (hw.alloc (sy4 0 0 1 1))); have HD'' := Lib.hid (Same.refl (w3.alloc (sy4 0 0 1 1))); clear hw c0 c1 c2 c3 a0 a1 a2 a3 HC HC'; obtain ⟨a0, a1, a2, a3⟩ := cells4 HD'.out; obtain ⟨b0, b1, b2, b3⟩ := cells4 HD''.out)
    | (go_at_call 19; (with_reducible refine (H4.out _).mono ?_); rintro e w4 ⟨rfl, hw⟩; have HE := Lib.hid (HD.out.trans hw.toSame); have HE' := Lib.hid (HD'.out.trans hw.toSame); clear hw a0 a1 a2 a3 b0 b1 b2 b3 HD HD'; obtain ⟨a0, a1, a2, a3⟩ := cells4 HE'.out)
    | (go_at_call 19; (with_reducible refine (H5.out _).mono ?_); rintro e w5 ⟨rfl, hw⟩; have HF := Lib.hid (HE.out.trans hw.toSame); clear hw a0 a1 a2 a3 HE HE'))
  go_ret
  exact ⟨rfl, HA.out.trans HF.out⟩
end Go.Proofs.Ytffcoeadpicohaa
