/- Check and Measure of package timesync and of the reference. -/
import Derived.Test.YtffcoeadpicohaaT1
namespace Go.Proofs.Ytffcoeadpicohaa
open Go.RowKit Go.Lib Go.Sort

/-- A valid state. -/
def okY (o d s c : Int) : Bool := okC o d && (newB s c || (sltB s && inB c 1 4096))
def chkY (o d s c : Int) : Int := if okY o d s c = true then 0 else 1
/-- A state's box. -/
def By1 (w : World) (o d s c : Int) (w' : World) : Prop := w'.cell? ⟨w.heap.size, 0, none⟩ = some (.int .i64 o) ∧ w'.cell? ⟨w.heap.size, 1, none⟩ = some (.int .i64 d) ∧ w'.cell? ⟨w.heap.size, 2, none⟩ = some (.int .i64 s) ∧ w'.cell? ⟨w.heap.size, 3, none⟩ = some (.int .i64 c) ∧ Grew w w'
theorem By1.keep {w w1 w2 : World} {o d s c : Int} (h : By1 w o d s c w1) (k : Grew w1 w2) : By1 w o d s c w2 := ⟨k.cell h.1, k.cell h.2.1, k.cell h.2.2.1, k.cell h.2.2.2.1, h.2.2.2.2.trans k⟩
theorem By1.new (w : World) (o d s c : Int) (t : TypeId) : By1 w o d s c (w.alloc (.cells #[.int .i64 o, .int .i64 d, .int .i64 s, .int .i64 c] t)) := ⟨by go_simp, by go_simp, by go_simp, by go_simp, (Grew.refl w).alloc _⟩
theorem tCheck_any (o d s c : Int) (w : World) : Calls Try.prog 17 #[.agg #[.int .i64 o, .int .i64 d, .int .i64 s, .int .i64 c]] w fun e w' => e = .returned (.int .i64 (chkY o d s c)) ∧ Grew w w' := by
  have h1 := fun w => check_any o d w
  have h2 := fun w => isNew_any o d s c w
  have h3 := fun w => isSlot_any s w
  have h4 := fun w => twithin_any c 1 4096 w
  have hk : chkY o d s c = if (okC o d && (newB s c || (sltB s && inB c 1 4096))) = true then 0 else 1 := rfl
  rcases chk_cases o d with ⟨a, b⟩ | ⟨a, b⟩ <;> rw [show chk o d = _ from b] at h1 <;> rw [a] at hk <;> clear a b
  · cases e2 : newB s c <;> rw [e2] at h2 hk <;> clear e2
    · cases e3 : sltB s <;> rw [e3] at h3 hk <;> clear e3
      · simp only [Bool.true_and, Bool.false_or, Bool.false_and, Bool.false_eq_true, if_false] at hk
        rw [hk]; clear hk
        have H1 := Lib.hid h1; clear h1
        have H2 := Lib.hid h2; clear h2
        have H3 := Lib.hid h3; clear h3 h4
        go_enter Try.func17, Try.ntmps17
        go_wp2_with (first
          | (go_at_call 41; (with_reducible refine (H1.out _).mono ?_); rintro e w1 ⟨rfl, hw⟩; have HB := Lib.hid ((By1.new w o d s c 25).keep hw); clear hw; obtain ⟨k0, k1, k2, k3, k4⟩ := HB.out)
          | (go_at_call 50; (with_reducible refine (H2.out _).mono ?_); rintro e w2 ⟨rfl, hw⟩; have HC := Lib.hid (HB.out.keep hw); clear hw HB k0 k1 k2 k3 k4; obtain ⟨k0, k1, k2, k3, k4⟩ := HC.out)
          | (go_at_call 42; (with_reducible refine (H3.out _).mono ?_); rintro e w3 ⟨rfl, rfl⟩))
        go_ret
        exact ⟨rfl, HC.out.2.2.2.2⟩
      · simp only [Bool.true_and, Bool.false_or] at hk
        cases e4 : inB c 1 4096 <;> rw [e4] at h4 hk <;> clear e4 <;> simp only [Bool.false_eq_true, if_false, if_true] at hk <;> rw [hk] <;> clear hk
        all_goals
          have H1 := Lib.hid h1; clear h1
          have H2 := Lib.hid h2; clear h2
          have H3 := Lib.hid h3; clear h3
          have H4 := Lib.hid h4; clear h4
          go_enter Try.func17, Try.ntmps17
          go_wp2_with (first
            | (go_at_call 41; (with_reducible refine (H1.out _).mono ?_); rintro e w1 ⟨rfl, hw⟩; have HB := Lib.hid ((By1.new w o d s c 25).keep hw); clear hw; obtain ⟨k0, k1, k2, k3, k4⟩ := HB.out)
            | (go_at_call 50; (with_reducible refine (H2.out _).mono ?_); rintro e w2 ⟨rfl, hw⟩; have HC := Lib.hid (HB.out.keep hw); clear hw HB k0 k1 k2 k3 k4; obtain ⟨k0, k1, k2, k3, k4⟩ := HC.out)
            | (go_at_call 42; (with_reducible refine (H3.out _).mono ?_); rintro e w3 ⟨rfl, rfl⟩)
            | (go_at_call 51; (with_reducible refine (H4.out _).mono ?_); rintro e w3 ⟨rfl, rfl⟩))
          go_ret
          exact ⟨rfl, HC.out.2.2.2.2⟩
    · simp only [Bool.true_and, Bool.true_or, if_true] at hk
      rw [hk]; clear hk
      have H1 := Lib.hid h1; clear h1
      have H2 := Lib.hid h2; clear h2 h3 h4
      go_enter Try.func17, Try.ntmps17
      go_wp2_with (first
        | (go_at_call 41; (with_reducible refine (H1.out _).mono ?_); rintro e w1 ⟨rfl, hw⟩; have HB := Lib.hid ((By1.new w o d s c 25).keep hw); clear hw; obtain ⟨k0, k1, k2, k3, k4⟩ := HB.out)
        | (go_at_call 50; (with_reducible refine (H2.out _).mono ?_); rintro e w2 ⟨rfl, hw⟩; have HC := Lib.hid (HB.out.keep hw); clear hw HB k0 k1 k2 k3 k4))
      go_ret
      exact ⟨rfl, HC.out.2.2.2.2⟩
  · simp only [Bool.false_and, Bool.false_eq_true, if_false] at hk
    rw [hk]; clear hk
    have H1 := Lib.hid h1; clear h1 h2 h3 h4
    go_enter Try.func17, Try.ntmps17
    go_wp2_with (go_at_call 41; (with_reducible refine (H1.out _).mono ?_); rintro e w1 ⟨rfl, hw⟩; have HB := Lib.hid ((By1.new w o d s c 25).keep hw); clear hw)
    go_ret
    exact ⟨rfl, HB.out.2.2.2.2⟩
theorem chkY_yes {o d s c : Int} (h : okC o d = true) (k : (s = -1 ∧ c = 0) ∨ ((0 ≤ s ∧ s ≤ 109951162) ∧ 1 ≤ c ∧ c ≤ 4096)) : chkY o d s c = 0 := by
  unfold chkY okY newB sltB inB
  rw [h, if_pos]
  simp only [Bool.true_and, Bool.or_eq_true, Bool.and_eq_true, decide_eq_true_eq]
  omega
theorem chkY_no {o d s c : Int} (k : okC o d = false ∨ ¬ ((s = -1 ∧ c = 0) ∨ ((0 ≤ s ∧ s ≤ 109951162) ∧ 1 ≤ c ∧ c ≤ 4096))) : chkY o d s c = 1 := by
  unfold chkY okY newB sltB inB
  rw [if_neg]
  simp only [Bool.or_eq_true, Bool.and_eq_true, decide_eq_true_eq]
  rcases k with k | k
  · rw [k]; simp
  · omega
theorem tCheck2_any (o d s c : Int) (w : World) : Calls Try.prog 18 #[.agg #[.int .i64 o, .int .i64 d, .int .i64 s, .int .i64 c]] w fun e w' => e = .returned (.int .i64 (chkY o d s c)) ∧ Grew w w' := by
  have h1 := fun w => check2_any o d w
  have h3 := fun w => tslots2_any s w
  rcases chk_cases o d with ⟨a, b⟩ | ⟨a, b⟩ <;> rw [show chk o d = _ from b] at h1 <;> clear b
  · by_cases hs : s = -1
    · subst hs
      clear h3
      by_cases c1 : c < 0
      · rw [chkY_no (.inr (by omega))]
        have H1 := Lib.hid h1; clear h1 a
        go_enter Try.func18, Try.ntmps18
        go_wp2_with (go_at_call 44; (with_reducible refine (H1.out _).mono ?_); rintro e w1 ⟨rfl, hw⟩; have HB := Lib.hid ((By1.new w o d (-1) c 25).keep hw); clear hw; obtain ⟨k0, k1, k2, k3, k4⟩ := HB.out)
        go_ret
        exact ⟨rfl, HB.out.2.2.2.2⟩
      · have c1' : 0 ≤ c := by omega
        clear c1
        by_cases c2 : 4096 < c
        · rw [chkY_no (.inr (by omega))]
          have H1 := Lib.hid h1; clear h1 a
          go_enter Try.func18, Try.ntmps18
          go_wp2_with (go_at_call 44; (with_reducible refine (H1.out _).mono ?_); rintro e w1 ⟨rfl, hw⟩; have HB := Lib.hid ((By1.new w o d (-1) c 25).keep hw); clear hw; obtain ⟨k0, k1, k2, k3, k4⟩ := HB.out)
          go_ret
          exact ⟨rfl, HB.out.2.2.2.2⟩
        · have c2' : c ≤ 4096 := by omega
          clear c2
          by_cases c3 : c = 0
          · subst c3
            rw [chkY_yes a (.inl ⟨rfl, rfl⟩)]
            have H1 := Lib.hid h1; clear h1 a
            go_enter Try.func18, Try.ntmps18
            go_wp2_with (go_at_call 44; (with_reducible refine (H1.out _).mono ?_); rintro e w1 ⟨rfl, hw⟩; have HB := Lib.hid ((By1.new w o d (-1) 0 25).keep hw); clear hw; obtain ⟨k0, k1, k2, k3, k4⟩ := HB.out)
            go_ret
            exact ⟨rfl, HB.out.2.2.2.2⟩
          · rw [chkY_no (.inr (by omega))]
            have c3' : (c == 0) = false := by simpa using c3
            have H1 := Lib.hid h1; clear h1 a c3
            go_enter Try.func18, Try.ntmps18
            go_wp2_with (go_at_call 44; (with_reducible refine (H1.out _).mono ?_); rintro e w1 ⟨rfl, hw⟩; have HB := Lib.hid ((By1.new w o d (-1) c 25).keep hw); clear hw; obtain ⟨k0, k1, k2, k3, k4⟩ := HB.out)
            go_ret
            exact ⟨rfl, HB.out.2.2.2.2⟩
    · have s1 : (s == -1) = false := by simpa using hs
      have s2 : (s != -1) = true := by simpa using hs
      cases hb : sltB s with
      | false =>
        rw [chkY_no (.inr (by have := inB_no hb; omega))]
        rw [hb] at h3
        have H1 := Lib.hid h1; clear h1 a hs hb
        have H3 := Lib.hid h3; clear h3
        go_enter Try.func18, Try.ntmps18
        go_wp2_with (first
          | (go_at_call 44; (with_reducible refine (H1.out _).mono ?_); rintro e w1 ⟨rfl, hw⟩; have HB := Lib.hid ((By1.new w o d s c 25).keep hw); clear hw; obtain ⟨k0, k1, k2, k3, k4⟩ := HB.out)
          | (go_at_call 45; (with_reducible refine (H3.out _).mono ?_); rintro e w3 ⟨rfl, rfl⟩))
        go_ret
        exact ⟨rfl, HB.out.2.2.2.2⟩
      | true =>
        obtain ⟨b1, b2⟩ := inB_yes hb
        rw [hb] at h3
        by_cases c1 : c < 0
        · rw [chkY_no (.inr (by omega))]
          have H1 := Lib.hid h1; clear h1 a hs hb
          have H3 := Lib.hid h3; clear h3
          go_enter Try.func18, Try.ntmps18
          go_wp2_with (first
            | (go_at_call 44; (with_reducible refine (H1.out _).mono ?_); rintro e w1 ⟨rfl, hw⟩; have HB := Lib.hid ((By1.new w o d s c 25).keep hw); clear hw; obtain ⟨k0, k1, k2, k3, k4⟩ := HB.out)
            | (go_at_call 45; (with_reducible refine (H3.out _).mono ?_); rintro e w3 ⟨rfl, rfl⟩))
          go_ret
          exact ⟨rfl, HB.out.2.2.2.2⟩
        · have c1' : 0 ≤ c := by omega
          clear c1
          by_cases c2 : 4096 < c
          · rw [chkY_no (.inr (by omega))]
            have H1 := Lib.hid h1; clear h1 a hs hb
            have H3 := Lib.hid h3; clear h3
            go_enter Try.func18, Try.ntmps18
            go_wp2_with (first
              | (go_at_call 44; (with_reducible refine (H1.out _).mono ?_); rintro e w1 ⟨rfl, hw⟩; have HB := Lib.hid ((By1.new w o d s c 25).keep hw); clear hw; obtain ⟨k0, k1, k2, k3, k4⟩ := HB.out)
              | (go_at_call 45; (with_reducible refine (H3.out _).mono ?_); rintro e w3 ⟨rfl, rfl⟩))
            go_ret
            exact ⟨rfl, HB.out.2.2.2.2⟩
          · have c2' : c ≤ 4096 := by omega
            clear c2
            by_cases c3 : c = 0
            · subst c3
              rw [chkY_no (.inr (by omega))]
              have H1 := Lib.hid h1; clear h1 a hs hb
              have H3 := Lib.hid h3; clear h3
              go_enter Try.func18, Try.ntmps18
              go_wp2_with (first
                | (go_at_call 44; (with_reducible refine (H1.out _).mono ?_); rintro e w1 ⟨rfl, hw⟩; have HB := Lib.hid ((By1.new w o d s 0 25).keep hw); clear hw; obtain ⟨k0, k1, k2, k3, k4⟩ := HB.out)
                | (go_at_call 45; (with_reducible refine (H3.out _).mono ?_); rintro e w3 ⟨rfl, rfl⟩))
              go_ret
              exact ⟨rfl, HB.out.2.2.2.2⟩
            · rw [chkY_yes a (.inr ⟨⟨b1, b2⟩, by omega, c2'⟩)]
              have c3' : (c == 0) = false := by simpa using c3
              have H1 := Lib.hid h1; clear h1 a hs hb c3
              have H3 := Lib.hid h3; clear h3
              go_enter Try.func18, Try.ntmps18
              go_wp2_with (first
                | (go_at_call 44; (with_reducible refine (H1.out _).mono ?_); rintro e w1 ⟨rfl, hw⟩; have HB := Lib.hid ((By1.new w o d s c 25).keep hw); clear hw; obtain ⟨k0, k1, k2, k3, k4⟩ := HB.out)
                | (go_at_call 45; (with_reducible refine (H3.out _).mono ?_); rintro e w3 ⟨rfl, rfl⟩))
              go_ret
              exact ⟨rfl, HB.out.2.2.2.2⟩
  · rw [chkY_no (.inl a)]
    have H1 := Lib.hid h1; clear h1 a h3
    go_enter Try.func18, Try.ntmps18
    go_wp2_with (go_at_call 44; (with_reducible refine (H1.out _).mono ?_); rintro e w1 ⟨rfl, hw⟩; have HB := Lib.hid ((By1.new w o d s c 25).keep hw); clear hw; obtain ⟨k0, k1, k2, k3, k4⟩ := HB.out)
    go_ret
    exact ⟨rfl, HB.out.2.2.2.2⟩
/-- Measure. -/
def meS (o d n t : Int) : Int × Int := if okC o d = true then (if sltB n = true then (if timeB t = true then (shS o d t - (n * 10000 + 2120), 0) else (0, 2)) else (0, 2)) else (0, 1)
theorem me_cases (o d n t : Int) : (okC o d = true ∧ sltB n = true ∧ timeB t = true ∧ meS o d n t = (shS o d t - (n * 10000 + 2120), 0)) ∨ (okC o d = true ∧ sltB n = true ∧ timeB t = false ∧ meS o d n t = (0, 2)) ∨ (okC o d = true ∧ sltB n = false ∧ meS o d n t = (0, 2)) ∨ (okC o d = false ∧ meS o d n t = (0, 1)) := by
  unfold meS
  cases okC o d <;> cases sltB n <;> cases timeB t <;> simp
theorem Measure_any (o d n t : Int) (w : World) : Calls Try.prog 11 #[.agg #[.int .i64 o, .int .i64 d], .int .i64 n, .int .i64 t] w fun e w' => e = .returned (.tuple #[.int .i64 (meS o d n t).1, .int .i64 (meS o d n t).2]) ∧ Grew w w' := by
  have h1 := fun w => check_any o d w
  have h2 := fun w => isSlot_any n w
  have h3 := fun w => Show_any o d t w
  rcases me_cases o d n t with ⟨a, b, c, hs⟩ | ⟨a, b, c, hs⟩ | ⟨a, b, hs⟩ | ⟨a, hs⟩ <;> rw [hs] <;> clear hs
  · obtain ⟨n1, n2⟩ := inB_yes b
    have q := shS_bd (t := t) a (inB_yes c).1 (inB_yes c).2
    rw [show chk o d = 0 from if_pos a] at h1
    rw [b] at h2
    rw [show showS o d t = (shS o d t, 0) by unfold showS; rw [if_pos a, if_pos c]] at h3
    generalize shS o d t = v at *
    have H1 := Lib.hid h1; clear h1
    have H2 := Lib.hid h2; clear h2
    have H3 := Lib.hid h3; clear h3 a b c
    obtain ⟨q1, q2⟩ := q
    go_enter Try.func11, Try.ntmps11
    go_wp2_with (first
      | (go_at_call 41; (with_reducible refine (H1.out _).mono ?_); rintro e w1 ⟨rfl, hw⟩; have HB := Lib.hid ((Bx.new w o d 23).keep hw); clear hw; obtain ⟨k0, k1, _⟩ := HB.out)
      | (go_at_call 42; (with_reducible refine (H2.out _).mono ?_); rintro e w2 ⟨rfl, rfl⟩)
      | (go_at_call 43; (with_reducible refine (H3.out _).mono ?_); rintro e w3 ⟨rfl, hw⟩; have HC := Lib.hid (HB.out.keep hw); clear hw HB k0 k1))
    go_ret2
    exact ⟨rfl, HC.out.2.2⟩
  · rw [show chk o d = 0 from if_pos a] at h1
    rw [b] at h2
    rw [show showS o d t = (0, 2) by unfold showS; rw [if_pos a, if_neg (by rw [c]; decide)]] at h3
    have H1 := Lib.hid h1; clear h1
    have H2 := Lib.hid h2; clear h2
    have H3 := Lib.hid h3; clear h3 a b c
    go_enter Try.func11, Try.ntmps11
    go_wp2_with (first
      | (go_at_call 41; (with_reducible refine (H1.out _).mono ?_); rintro e w1 ⟨rfl, hw⟩; have HB := Lib.hid ((Bx.new w o d 23).keep hw); clear hw; obtain ⟨k0, k1, _⟩ := HB.out)
      | (go_at_call 42; (with_reducible refine (H2.out _).mono ?_); rintro e w2 ⟨rfl, rfl⟩)
      | (go_at_call 43; (with_reducible refine (H3.out _).mono ?_); rintro e w3 ⟨rfl, hw⟩; have HC := Lib.hid (HB.out.keep hw); clear hw HB k0 k1))
    go_ret2
    exact ⟨rfl, HC.out.2.2⟩
  · rw [show chk o d = 0 from if_pos a] at h1
    rw [b] at h2
    have H1 := Lib.hid h1; clear h1
    have H2 := Lib.hid h2; clear h2 h3 a b
    go_enter Try.func11, Try.ntmps11
    go_wp2_with (first
      | (go_at_call 41; (with_reducible refine (H1.out _).mono ?_); rintro e w1 ⟨rfl, hw⟩; have HB := Lib.hid ((Bx.new w o d 23).keep hw); clear hw; obtain ⟨k0, k1, _⟩ := HB.out)
      | (go_at_call 42; (with_reducible refine (H2.out _).mono ?_); rintro e w2 ⟨rfl, rfl⟩))
    go_ret2
    exact ⟨rfl, HB.out.2.2⟩
  · rw [show chk o d = 1 from if_neg (by rw [a]; decide)] at h1
    have H1 := Lib.hid h1; clear h1 h2 h3 a
    go_enter Try.func11, Try.ntmps11
    go_wp2_with (go_at_call 41; (with_reducible refine (H1.out _).mono ?_); rintro e w1 ⟨rfl, hw⟩; have HB := Lib.hid ((Bx.new w o d 23).keep hw); clear hw; obtain ⟨k0, k1, _⟩ := HB.out)
    go_ret2
    exact ⟨rfl, HB.out.2.2⟩
theorem Measure2_any (o d n t : Int) (w : World) : Calls Try.prog 12 #[.agg #[.int .i64 o, .int .i64 d], .int .i64 n, .int .i64 t] w fun e w' => e = .returned (.tuple #[.int .i64 (meS o d n t).1, .int .i64 (meS o d n t).2]) ∧ Grew w w' := by
  have h1 := fun w => check2_any o d w
  have h2 := fun w => tslots2_any n w
  have h3 := fun w => time2_any t w
  rcases me_cases o d n t with ⟨a, b, c, hs⟩ | ⟨a, b, c, hs⟩ | ⟨a, b, hs⟩ | ⟨a, hs⟩ <;> rw [hs] <;> clear hs
  · obtain ⟨n1, n2⟩ := inB_yes b
    have q := shS_bd (t := t) a (inB_yes c).1 (inB_yes c).2
    have h4 := fun w => at2_any o d t a (inB_yes c).1 (inB_yes c).2 w
    rw [show chk o d = 0 from if_pos a] at h1
    rw [b] at h2
    rw [c] at h3
    generalize shS o d t = v at *
    have H1 := Lib.hid h1; clear h1
    have H2 := Lib.hid h2; clear h2
    have H3 := Lib.hid h3; clear h3 a b c
    have H4 := Lib.hid h4; clear h4
    obtain ⟨q1, q2⟩ := q
    go_enter Try.func12, Try.ntmps12
    go_wp2_with (first
      | (go_at_call 44; (with_reducible refine (H1.out _).mono ?_); rintro e w1 ⟨rfl, hw⟩; have HB := Lib.hid ((Bx.new w o d 23).keep hw); clear hw; obtain ⟨k0, k1, _⟩ := HB.out)
      | (go_at_call 45; (with_reducible refine (H2.out _).mono ?_); rintro e w2 ⟨rfl, rfl⟩)
      | (go_at_call 46; (with_reducible refine (H3.out _).mono ?_); rintro e w2 ⟨rfl, rfl⟩)
      | (go_at_call 47; (with_reducible refine (H4.out _).mono ?_); rintro e w3 ⟨rfl, hw⟩; have HC := Lib.hid (HB.out.keep hw); clear hw HB k0 k1))
    go_ret2
    exact ⟨ret2_i64 (by omega) rfl, HC.out.2.2⟩
  · rw [show chk o d = 0 from if_pos a] at h1
    rw [b] at h2
    rw [c] at h3
    have H1 := Lib.hid h1; clear h1
    have H2 := Lib.hid h2; clear h2
    have H3 := Lib.hid h3; clear h3 a b c
    go_enter Try.func12, Try.ntmps12
    go_wp2_with (first
      | (go_at_call 44; (with_reducible refine (H1.out _).mono ?_); rintro e w1 ⟨rfl, hw⟩; have HB := Lib.hid ((Bx.new w o d 23).keep hw); clear hw; obtain ⟨k0, k1, _⟩ := HB.out)
      | (go_at_call 45; (with_reducible refine (H2.out _).mono ?_); rintro e w2 ⟨rfl, rfl⟩)
      | (go_at_call 46; (with_reducible refine (H3.out _).mono ?_); rintro e w2 ⟨rfl, rfl⟩))
    go_ret2
    exact ⟨rfl, HB.out.2.2⟩
  · rw [show chk o d = 0 from if_pos a] at h1
    rw [b] at h2
    have H1 := Lib.hid h1; clear h1
    have H2 := Lib.hid h2; clear h2 h3 a b
    go_enter Try.func12, Try.ntmps12
    go_wp2_with (first
      | (go_at_call 44; (with_reducible refine (H1.out _).mono ?_); rintro e w1 ⟨rfl, hw⟩; have HB := Lib.hid ((Bx.new w o d 23).keep hw); clear hw; obtain ⟨k0, k1, _⟩ := HB.out)
      | (go_at_call 45; (with_reducible refine (H2.out _).mono ?_); rintro e w2 ⟨rfl, rfl⟩))
    go_ret2
    exact ⟨rfl, HB.out.2.2⟩
  · rw [show chk o d = 1 from if_neg (by rw [a]; decide)] at h1
    have H1 := Lib.hid h1; clear h1 h2 h3 a
    go_enter Try.func12, Try.ntmps12
    go_wp2_with (go_at_call 44; (with_reducible refine (H1.out _).mono ?_); rintro e w1 ⟨rfl, hw⟩; have HB := Lib.hid ((Bx.new w o d 23).keep hw); clear hw; obtain ⟨k0, k1, _⟩ := HB.out)
    go_ret2
    exact ⟨rfl, HB.out.2.2⟩
end Go.Proofs.Ytffcoeadpicohaa
