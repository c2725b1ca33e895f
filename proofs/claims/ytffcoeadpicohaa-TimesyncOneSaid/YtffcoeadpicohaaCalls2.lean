
/- What a clock shows, by the package and by the reference. -/
import Derived.Test.YtffcoeadpicohaaCalls1
import Derived.IntWalk
namespace Go.Proofs.Ytffcoeadpicohaa
open Go.RowKit Go.Lib Go.Sort

theorem floor2_any (n : Int) (h1 : -109951162777600000 ≤ n) (h2 : n ≤ 109951162777600000) (w : World) : Calls Try.prog 62 #[.int .i64 n, .int .i64 1000000000] w fun e w' => e = .returned (.int .i64 (n / 1000000000)) ∧ w' = w := by
  obtain ⟨f1, f2, f3, f4, f5⟩ := tdiv_facts n
  obtain ⟨q, hq⟩ : ∃ q, n.tdiv 1000000000 = q := ⟨_, rfl⟩
  obtain ⟨r, hr⟩ : ∃ r, n.tmod 1000000000 = r := ⟨_, rfl⟩
  rw [hq, hr] at f1
  rw [hr] at f2 f3 f4 f5
  by_cases hneg : r < 0
  · have hfl : n / 1000000000 = q - 1 := by omega
    have b1 : -109951163 ≤ q := by omega
    have b2 : q ≤ 109951163 := by omega
    have hn : n < 0 := by
      by_cases a : 0 ≤ n
      · have := f4 a; omega
      · omega
    rw [hfl]
    clear f1 f4 f5 hfl f2 f3
    go_enter Try.func62, Try.ntmps62
    go_wp2
    go_ret
    exact ⟨rfl, rfl⟩
  · have hfl : n / 1000000000 = q := by omega
    have b1 : -109951163 ≤ q := by omega
    have b2 : q ≤ 109951163 := by omega
    have hneg' : 0 ≤ r := by omega
    rw [hfl]
    clear f1 f4 f5 hfl f2 f3 hneg
    go_enter Try.func62, Try.ntmps62
    go_wp2
    go_ret
    exact ⟨rfl, rfl⟩
/-- What a clock shows. -/
def shS (o d t : Int) : Int := o + t + t * d / 1000000000
theorem prod_bd {t d : Int} (h1 : 0 ≤ t) (h2 : t ≤ 1099511627776) (h3 : -100000 ≤ d) (h4 : d ≤ 100000) : -109951162777600000 ≤ t * d ∧ t * d ≤ 109951162777600000 := by
  have a : t * d ≤ t * 100000 := Int.mul_le_mul_of_nonneg_left h4 h1
  have b : t * -100000 ≤ t * d := Int.mul_le_mul_of_nonneg_left h3 h1
  omega
theorem shS_bd {o d t : Int} (h : okC o d = true) (h1 : 0 ≤ t) (h2 : t ≤ 1099511627776) : -2300000000000 ≤ shS o d t ∧ shS o d t ≤ 2300000000000 := by
  obtain ⟨⟨a1, a2⟩, a3, a4⟩ := okC_of h
  have := prod_bd h1 h2 a3 a4
  unfold shS
  omega
theorem show_any (o d t : Int) (h : okC o d = true) (h1 : 0 ≤ t) (h2 : t ≤ 1099511627776) (w : World) : Calls Try.prog 57 #[.agg #[.int .i64 o, .int .i64 d], .int .i64 t] w fun e w' => e = .returned (.int .i64 (shS o d t)) ∧ Grew w w' := by
  obtain ⟨⟨a1, a2⟩, a3, a4⟩ := okC_of h
  obtain ⟨p1, p2⟩ := prod_bd h1 h2 a3 a4
  have H1 := Lib.hid (fun w => floorDiv_any (t * d) p1 p2 w)
  have q1 : -109951163 ≤ t * d / 1000000000 := by omega
  have q2 : t * d / 1000000000 ≤ 109951163 := by omega
  have hs : shS o d t = o + t + t * d / 1000000000 := rfl
  have HS := Lib.hid hs; clear hs
  clear h a3 a4
  have hm : IntKind.i64.wrap (t * d) = t * d := IntWalk.i64_in _ (by omega)
  generalize t * d / 1000000000 = q at *
  go_enter Try.func57, Try.ntmps57
  go_wp2
  go_quiet ((go_at_call 71; exact Calls.quiet_of_same (H1.out _)))
  clear hm
  go_wp2
  go_ret
  exact ⟨ret_i64 HS.out.symm, (((Grew.refl w).alloc _).drewN _)⟩
theorem at2_any (o d t : Int) (h : okC o d = true) (h1 : 0 ≤ t) (h2 : t ≤ 1099511627776) (w : World) : Calls Try.prog 47 #[.agg #[.int .i64 o, .int .i64 d], .int .i64 t] w fun e w' => e = .returned (.int .i64 (shS o d t)) ∧ Grew w w' := by
  obtain ⟨⟨a1, a2⟩, a3, a4⟩ := okC_of h
  obtain ⟨p1, p2⟩ := prod_bd h1 h2 a3 a4
  have H1 := Lib.hid (fun w => floor2_any (t * d) p1 p2 w)
  have q1 : -109951163 ≤ t * d / 1000000000 := by omega
  have q2 : t * d / 1000000000 ≤ 109951163 := by omega
  have hs : shS o d t = o + t + t * d / 1000000000 := rfl
  have HS := Lib.hid hs; clear hs
  clear h a3 a4
  have hm : IntKind.i64.wrap (t * d) = t * d := IntWalk.i64_in _ (by omega)
  generalize t * d / 1000000000 = q at *
  go_enter Try.func47, Try.ntmps47
  go_wp2
  go_quiet ((go_at_call 62; exact Calls.quiet_of_same (H1.out _)))
  clear hm
  go_wp2
  go_ret
  exact ⟨ret_i64 HS.out.symm, (((Grew.refl w).alloc _).drewN _)⟩
/-- A clock's box, behind the blocks that were there. -/
def Bx (w : World) (B : Nat) (o d : Int) (w' : World) : Prop := w'.cell? ⟨B, 0, none⟩ = some (.int .i64 o) ∧ w'.cell? ⟨B, 1, none⟩ = some (.int .i64 d) ∧ Grew w w'
theorem Bx.keep {w w1 w2 : World} {B : Nat} {o d : Int} (h : Bx w B o d w1) (k : Grew w1 w2) : Bx w B o d w2 := ⟨k.cell h.1, k.cell h.2.1, h.2.2.trans k⟩
theorem Bx.new (w : World) (o d : Int) (t : TypeId) : Bx w w.heap.size o d (w.alloc (.cells #[.int .i64 o, .int .i64 d] t)) := ⟨by go_simp, by go_simp, (Grew.refl w).alloc _⟩
/-- The error of a clock and a time. -/
def chkT (o d t : Int) : Int := if okC o d = true then (if timeB t = true then 0 else 2) else 1
theorem chk_cases (o d : Int) : (okC o d = true ∧ chk o d = 0) ∨ (okC o d = false ∧ chk o d = 1) := by
  cases h : okC o d with
  | true => exact .inl ⟨rfl, if_pos h⟩
  | false => exact .inr ⟨rfl, if_neg (by rw [h]; decide)⟩
theorem checkAt_any (o d t : Int) (w : World) : Calls Try.prog 56 #[.agg #[.int .i64 o, .int .i64 d], .int .i64 t] w fun e w' => e = .returned (.int .i64 (chkT o d t)) ∧ Grew w w' := by
  have h1 := fun w => check_any o d w
  have h2 := fun w => isTime_any t w
  have hk : chkT o d t = if okC o d = true then (if timeB t = true then 0 else 2) else 1 := rfl
  rcases chk_cases o d with ⟨a, b⟩ | ⟨a, b⟩ <;> rw [b] at h1 <;> rw [a] at hk <;> clear a b
  · cases e : timeB t <;> rw [e] at h2 hk <;> clear e <;> simp only [if_true, Bool.false_eq_true, if_false] at hk <;> rw [hk] <;> clear hk
    all_goals
      have H1 := Lib.hid h1; clear h1
      have H2 := Lib.hid h2; clear h2
      go_enter Try.func56, Try.ntmps56
      go_wp2_with (first
        | (go_at_call 41; (with_reducible refine (H1.out _).mono ?_); rintro e w1 ⟨rfl, hw⟩; have HW := Lib.hid (((Grew.refl w).alloc _).trans hw); clear hw)
        | (go_at_call 70; (with_reducible refine (H2.out _).mono ?_); rintro e w2 ⟨rfl, rfl⟩))
      go_ret
      exact ⟨rfl, HW.out⟩
  · simp only [Bool.false_eq_true, if_false] at hk
    rw [hk]
    clear hk h2
    have H1 := Lib.hid h1; clear h1
    go_enter Try.func56, Try.ntmps56
    go_wp2_with (go_at_call 41; (with_reducible refine (H1.out _).mono ?_); rintro e w1 ⟨rfl, hw⟩; have HW := Lib.hid (((Grew.refl w).alloc _).trans hw); clear hw)
    go_ret
    exact ⟨rfl, HW.out⟩
/-- Show. -/
def showS (o d t : Int) : Int × Int := if okC o d = true then (if timeB t = true then (shS o d t, 0) else (0, 2)) else (0, 1)
theorem show_cases (o d t : Int) : (okC o d = true ∧ timeB t = true ∧ showS o d t = (shS o d t, 0) ∧ chkT o d t = 0) ∨ (okC o d = true ∧ timeB t = false ∧ showS o d t = (0, 2) ∧ chkT o d t = 2) ∨ (okC o d = false ∧ showS o d t = (0, 1) ∧ chkT o d t = 1) := by
  unfold showS chkT
  cases okC o d <;> cases timeB t <;> simp
theorem Show_any (o d t : Int) (w : World) : Calls Try.prog 43 #[.agg #[.int .i64 o, .int .i64 d], .int .i64 t] w fun e w' => e = .returned (.tuple #[.int .i64 (showS o d t).1, .int .i64 (showS o d t).2]) ∧ Grew w w' := by
  have h1 := fun w => checkAt_any o d t w
  rcases show_cases o d t with ⟨a, b, hs, hk⟩ | ⟨a, b, hs, hk⟩ | ⟨a, hs, hk⟩ <;> rw [hs] <;> rw [hk] at h1 <;> clear hs hk
  · have H2 := Lib.hid (fun w => show_any o d t a (inB_yes b).1 (inB_yes b).2 w)
    have H1 := Lib.hid h1; clear h1 a b
    generalize shS o d t = s at *
    go_enter Try.func43, Try.ntmps43
    go_wp2_with (first | (go_at_call 56; (with_reducible refine (H1.out _).mono ?_); rintro e w1 ⟨rfl, hw⟩; have HB := Lib.hid ((Bx.new w o d 23).keep hw); clear hw; obtain ⟨k0, k1, _⟩ := HB.out) | (go_at_call 57; (with_reducible refine (H2.out _).mono ?_); rintro e w2 ⟨rfl, hw⟩; have HB' := Lib.hid (HB.out.keep hw); clear hw HB k0 k1; have HB := HB'; clear HB'; obtain ⟨k0, k1, _⟩ := HB.out))
    go_ret2
    exact ⟨rfl, HB.out.2.2⟩
  all_goals
    have H1 := Lib.hid h1; clear h1
    go_enter Try.func43, Try.ntmps43
    go_wp2_with (go_at_call 56; (with_reducible refine (H1.out _).mono ?_); rintro e w1 ⟨rfl, hw⟩; have HB := Lib.hid ((Bx.new w o d 23).keep hw); clear hw; obtain ⟨k0, k1, _⟩ := HB.out)
    go_ret2
    exact ⟨rfl, HB.out.2.2⟩
end Go.Proofs.Ytffcoeadpicohaa
