/- GuardLasts: for all clocks, times, numbers of slots and drift bounds the law returns true: while a clock with a drift within the bound shows K slots more, not more time passes than their length. No condition on the input. -/
import Derived.Test.YtkffmflhonknpaaGLaw
namespace Go.Proofs.Ytkffmflhonknpaa
open Go.RowKit

namespace guardLasts
theorem lasts {o c t n d : Int} (n1 : 0 ≤ n) (n2 : n ≤ 4096) (d1 : 0 ≤ d) (d2 : d ≤ 100000) (hc : wiB c d = true) : n * 10000 ≤ lnS n d ∧ shS o c t + n * 10000 ≤ shS o c (t + lnS n d) := by
  obtain ⟨c1, c2⟩ := inB_yes hc
  have hl := ln_spec (n := n) d2
  obtain ⟨l1, l2⟩ := ln_bd n1 n2 d1 d2
  generalize lnS n d = q at *
  rw [Int.mul_sub] at hl
  have a : q * -d ≤ q * c := Int.mul_le_mul_of_nonneg_left c1 (by omega)
  have b : 0 ≤ q * d := Int.mul_nonneg (by omega) d1
  rw [Int.mul_neg] at a
  unfold shS
  rw [Int.add_mul]
  generalize t * c = p at *
  generalize q * c = u at *
  generalize q * d = v at *
  omega
theorem arms (o c t k d D e : Int) (hD : (e != 0) = true ∨ (e = 0 ∧ (t < 0 ∨ (0 ≤ t ∧ 1 ≤ D ∧ D ≤ 41000000 ∧ 1099511627776 - D < t)))) (w : World)
    (HL : ∀ w, Calls Try.prog 14 #[.int .i64 k, .int .i64 d] w fun r w' => r = .returned (.tuple #[.int .i64 D, .int .i64 e]) ∧ w' = w) :
    Calls Try.prog 6 #[.agg #[.int .i64 o, .int .i64 c], .agg #[.int .i64 t, .int .i64 k, .int .i64 d]] w fun r w' => r = .returned (.bool true) ∧ Same w w' := by
  have HAW := Lib.hid (fun w => gawake_any w)
  have H1 := Lib.hid HL; clear HL
  rcases hD with hD | ⟨rfl, hD | ⟨hD, hD1, hD2, hD3⟩⟩
  all_goals
    go_enter Try.func6, Try.ntmps6
    go_wp2_with (go_at_call 11; (with_reducible refine (HAW.out _).mono ?_); rintro r w1 ⟨rfl, hw⟩; have HB := Lib.hid ((E1.new w o c t k d).keep hw); clear hw; obtain ⟨k0, k1, k2, k3, k4, k5⟩ := HB.out)
    go_quiet (fail)
    go_wp2_with (go_at_call 14; (with_reducible refine (H1.out _).mono ?_); rintro r w2 ⟨rfl, rfl⟩)
    go_ret
    exact ⟨rfl, (HB.out.2.2.2.2.2).drewN _⟩
theorem arms2 (o c t k d D : Int) (h1 : 0 ≤ t) (h2 : t ≤ 1099511627776 - D) (h3 : 1 ≤ D) (h4 : D ≤ 41000000) (b x e : Int) (B : Bool) (hB : B = false ∨ (B = true ∧ (e != 0) = true) ∨ (B = true ∧ e = 0 ∧ k * 10000 ≤ D ∧ x + k * 10000 ≤ b ∧ 0 ≤ k ∧ k ≤ 4096 ∧ -2300000000000 ≤ x ∧ x ≤ 2300000000000)) (w : World)
    (HL : ∀ w, Calls Try.prog 14 #[.int .i64 k, .int .i64 d] w fun r w' => r = .returned (.tuple #[.int .i64 D, .int .i64 0]) ∧ w' = w)
    (HW : ∀ w, Calls Try.prog 28 #[.agg #[.int .i64 o, .int .i64 c], .int .i64 d] w fun e w' => e = .returned (.bool B) ∧ Same w w')
    (HS : ∀ w, Calls Try.prog 32 #[.agg #[.int .i64 o, .int .i64 c], .int .i64 t] w fun r w' => r = .returned (.tuple #[.int .i64 x, .int .i64 e]) ∧ Grew w w')
    (HT : B = true → e = 0 → ∀ w, Calls Try.prog 32 #[.agg #[.int .i64 o, .int .i64 c], .int .i64 (t + D)] w fun r w' => r = .returned (.tuple #[.int .i64 b, .int .i64 0]) ∧ Grew w w') :
    Calls Try.prog 6 #[.agg #[.int .i64 o, .int .i64 c], .agg #[.int .i64 t, .int .i64 k, .int .i64 d]] w fun r w' => r = .returned (.bool true) ∧ Same w w' := by
  have HAW := Lib.hid (fun w => gawake_any w)
  have H1 := Lib.hid HL; clear HL
  have H2 := Lib.hid HW; clear HW
  have H3 := Lib.hid HS; clear HS
  rcases hB with rfl | ⟨rfl, he⟩ | ⟨rfl, rfl, hk, hb, kk1, kk2, xx1, xx2⟩
  · clear HT H3
    go_enter Try.func6, Try.ntmps6
    go_wp2_with (go_at_call 11; (with_reducible refine (HAW.out _).mono ?_); rintro r w1 ⟨rfl, hw⟩; have HB := Lib.hid ((E1.new w o c t k d).keep hw); clear hw; obtain ⟨k0, k1, k2, k3, k4, k5⟩ := HB.out)
    go_quiet (fail)
    go_wp2_with (first
      | (go_at_call 14; (with_reducible refine (H1.out _).mono ?_); rintro r w2 ⟨rfl, rfl⟩)
      | (go_at_call 28; (with_reducible refine (H2.out _).mono ?_); rintro r w3 ⟨rfl, hw⟩; have HC := Lib.hid (HB.out.keep (((Same.refl _).drewN _).trans hw)); clear hw HB k0 k1 k2 k3 k4 k5; obtain ⟨k0, k1, k2, k3, k4, k5⟩ := HC.out))
    go_ret
    exact ⟨rfl, HC.out.2.2.2.2.2⟩
  · clear HT
    go_enter Try.func6, Try.ntmps6
    go_wp2_with (go_at_call 11; (with_reducible refine (HAW.out _).mono ?_); rintro r w1 ⟨rfl, hw⟩; have HB := Lib.hid ((E1.new w o c t k d).keep hw); clear hw; obtain ⟨k0, k1, k2, k3, k4, k5⟩ := HB.out)
    go_quiet (fail)
    go_wp2_with (first
      | (go_at_call 14; (with_reducible refine (H1.out _).mono ?_); rintro r w2 ⟨rfl, rfl⟩)
      | (go_at_call 28; (with_reducible refine (H2.out _).mono ?_); rintro r w3 ⟨rfl, hw⟩; have HC := Lib.hid (HB.out.keep (((Same.refl _).drewN _).trans hw)); clear hw HB k0 k1 k2 k3 k4 k5; obtain ⟨k0, k1, k2, k3, k4, k5⟩ := HC.out)
      | (go_at_call 32; (with_reducible refine (H3.out _).mono ?_); rintro r w4 ⟨rfl, hw⟩; have HD := Lib.hid (HC.out.keep hw.toSame); clear hw HC k0 k1 k2 k3 k4 k5; obtain ⟨k0, k1, k2, k3, k4, k5⟩ := HD.out))
    go_ret
    exact ⟨rfl, HD.out.2.2.2.2.2⟩
  · have H4 := Lib.hid (HT rfl rfl); clear HT
    go_enter Try.func6, Try.ntmps6
    go_wp2_with (go_at_call 11; (with_reducible refine (HAW.out _).mono ?_); rintro r w1 ⟨rfl, hw⟩; have HB := Lib.hid ((E1.new w o c t k d).keep hw); clear hw; obtain ⟨k0, k1, k2, k3, k4, k5⟩ := HB.out)
    go_quiet (fail)
    go_wp2_with (first
      | (go_at_call 14; (with_reducible refine (H1.out _).mono ?_); rintro r w2 ⟨rfl, rfl⟩)
      | (go_at_call 28; (with_reducible refine (H2.out _).mono ?_); rintro r w3 ⟨rfl, hw⟩; have HC := Lib.hid (HB.out.keep (((Same.refl _).drewN _).trans hw)); clear hw HB k0 k1 k2 k3 k4 k5; obtain ⟨k0, k1, k2, k3, k4, k5⟩ := HC.out)
      | (go_at_call 32; (with_reducible refine (H3.out _).mono ?_); rintro r w4 ⟨rfl, hw⟩; have HD := Lib.hid (HC.out.keep hw.toSame); clear hw HC k0 k1 k2 k3 k4 k5; obtain ⟨k0, k1, k2, k3, k4, k5⟩ := HD.out)
      | (go_at_call 32; (with_reducible refine (H4.out _).mono ?_); rintro r w5 ⟨rfl, hw⟩; have HE := Lib.hid (HD.out.keep hw.toSame); clear hw HD k0 k1 k2 k3 k4 k5))
    go_ret
    exact ⟨rfl, HE.out.2.2.2.2.2⟩
theorem walk (o c : Int) (t k d : Int) (_ : i64 t) (_ : i64 k) (_ : i64 d) (w : World) :
    Calls Try.prog 6 #[.agg #[.int .i64 o, .int .i64 c], .agg #[.int .i64 t, .int .i64 k, .int .i64 d]] w fun r w' => r = .returned (.bool true) ∧ Same w w' := by
  have hl := fun w => Length_any k d w
  rcases Ln_cases k d with ⟨a, b, hs⟩ | ⟨_, hs⟩ | ⟨_, _, hs⟩ <;> rw [hs] at hl
  · obtain ⟨n1, n2⟩ := inB_yes a
    obtain ⟨d1, d2⟩ := inB_yes b
    obtain ⟨l1, l2⟩ := ln_bd n1 n2 d1 d2
    by_cases t1 : t < 0
    · exact arms o c t k d _ 0 (.inr ⟨rfl, .inl t1⟩) w hl
    · by_cases t2 : 1099511627776 - lnS k d < t
      · exact arms o c t k d _ 0 (.inr ⟨rfl, .inr ⟨by omega, l1, l2, t2⟩⟩) w hl
      · have hT : timeB t = true := by simp [timeB, inB]; omega
        have hT2 : timeB (t + lnS k d) = true := by simp [timeB, inB]; omega
        have hsh := fun w => Show_any o c t w
        have hsh2 := fun w => Show_any o c (t + lnS k d) w
        refine arms2 o c t k d _ (by omega) (by omega) l1 l2 (shS o c (t + lnS k d)) (showS o c t).1 (showS o c t).2 (wiB c d) ?_ w hl (fun w => lwithin_any o c d d1 d2 w) hsh (fun _ he w => ?_)
        · cases hw : wiB c d with
          | false => exact .inl rfl
          | true =>
            cases ok : okC o c with
            | false => exact .inr (.inl ⟨rfl, by unfold showS; rw [if_neg (by rw [ok]; decide)]; rfl⟩)
            | true =>
              rw [show showS o c t = (shS o c t, 0) by unfold showS; rw [if_pos ok, if_pos hT]]
              obtain ⟨x, y⟩ := lasts (o := o) (t := t) n1 n2 d1 d2 hw
              have q := shS_bd (t := t) ok (by omega) (by omega)
              exact .inr (.inr ⟨rfl, rfl, x, y, n1, n2, q.1, q.2⟩)
        · have ok : okC o c = true := by
            cases ok : okC o c with
            | true => rfl
            | false => rw [show showS o c t = (0, 1) by unfold showS; rw [if_neg (by rw [ok]; decide)]] at he; exact absurd he (by decide)
          have := hsh2 w
          rw [show showS o c (t + lnS k d) = (shS o c (t + lnS k d), 0) by unfold showS; rw [if_pos ok, if_pos hT2]] at this
          exact this
  · exact arms o c t k d _ 2 (.inl rfl) w hl
  · exact arms o c t k d _ 2 (.inl rfl) w hl
open Go.ChangeShapes Go.WideShapes Go.ChangeAt
theorem own : ownKnob Try.prog.godebug = none := by kernel_rfl

set_option maxRecDepth 100000 in
theorem lifted (os : Os) (started : os.Started) (H : Type) (enc : TypeId × Value → H) :
    ReturnsInHanded {} Try.checked os 6 .any (Rows.guardLastsSpec.pre6 enc Try.prog Try.f6 Rows.guardLastsRow.domain false) (Rows.guardLastsSpec.post enc Try.prog Try.f6 false true false false) := by
  refine returnsInHanded_of_change (C := Try.checked) own started (by kernel_rfl) Try.func6
    (ChangeSpec.witness6 (enc := enc) (C := Try.checked) false ⟨#[], #[.agg #[.int .i64 0, .int .i64 0], .agg #[.int .i64 0, .int .i64 0, .int .i64 0]], []⟩ 8 (by kernel_rfl) (by kernel_rfl) (by kernel_rfl) (by kernel_rfl)) ?_
  intro W base args ds gs before hval0 hW hcnd _
  have hval : ∀ (j : Nat) t v, Try.f6.params[j]? = some t → args[j]? = some v → Value.okWide Try.prog W .any base t v := hval0
  have hW' := hW
  obtain ⟨p, q, hA0, hV, rfl, hfz, hnd⟩ := hW
  have hA : DataW.TrodAll enc Try.prog W 0 (fun _ => true) true Try.f6.params.toList args.toList ds p := hA0
  rw [Try.params6] at hA hval
  obtain ⟨v0, vs0, d0, ds0, p0, q0, hargs, rfl, rfl, h0, r0⟩ := trodAll_cons hA
  obtain ⟨v1, vs1, d1, ds1, p1, q1, rfl, rfl, rfl, h1, r1⟩ := trodAll_cons r0
  obtain ⟨rfl, rfl, rfl⟩ := trodAll_nil r1
  obtain rfl : args = #[v0, v1] := by cases args; simp_all
  obtain ⟨rfl, rfl⟩ := trodVars_none hV
  obtain ⟨x0, y0, rfl, bx0, be0⟩ := open_clock (hval 0 31 v0 rfl rfl) h0
  obtain ⟨x1, y1, z1, rfl, bx1, be1, bz1⟩ := open_a3 (hval 1 22 v1 rfl rfl) h1
  clear hA0 hval0
  try simp only [List.append_nil] at hW'
  try simp only [List.nil_append] at hW'
  have hlt : ∀ x ∈ p0 ++ p1, x.block < W.heap.size := fun x hx => by
    have := hW'.lt x (by simpa using hx)
    simpa using this
  refine (walk x0 y0 x1 y1 z1 bx1 be1 bz1 W).mono fun e W' ⟨he, hg⟩ => ?_
  subst he
  exact ⟨_, rfl, _, _, _, [], _, [], hW', trodAll_cons_mk (shut_bool Try.underlying4 _) trodAll_mk0, trodAll_cons_mk (Below.trod Try.laidOut (by kernel_rfl) (of_decide_eq_true (by kernel_rfl)) h0 (Same.toBelow hg) (fun x hx => hlt x (by simp [hx]))) (trodAll_cons_mk (Below.trod Try.laidOut (by kernel_rfl) (of_decide_eq_true (by kernel_rfl)) h1 (Same.toBelow hg) (fun x hx => hlt x (by simp [hx]))) trodAll_mk0), rfl, (Same.toBelow hg).frame _, fun h => by cases h⟩

theorem over : Rows.guardLastsRow.holds Try.pinned (OpenSpec.ofChange Rows.guardLastsSpec) :=
  OpenClaim.holds_of_wide 6 Try.f6 rfl rfl rfl rfl rfl rfl rfl ⟨rfl, rfl, rfl, rfl, rfl⟩ rfl rfl rfl rfl rfl (by kernel_rfl) Try.func6 (by kernel_rfl)
    (of_decide_eq_true (by kernel_rfl)) (by unfold Func.isWrapper; first | (rw [if_pos (by decide +kernel)]; kernel_rfl) | (rw [if_neg (by decide +kernel)]; exact ⟨rfl, rfl⟩))
    (fun os started H enc _ => lifted os started H enc)

theorem proved : Rows.GuardLastsSaid :=
  over
end guardLasts
end Go.Proofs.Ytkffmflhonknpaa
