/- ClockDrifts: for all clocks and times the law returns true: in a time of d microseconds a clock shows d more, but for d * MaxDrift / 10^9 and 1. No condition on the input. -/
import Derived.Test.YtjjphmmnmdplgaaArgs
namespace Go.Proofs.Ytjjphmmnmdplgaa
open Go.RowKit

namespace clockDrifts
theorem drift_bd {o d t k : Int} (h : okC o d = true) (hk : 0 ≤ k) : shS o d (t + k) - shS o d t - k ≤ k * 100000 / 1000000000 + 1 ∧ -(k * 100000 / 1000000000 + 1) ≤ shS o d (t + k) - shS o d t - k := by
  obtain ⟨_, d1, d2⟩ := okC_of h
  unfold shS
  rw [Int.add_mul]
  have a : k * d ≤ k * 100000 := Int.mul_le_mul_of_nonneg_left d2 hk
  have b : k * -100000 ≤ k * d := Int.mul_le_mul_of_nonneg_left d1 hk
  generalize t * d = p
  generalize k * d = q at *
  omega
theorem walk (o d : Int) (t : Int) (ht : -9223372036854775808 ≤ t ∧ t ≤ 9223372036854775807) (k : Int) (hk : -9223372036854775808 ≤ k ∧ k ≤ 9223372036854775807) (w : World) :
    Calls Try.prog 7 #[.agg #[.int .i64 o, .int .i64 d], .int .i64 t, .int .i64 k] w fun e w' => e = .returned (.bool true) ∧ Same w w' := by
  have HAW := Lib.hid (fun w => awake_any w)
  by_cases c1 : k < 0
  · clear ht hk
    go_enter Try.func7, Try.ntmps7
    go_wp2_with (go_at_call 11; (with_reducible refine (HAW.out _).mono ?_); rintro e w1 ⟨rfl, hw⟩; have HB := Lib.hid ((Cx.new w o d 23).keep hw); clear hw; obtain ⟨k0, k1, k2⟩ := HB.out)
    go_ret
    exact ⟨rfl, HB.out.2.2⟩
  · have b1 : 0 ≤ k := by omega
    clear c1
    by_cases c2 : 1099511627776 < k
    · clear ht hk
      go_enter Try.func7, Try.ntmps7
      go_wp2_with (go_at_call 11; (with_reducible refine (HAW.out _).mono ?_); rintro e w1 ⟨rfl, hw⟩; have HB := Lib.hid ((Cx.new w o d 23).keep hw); clear hw; obtain ⟨k0, k1, k2⟩ := HB.out)
      go_ret
      exact ⟨rfl, HB.out.2.2⟩
    · have b2 : k ≤ 1099511627776 := by omega
      clear c2 hk
      by_cases c3 : t < 0
      · clear ht
        go_enter Try.func7, Try.ntmps7
        go_wp2_with (go_at_call 11; (with_reducible refine (HAW.out _).mono ?_); rintro e w1 ⟨rfl, hw⟩; have HB := Lib.hid ((Cx.new w o d 23).keep hw); clear hw; obtain ⟨k0, k1, k2⟩ := HB.out)
        go_ret
        exact ⟨rfl, HB.out.2.2⟩
      · have b3 : 0 ≤ t := by omega
        clear c3
        by_cases c4 : 1099511627776 - k < t
        · clear ht
          go_enter Try.func7, Try.ntmps7
          go_wp2_with (go_at_call 11; (with_reducible refine (HAW.out _).mono ?_); rintro e w1 ⟨rfl, hw⟩; have HB := Lib.hid ((Cx.new w o d 23).keep hw); clear hw; obtain ⟨k0, k1, k2⟩ := HB.out)
          go_ret
          exact ⟨rfl, HB.out.2.2⟩
        · have b4 : t ≤ 1099511627776 - k := by omega
          clear c4 ht
          have hT : timeB t = true := by simp [timeB, inB]; omega
          have hT2 : timeB (t + k) = true := by simp [timeB, inB]; omega
          have h1 := fun w => Show_any o d t w
          have h2 := fun w => Show_any o d (t + k) w
          cases hok : okC o d with
          | true =>
            rw [show showS o d t = (shS o d t, 0) by unfold showS; rw [if_pos hok, if_pos hT]] at h1
            rw [show showS o d (t + k) = (shS o d (t + k), 0) by unfold showS; rw [if_pos hok, if_pos hT2]] at h2
            obtain ⟨g1, g2⟩ := drift_bd (t := t) hok b1
            have q1 := shS_bd hok b3 (by omega)
            have q2 := shS_bd (t := t + k) hok (by omega) (by omega)
            generalize shS o d t = s at *
            generalize shS o d (t + k) = s' at *
            have H1 := Lib.hid h1; clear h1 hT hT2 hok
            have H2 := Lib.hid h2; clear h2
            go_enter Try.func7, Try.ntmps7
            go_wp2_with (first
              | (go_at_call 11; (with_reducible refine (HAW.out _).mono ?_); rintro e w1 ⟨rfl, hw⟩; have HB := Lib.hid ((Cx.new w o d 23).keep hw); clear hw; obtain ⟨k0, k1, k2⟩ := HB.out)
              | (go_at_call 12; (with_reducible refine (H1.out _).mono ?_); rintro e w2 ⟨rfl, hw⟩; have HB' := Lib.hid (HB.out.keep hw.toSame); clear hw HB k0 k1 k2; have HB := HB'; clear HB'; obtain ⟨k0, k1, k2⟩ := HB.out)
              | (go_at_call 12; (with_reducible refine (H2.out _).mono ?_); rintro e w2 ⟨rfl, hw⟩; have HB' := Lib.hid (HB.out.keep hw.toSame); clear hw HB k0 k1 k2; have HB := HB'; clear HB'; obtain ⟨k0, k1, k2⟩ := HB.out))
            go_ret
            exact ⟨rfl, HB.out.2.2⟩
          | false =>
            rw [show showS o d t = (0, 1) by unfold showS; rw [if_neg (by rw [hok]; decide)]] at h1
            rw [show showS o d (t + k) = (0, 1) by unfold showS; rw [if_neg (by rw [hok]; decide)]] at h2
            have H1 := Lib.hid h1; clear h1 hT hT2 hok
            have H2 := Lib.hid h2; clear h2
            go_enter Try.func7, Try.ntmps7
            go_wp2_with (first
              | (go_at_call 11; (with_reducible refine (HAW.out _).mono ?_); rintro e w1 ⟨rfl, hw⟩; have HB := Lib.hid ((Cx.new w o d 23).keep hw); clear hw; obtain ⟨k0, k1, k2⟩ := HB.out)
              | (go_at_call 12; (with_reducible refine (H1.out _).mono ?_); rintro e w2 ⟨rfl, hw⟩; have HB' := Lib.hid (HB.out.keep hw.toSame); clear hw HB k0 k1 k2; have HB := HB'; clear HB'; obtain ⟨k0, k1, k2⟩ := HB.out)
              | (go_at_call 12; (with_reducible refine (H2.out _).mono ?_); rintro e w2 ⟨rfl, hw⟩; have HB' := Lib.hid (HB.out.keep hw.toSame); clear hw HB k0 k1 k2; have HB := HB'; clear HB'; obtain ⟨k0, k1, k2⟩ := HB.out))
            go_ret
            exact ⟨rfl, HB.out.2.2⟩
open Go.ChangeShapes Go.WideShapes Go.ChangeAt
theorem own : ownKnob Try.prog.godebug = none := by kernel_rfl

set_option maxRecDepth 100000 in
theorem lifted (os : Os) (started : os.Started) (H : Type) (enc : TypeId × Value → H) :
    ReturnsInHanded {} Try.checked os 7 .any (Rows.clockDriftsSpec.pre6 enc Try.prog Try.f7 Rows.clockDriftsRow.domain false) (Rows.clockDriftsSpec.post enc Try.prog Try.f7 false true false false) := by
  refine returnsInHanded_of_change (C := Try.checked) own started (by kernel_rfl) Try.func7
    (ChangeSpec.witness6 (enc := enc) (C := Try.checked) false ⟨#[], #[.agg #[.int .i64 0, .int .i64 0], .int .i64 0, .int .i64 0], []⟩ 8 (by kernel_rfl) (by kernel_rfl) (by kernel_rfl) (by kernel_rfl)) ?_
  intro W base args ds gs before hval0 hW hcnd _
  have hval : ∀ (j : Nat) t v, Try.f7.params[j]? = some t → args[j]? = some v → Value.okWide Try.prog W .any base t v := hval0
  have hW' := hW
  obtain ⟨p, q, hA0, hV, rfl, hfz, hnd⟩ := hW
  have hA : DataW.TrodAll enc Try.prog W 0 (fun _ => true) true Try.f7.params.toList args.toList ds p := hA0
  rw [Try.params7] at hA hval
  obtain ⟨v0, vs0, d0, ds0, p0, q0, hargs, rfl, rfl, h0, r0⟩ := trodAll_cons hA
  obtain ⟨v1, vs1, d1, ds1, p1, q1, rfl, rfl, rfl, h1, r1⟩ := trodAll_cons r0
  obtain ⟨v2, vs2, d2, ds2, p2, q2, rfl, rfl, rfl, h2, r2⟩ := trodAll_cons r1
  obtain ⟨rfl, rfl, rfl⟩ := trodAll_nil r2
  obtain rfl : args = #[v0, v1, v2] := by cases args; simp_all
  obtain ⟨rfl, rfl⟩ := trodVars_none hV
  obtain ⟨x0, y0, rfl, bx0, be0⟩ := open_clock (hval 0 23 v0 rfl rfl) h0
  obtain ⟨a1, rfl, rfl, rfl, w1⟩ := open_int Try.underlying3 (hval 1 3 v1 rfl rfl) h1
  obtain ⟨a2, rfl, rfl, rfl, w2⟩ := open_int Try.underlying3 (hval 2 3 v2 rfl rfl) h2
  clear hA0 hval0
  try simp only [List.append_nil] at hW'
  try simp only [List.nil_append] at hW'
  have hlt : ∀ x ∈ p0, x.block < W.heap.size := fun x hx => by
    have := hW'.lt x (by simpa using hx)
    simpa using this
  refine (walk x0 y0 a1 (bounds_i64 w1) a2 (bounds_i64 w2) W).mono fun e W' ⟨he, hg⟩ => ?_
  subst he
  exact ⟨_, rfl, _, _, _, [], _, [], hW', trodAll_cons_mk (shut_bool Try.underlying4 _) trodAll_mk0, trodAll_cons_mk (Below.trod Try.laidOut (by kernel_rfl) (of_decide_eq_true (by kernel_rfl)) h0 (Same.toBelow hg) (fun x hx => hlt x (by simp [hx]))) (trodAll_cons_mk (shut_int Try.underlying3 w1) (trodAll_cons_mk (shut_int Try.underlying3 w2) trodAll_mk0)), rfl, (Same.toBelow hg).frame _, fun h => by cases h⟩

theorem over : Rows.clockDriftsRow.holds Try.pinned (OpenSpec.ofChange Rows.clockDriftsSpec) :=
  OpenClaim.holds_of_wide 7 Try.f7 rfl rfl rfl rfl rfl rfl rfl ⟨rfl, rfl, rfl, rfl, rfl⟩ rfl rfl rfl rfl rfl (by kernel_rfl) Try.func7 (by kernel_rfl)
    (of_decide_eq_true (by kernel_rfl)) (by unfold Func.isWrapper; first | (rw [if_pos (by decide +kernel)]; kernel_rfl) | (rw [if_neg (by decide +kernel)]; exact ⟨rfl, rfl⟩))
    (fun os started H enc _ => lifted os started H enc)

theorem proved : Rows.ClockDriftsSaid :=
  over
end clockDrifts
end Go.Proofs.Ytjjphmmnmdplgaa
