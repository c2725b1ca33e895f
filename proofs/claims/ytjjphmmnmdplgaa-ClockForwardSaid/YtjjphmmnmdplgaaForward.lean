/- ClockForward: for all clocks and times the law returns true: a clock never goes back, and from one microsecond to the next one it shows 0, 1 or 2 more. No condition on the input. -/
import Derived.Test.YtjjphmmnmdplgaaArgs
namespace Go.Proofs.Ytjjphmmnmdplgaa
open Go.RowKit

namespace clockForward
theorem walk (o d : Int) (t : Int) (_ht : -9223372036854775808 ≤ t ∧ t ≤ 9223372036854775807) (w : World) :
    Calls Try.prog 6 #[.agg #[.int .i64 o, .int .i64 d], .int .i64 t] w fun e w' => e = .returned (.bool true) ∧ Same w w' := by
  have HAW := Lib.hid (fun w => awake_any w)
  have h1 := fun w => Show_any o d t w
  rcases show_cases o d t with ⟨a, b, hs, _⟩ | ⟨a, b, hs, _⟩ | ⟨a, hs, _⟩ <;> rw [hs] at h1 <;> clear hs
  · obtain ⟨t1, t2⟩ := inB_yes b
    by_cases hm : t = 1099511627776
    · subst hm
      have H1 := Lib.hid h1; clear h1 a b _ht
      generalize shS o d 1099511627776 = s at *
      go_enter Try.func6, Try.ntmps6
      go_wp2_with (first
        | (go_at_call 11; (with_reducible refine (HAW.out _).mono ?_); rintro e w1 ⟨rfl, hw⟩; have HB := Lib.hid ((Cx.new w o d 23).keep hw); clear hw; obtain ⟨k0, k1, k2⟩ := HB.out)
        | (go_at_call 12; (with_reducible refine (H1.out _).mono ?_); rintro e w2 ⟨rfl, hw⟩; have HB' := Lib.hid (HB.out.keep hw.toSame); clear hw HB k0 k1 k2; have HB := HB'; clear HB'; obtain ⟨k0, k1, k2⟩ := HB.out))
      go_ret
      exact ⟨rfl, HB.out.2.2⟩
    · have t3 : t + 1 ≤ 1099511627776 := by omega
      have h2 := fun w => Show_any o d (t + 1) w
      have hs2 : showS o d (t + 1) = (shS o d (t + 1), 0) := by
        rcases show_cases o d (t + 1) with ⟨_, _, hs, _⟩ | ⟨_, b', _, _⟩ | ⟨a', _, _⟩
        · exact hs
        · have := inB_no b'; omega
        · rw [a'] at a; cases a
      rw [hs2] at h2
      obtain ⟨g1, g2⟩ := sh_step a t
      have q1 := shS_bd a t1 t2
      have q2 := shS_bd (t := t + 1) a (by omega) t3
      generalize shS o d t = s at *
      generalize shS o d (t + 1) = s' at *
      have H1 := Lib.hid h1; clear h1 a b _ht hs2
      have H2 := Lib.hid h2; clear h2
      go_enter Try.func6, Try.ntmps6
      go_wp2_with (first
        | (go_at_call 11; (with_reducible refine (HAW.out _).mono ?_); rintro e w1 ⟨rfl, hw⟩; have HB := Lib.hid ((Cx.new w o d 23).keep hw); clear hw; obtain ⟨k0, k1, k2⟩ := HB.out)
        | (go_at_call 12; (with_reducible refine (H1.out _).mono ?_); rintro e w2 ⟨rfl, hw⟩; have HB' := Lib.hid (HB.out.keep hw.toSame); clear hw HB k0 k1 k2; have HB := HB'; clear HB'; obtain ⟨k0, k1, k2⟩ := HB.out)
        | (go_at_call 12; (with_reducible refine (H2.out _).mono ?_); rintro e w2 ⟨rfl, hw⟩; have HB' := Lib.hid (HB.out.keep hw.toSame); clear hw HB k0 k1 k2; have HB := HB'; clear HB'; obtain ⟨k0, k1, k2⟩ := HB.out))
      go_ret
      exact ⟨rfl, HB.out.2.2⟩
  all_goals
    have H1 := Lib.hid h1; clear h1
    go_enter Try.func6, Try.ntmps6
    go_wp2_with (first
      | (go_at_call 11; (with_reducible refine (HAW.out _).mono ?_); rintro e w1 ⟨rfl, hw⟩; have HB := Lib.hid ((Cx.new w o d 23).keep hw); clear hw; obtain ⟨k0, k1, k2⟩ := HB.out)
      | (go_at_call 12; (with_reducible refine (H1.out _).mono ?_); rintro e w2 ⟨rfl, hw⟩; have HB' := Lib.hid (HB.out.keep hw.toSame); clear hw HB k0 k1 k2; have HB := HB'; clear HB'; obtain ⟨k0, k1, k2⟩ := HB.out))
    go_ret
    exact ⟨rfl, HB.out.2.2⟩
open Go.ChangeShapes Go.WideShapes Go.ChangeAt
theorem own : ownKnob Try.prog.godebug = none := by kernel_rfl

set_option maxRecDepth 100000 in
theorem lifted (os : Os) (started : os.Started) (H : Type) (enc : TypeId × Value → H) :
    ReturnsInHanded {} Try.checked os 6 .any (Rows.clockForwardSpec.pre6 enc Try.prog Try.f6 Rows.clockForwardRow.domain false) (Rows.clockForwardSpec.post enc Try.prog Try.f6 false true false false) := by
  refine returnsInHanded_of_change (C := Try.checked) own started (by kernel_rfl) Try.func6
    (ChangeSpec.witness6 (enc := enc) (C := Try.checked) false ⟨#[], #[.agg #[.int .i64 0, .int .i64 0], .int .i64 0], []⟩ 8 (by kernel_rfl) (by kernel_rfl) (by kernel_rfl) (by kernel_rfl)) ?_
  intro W base args ds gs before hval0 hW hcnd _
  have hval : ∀ (j : Nat) t v, Try.f6.params[j]? = some t → args[j]? = some v → Value.okWide Try.prog W .any base t v := hval0
  have hW' := hW
  obtain ⟨p, q, hA0, hV, rfl, hfz, hnd⟩ := hW
  have hA : DataW.TrodAll enc Try.prog W 0 (fun _ => true) true Try.f6.params.toList args.toList ds p := hA0
  rw [Try.params6] at hA hval
  obtain ⟨v0, vs0, d0, ds0, p0, q0, hargs, rfl, rfl, h0, r0⟩ := trodAll_cons hA
  obtain ⟨v1, vs1, d1, ds1, p1, q1, rfl, rfl, rfl, h1, r1⟩ := trodAll_cons r0
  obtain ⟨rfl, rfl, rfl⟩ := trodAll_nil r1
  obtain rfl : args = #[v0, v1] := by cases args; simp_all
  obtain ⟨rfl, rfl⟩ := trodVars_none hV
  obtain ⟨x0, y0, rfl, bx0, be0⟩ := open_clock (hval 0 23 v0 rfl rfl) h0
  obtain ⟨a1, rfl, rfl, rfl, w1⟩ := open_int Try.underlying3 (hval 1 3 v1 rfl rfl) h1
  clear hA0 hval0
  try simp only [List.append_nil] at hW'
  try simp only [List.nil_append] at hW'
  have hlt : ∀ x ∈ p0, x.block < W.heap.size := fun x hx => by
    have := hW'.lt x (by simpa using hx)
    simpa using this
  refine (walk x0 y0 a1 (bounds_i64 w1) W).mono fun e W' ⟨he, hg⟩ => ?_
  subst he
  exact ⟨_, rfl, _, _, _, [], _, [], hW', trodAll_cons_mk (shut_bool Try.underlying4 _) trodAll_mk0, trodAll_cons_mk (Below.trod Try.laidOut (by kernel_rfl) (of_decide_eq_true (by kernel_rfl)) h0 (Same.toBelow hg) (fun x hx => hlt x (by simp [hx]))) (trodAll_cons_mk (shut_int Try.underlying3 w1) trodAll_mk0), rfl, (Same.toBelow hg).frame _, fun h => by cases h⟩

theorem over : Rows.clockForwardRow.holds Try.pinned (OpenSpec.ofChange Rows.clockForwardSpec) :=
  OpenClaim.holds_of_wide 6 Try.f6 rfl rfl rfl rfl rfl rfl rfl ⟨rfl, rfl, rfl, rfl, rfl⟩ rfl rfl rfl rfl rfl (by kernel_rfl) Try.func6 (by kernel_rfl)
    (of_decide_eq_true (by kernel_rfl)) (by unfold Func.isWrapper; first | (rw [if_pos (by decide +kernel)]; kernel_rfl) | (rw [if_neg (by decide +kernel)]; exact ⟨rfl, rfl⟩))
    (fun os started H enc _ => lifted os started H enc)

theorem proved : Rows.ClockForwardSaid :=
  over
end clockForward
end Go.Proofs.Ytjjphmmnmdplgaa
