/- ClockSlots: for all clocks and slots the law returns true: Begin, Send and Window return the specified times, or the specified errors. No condition on the input. -/
import Derived.Test.YtjjphmmnmdplgaaArgs
namespace Go.Proofs.Ytjjphmmnmdplgaa
open Go.RowKit

theorem reached (o d n k : Int) : ∃ r, okC o d = true → slB n = true → IsR o d (n * 10000 + k) r := by
  by_cases h : okC o d = true
  · exact ⟨_, fun _ _ => isR_cnt h _⟩
  · exact ⟨0, fun a => absurd a h⟩
namespace clockSlots
theorem walk (o d : Int) (n : Int) (_hn : -9223372036854775808 ≤ n ∧ n ≤ 9223372036854775807) (w : World) :
    Calls Try.prog 4 #[.agg #[.int .i64 o, .int .i64 d], .int .i64 n] w fun e w' => e = .returned (.bool true) ∧ Same w w' := by
  obtain ⟨r0, hr0⟩ := reached o d n 0
  rw [Int.add_zero] at hr0
  obtain ⟨r1, hr1⟩ := reached o d n 2120
  obtain ⟨r2, hr2⟩ := reached o d n 1020
  obtain ⟨r3, hr3⟩ := reached o d n 3221
  have HAW := Lib.hid (fun w => awake_any w)
  have h1 := fun w => Begin_any o d n r0 hr0 w
  have h2 := fun w => Begin2_any o d n r0 hr0 w
  have h3 := fun w => Send_any o d n r1 hr1 w
  have h4 := fun w => Send2_any o d n r1 hr1 w
  have h5 := fun w => Window_any o d n r2 r3 hr2 hr3 w
  have h6 := fun w => Window2_any o d n r2 r3 hr2 hr3 w
  generalize winS o d n r2 r3 = c at *
  generalize inS o d n r0 = a at *
  generalize inS o d n r1 = b at *
  obtain ⟨a1, a2⟩ := a
  obtain ⟨b1, b2⟩ := b
  obtain ⟨c1, c2, c3⟩ := c
  have H1 := Lib.hid h1; clear h1
  have H2 := Lib.hid h2; clear h2
  have H3 := Lib.hid h3; clear h3
  have H4 := Lib.hid h4; clear h4
  have H5 := Lib.hid h5; clear h5
  have H6 := Lib.hid h6; clear h6 hr0 hr1 hr2 hr3
  go_enter Try.func4, Try.ntmps4
  go_wp2_with (first
    | (go_at_call 11; (with_reducible refine (HAW.out _).mono ?_); rintro e w1 ⟨rfl, hw⟩; have HB := Lib.hid ((Cx.new w o d 23).keep hw); clear hw; obtain ⟨k0, k1, k2⟩ := HB.out)
    | (go_at_call 20; (with_reducible refine (H1.out _).mono ?_); rintro e w2 ⟨rfl, hw⟩; have HB' := Lib.hid (HB.out.keep hw.toSame); clear hw HB k0 k1 k2; have HB := HB'; clear HB'; obtain ⟨k0, k1, k2⟩ := HB.out)
    | (go_at_call 21; (with_reducible refine (H2.out _).mono ?_); rintro e w2 ⟨rfl, hw⟩; have HB' := Lib.hid (HB.out.keep hw.toSame); clear hw HB k0 k1 k2; have HB := HB'; clear HB'; obtain ⟨k0, k1, k2⟩ := HB.out)
    | (go_at_call 22; (with_reducible refine (H3.out _).mono ?_); rintro e w2 ⟨rfl, hw⟩; have HB' := Lib.hid (HB.out.keep hw.toSame); clear hw HB k0 k1 k2; have HB := HB'; clear HB'; obtain ⟨k0, k1, k2⟩ := HB.out)
    | (go_at_call 23; (with_reducible refine (H4.out _).mono ?_); rintro e w2 ⟨rfl, hw⟩; have HB' := Lib.hid (HB.out.keep hw.toSame); clear hw HB k0 k1 k2; have HB := HB'; clear HB'; obtain ⟨k0, k1, k2⟩ := HB.out)
    | (go_at_call 24; (with_reducible refine (H5.out _).mono ?_); rintro e w2 ⟨rfl, hw⟩; have HB' := Lib.hid (HB.out.keep hw.toSame); clear hw HB k0 k1 k2; have HB := HB'; clear HB'; obtain ⟨k0, k1, k2⟩ := HB.out)
    | (go_at_call 25; (with_reducible refine (H6.out _).mono ?_); rintro e w2 ⟨rfl, hw⟩; have HB' := Lib.hid (HB.out.keep hw.toSame); clear hw HB k0 k1 k2; have HB := HB'; clear HB'; obtain ⟨k0, k1, k2⟩ := HB.out))
  go_ret
  exact ⟨rfl, HB.out.2.2⟩
open Go.ChangeShapes Go.WideShapes Go.ChangeAt
theorem own : ownKnob Try.prog.godebug = none := by kernel_rfl

set_option maxRecDepth 100000 in
theorem lifted (os : Os) (started : os.Started) (H : Type) (enc : TypeId × Value → H) :
    ReturnsInHanded {} Try.checked os 4 .any (Rows.clockSlotsSpec.pre6 enc Try.prog Try.f4 Rows.clockSlotsRow.domain false) (Rows.clockSlotsSpec.post enc Try.prog Try.f4 false true false false) := by
  refine returnsInHanded_of_change (C := Try.checked) own started (by kernel_rfl) Try.func4
    (ChangeSpec.witness6 (enc := enc) (C := Try.checked) false ⟨#[], #[.agg #[.int .i64 0, .int .i64 0], .int .i64 0], []⟩ 8 (by kernel_rfl) (by kernel_rfl) (by kernel_rfl) (by kernel_rfl)) ?_
  intro W base args ds gs before hval0 hW hcnd _
  have hval : ∀ (j : Nat) t v, Try.f4.params[j]? = some t → args[j]? = some v → Value.okWide Try.prog W .any base t v := hval0
  have hW' := hW
  obtain ⟨p, q, hA0, hV, rfl, hfz, hnd⟩ := hW
  have hA : DataW.TrodAll enc Try.prog W 0 (fun _ => true) true Try.f4.params.toList args.toList ds p := hA0
  rw [Try.params4] at hA hval
  obtain ⟨v0, vs0, d0, ds0, p0, q0, hargs, rfl, rfl, h0, r0⟩ := trodAll_cons hA
  obtain ⟨v1, vs1, d1, ds1, p1, q1, rfl, rfl, rfl, h1, r1⟩ := trodAll_cons r0
  obtain ⟨rfl, rfl, rfl⟩ := trodAll_nil r1
  obtain rfl : args = #[v0, v1] := by cases args; simp_all
  obtain ⟨rfl, rfl⟩ := trodVars_none hV
  obtain ⟨x0, y0, rfl, bx0, be0⟩ := open_clock (hval 0 23 v0 rfl rfl) h0
  obtain ⟨a1, rfl, rfl, rfl, w1⟩ := open_int Try.underlying3 (hval 1 3 v1 rfl rfl) h1
  clear hA0 hval0
  try simp only [List.append_nil] at hW'
  try simp only [List.nil_append] at hW'
  have hlt : ∀ x ∈ p0, x.block < W.heap.size := fun x hx => by
    have := hW'.lt x (by simpa using hx)
    simpa using this
  refine (walk x0 y0 a1 (bounds_i64 w1) W).mono fun e W' ⟨he, hg⟩ => ?_
  subst he
  exact ⟨_, rfl, _, _, _, [], _, [], hW', trodAll_cons_mk (shut_bool Try.underlying4 _) trodAll_mk0, trodAll_cons_mk (Below.trod Try.laidOut (by kernel_rfl) (of_decide_eq_true (by kernel_rfl)) h0 (Same.toBelow hg) (fun x hx => hlt x (by simp [hx]))) (trodAll_cons_mk (shut_int Try.underlying3 w1) trodAll_mk0), rfl, (Same.toBelow hg).frame _, fun h => by cases h⟩

theorem over : Rows.clockSlotsRow.holds Try.pinned (OpenSpec.ofChange Rows.clockSlotsSpec) :=
  OpenClaim.holds_of_wide 4 Try.f4 rfl rfl rfl rfl rfl rfl rfl ⟨rfl, rfl, rfl, rfl, rfl⟩ rfl rfl rfl rfl rfl (by kernel_rfl) Try.func4 (by kernel_rfl)
    (of_decide_eq_true (by kernel_rfl)) (by unfold Func.isWrapper; first | (rw [if_pos (by decide +kernel)]; kernel_rfl) | (rw [if_neg (by decide +kernel)]; exact ⟨rfl, rfl⟩))
    (fun os started H enc _ => lifted os started H enc)

theorem proved : Rows.ClockSlotsSaid :=
  over
end clockSlots
end Go.Proofs.Ytjjphmmnmdplgaa
