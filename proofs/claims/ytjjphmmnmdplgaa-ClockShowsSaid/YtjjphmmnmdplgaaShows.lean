/- ClockShows: for all clocks, times and numbers the law returns true: Check, Show, Reach and Slot return what the definitions specify, or the specified errors. No condition on the input. -/
import Derived.Test.YtjjphmmnmdplgaaArgs
namespace Go.Proofs.Ytjjphmmnmdplgaa
open Go.RowKit

namespace clockShows
theorem walk (o d : Int) (t : Int) (_ht : -9223372036854775808 ≤ t ∧ t ≤ 9223372036854775807) (x : Int) (_hx : -9223372036854775808 ≤ x ∧ x ≤ 9223372036854775807) (w : World) :
    Calls Try.prog 3 #[.agg #[.int .i64 o, .int .i64 d], .int .i64 t, .int .i64 x] w fun e w' => e = .returned (.bool true) ∧ Same w w' := by
  obtain ⟨r, hr⟩ : ∃ r, okC o d = true → IsR o d x r := by
    by_cases h : okC o d = true
    · exact ⟨_, fun _ => isR_cnt h x⟩
    · exact ⟨0, fun a => absurd a h⟩
  have HAW := Lib.hid (fun w => awake_any w)
  have h1 := fun w => Show_any o d t w
  have h2 := fun w => Show2_any o d t w
  have h3 := fun w => Reach_any o d x r hr w
  have h4 := fun w => Reach2_any o d x r hr w
  have h5 := fun w => Slot_any o d t w
  have h6 := fun w => Slot2_any o d t w
  have h7 := fun w => check_any o d w
  have h8 := fun w => check2_any o d w
  generalize showS o d t = a at *
  generalize reachS o d r = b at *
  generalize slotS o d t = c at *
  generalize chk o d = k at *
  obtain ⟨a1, a2⟩ := a
  obtain ⟨b1, b2⟩ := b
  obtain ⟨c1, c2⟩ := c
  have H1 := Lib.hid h1; clear h1
  have H2 := Lib.hid h2; clear h2
  have H3 := Lib.hid h3; clear h3
  have H4 := Lib.hid h4; clear h4
  have H5 := Lib.hid h5; clear h5
  have H6 := Lib.hid h6; clear h6
  have H7 := Lib.hid h7; clear h7
  have H8 := Lib.hid h8; clear h8 hr
  go_enter Try.func3, Try.ntmps3
  go_wp2_with (first
    | (go_at_call 11; (with_reducible refine (HAW.out _).mono ?_); rintro e w1 ⟨rfl, hw⟩; have HB := Lib.hid ((Cx.new w o d 23).keep hw); clear hw; obtain ⟨k0, k1, k2⟩ := HB.out)
    | (go_at_call 12; (with_reducible refine (H1.out _).mono ?_); rintro e w2 ⟨rfl, hw⟩; have HB' := Lib.hid (HB.out.keep hw.toSame); clear hw HB k0 k1 k2; have HB := HB'; clear HB'; obtain ⟨k0, k1, k2⟩ := HB.out)
    | (go_at_call 13; (with_reducible refine (H2.out _).mono ?_); rintro e w2 ⟨rfl, hw⟩; have HB' := Lib.hid (HB.out.keep hw.toSame); clear hw HB k0 k1 k2; have HB := HB'; clear HB'; obtain ⟨k0, k1, k2⟩ := HB.out)
    | (go_at_call 14; (with_reducible refine (H3.out _).mono ?_); rintro e w2 ⟨rfl, hw⟩; have HB' := Lib.hid (HB.out.keep hw.toSame); clear hw HB k0 k1 k2; have HB := HB'; clear HB'; obtain ⟨k0, k1, k2⟩ := HB.out)
    | (go_at_call 15; (with_reducible refine (H4.out _).mono ?_); rintro e w2 ⟨rfl, hw⟩; have HB' := Lib.hid (HB.out.keep hw.toSame); clear hw HB k0 k1 k2; have HB := HB'; clear HB'; obtain ⟨k0, k1, k2⟩ := HB.out)
    | (go_at_call 16; (with_reducible refine (H5.out _).mono ?_); rintro e w2 ⟨rfl, hw⟩; have HB' := Lib.hid (HB.out.keep hw.toSame); clear hw HB k0 k1 k2; have HB := HB'; clear HB'; obtain ⟨k0, k1, k2⟩ := HB.out)
    | (go_at_call 17; (with_reducible refine (H6.out _).mono ?_); rintro e w2 ⟨rfl, hw⟩; have HB' := Lib.hid (HB.out.keep hw.toSame); clear hw HB k0 k1 k2; have HB := HB'; clear HB'; obtain ⟨k0, k1, k2⟩ := HB.out))
  go_region_held3 (fun w' => w'.cell? ⟨w.heap.size, 0, none⟩ = some (.int .i64 o) ∧ w'.cell? ⟨w.heap.size, 1, none⟩ = some (.int .i64 d) ∧ Same w w')
    (first | exact ⟨k0, k1, k2.drew⟩ | exact Cx.keep ⟨k0, k1, k2.drew⟩ (Grew.toSame (by assumption)) | exact Cx.keep (by assumption) (Grew.toSame (by assumption)) | assumption)
    (first
      | (go_at_call 18; (with_reducible refine (H7.out _).mono ?_); rintro e w4 ⟨rfl, hw4⟩)
      | (go_at_call 19; (with_reducible refine (H8.out _).mono ?_); rintro e w5 ⟨rfl, hw5⟩))
  have hfin := (by assumption : World.cell? w5 ⟨w.heap.size, 0, none⟩ = some (.int .i64 o) ∧ World.cell? w5 ⟨w.heap.size, 1, none⟩ = some (.int .i64 d) ∧ Same w w5).2.2
  have HF := Lib.hid hfin
  clear hfin k0 k1 k2
  go_wp2
  go_ret
  exact ⟨rfl, HF.out⟩
open Go.ChangeShapes Go.WideShapes Go.ChangeAt
theorem own : ownKnob Try.prog.godebug = none := by kernel_rfl

set_option maxRecDepth 100000 in
theorem lifted (os : Os) (started : os.Started) (H : Type) (enc : TypeId × Value → H) :
    ReturnsInHanded {} Try.checked os 3 .any (Rows.clockShowsSpec.pre6 enc Try.prog Try.f3 Rows.clockShowsRow.domain false) (Rows.clockShowsSpec.post enc Try.prog Try.f3 false true false false) := by
  refine returnsInHanded_of_change (C := Try.checked) own started (by kernel_rfl) Try.func3
    (ChangeSpec.witness6 (enc := enc) (C := Try.checked) false ⟨#[], #[.agg #[.int .i64 0, .int .i64 0], .int .i64 0, .int .i64 0], []⟩ 8 (by kernel_rfl) (by kernel_rfl) (by kernel_rfl) (by kernel_rfl)) ?_
  intro W base args ds gs before hval0 hW hcnd _
  have hval : ∀ (j : Nat) t v, Try.f3.params[j]? = some t → args[j]? = some v → Value.okWide Try.prog W .any base t v := hval0
  have hW' := hW
  obtain ⟨p, q, hA0, hV, rfl, hfz, hnd⟩ := hW
  have hA : DataW.TrodAll enc Try.prog W 0 (fun _ => true) true Try.f3.params.toList args.toList ds p := hA0
  rw [Try.params3] at hA hval
  obtain ⟨v0, vs0, d0, ds0, p0, q0, hargs, rfl, rfl, h0, r0⟩ := trodAll_cons hA
  obtain ⟨v1, vs1, d1, ds1, p1, q1, rfl, rfl, rfl, h1, r1⟩ := trodAll_cons r0
  obtain ⟨v2, vs2, d2, ds2, p2, q2, rfl, rfl, rfl, h2, r2⟩ := trodAll_cons r1
  obtain ⟨rfl, rfl, rfl⟩ := trodAll_nil r2
  obtain rfl : args = #[v0, v1, v2] := by cases args; simp_all
  obtain ⟨rfl, rfl⟩ := trodVars_none hV
  obtain ⟨x0, y0, rfl, bx0, be0⟩ := open_clock (hval 0 23 v0 rfl rfl) h0
  obtain ⟨a1, rfl, rfl, rfl, w1⟩ := open_int Try.underlying3 (hval 1 3 v1 rfl rfl) h1
  obtain ⟨a2, rfl, rfl, rfl, w2⟩ := open_int Try.underlying3 (hval 2 3 v2 rfl rfl) h2
  clear hA0 hval0
  try simp only [List.append_nil] at hW'
  try simp only [List.nil_append] at hW'
  have hlt : ∀ x ∈ p0, x.block < W.heap.size := fun x hx => by
    have := hW'.lt x (by simpa using hx)
    simpa using this
  refine (walk x0 y0 a1 (bounds_i64 w1) a2 (bounds_i64 w2) W).mono fun e W' ⟨he, hg⟩ => ?_
  subst he
  exact ⟨_, rfl, _, _, _, [], _, [], hW', trodAll_cons_mk (shut_bool Try.underlying4 _) trodAll_mk0, trodAll_cons_mk (Below.trod Try.laidOut (by kernel_rfl) (of_decide_eq_true (by kernel_rfl)) h0 (Same.toBelow hg) (fun x hx => hlt x (by simp [hx]))) (trodAll_cons_mk (shut_int Try.underlying3 w1) (trodAll_cons_mk (shut_int Try.underlying3 w2) trodAll_mk0)), rfl, (Same.toBelow hg).frame _, fun h => by cases h⟩

theorem over : Rows.clockShowsRow.holds Try.pinned (OpenSpec.ofChange Rows.clockShowsSpec) :=
  OpenClaim.holds_of_wide 3 Try.f3 rfl rfl rfl rfl rfl rfl rfl ⟨rfl, rfl, rfl, rfl, rfl⟩ rfl rfl rfl rfl rfl (by kernel_rfl) Try.func3 (by kernel_rfl)
    (of_decide_eq_true (by kernel_rfl)) (by unfold Func.isWrapper; first | (rw [if_pos (by decide +kernel)]; kernel_rfl) | (rw [if_neg (by decide +kernel)]; exact ⟨rfl, rfl⟩))
    (fun os started H enc _ => lifted os started H enc)

theorem proved : Rows.ClockShowsSaid :=
  over
end clockShows
end Go.Proofs.Ytjjphmmnmdplgaa
