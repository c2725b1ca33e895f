/- ClockAdjusts: for all clocks, numbers and times the law returns true: Adjust and Apart return the specified clock and difference, or the specified errors. No condition on the input. -/
import Derived.Test.YtjjphmmnmdplgaaArgsB
namespace Go.Proofs.Ytjjphmmnmdplgaa
open Go.RowKit Go.Lib Go.Sort

namespace clockAdjusts
set_option maxHeartbeats 1600000 in
theorem walk (o d o' d' k t : Int) (_hk : i64 k) (_ht : i64 t) (w : World) :
    Calls Try.prog 5 #[.agg #[.int .i64 o, .int .i64 d], .agg #[.int .i64 o', .int .i64 d'], .agg #[.int .i64 k, .int .i64 t]] w fun e w' => e = .returned (.bool true) ∧ Same w w' := by
  have HAW := Lib.hid (fun w => awake_any w)
  have h1 := fun w => Adjust_any o d k w
  have h2 := fun w => Adjust2_any o d k w
  have h3 := fun w => Apart_any o d o' d' t w
  have h4 := fun w => Apart2_any o d o' d' t w
  generalize adjS o d k = a at *
  generalize apS o d o' d' t = b at *
  obtain ⟨a1, a2, a3⟩ := a
  obtain ⟨b1, b2⟩ := b
  have H1 := Lib.hid h1; clear h1
  have H2 := Lib.hid h2; clear h2
  have H3 := Lib.hid h3; clear h3
  have H4 := Lib.hid h4; clear h4 _hk _ht
  go_enter Try.func5, Try.ntmps5
  go_wp2_with (first
    | (go_at_call 11; (with_reducible refine (HAW.out _).mono ?_); rintro e w1 ⟨rfl, hw⟩; have HB := Lib.hid ((Dx.new w o d o' d' k t).keep hw); clear hw; obtain ⟨k0, k1, k2, k3, k4, k5, k6⟩ := HB.out)
    | (go_at_call 26; (with_reducible refine (H1.out _).mono ?_); rintro e w2 ⟨rfl, hw⟩; have HB' := Lib.hid (HB.out.keep hw); clear hw HB k0 k1 k2 k3 k4 k5 k6; have HB := HB'; clear HB'; obtain ⟨k0, k1, k2, k3, k4, k5, k6⟩ := HB.out.under a1 a2)
    | (go_at_call 27; (with_reducible refine (H2.out _).mono ?_); rintro e w3 ⟨rfl, hw⟩; have HB' := Lib.hid ((HB.out.under a1 a2).keep hw); obtain ⟨c0, c1⟩ := box_new hw; clear hw HB k0 k1 k2 k3 k4 k5 k6; have HB := HB'; clear HB'; obtain ⟨k0, k1, k2, k3, k4, k5, k6⟩ := HB.out.under a1 a2; have HC := Lib.hid (And.intro c0 c1); clear c0 c1)
    | (go_at_call 28; (with_reducible refine (H3.out _).mono ?_); rintro e w4 ⟨rfl, hw⟩; have HB' := Lib.hid ((HB.out.under a1 a2).keep hw.toSame); obtain ⟨d0, d1⟩ := box_new hw.toSame; have c0 := hw.toSame.cell (cell_alloc_sl (.cells #[.int .i64 a1, .int .i64 a2] 23) HC.out.1); have c1 := hw.toSame.cell (cell_alloc_sl (.cells #[.int .i64 a1, .int .i64 a2] 23) HC.out.2); clear hw HB k0 k1 k2 k3 k4 k5 k6; have HB := HB'; clear HB'; obtain ⟨k0, k1, k2, k3, k4, k5, k6⟩ := HB.out; have HD := Lib.hid (And.intro (And.intro c0 c1) (And.intro d0 d1)); clear c0 c1 d0 d1 HC)
    | (go_at_call 29; (with_reducible refine (H4.out _).mono ?_); rintro e w5 ⟨rfl, hw⟩; have HB' := Lib.hid (HB.out.keep hw.toSame); have c0 := hw.cell HD.out.1.1; have c1 := hw.cell HD.out.1.2; have d0 := hw.cell HD.out.2.1; have d1 := hw.cell HD.out.2.2; clear hw HB k0 k1 k2 k3 k4 k5 k6 HD; have HB := HB'; clear HB'; obtain ⟨k0, k1, k2, k3, k4, k5, k6⟩ := HB.out))
  go_ret
  exact ⟨rfl, HB.out.2.2.2.2.2.2⟩
open Go.ChangeShapes Go.WideShapes Go.ChangeAt
theorem own : ownKnob Try.prog.godebug = none := by kernel_rfl

set_option maxRecDepth 100000 in
theorem lifted (os : Os) (started : os.Started) (H : Type) (enc : TypeId × Value → H) :
    ReturnsInHanded {} Try.checked os 5 .any (Rows.clockAdjustsSpec.pre6 enc Try.prog Try.f5 Rows.clockAdjustsRow.domain false) (Rows.clockAdjustsSpec.post enc Try.prog Try.f5 false true false false) := by
  refine returnsInHanded_of_change (C := Try.checked) own started (by kernel_rfl) Try.func5
    (ChangeSpec.witness6 (enc := enc) (C := Try.checked) false ⟨#[], #[.agg #[.int .i64 0, .int .i64 0], .agg #[.int .i64 0, .int .i64 0], .agg #[.int .i64 0, .int .i64 0]], []⟩ 8 (by kernel_rfl) (by kernel_rfl) (by kernel_rfl) (by kernel_rfl)) ?_
  intro W base args ds gs before hval0 hW hcnd _
  have hval : ∀ (j : Nat) t v, Try.f5.params[j]? = some t → args[j]? = some v → Value.okWide Try.prog W .any base t v := hval0
  have hW' := hW
  obtain ⟨p, q, hA0, hV, rfl, hfz, hnd⟩ := hW
  have hA : DataW.TrodAll enc Try.prog W 0 (fun _ => true) true Try.f5.params.toList args.toList ds p := hA0
  rw [Try.params5] at hA hval
  obtain ⟨v0, vs0, d0, ds0, p0, q0, hargs, rfl, rfl, h0, r0⟩ := trodAll_cons hA
  obtain ⟨v1, vs1, d1, ds1, p1, q1, rfl, rfl, rfl, h1, r1⟩ := trodAll_cons r0
  obtain ⟨v2, vs2, d2, ds2, p2, q2, rfl, rfl, rfl, h2, r2⟩ := trodAll_cons r1
  obtain ⟨rfl, rfl, rfl⟩ := trodAll_nil r2
  obtain rfl : args = #[v0, v1, v2] := by cases args; simp_all
  obtain ⟨rfl, rfl⟩ := trodVars_none hV
  obtain ⟨x0, y0, rfl, bx0, be0⟩ := open_clock (hval 0 23 v0 rfl rfl) h0
  obtain ⟨x1, y1, rfl, bx1, be1⟩ := open_clock (hval 1 23 v1 rfl rfl) h1
  obtain ⟨x2, y2, rfl, bx2, be2⟩ := open_a2 (hval 2 33 v2 rfl rfl) h2
  clear hA0 hval0
  try simp only [List.append_nil] at hW'
  try simp only [List.nil_append] at hW'
  have hlt : ∀ x ∈ p0 ++ p1 ++ p2, x.block < W.heap.size := fun x hx => by
    have := hW'.lt x (by simpa using hx)
    simpa using this
  refine (walk x0 y0 x1 y1 x2 y2 bx2 be2 W).mono fun e W' ⟨he, hg⟩ => ?_
  subst he
  exact ⟨_, rfl, _, _, _, [], _, [], hW', trodAll_cons_mk (shut_bool Try.underlying4 _) trodAll_mk0, trodAll_cons_mk (Below.trod Try.laidOut (by kernel_rfl) (of_decide_eq_true (by kernel_rfl)) h0 (Same.toBelow hg) (fun x hx => hlt x (by simp [hx]))) (trodAll_cons_mk (Below.trod Try.laidOut (by kernel_rfl) (of_decide_eq_true (by kernel_rfl)) h1 (Same.toBelow hg) (fun x hx => hlt x (by simp [hx]))) (trodAll_cons_mk (Below.trod Try.laidOut (by kernel_rfl) (of_decide_eq_true (by kernel_rfl)) h2 (Same.toBelow hg) (fun x hx => hlt x (by simp [hx]))) trodAll_mk0)), rfl, (Same.toBelow hg).frame _, fun h => by cases h⟩

theorem over : Rows.clockAdjustsRow.holds Try.pinned (OpenSpec.ofChange Rows.clockAdjustsSpec) :=
  OpenClaim.holds_of_wide 5 Try.f5 rfl rfl rfl rfl rfl rfl rfl ⟨rfl, rfl, rfl, rfl, rfl⟩ rfl rfl rfl rfl rfl (by kernel_rfl) Try.func5 (by kernel_rfl)
    (of_decide_eq_true (by kernel_rfl)) (by unfold Func.isWrapper; first | (rw [if_pos (by decide +kernel)]; kernel_rfl) | (rw [if_neg (by decide +kernel)]; exact ⟨rfl, rfl⟩))
    (fun os started H enc _ => lifted os started H enc)

theorem proved : Rows.ClockAdjustsSaid :=
  over
end clockAdjusts
end Go.Proofs.Ytjjphmmnmdplgaa
