/- GuardNumbers: for all times, drift bounds, numbers of slots and depths the law returns true: Growth, Length, Step, Spread and Slots return the specified numbers, or the specified errors. No condition on the input. -/
import Derived.Test.YtkffmflhonknpaaGAwake
namespace Go.Proofs.Ytkffmflhonknpaa
open Go.RowKit

/-- A law's three numbers in their box. -/
def C3 (w : World) (x y z : Int) (w' : World) : Prop := w'.cell? ⟨w.heap.size, 0, none⟩ = some (.int .i64 x) ∧ w'.cell? ⟨w.heap.size, 1, none⟩ = some (.int .i64 y) ∧ w'.cell? ⟨w.heap.size, 2, none⟩ = some (.int .i64 z) ∧ Same w w'
theorem C3.keep {w w1 w2 : World} {x y z : Int} (h : C3 w x y z w1) (k : Same w1 w2) : C3 w x y z w2 := ⟨k.cell h.1, k.cell h.2.1, k.cell h.2.2.1, h.2.2.2.trans k⟩
theorem C3.new (w : World) (x y z : Int) (t : TypeId) : C3 w x y z (w.alloc (.cells #[.int .i64 x, .int .i64 y, .int .i64 z] t)) := ⟨by go_simp, by go_simp, by go_simp, (Same.refl w).alloc _⟩
theorem searched (a b d : Int) : ∃ r, okS a b d = true → IsS a b d r := by
  by_cases h : okS a b d = true
  · exact ⟨_, fun _ => isS_cnt (okS_of h)⟩
  · exact ⟨0, fun a => absurd a h⟩
namespace guardNumbers
set_option maxHeartbeats 1000000 in
set_option maxRecDepth 100000 in
theorem walk (t : Int) (_ht : -9223372036854775808 ≤ t ∧ t ≤ 9223372036854775807) (d : Int) (_hd : -9223372036854775808 ≤ d ∧ d ≤ 9223372036854775807) (x y z : Int) (_ : i64 x) (_ : i64 y) (_ : i64 z) (w : World) :
    Calls Try.prog 3 #[.int .i64 t, .int .i64 d, .agg #[.int .i64 x, .int .i64 y, .int .i64 z]] w fun e w' => e = .returned (.bool true) ∧ Same w w' := by
  obtain ⟨r, hr⟩ := searched y z d
  have HAW := Lib.hid (fun w => gawake_any w)
  have h1 := fun w => Growth_any t d w
  have h2 := fun w => gGrowth2_any t d w
  have h3 := fun w => Length_any x d w
  have h4 := fun w => gLength2_any x d w
  have h5 := fun w => Step_any x d w
  have h6 := fun w => gStep2_any x d w
  have h7 := fun w => gSpread_any y z x d w
  have h8 := fun w => gSpread2_any y z x d w
  have h9 := fun w => gSlots_any y z d r hr w
  have h10 := fun w => gSlots2_any y z d r hr w
  generalize GrS t d = q1 at *
  generalize LnS x d = q2 at *
  generalize StS x d = q3 at *
  generalize SpS y z x d = q4 at *
  generalize SlS y z d r = q5 at *
  obtain ⟨a1, b1⟩ := q1
  obtain ⟨a2, b2⟩ := q2
  obtain ⟨a3, b3⟩ := q3
  obtain ⟨a4, b4⟩ := q4
  obtain ⟨a5, b5⟩ := q5
  clear hr _ht _hd
  have H1 := Lib.hid h1; clear h1
  have H2 := Lib.hid h2; clear h2
  have H3 := Lib.hid h3; clear h3
  have H4 := Lib.hid h4; clear h4
  have H5 := Lib.hid h5; clear h5
  have H6 := Lib.hid h6; clear h6
  have H7 := Lib.hid h7; clear h7
  have H8 := Lib.hid h8; clear h8
  have H9 := Lib.hid h9; clear h9
  have H10 := Lib.hid h10; clear h10
  go_enter Try.func3, Try.ntmps3
  go_wp2_with (first
    | (go_at_call 11; (with_reducible refine (HAW.out _).mono ?_); rintro e w1 ⟨rfl, hw⟩; have HB := Lib.hid ((C3.new w x y z 22).keep hw); clear hw; obtain ⟨k0, k1, k2, k3⟩ := HB.out)
    | (go_at_call 12; (with_reducible refine (H1.out _).mono ?_); rintro e w2 ⟨rfl, rfl⟩)
    | (go_at_call 13; (with_reducible refine (H2.out _).mono ?_); rintro e w2 ⟨rfl, rfl⟩)
    | (go_at_call 14; (with_reducible refine (H3.out _).mono ?_); rintro e w2 ⟨rfl, rfl⟩)
    | (go_at_call 15; (with_reducible refine (H4.out _).mono ?_); rintro e w2 ⟨rfl, rfl⟩)
    | (go_at_call 16; (with_reducible refine (H5.out _).mono ?_); rintro e w2 ⟨rfl, rfl⟩)
    | (go_at_call 17; (with_reducible refine (H6.out _).mono ?_); rintro e w2 ⟨rfl, rfl⟩)
    | (go_at_call 18; (with_reducible refine (H7.out _).mono ?_); rintro e w2 ⟨rfl, rfl⟩)
    | (go_at_call 19; (with_reducible refine (H8.out _).mono ?_); rintro e w2 ⟨rfl, rfl⟩)
    | (go_at_call 20; (with_reducible refine (H9.out _).mono ?_); rintro e w2 ⟨rfl, hw⟩; have HC := Lib.hid (HB.out.keep hw.toSame); clear hw HB k0 k1 k2 k3; obtain ⟨k0, k1, k2, k3⟩ := HC.out)
    | (go_at_call 21; (with_reducible refine (H10.out _).mono ?_); rintro e w2 ⟨rfl, hw⟩; have HD := Lib.hid (HC.out.keep hw.toSame); clear hw HC k0 k1 k2 k3))
  go_ret
  exact ⟨rfl, HD.out.2.2.2⟩
open Go.ChangeShapes Go.WideShapes Go.ChangeAt
theorem own : ownKnob Try.prog.godebug = none := by kernel_rfl

set_option maxRecDepth 100000 in
theorem lifted (os : Os) (started : os.Started) (H : Type) (enc : TypeId × Value → H) :
    ReturnsInHanded {} Try.checked os 3 .any (Rows.guardNumbersSpec.pre6 enc Try.prog Try.f3 Rows.guardNumbersRow.domain false) (Rows.guardNumbersSpec.post enc Try.prog Try.f3 false true false false) := by
  refine returnsInHanded_of_change (C := Try.checked) own started (by kernel_rfl) Try.func3
    (ChangeSpec.witness6 (enc := enc) (C := Try.checked) false ⟨#[], #[.int .i64 0, .int .i64 0, .agg #[.int .i64 0, .int .i64 0, .int .i64 0]], []⟩ 8 (by kernel_rfl) (by kernel_rfl) (by kernel_rfl) (by kernel_rfl)) ?_
  intro W base args ds gs before hval0 hW hcnd _
  have hval : ∀ (j : Nat) t v, Try.f3.params[j]? = some t → args[j]? = some v → Value.okWide Try.prog W .any base t v := hval0
  have hW' := hW
  obtain ⟨p, q, hA0, hV, rfl, hfz, hnd⟩ := hW
  have hA : DataW.TrodAll enc Try.prog W 0 (fun _ => true) true Try.f3.params.toList args.toList ds p := hA0
  rw [Try.params3] at hA hval
  obtain ⟨v0, vs0, d0, ds0, p0, q0, hargs, rfl, rfl, h0, r0⟩ := trodAll_cons hA
  obtain ⟨v1, vs1, d1, ds1, p1, q1, rfl, rfl, rfl, h1, r1⟩ := trodAll_cons r0
  obtain ⟨v2, vs2, d2, ds2, p2, q2, rfl, rfl, rfl, h2, r2⟩ := trodAll_cons r1
  obtain ⟨rfl, rfl, rfl⟩ := trodAll_nil r2
  obtain rfl : args = #[v0, v1, v2] := by cases args; simp_all
  obtain ⟨rfl, rfl⟩ := trodVars_none hV
  obtain ⟨a0, rfl, rfl, rfl, w0⟩ := open_int Try.underlying3 (hval 0 3 v0 rfl rfl) h0
  obtain ⟨a1, rfl, rfl, rfl, w1⟩ := open_int Try.underlying3 (hval 1 3 v1 rfl rfl) h1
  obtain ⟨x2, y2, z2, rfl, bx2, be2, bz2⟩ := open_a3 (hval 2 22 v2 rfl rfl) h2
  clear hA0 hval0
  try simp only [List.append_nil] at hW'
  try simp only [List.nil_append] at hW'
  have hlt : ∀ x ∈ p2, x.block < W.heap.size := fun x hx => by
    have := hW'.lt x (by simpa using hx)
    simpa using this
  refine (walk a0 (bounds_i64 w0) a1 (bounds_i64 w1) x2 y2 z2 bx2 be2 bz2 W).mono fun e W' ⟨he, hg⟩ => ?_
  subst he
  exact ⟨_, rfl, _, _, _, [], _, [], hW', trodAll_cons_mk (shut_bool Try.underlying4 _) trodAll_mk0, trodAll_cons_mk (shut_int Try.underlying3 w0) (trodAll_cons_mk (shut_int Try.underlying3 w1) (trodAll_cons_mk (Below.trod Try.laidOut (by kernel_rfl) (of_decide_eq_true (by kernel_rfl)) h2 (Same.toBelow hg) (fun x hx => hlt x (by simp [hx]))) trodAll_mk0)), rfl, (Same.toBelow hg).frame _, fun h => by cases h⟩

theorem over : Rows.guardNumbersRow.holds Try.pinned (OpenSpec.ofChange Rows.guardNumbersSpec) :=
  OpenClaim.holds_of_wide 3 Try.f3 rfl rfl rfl rfl rfl rfl rfl ⟨rfl, rfl, rfl, rfl, rfl⟩ rfl rfl rfl rfl rfl (by kernel_rfl) Try.func3 (by kernel_rfl)
    (of_decide_eq_true (by kernel_rfl)) (by unfold Func.isWrapper; first | (rw [if_pos (by decide +kernel)]; kernel_rfl) | (rw [if_neg (by decide +kernel)]; exact ⟨rfl, rfl⟩))
    (fun os started H enc _ => lifted os started H enc)

theorem proved : Rows.GuardNumbersSaid :=
  over
end guardNumbers
end Go.Proofs.Ytkffmflhonknpaa
