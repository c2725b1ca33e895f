/- GeometryShapes: for all points and walls the law returns true: with coordinates from -20000 to 20000, Square and Crosses return what the reference returns. No condition on the input. -/
import Derived.Test.YtohekjbcnkfmjaaCross2
import Derived.Test.YtohekjbcnkfmjaaNear
import Derived.Test.YtohekjbcnkfmjaaAwake
import Derived.Test.YtohekjbcnkfmjaaArgs
namespace Go.Proofs.Ytohekjbcnkfmjaa
open Go.RowKit

namespace geometryShapes
def four (a1 a2 b1 b2 c1 c2 d1 d2 : Int) : List Pt := [⟨a1, a2⟩, ⟨b1, b2⟩, ⟨c1, c2⟩, ⟨d1, d2⟩]
theorem row4 (w1 : World) (a1 a2 b1 b2 c1 c2 d1 d2 : Int) (T : TypeId) (k : Nat) (hk : k < 4) :
    (w1.alloc (.cells #[.int .i64 a1, .int .i64 a2, .int .i64 b1, .int .i64 b2, .int .i64 c1, .int .i64 c2, .int .i64 d1, .int .i64 d2] T)).cell? ⟨w1.heap.size, 0 + k * 2, none⟩ = some (.int .i64 ((four a1 a2 b1 b2 c1 c2 d1 d2).getD k ⟨0, 0⟩).x) ∧ (w1.alloc (.cells #[.int .i64 a1, .int .i64 a2, .int .i64 b1, .int .i64 b2, .int .i64 c1, .int .i64 c2, .int .i64 d1, .int .i64 d2] T)).cell? ⟨w1.heap.size, 0 + k * 2 + 1, none⟩ = some (.int .i64 ((four a1 a2 b1 b2 c1 c2 d1 d2).getD k ⟨0, 0⟩).y) := by
  match k, hk with
  | 0, _ => exact ⟨by go_simp; rfl, by go_simp; rfl⟩
  | 1, _ => exact ⟨by go_simp; rfl, by go_simp; rfl⟩
  | 2, _ => exact ⟨by go_simp; rfl, by go_simp; rfl⟩
  | 3, _ => exact ⟨by go_simp; rfl, by go_simp; rfl⟩
theorem near4 (w1 : World) (a1 a2 b1 b2 c1 c2 d1 d2 : Int) (T : TypeId) (u : Bool) (hu : allCo (four a1 a2 b1 b2 c1 c2 d1 d2) = u) :
    Calls Try.prog 12 #[.slice (some ⟨w1.heap.size, 0, none⟩) 4 4] (w1.alloc (.cells #[.int .i64 a1, .int .i64 a2, .int .i64 b1, .int .i64 b2, .int .i64 c1, .int .i64 c2, .int .i64 d1, .int .i64 d2] T)) fun e w' => e = .returned (.bool u) ∧ Same w1 w' := by
  have h := near_any (w1.alloc (.cells #[.int .i64 a1, .int .i64 a2, .int .i64 b1, .int .i64 b2, .int .i64 c1, .int .i64 c2, .int .i64 d1, .int .i64 d2] T)) w1.heap.size 0 4 (four a1 a2 b1 b2 c1 c2 d1 d2) (by simp [four]) (fun i hi => row4 w1 a1 a2 b1 b2 c1 c2 d1 d2 T i hi)
  rw [hu] at h
  exact h.mono fun e w' ⟨he, hw⟩ => ⟨he, ((Same.refl w1).alloc _).trans hw⟩
theorem co_of {a1 a2 b1 b2 c1 c2 d1 d2 : Int} (h : allCo (four a1 a2 b1 b2 c1 c2 d1 d2) = true) : (Co a1 ∧ Co a2) ∧ (Co b1 ∧ Co b2) ∧ (Co c1 ∧ Co c2) ∧ Co d1 ∧ Co d2 := by
  have h := of_decide_eq_true h
  exact ⟨of_decide_eq_true (h 0 (by simp [four])), of_decide_eq_true (h 1 (by simp [four])), of_decide_eq_true (h 2 (by simp [four])), of_decide_eq_true (h 3 (by simp [four]))⟩
set_option maxHeartbeats 6400000 in
set_option maxRecDepth 100000 in
theorem walk (a1 a2 b1 b2 c1 c2 d1 d2 f : Int) (w : World) :
    Calls Try.prog 3 #[.agg #[.int .i64 a1, .int .i64 a2], .agg #[.int .i64 b1, .int .i64 b2], .agg #[.int .i64 c1, .int .i64 c2, .int .i64 d1, .int .i64 d2, .int .i64 f]] w fun e w' => e = .returned (.bool true) ∧ Same w w' := by
  have HAW := Lib.hid (awake_any (boxes3 w a1 a2 b1 b2 c1 c2 d1 d2 f))
  have HAT := Lib.hid (fun (w1 : World) (h : Same (boxes3 w a1 a2 b1 b2 c1 c2 d1 d2 f) w1) => (boxes3_at h : F9 w a1 a2 b1 b2 c1 c2 d1 d2 f w1))
  obtain ⟨u, hu⟩ : ∃ u, allCo (four a1 a2 b1 b2 c1 c2 d1 d2) = u := ⟨_, rfl⟩
  have HN := Lib.hid (fun w1 => near4 w1 a1 a2 b1 b2 c1 c2 d1 d2 23 u hu)
  cases u
  · clear hu
    go_enter Try.func3, Try.ntmps3
    go_wp2_with (first
      | (go_at_call 11; (with_reducible refine HAW.out.mono ?_); rintro e w1 ⟨rfl, hw⟩; have HF := Lib.hid (HAT.out _ hw); clear hw; obtain ⟨k0, k1, k2, k3, k4, k5, k6, k7, k8, hs⟩ := HF.out; clear hs)
      | (go_at_call 12; (with_reducible refine (HN.out _).mono ?_); rintro e w2 ⟨rfl, hw⟩; have h' := Lib.hid (keep9 HF.out hw); clear HF hw k0 k1 k2 k3 k4 k5 k6 k7 k8; have HF := h'; clear h'))
    go_ret
    exact ⟨rfl, HF.out.2.2.2.2.2.2.2.2.2⟩
  · obtain ⟨⟨i1, i2⟩, ⟨i3, i4⟩, ⟨i5, i6⟩, i7, i8⟩ := co_of hu
    have S1 := Lib.hid (fun w => square_any a1 a2 b1 b2 i1 i2 i3 i4 w)
    have S2 := Lib.hid (fun w => square2_any a1 a2 b1 b2 i1 i2 i3 i4 w)
    obtain ⟨c, hc⟩ : ∃ c, crB a1 a2 b1 b2 c1 c2 d1 d2 = c := ⟨_, rfl⟩
    have c1' := fun w => crosses_any a1 a2 b1 b2 c1 c2 d1 d2 f i1 i2 i3 i4 i5 i6 i7 i8 w
    have c2' := fun w => crosses2_any a1 a2 b1 b2 c1 c2 d1 d2 f i1 i2 i3 i4 i5 i6 i7 i8 w
    rw [hc] at c1' c2'
    have C1 := Lib.hid c1'
    have C2 := Lib.hid c2'
    clear c1' c2' hc hu i1 i2 i3 i4 i5 i6 i7 i8
    generalize (b1 - a1) * (b1 - a1) + (b2 - a2) * (b2 - a2) = q at *
    cases c
    all_goals
      go_enter Try.func3, Try.ntmps3
      go_wp2_with (first
        | (go_at_call 11; (with_reducible refine HAW.out.mono ?_); rintro e w1 ⟨rfl, hw⟩; have HF := Lib.hid (HAT.out _ hw); clear hw; obtain ⟨k0, k1, k2, k3, k4, k5, k6, k7, k8, hs⟩ := HF.out; clear hs)
        | (go_at_call 12; (with_reducible refine (HN.out _).mono ?_); rintro e w2 ⟨rfl, hw⟩; have h' := Lib.hid (keep9 HF.out hw); clear HF hw k0 k1 k2 k3 k4 k5 k6 k7 k8; have HF := h'; clear h'))
      go_region_held3 (fun w1 => F9 w a1 a2 b1 b2 c1 c2 d1 d2 f w1)
        (first | exact keep9 HF.out ((Same.refl _).drew) | exact keep9 (by assumption) (by assumption) | assumption)
        (first
          | (go_at_call 13; (with_reducible refine (S1.out _).mono ?_); rintro e w3 ⟨rfl, hw3⟩)
          | (go_at_call 14; (with_reducible refine (S2.out _).mono ?_); rintro e w4 ⟨rfl, hw4⟩)
          | (go_at_call 15; (with_reducible refine (C1.out _).mono ?_); rintro e w5 ⟨rfl, hw5⟩)
          | (go_at_call 16; (with_reducible refine (C2.out _).mono ?_); rintro e w6 ⟨rfl, hw6⟩))
      have hfin := (by assumption : F9 w a1 a2 b1 b2 c1 c2 d1 d2 f w6).2.2.2.2.2.2.2.2.2
      have HX := Lib.hid hfin
      clear hfin
      go_wp2
      go_ret
      exact ⟨rfl, HX.out⟩
open Go.ChangeShapes Go.WideShapes Go.ChangeAt
theorem own : ownKnob Try.prog.godebug = none := by kernel_rfl

set_option maxRecDepth 100000 in
theorem lifted (os : Os) (started : os.Started) (H : Type) (enc : TypeId × Value → H) :
    ReturnsInHanded {} Try.checked os 3 .any (Rows.geometryShapesSpec.pre6 enc Try.prog Try.f3 Rows.geometryShapesRow.domain false) (Rows.geometryShapesSpec.post enc Try.prog Try.f3 false true false false) := by
  refine returnsInHanded_of_change (C := Try.checked) own started (by kernel_rfl) Try.func3
    (ChangeSpec.witness6 (enc := enc) (C := Try.checked) false ⟨#[], #[.agg #[.int .i64 0, .int .i64 0], .agg #[.int .i64 0, .int .i64 0], .agg #[.int .i64 0, .int .i64 0, .int .i64 0, .int .i64 0, .int .i64 0]], []⟩ 8 (by kernel_rfl) (by kernel_rfl) (by kernel_rfl) (by kernel_rfl)) ?_
  intro W base args ds gs before hval0 hW hcnd _
  have hval : ∀ (j : Nat) t v, Try.f3.params[j]? = some t → args[j]? = some v → Value.okWide Try.prog W .any base t v := hval0
  have hW' := hW
  obtain ⟨p, q, hA0, hV, rfl, hfz, hnd⟩ := hW
  have hA : DataW.TrodAll enc Try.prog W 0 (fun _ => true) true Try.f3.params.toList args.toList ds p := hA0
  rw [Try.params3] at hA hval
  obtain ⟨v0, vs0, d0, ds0, p0, q0, hargs, rfl, rfl, h0, r0⟩ := trodAll_cons hA
  obtain ⟨v1, vs1, d1, ds1, p1, q1, rfl, rfl, rfl, h1, r1⟩ := trodAll_cons r0
  obtain ⟨v2, vs2, d2, ds2, p2, q2, rfl, rfl, rfl, h2, r2⟩ := trodAll_cons r1
  obtain ⟨rfl, rfl, rfl⟩ := trodAll_nil r2
  obtain rfl : args = #[v0, v1, v2] := by cases args; simp_all
  obtain ⟨rfl, rfl⟩ := trodVars_none hV
  obtain ⟨x10, x20, rfl, bx10, bx20⟩ := open_point (hval 0 23 v0 rfl rfl) h0
  obtain ⟨x11, x21, rfl, bx11, bx21⟩ := open_point (hval 1 23 v1 rfl rfl) h1
  obtain ⟨x12, x22, x32, x42, x52, rfl⟩ := open_wall (hval 2 25 v2 rfl rfl) h2
  clear hA0 hval0
  try simp only [List.append_nil] at hW'
  try simp only [List.nil_append] at hW'
  have hlt : ∀ x ∈ p0 ++ p1 ++ p2, x.block < W.heap.size := fun x hx => by
    have := hW'.lt x (by simpa using hx)
    simpa using this
  refine (walk x10 x20 x11 x21 x12 x22 x32 x42 x52 W).mono fun e W' ⟨he, hg⟩ => ?_
  subst he
  exact ⟨_, rfl, _, _, _, [], _, [], hW', trodAll_cons_mk (shut_bool Try.underlying4 _) trodAll_mk0, trodAll_cons_mk (Below.trod Try.laidOut (by kernel_rfl) (of_decide_eq_true (by kernel_rfl)) h0 (Same.toBelow hg) (fun x hx => hlt x (by simp [hx]))) (trodAll_cons_mk (Below.trod Try.laidOut (by kernel_rfl) (of_decide_eq_true (by kernel_rfl)) h1 (Same.toBelow hg) (fun x hx => hlt x (by simp [hx]))) (trodAll_cons_mk (Below.trod Try.laidOut (by kernel_rfl) (of_decide_eq_true (by kernel_rfl)) h2 (Same.toBelow hg) (fun x hx => hlt x (by simp [hx]))) trodAll_mk0)), rfl, (Same.toBelow hg).frame _, fun h => by cases h⟩

theorem over : Rows.geometryShapesRow.holds Try.pinned (OpenSpec.ofChange Rows.geometryShapesSpec) :=
  OpenClaim.holds_of_wide 3 Try.f3 rfl rfl rfl rfl rfl rfl rfl ⟨rfl, rfl, rfl, rfl, rfl⟩ rfl rfl rfl rfl rfl (by kernel_rfl) Try.func3 (by kernel_rfl)
    (of_decide_eq_true (by kernel_rfl)) (by unfold Func.isWrapper; first | (rw [if_pos (by decide +kernel)]; kernel_rfl) | (rw [if_neg (by decide +kernel)]; exact ⟨rfl, rfl⟩))
    (fun os started H enc _ => lifted os started H enc)

theorem proved : Rows.GeometryShapesSaid :=
  over
end geometryShapes
end Go.Proofs.Ytohekjbcnkfmjaa
