/- GuardFrames: for all clocks and slots the law returns true: End, Fits and Late return what the definitions specify, or the specified errors. No condition on the input. -/
import Derived.Test.YtkffmflhonknpaaGAwake
namespace Go.Proofs.Ytkffmflhonknpaa
open Go.RowKit

/-- A law's two clocks in their boxes. -/
abbrev wF (w : World) (o d o' d' : Int) : World := (w.alloc (.cells #[.int .i64 o, .int .i64 d] 31)).alloc (.cells #[.int .i64 o', .int .i64 d'] 31)
theorem reached (o d n k : Int) : ∃ r, okC o d = true → slB n = true → IsR o d (n * 10000 + k) r := by
  by_cases h : okC o d = true
  · exact ⟨_, fun _ _ => isR_cnt h _⟩
  · exact ⟨0, fun a => absurd a h⟩
theorem in_ok {o d n : Int} {r : Nat} (h : (inS o d n r).2 = 0) : okC o d = true ∧ slB n = true := by
  rcases in_cases o d n r with ⟨a, b, _⟩ | ⟨_, _, hs⟩ | ⟨_, hs⟩
  · exact ⟨a, b⟩
  · rw [hs] at h; exact absurd h (by decide)
  · rw [hs] at h; exact absurd h (by decide)
theorem win_ok {o d n : Int} {r s : Nat} (h : (winS o d n r s).2.2 = 0) : okC o d = true ∧ slB n = true := by
  unfold winS at h
  by_cases k : (inS o d n s).2 = 0
  · exact in_ok k
  · rw [if_neg k] at h; exact absurd h k
theorem shows_of {o d n x : Int} {r s : Nat} (hx : 0 ≤ x ∧ x ≤ 1099511627776) (h : (winS o d n r s).2.2 = 0) :
    CShow o d x (shS o d x) 0 ∧ CAt2 o d x (shS o d x) ∧ (-2300000000000 ≤ shS o d x ∧ shS o d x ≤ 2300000000000) ∧ 0 ≤ n ∧ n ≤ 109951162 := by
  obtain ⟨a, b⟩ := win_ok h
  have hT : timeB x = true := by simp [timeB, inB]; omega
  refine ⟨fun w => ?_, fun w => at2_any o d x a hx.1 hx.2 w, shS_bd a hx.1 hx.2, slB_of b⟩
  have := Show_any o d x w
  rw [show showS o d x = (shS o d x, 0) by unfold showS; rw [if_pos a, if_pos hT]] at this
  exact this
namespace guardFrames
set_option maxHeartbeats 1000000 in
theorem walk (o d o' d' : Int) (n : Int) (_hn : -9223372036854775808 ≤ n ∧ n ≤ 9223372036854775807) (w : World) :
    Calls Try.prog 4 #[.agg #[.int .i64 o, .int .i64 d], .agg #[.int .i64 o', .int .i64 d'], .int .i64 n] w fun e w' => e = .returned (.bool true) ∧ Same w w' := by
  obtain ⟨r1, hr1⟩ := reached o d n 2120
  obtain ⟨r2, hr2⟩ := reached o' d' n 1020
  obtain ⟨r3, hr3⟩ := reached o' d' n 3221
  have HAW := Lib.hid (fun w => gawake_any w)
  have s1 : CSend o d n (inS o d n r1).1 (inS o d n r1).2 := fun w => Send_any o d n r1 hr1 w
  have s2 : CSend2 o d n (inS o d n r1).1 (inS o d n r1).2 := fun w => Send2_any o d n r1 hr1 w
  have w1 : CWin o' d' n (winS o' d' n r2 r3).1 (winS o' d' n r2 r3).2.1 (winS o' d' n r2 r3).2.2 := fun w => Window_any o' d' n r2 r3 hr2 hr3 w
  have w2 : CWin2 o' d' n (winS o' d' n r2 r3).1 (winS o' d' n r2 r3).2.1 (winS o' d' n r2 r3).2.2 := fun w => Window2_any o' d' n r2 r3 hr2 hr3 w
  obtain ⟨b1, b2, _⟩ := inS_bd o d n r1
  have h1 := fun w => End_of s1 ⟨b1, b2⟩ w
  have h2 := fun w => End2_of s2 ⟨b1, b2⟩ w
  have h3 := fun w => Fits_of s1 w1 w
  have h4 := fun w => Fits2_of s2 w2 w
  have h5 := fun w => Late_of (v := shS o' d' (inS o d n r1).1) s1 w1 (fun _ k => ⟨(shows_of ⟨b1, b2⟩ k).1, (shows_of ⟨b1, b2⟩ k).2.2⟩) w
  have h6 := fun w => Late2_of (v := shS o' d' (inS o d n r1).1) s2 w2 (fun _ k => ⟨(shows_of ⟨b1, b2⟩ k).2.1, (shows_of ⟨b1, b2⟩ k).2.2⟩) w
  clear s1 s2 w1 w2
  generalize arF _ _ _ _ _ = a at *
  generalize enF _ _ = q1 at *
  generalize fiF _ = q2 at *
  generalize laF _ _ _ = q3 at *
  obtain ⟨a1, e1⟩ := q1
  obtain ⟨a2, e2⟩ := q2
  obtain ⟨a3, e3⟩ := q3
  clear hr1 hr2 hr3 b1 b2 a
  have H1 := Lib.hid h1; clear h1
  have H2 := Lib.hid h2; clear h2
  have H3 := Lib.hid h3; clear h3
  have H4 := Lib.hid h4; clear h4
  have H5 := Lib.hid h5; clear h5
  have H6 := Lib.hid h6; clear h6
  go_enter Try.func4, Try.ntmps4
  go_wp2_with (first
    | (go_at_call 11; (with_reducible refine (HAW.out _).mono ?_); rintro e w1 ⟨rfl, hw⟩; have HB := Lib.hid ((Bz.new w o d o' d' 31 31).keep hw); clear hw; obtain ⟨k0, k1, k2, k3, k4⟩ := HB.out)
    | (go_at_call 22; (with_reducible refine (H1.out _).mono ?_); rintro e w2 ⟨rfl, hw⟩; have HB' := Lib.hid (HB.out.keep hw.toSame); clear hw HB k0 k1 k2 k3 k4; have HB := HB'; clear HB'; obtain ⟨k0, k1, k2, k3, k4⟩ := HB.out)
    | (go_at_call 23; (with_reducible refine (H2.out _).mono ?_); rintro e w2 ⟨rfl, hw⟩; have HB' := Lib.hid (HB.out.keep hw.toSame); clear hw HB k0 k1 k2 k3 k4; have HB := HB'; clear HB'; obtain ⟨k0, k1, k2, k3, k4⟩ := HB.out)
    | (go_at_call 24; (with_reducible refine (H3.out _).mono ?_); rintro e w2 ⟨rfl, hw⟩; have HB' := Lib.hid (HB.out.keep hw); clear hw HB k0 k1 k2 k3 k4; have HB := HB'; clear HB'; obtain ⟨k0, k1, k2, k3, k4⟩ := HB.out)
    | (go_at_call 25; (with_reducible refine (H4.out _).mono ?_); rintro e w2 ⟨rfl, hw⟩; have HB' := Lib.hid (HB.out.keep hw.toSame); clear hw HB k0 k1 k2 k3 k4; have HB := HB'; clear HB'; obtain ⟨k0, k1, k2, k3, k4⟩ := HB.out)
    | (go_at_call 26; (with_reducible refine (H5.out _).mono ?_); rintro e w2 ⟨rfl, hw⟩; have HB' := Lib.hid (HB.out.keep hw); clear hw HB k0 k1 k2 k3 k4; have HB := HB'; clear HB'; obtain ⟨k0, k1, k2, k3, k4⟩ := HB.out)
    | (go_at_call 27; (with_reducible refine (H6.out _).mono ?_); rintro e w2 ⟨rfl, hw⟩; have HB' := Lib.hid (HB.out.keep hw.toSame); clear hw HB k0 k1 k2 k3 k4; have HB := HB'; clear HB'; obtain ⟨k0, k1, k2, k3, k4⟩ := HB.out))
  go_ret
  exact ⟨rfl, HB.out.2.2.2.2⟩
open Go.ChangeShapes Go.WideShapes Go.ChangeAt
theorem own : ownKnob Try.prog.godebug = none := by kernel_rfl

set_option maxRecDepth 100000 in
theorem lifted (os : Os) (started : os.Started) (H : Type) (enc : TypeId × Value → H) :
    ReturnsInHanded {} Try.checked os 4 .any (Rows.guardFramesSpec.pre6 enc Try.prog Try.f4 Rows.guardFramesRow.domain false) (Rows.guardFramesSpec.post enc Try.prog Try.f4 false true false false) := by
  refine returnsInHanded_of_change (C := Try.checked) own started (by kernel_rfl) Try.func4
    (ChangeSpec.witness6 (enc := enc) (C := Try.checked) false ⟨#[], #[.agg #[.int .i64 0, .int .i64 0], .agg #[.int .i64 0, .int .i64 0], .int .i64 0], []⟩ 8 (by kernel_rfl) (by kernel_rfl) (by kernel_rfl) (by kernel_rfl)) ?_
  intro W base args ds gs before hval0 hW hcnd _
  have hval : ∀ (j : Nat) t v, Try.f4.params[j]? = some t → args[j]? = some v → Value.okWide Try.prog W .any base t v := hval0
  have hW' := hW
  obtain ⟨p, q, hA0, hV, rfl, hfz, hnd⟩ := hW
  have hA : DataW.TrodAll enc Try.prog W 0 (fun _ => true) true Try.f4.params.toList args.toList ds p := hA0
  rw [Try.params4] at hA hval
  obtain ⟨v0, vs0, d0, ds0, p0, q0, hargs, rfl, rfl, h0, r0⟩ := trodAll_cons hA
  obtain ⟨v1, vs1, d1, ds1, p1, q1, rfl, rfl, rfl, h1, r1⟩ := trodAll_cons r0
  obtain ⟨v2, vs2, d2, ds2, p2, q2, rfl, rfl, rfl, h2, r2⟩ := trodAll_cons r1
  obtain ⟨rfl, rfl, rfl⟩ := trodAll_nil r2
  obtain rfl : args = #[v0, v1, v2] := by cases args; simp_all
  obtain ⟨rfl, rfl⟩ := trodVars_none hV
  obtain ⟨x0, y0, rfl, bx0, be0⟩ := open_clock (hval 0 31 v0 rfl rfl) h0
  obtain ⟨x1, y1, rfl, bx1, be1⟩ := open_clock (hval 1 31 v1 rfl rfl) h1
  obtain ⟨a2, rfl, rfl, rfl, w2⟩ := open_int Try.underlying3 (hval 2 3 v2 rfl rfl) h2
  clear hA0 hval0
  try simp only [List.append_nil] at hW'
  try simp only [List.nil_append] at hW'
  have hlt : ∀ x ∈ p0 ++ p1, x.block < W.heap.size := fun x hx => by
    have := hW'.lt x (by simpa using hx)
    simpa using this
  refine (walk x0 y0 x1 y1 a2 (bounds_i64 w2) W).mono fun e W' ⟨he, hg⟩ => ?_
  subst he
  exact ⟨_, rfl, _, _, _, [], _, [], hW', trodAll_cons_mk (shut_bool Try.underlying4 _) trodAll_mk0, trodAll_cons_mk (Below.trod Try.laidOut (by kernel_rfl) (of_decide_eq_true (by kernel_rfl)) h0 (Same.toBelow hg) (fun x hx => hlt x (by simp [hx]))) (trodAll_cons_mk (Below.trod Try.laidOut (by kernel_rfl) (of_decide_eq_true (by kernel_rfl)) h1 (Same.toBelow hg) (fun x hx => hlt x (by simp [hx]))) (trodAll_cons_mk (shut_int Try.underlying3 w2) trodAll_mk0)), rfl, (Same.toBelow hg).frame _, fun h => by cases h⟩

theorem over : Rows.guardFramesRow.holds Try.pinned (OpenSpec.ofChange Rows.guardFramesSpec) :=
  OpenClaim.holds_of_wide 4 Try.f4 rfl rfl rfl rfl rfl rfl rfl ⟨rfl, rfl, rfl, rfl, rfl⟩ rfl rfl rfl rfl rfl (by kernel_rfl) Try.func4 (by kernel_rfl)
    (of_decide_eq_true (by kernel_rfl)) (by unfold Func.isWrapper; first | (rw [if_pos (by decide +kernel)]; kernel_rfl) | (rw [if_neg (by decide +kernel)]; exact ⟨rfl, rfl⟩))
    (fun os started H enc _ => lifted os started H enc)

theorem proved : Rows.GuardFramesSaid :=
  over
end guardFrames
end Go.Proofs.Ytkffmflhonknpaa
