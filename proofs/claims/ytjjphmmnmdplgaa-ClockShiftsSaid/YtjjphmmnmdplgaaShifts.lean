/- ClockShifts: for all clocks, numbers and times the law returns true: a clock that is adjusted shows that much more at all times, and being adjusted back it is the same one; differences of clocks are those of what they show. No condition on the input. -/
import Derived.Test.YtjjphmmnmdplgaaArgsB
namespace Go.Proofs.Ytjjphmmnmdplgaa
open Go.RowKit Go.Lib Go.Sort

namespace clockShifts
theorem sh_shift (o d k t : Int) : shS (o + k) d t = shS o d t + k := by unfold shS; omega
set_option maxHeartbeats 1600000 in
/-- The clock is not adjusted, or the time is none. -/
theorem outer (o d o' d' k t a1 a2 a3 x f m g n h z i : Int) (hin : (a3 == 0) = false ∨ (a3 = 0 ∧ (f == 0) = false)) (hout : ((g != 0) = true ∧ m = 0 ∧ n = 0 ∧ h = g) ∨ (g = 0 ∧ h = 0 ∧ f = 0 ∧ i = 0 ∧ m = z - x ∧ n = -m ∧ -10000000000000 ≤ x ∧ x ≤ 10000000000000 ∧ -10000000000000 ≤ z ∧ z ≤ 10000000000000)) (w : World)
    (h1 : ∀ w, Calls Try.prog 26 #[.agg #[.int .i64 o, .int .i64 d], .int .i64 k] w fun e w' => e = .returned (.tuple #[.agg #[.int .i64 a1, .int .i64 a2], .int .i64 a3]) ∧ Same w w')
    (h2 : ∀ w, Calls Try.prog 12 #[.agg #[.int .i64 o, .int .i64 d], .int .i64 t] w fun e w' => e = .returned (.tuple #[.int .i64 x, .int .i64 f]) ∧ Grew w w')
    (h3 : ∀ w, Calls Try.prog 28 #[.agg #[.int .i64 o, .int .i64 d], .agg #[.int .i64 o', .int .i64 d'], .int .i64 t] w fun e w' => e = .returned (.tuple #[.int .i64 m, .int .i64 g]) ∧ Grew w w')
    (h4 : ∀ w, Calls Try.prog 28 #[.agg #[.int .i64 o', .int .i64 d'], .agg #[.int .i64 o, .int .i64 d], .int .i64 t] w fun e w' => e = .returned (.tuple #[.int .i64 n, .int .i64 h]) ∧ Grew w w')
    (h5 : ∀ w, Calls Try.prog 12 #[.agg #[.int .i64 o', .int .i64 d'], .int .i64 t] w fun e w' => e = .returned (.tuple #[.int .i64 z, .int .i64 i]) ∧ Grew w w') :
    Calls Try.prog 10 #[.agg #[.int .i64 o, .int .i64 d], .agg #[.int .i64 o', .int .i64 d'], .agg #[.int .i64 k, .int .i64 t]] w fun e w' => e = .returned (.bool true) ∧ Same w w' := by
  have HAW := Lib.hid (fun w => awake_any w)
  have H1 := Lib.hid h1; clear h1
  have H2 := Lib.hid h2; clear h2
  have H3 := Lib.hid h3; clear h3
  have H4 := Lib.hid h4; clear h4
  have H5 := Lib.hid h5; clear h5
  rcases hin with hA | ⟨rfl, hF⟩ <;> rcases hout with ⟨hg, rfl, rfl, rfl⟩ | ⟨rfl, rfl, rfl, rfl, rfl, rfl, x1, x2, z1, z2⟩
  all_goals first
    | (exfalso; simp at hF; done)
    | (go_enter Try.func10, Try.ntmps10
       go_wp2_with (go_at_call 11; (with_reducible refine (HAW.out _).mono ?_); rintro e w1 ⟨rfl, hw⟩; have HB := Lib.hid ((Dx.new w o d o' d' k t).keep hw); clear hw; obtain ⟨k0, k1, k2, k3, k4, k5, k6⟩ := HB.out)
       go_quiet (fail)
       go_wp2_with (first
         | (go_at_call 26; (with_reducible refine (H1.out _).mono ?_); rintro e w2 ⟨rfl, hw⟩; have HB' := Lib.hid (HB.out.keep (((Same.refl _).drewN _).trans hw)); clear hw HB k0 k1 k2 k3 k4 k5 k6; have HB := HB'; clear HB'; obtain ⟨k0, k1, k2, k3, k4, k5, k6⟩ := HB.out.under a1 a2)
         | (go_at_call 12; (with_reducible refine (H2.out _).mono ?_); rintro e w3 ⟨rfl, hw⟩; have HB' := Lib.hid (HB.out.keep (((Same.refl _).alloc _).trans hw.toSame)); clear hw HB k0 k1 k2 k3 k4 k5 k6; have HB := HB'; clear HB'; obtain ⟨k0, k1, k2, k3, k4, k5, k6⟩ := HB.out)
         | (go_at_call 28; (with_reducible refine (H3.out _).mono ?_); rintro e w4 ⟨rfl, hw⟩; have HB' := Lib.hid (HB.out.keep hw.toSame); clear hw HB k0 k1 k2 k3 k4 k5 k6; have HB := HB'; clear HB'; obtain ⟨k0, k1, k2, k3, k4, k5, k6⟩ := HB.out)
         | (go_at_call 28; (with_reducible refine (H4.out _).mono ?_); rintro e w5 ⟨rfl, hw⟩; have HB' := Lib.hid (HB.out.keep hw.toSame); clear hw HB k0 k1 k2 k3 k4 k5 k6; have HB := HB'; clear HB'; obtain ⟨k0, k1, k2, k3, k4, k5, k6⟩ := HB.out)
         | (go_at_call 12; (with_reducible refine (H5.out _).mono ?_); rintro e w6 ⟨rfl, hw⟩; have HB' := Lib.hid (HB.out.keep hw.toSame); clear hw HB k0 k1 k2 k3 k4 k5 k6; have HB := HB'; clear HB'; obtain ⟨k0, k1, k2, k3, k4, k5, k6⟩ := HB.out))
       all_goals go_ret
       all_goals exact ⟨rfl, HB.out.2.2.2.2.2.2⟩)
set_option maxHeartbeats 1600000 in
/-- The clock is adjusted, and it shows the time. -/
theorem inner (o d o' d' k t x m g n h z i : Int) (hk : -2199023255552 ≤ k ∧ k ≤ 2199023255552) (hx : -10000000000000 ≤ x ∧ x ≤ 10000000000000) (hout : ((g != 0) = true ∧ m = 0 ∧ n = 0 ∧ h = g) ∨ (g = 0 ∧ h = 0 ∧ i = 0 ∧ m = z - x ∧ n = -m ∧ -10000000000000 ≤ z ∧ z ≤ 10000000000000)) (w : World)
    (h1 : ∀ w, Calls Try.prog 26 #[.agg #[.int .i64 o, .int .i64 d], .int .i64 k] w fun e w' => e = .returned (.tuple #[.agg #[.int .i64 (o + k), .int .i64 d], .int .i64 0]) ∧ Same w w')
    (h2 : ∀ w, Calls Try.prog 12 #[.agg #[.int .i64 o, .int .i64 d], .int .i64 t] w fun e w' => e = .returned (.tuple #[.int .i64 x, .int .i64 0]) ∧ Grew w w')
    (h3 : ∀ w, Calls Try.prog 28 #[.agg #[.int .i64 o, .int .i64 d], .agg #[.int .i64 o', .int .i64 d'], .int .i64 t] w fun e w' => e = .returned (.tuple #[.int .i64 m, .int .i64 g]) ∧ Grew w w')
    (h4 : ∀ w, Calls Try.prog 28 #[.agg #[.int .i64 o', .int .i64 d'], .agg #[.int .i64 o, .int .i64 d], .int .i64 t] w fun e w' => e = .returned (.tuple #[.int .i64 n, .int .i64 h]) ∧ Grew w w')
    (h5 : ∀ w, Calls Try.prog 12 #[.agg #[.int .i64 o', .int .i64 d'], .int .i64 t] w fun e w' => e = .returned (.tuple #[.int .i64 z, .int .i64 i]) ∧ Grew w w')
    (h6 : ∀ w, Calls Try.prog 12 #[.agg #[.int .i64 (o + k), .int .i64 d], .int .i64 t] w fun e w' => e = .returned (.tuple #[.int .i64 (x + k), .int .i64 0]) ∧ Grew w w')
    (h7 : ∀ w, Calls Try.prog 26 #[.agg #[.int .i64 (o + k), .int .i64 d], .int .i64 (-k)] w fun e w' => e = .returned (.tuple #[.agg #[.int .i64 o, .int .i64 d], .int .i64 0]) ∧ Same w w') :
    Calls Try.prog 10 #[.agg #[.int .i64 o, .int .i64 d], .agg #[.int .i64 o', .int .i64 d'], .agg #[.int .i64 k, .int .i64 t]] w fun e w' => e = .returned (.bool true) ∧ Same w w' := by
  have HAW := Lib.hid (fun w => awake_any w)
  have H1 := Lib.hid h1; clear h1
  have H2 := Lib.hid h2; clear h2
  have H3 := Lib.hid h3; clear h3
  have H4 := Lib.hid h4; clear h4
  have H5 := Lib.hid h5; clear h5
  have H6 := Lib.hid h6; clear h6
  have H7 := Lib.hid h7; clear h7
  obtain ⟨k1', k2'⟩ := hk
  obtain ⟨x1, x2⟩ := hx
  rcases hout with ⟨hg, rfl, rfl, rfl⟩ | ⟨rfl, rfl, rfl, rfl, rfl, z1, z2⟩
  all_goals
    go_enter Try.func10, Try.ntmps10
    go_wp2_with (go_at_call 11; (with_reducible refine (HAW.out _).mono ?_); rintro e w1 ⟨rfl, hw⟩; have HB := Lib.hid ((Dx.new w o d o' d' k t).keep hw); clear hw; obtain ⟨k0, k1, k2, k3, k4, k5, k6⟩ := HB.out)
    go_quiet (fail)
    go_wp2_with (first
      | (go_at_call 26; (with_reducible refine (H1.out _).mono ?_); rintro e w2 ⟨rfl, hw⟩; have HB' := Lib.hid (HB.out.keep (((Same.refl _).drewN _).trans hw)); clear hw HB k0 k1 k2 k3 k4 k5 k6; have HB := HB'; clear HB'; obtain ⟨k0, k1, k2, k3, k4, k5, k6⟩ := HB.out.under (o + k) d)
      | (go_at_call 12; (with_reducible refine (H2.out _).mono ?_); rintro e w3 ⟨rfl, hw⟩; have HB' := Lib.hid ((HB.out.under (o + k) d).keep hw.toSame); obtain ⟨c0, c1⟩ := box_new hw.toSame; clear hw HB k0 k1 k2 k3 k4 k5 k6; have HB := HB'; clear HB'; obtain ⟨k0, k1, k2, k3, k4, k5, k6⟩ := HB.out)
      | (go_at_call 12; (with_reducible refine (H6.out _).mono ?_); rintro e w4 ⟨rfl, hw⟩; have HB' := Lib.hid (HB.out.keep hw.toSame); have c2 := hw.cell c0; have c3 := hw.cell c1; clear hw HB k0 k1 k2 k3 k4 k5 k6 c0 c1; have HB := HB'; clear HB'; obtain ⟨k0, k1, k2, k3, k4, k5, k6⟩ := HB.out)
      | (go_at_call 26; (with_reducible refine (H7.out _).mono ?_); rintro e w5 ⟨rfl, hw⟩; have HB' := Lib.hid (HB.out.keep hw); clear hw HB k0 k1 k2 k3 k4 k5 k6 c2 c3; have HB := HB'; clear HB'; obtain ⟨k0, k1, k2, k3, k4, k5, k6⟩ := HB.out.under o d)
      | (go_at_call 28; (with_reducible refine (H3.out _).mono ?_); rintro e w6 ⟨rfl, hw⟩; have HB' := Lib.hid (HB.out.keep (((Same.refl _).alloc _).trans hw.toSame)); clear hw HB k0 k1 k2 k3 k4 k5 k6; have HB := HB'; clear HB'; obtain ⟨k0, k1, k2, k3, k4, k5, k6⟩ := HB.out)
      | (go_at_call 28; (with_reducible refine (H4.out _).mono ?_); rintro e w7 ⟨rfl, hw⟩; have HB' := Lib.hid (HB.out.keep hw.toSame); clear hw HB k0 k1 k2 k3 k4 k5 k6; have HB := HB'; clear HB'; obtain ⟨k0, k1, k2, k3, k4, k5, k6⟩ := HB.out)
      | (go_at_call 12; (with_reducible refine (H5.out _).mono ?_); rintro e w8 ⟨rfl, hw⟩; have HB' := Lib.hid (HB.out.keep hw.toSame); clear hw HB k0 k1 k2 k3 k4 k5 k6; have HB := HB'; clear HB'; obtain ⟨k0, k1, k2, k3, k4, k5, k6⟩ := HB.out))
    all_goals go_ret
    all_goals exact ⟨rfl, HB.out.2.2.2.2.2.2⟩
theorem walk (o d o' d' k t : Int) (_hk : i64 k) (_ht : i64 t) (w : World) :
    Calls Try.prog 10 #[.agg #[.int .i64 o, .int .i64 d], .agg #[.int .i64 o', .int .i64 d'], .agg #[.int .i64 k, .int .i64 t]] w fun e w' => e = .returned (.bool true) ∧ Same w w' := by
  have h1 := fun w => Adjust_any o d k w
  have h2 := fun w => Show_any o d t w
  have h3 := fun w => Apart_any o d o' d' t w
  have h4 := fun w => Apart_any o' d' o d t w
  have h5 := fun w => Show_any o' d' t w
  by_cases ha : adjB o d k = true ∧ timeB t = true
  · obtain ⟨ha, ht⟩ := ha
    have hb := ha
    unfold adjB at hb
    rw [Bool.and_eq_true] at hb
    obtain ⟨hok, hi⟩ := hb
    obtain ⟨⟨o1, o2⟩, d1, d2⟩ := okC_of hok
    obtain ⟨i1, i2⟩ := inB_yes hi
    obtain ⟨t1, t2⟩ := inB_yes ht
    have hok2 : okC (o + k) d = true := by simp [okC, inB]; omega
    have ha2 : adjB (o + k) d (-k) = true := by unfold adjB; rw [hok2]; simp [inB]; omega
    have h6 := fun w => Show_any (o + k) d t w
    have h7 := fun w => Adjust_any (o + k) d (-k) w
    have bx := shS_bd hok t1 t2
    rw [show adjS o d k = (o + k, d, 0) from if_pos ha] at h1
    rw [show showS o d t = (shS o d t, 0) by unfold showS; rw [if_pos hok, if_pos ht]] at h2
    rw [show showS (o + k) d t = (shS o d t + k, 0) by unfold showS; rw [if_pos hok2, if_pos ht, sh_shift]] at h6
    rw [show adjS (o + k) d (-k) = (o, d, 0) by unfold adjS; rw [if_pos ha2]; simp; omega] at h7
    cases hp : okC o' d' with
    | true =>
      have bz := shS_bd hp t1 t2
      rw [show apS o d o' d' t = (shS o' d' t - shS o d t, 0) by unfold apS; rw [if_pos hok, if_pos hp, if_pos ht]] at h3
      rw [show apS o' d' o d t = (-(shS o' d' t - shS o d t), 0) by unfold apS; rw [if_pos hp, if_pos hok, if_pos ht]; simp; omega] at h4
      rw [show showS o' d' t = (shS o' d' t, 0) by unfold showS; rw [if_pos hp, if_pos ht]] at h5
      exact inner o d o' d' k t (shS o d t) _ _ _ _ _ _ ⟨by omega, by omega⟩ ⟨by omega, by omega⟩ (.inr ⟨rfl, rfl, rfl, rfl, rfl, by omega, by omega⟩) w h1 h2 h3 h4 h5 h6 h7
    | false =>
      rw [show apS o d o' d' t = (0, 1) by unfold apS; rw [if_pos hok, if_neg (by rw [hp]; decide)]] at h3
      rw [show apS o' d' o d t = (0, 1) by unfold apS; rw [if_neg (by rw [hp]; decide)]] at h4
      exact inner o d o' d' k t (shS o d t) _ _ _ _ _ _ ⟨by omega, by omega⟩ ⟨by omega, by omega⟩ (.inl ⟨rfl, rfl, rfl, rfl⟩) w h1 h2 h3 h4 h5 h6 h7
  · have hin : ((adjS o d k).2.2 == 0) = false ∨ ((adjS o d k).2.2 = 0 ∧ ((showS o d t).2 == 0) = false) := by
      by_cases a : adjB o d k = true
      · right
        have ht : timeB t = false := by
          cases e : timeB t with
          | true => exact absurd ⟨a, e⟩ ha
          | false => rfl
        refine ⟨by rw [show adjS o d k = _ from if_pos a], ?_⟩
        rcases show_cases o d t with ⟨_, b, _⟩ | ⟨_, _, hs, _⟩ | ⟨_, hs, _⟩
        · rw [b] at ht; cases ht
        · rw [hs]; rfl
        · rw [hs]; rfl
      · left
        rw [show adjS o d k = _ from if_neg a]; rfl
    refine outer o d o' d' k t _ _ _ _ _ _ _ _ _ _ _ hin ?_ w h1 h2 h3 h4 h5
    rcases ap_cases o d o' d' t with ⟨a, b, c, hs⟩ | ⟨a, b, c, hs⟩ | ⟨a, b, hs⟩ | ⟨a, hs⟩
    · obtain ⟨t1, t2⟩ := inB_yes c
      have bx := shS_bd a t1 t2
      have bz := shS_bd b t1 t2
      right
      rw [hs, show apS o' d' o d t = (-(shS o' d' t - shS o d t), 0) by unfold apS; rw [if_pos b, if_pos a, if_pos c]; simp; omega,
        show showS o d t = (shS o d t, 0) by unfold showS; rw [if_pos a, if_pos c], show showS o' d' t = (shS o' d' t, 0) by unfold showS; rw [if_pos b, if_pos c]]
      exact ⟨rfl, rfl, rfl, rfl, rfl, rfl, by simp only []; omega, by simp only []; omega, by simp only []; omega, by simp only []; omega⟩
    · left
      rw [hs, show apS o' d' o d t = (0, 2) by unfold apS; rw [if_pos b, if_pos a, if_neg (by rw [c]; decide)]]
      exact ⟨rfl, rfl, rfl, rfl⟩
    · left
      rw [hs, show apS o' d' o d t = (0, 1) by unfold apS; rw [if_neg (by rw [b]; decide)]]
      exact ⟨rfl, rfl, rfl, rfl⟩
    · left
      have : apS o' d' o d t = (0, 1) := by unfold apS; rw [a]; cases okC o' d' <;> simp
      rw [hs, this]
      exact ⟨rfl, rfl, rfl, rfl⟩
open Go.ChangeShapes Go.WideShapes Go.ChangeAt
theorem own : ownKnob Try.prog.godebug = none := by kernel_rfl

set_option maxRecDepth 100000 in
theorem lifted (os : Os) (started : os.Started) (H : Type) (enc : TypeId × Value → H) :
    ReturnsInHanded {} Try.checked os 10 .any (Rows.clockShiftsSpec.pre6 enc Try.prog Try.f10 Rows.clockShiftsRow.domain false) (Rows.clockShiftsSpec.post enc Try.prog Try.f10 false true false false) := by
  refine returnsInHanded_of_change (C := Try.checked) own started (by kernel_rfl) Try.func10
    (ChangeSpec.witness6 (enc := enc) (C := Try.checked) false ⟨#[], #[.agg #[.int .i64 0, .int .i64 0], .agg #[.int .i64 0, .int .i64 0], .agg #[.int .i64 0, .int .i64 0]], []⟩ 8 (by kernel_rfl) (by kernel_rfl) (by kernel_rfl) (by kernel_rfl)) ?_
  intro W base args ds gs before hval0 hW hcnd _
  have hval : ∀ (j : Nat) t v, Try.f10.params[j]? = some t → args[j]? = some v → Value.okWide Try.prog W .any base t v := hval0
  have hW' := hW
  obtain ⟨p, q, hA0, hV, rfl, hfz, hnd⟩ := hW
  have hA : DataW.TrodAll enc Try.prog W 0 (fun _ => true) true Try.f10.params.toList args.toList ds p := hA0
  rw [Try.params10] at hA hval
  obtain ⟨v0, vs0, d0, ds0, p0, q0, hargs, rfl, rfl, h0, r0⟩ := trodAll_cons hA
  obtain ⟨v1, vs1, d1, ds1, p1, q1, rfl, rfl, rfl, h1, r1⟩ := trodAll_cons r0
  obtain ⟨v2, vs2, d2, ds2, p2, q2, rfl, rfl, rfl, h2, r2⟩ := trodAll_cons r1
  obtain ⟨rfl, rfl, rfl⟩ := trodAll_nil r2
  obtain rfl : args = #[v0, v1, v2] := by cases args; simp_all
  obtain ⟨rfl, rfl⟩ := trodVars_none hV
  obtain ⟨x0, y0, rfl, bx0, be0⟩ := open_clock (hval 0 23 v0 rfl rfl) h0
  obtain ⟨x1, y1, rfl, bx1, be1⟩ := open_clock (hval 1 23 v1 rfl rfl) h1
  obtain ⟨x2, y2, rfl, bx2, be2⟩ := open_a2 (hval 2 33 v2 rfl rfl) h2
  clear hA0 hval0
  try simp only [List.append_nil] at hW'
  try simp only [List.nil_append] at hW'
  have hlt : ∀ x ∈ p0 ++ p1 ++ p2, x.block < W.heap.size := fun x hx => by
    have := hW'.lt x (by simpa using hx)
    simpa using this
  refine (walk x0 y0 x1 y1 x2 y2 bx2 be2 W).mono fun e W' ⟨he, hg⟩ => ?_
  subst he
  exact ⟨_, rfl, _, _, _, [], _, [], hW', trodAll_cons_mk (shut_bool Try.underlying4 _) trodAll_mk0, trodAll_cons_mk (Below.trod Try.laidOut (by kernel_rfl) (of_decide_eq_true (by kernel_rfl)) h0 (Same.toBelow hg) (fun x hx => hlt x (by simp [hx]))) (trodAll_cons_mk (Below.trod Try.laidOut (by kernel_rfl) (of_decide_eq_true (by kernel_rfl)) h1 (Same.toBelow hg) (fun x hx => hlt x (by simp [hx]))) (trodAll_cons_mk (Below.trod Try.laidOut (by kernel_rfl) (of_decide_eq_true (by kernel_rfl)) h2 (Same.toBelow hg) (fun x hx => hlt x (by simp [hx]))) trodAll_mk0)), rfl, (Same.toBelow hg).frame _, fun h => by cases h⟩

theorem over : Rows.clockShiftsRow.holds Try.pinned (OpenSpec.ofChange Rows.clockShiftsSpec) :=
  OpenClaim.holds_of_wide 10 Try.f10 rfl rfl rfl rfl rfl rfl rfl ⟨rfl, rfl, rfl, rfl, rfl⟩ rfl rfl rfl rfl rfl (by kernel_rfl) Try.func10 (by kernel_rfl)
    (of_decide_eq_true (by kernel_rfl)) (by unfold Func.isWrapper; first | (rw [if_pos (by decide +kernel)]; kernel_rfl) | (rw [if_neg (by decide +kernel)]; exact ⟨rfl, rfl⟩))
    (fun os started H enc _ => lifted os started H enc)

theorem proved : Rows.ClockShiftsSaid :=
  over
end clockShifts
end Go.Proofs.Ytjjphmmnmdplgaa
