/- ClockReaches: for all clocks, numbers and times the law returns true: a clock shows at least x when it reaches x, and less before; what it shows at any time it has reached by then. No condition on the input. -/
import Derived.Test.YtjjphmmnmdplgaaArgs
namespace Go.Proofs.Ytjjphmmnmdplgaa
open Go.RowKit

namespace clockReaches
/-- The time of its second part: what it shows at t is reached by then. -/
theorem by_then {o d : Int} {t : Int} (t1 : 0 ≤ t) (t2 : t ≤ 1099511627776) {r : Nat} (hr : IsR o d (shS o d t) r) : r ≤ 1099511627776 ∧ (r : Int) ≤ t := by
  have := hr.2 t.toNat (by omega)
  rw [show ((t.toNat : Nat) : Int) = t by omega] at this
  by_cases e : t.toNat < r
  · have := this.1 e; omega
  · omega
theorem showS_yes {o d t : Int} (h : okC o d = true) (t1 : 0 ≤ t) (t2 : t ≤ 1099511627776) : showS o d t = (shS o d t, 0) := by
  unfold showS; rw [if_pos h, if_pos (by simp [timeB, inB]; omega)]
theorem walk (o d : Int) (x : Int) (_hx : -9223372036854775808 ≤ x ∧ x ≤ 9223372036854775807) (t : Int) (_ht : -9223372036854775808 ≤ t ∧ t ≤ 9223372036854775807) (w : World) :
    Calls Try.prog 8 #[.agg #[.int .i64 o, .int .i64 d], .int .i64 x, .int .i64 t] w fun e w' => e = .returned (.bool true) ∧ Same w w' := by
  have HAW := Lib.hid (fun w => awake_any w)
  have h1 := fun w => Show_any o d t w
  cases hok : okC o d with
  | false =>
    have h2 := fun w => Reach_any o d x 0 (fun a => by rw [hok] at a; cases a) w
    rw [show showS o d t = (0, 1) by unfold showS; rw [if_neg (by rw [hok]; decide)]] at h1
    rw [show reachS o d 0 = (0, 1) by unfold reachS; rw [if_neg (by rw [hok]; decide)]] at h2
    have H1 := Lib.hid h1; clear h1
    have H2 := Lib.hid h2; clear h2 hok
    go_enter Try.func8, Try.ntmps8
    go_wp2_with (first
      | (go_at_call 11; (with_reducible refine (HAW.out _).mono ?_); rintro e w1 ⟨rfl, hw⟩; have HB := Lib.hid ((Cx.new w o d 23).keep hw); clear hw; obtain ⟨k0, k1, k2⟩ := HB.out)
      | (go_at_call 12; (with_reducible refine (H1.out _).mono ?_); rintro e w2 ⟨rfl, hw⟩; have HB' := Lib.hid (HB.out.keep hw.toSame); clear hw HB k0 k1 k2; have HB := HB'; clear HB'; obtain ⟨k0, k1, k2⟩ := HB.out)
      | (go_at_call 14; (with_reducible refine (H2.out _).mono ?_); rintro e w2 ⟨rfl, hw⟩; have HB' := Lib.hid (HB.out.keep hw.toSame); clear hw HB k0 k1 k2; have HB := HB'; clear HB'; obtain ⟨k0, k1, k2⟩ := HB.out))
    go_ret
    exact ⟨rfl, HB.out.2.2⟩
  | true =>
    obtain ⟨r, hr⟩ : ∃ r, IsR o d x r := ⟨_, isR_cnt hok x⟩
    have h2 := fun w => Reach_any o d x r (fun _ => hr) w
    rw [show reachS o d r = rchP r from if_pos hok] at h2
    -- the second part
    obtain ⟨u, p, q, hs, hq⟩ : ∃ u : Int × Int, ∃ p : Int × Int, ∃ s : Nat, showS o d t = u ∧ ((u.2 = 0 ∧ (∀ w, Calls Try.prog 14 #[.agg #[.int .i64 o, .int .i64 d], .int .i64 u.1] w fun e w' => e = .returned (.tuple #[.int .i64 s, .int .i64 0]) ∧ Grew w w') ∧ (s : Int) ≤ t) ∨ u.2 = 2) := by
      rcases show_cases o d t with ⟨_, b, hs, _⟩ | ⟨_, b, hs, _⟩ | ⟨a, hs, _⟩
      · obtain ⟨t1, t2⟩ := inB_yes b
        have hc := isR_cnt hok (shS o d t)
        obtain ⟨y1, y2⟩ := by_then t1 t2 hc
        refine ⟨_, (0, 0), _, hs, .inl ⟨rfl, fun w => ?_, y2⟩⟩
        have := Reach_any o d (shS o d t) _ (fun _ => hc) w
        rw [show reachS o d _ = rchP _ from if_pos hok, show rchP _ = (_, 0) from if_pos y1] at this
        exact this
      · exact ⟨_, (0, 0), 0, hs, .inr rfl⟩
      · rw [a] at hok; cases hok
    rw [hs] at h1
    have hub := showS_bd o d t
    rw [hs] at hub
    obtain ⟨u1, u2⟩ := u
    simp only at hq h1 hub
    clear hs
    by_cases hlt : r ≤ 1099511627776
    · rw [show rchP r = ((r : Int), 0) from if_pos hlt] at h2
      have h3 := fun w => Show_any o d (r : Int) w
      rw [showS_yes hok (by omega) (by omega)] at h3
      have hge : x ≤ shS o d r := by
        have := hr.2 r (by omega)
        by_cases e : shS o d r < x
        · have := this.2 e; omega
        · omega
      have hb := shS_bd (t := (r : Int)) hok (by omega) (by omega)
      by_cases h0 : r = 0
      · subst h0
        have h4 := fun w => Show_any o d (-1) w
        rw [show showS o d (-1) = (0, 2) by unfold showS; rw [if_pos hok, if_neg (by decide)]] at h4
        have H4 := Lib.hid h4; clear h4
        simp only [Int.natCast_zero] at h2 h3 hge hb
        generalize shS o d 0 = v at *
        have H2 := Lib.hid h2; clear h2
        have H3 := Lib.hid h3; clear h3 hlt hr hok
        rcases hq with ⟨rfl, hq, hq2⟩ | rfl
        · have HQ := Lib.hid hq; clear hq
          have H1 := Lib.hid h1; clear h1
          go_enter Try.func8, Try.ntmps8
          go_wp2_with (first
            | (go_at_call 11; (with_reducible refine (HAW.out _).mono ?_); rintro e w1 ⟨rfl, hw⟩; have HB := Lib.hid ((Cx.new w o d 23).keep hw); clear hw; obtain ⟨k0, k1, k2⟩ := HB.out)
            | (go_at_call 14; (with_reducible refine (H2.out _).mono ?_); rintro e w2 ⟨rfl, hw⟩; have HB' := Lib.hid (HB.out.keep hw.toSame); clear hw HB k0 k1 k2; have HB := HB'; clear HB'; obtain ⟨k0, k1, k2⟩ := HB.out)
            | (go_at_call 14; (with_reducible refine (HQ.out _).mono ?_); rintro e w2 ⟨rfl, hw⟩; have HB' := Lib.hid (HB.out.keep hw.toSame); clear hw HB k0 k1 k2; have HB := HB'; clear HB'; obtain ⟨k0, k1, k2⟩ := HB.out)
            | (go_at_call 12; (with_reducible refine (H3.out _).mono ?_); rintro e w2 ⟨rfl, hw⟩; have HB' := Lib.hid (HB.out.keep hw.toSame); clear hw HB k0 k1 k2; have HB := HB'; clear HB'; obtain ⟨k0, k1, k2⟩ := HB.out)
            | (go_at_call 12; (with_reducible refine (H4.out _).mono ?_); rintro e w2 ⟨rfl, hw⟩; have HB' := Lib.hid (HB.out.keep hw.toSame); clear hw HB k0 k1 k2; have HB := HB'; clear HB'; obtain ⟨k0, k1, k2⟩ := HB.out)
            | (go_at_call 12; (with_reducible refine (H1.out _).mono ?_); rintro e w2 ⟨rfl, hw⟩; have HB' := Lib.hid (HB.out.keep hw.toSame); clear hw HB k0 k1 k2; have HB := HB'; clear HB'; obtain ⟨k0, k1, k2⟩ := HB.out))
          all_goals go_ret
          all_goals exact ⟨rfl, HB.out.2.2⟩
        · have H1 := Lib.hid h1; clear h1
          go_enter Try.func8, Try.ntmps8
          go_wp2_with (first
            | (go_at_call 11; (with_reducible refine (HAW.out _).mono ?_); rintro e w1 ⟨rfl, hw⟩; have HB := Lib.hid ((Cx.new w o d 23).keep hw); clear hw; obtain ⟨k0, k1, k2⟩ := HB.out)
            | (go_at_call 14; (with_reducible refine (H2.out _).mono ?_); rintro e w2 ⟨rfl, hw⟩; have HB' := Lib.hid (HB.out.keep hw.toSame); clear hw HB k0 k1 k2; have HB := HB'; clear HB'; obtain ⟨k0, k1, k2⟩ := HB.out)
            | (go_at_call 12; (with_reducible refine (H3.out _).mono ?_); rintro e w2 ⟨rfl, hw⟩; have HB' := Lib.hid (HB.out.keep hw.toSame); clear hw HB k0 k1 k2; have HB := HB'; clear HB'; obtain ⟨k0, k1, k2⟩ := HB.out)
            | (go_at_call 12; (with_reducible refine (H4.out _).mono ?_); rintro e w2 ⟨rfl, hw⟩; have HB' := Lib.hid (HB.out.keep hw.toSame); clear hw HB k0 k1 k2; have HB := HB'; clear HB'; obtain ⟨k0, k1, k2⟩ := HB.out)
            | (go_at_call 12; (with_reducible refine (H1.out _).mono ?_); rintro e w2 ⟨rfl, hw⟩; have HB' := Lib.hid (HB.out.keep hw.toSame); clear hw HB k0 k1 k2; have HB := HB'; clear HB'; obtain ⟨k0, k1, k2⟩ := HB.out))
          all_goals go_ret
          all_goals exact ⟨rfl, HB.out.2.2⟩
      · have h4 := fun w => Show_any o d ((r : Int) - 1) w
        rw [showS_yes hok (by omega) (by omega)] at h4
        have hl : shS o d ((r : Int) - 1) < x := by
          have := (hr.2 (r - 1) (by omega)).1 (by omega)
          rwa [show ((r - 1 : Nat) : Int) = (r : Int) - 1 by omega] at this
        have hb2 := shS_bd (t := (r : Int) - 1) hok (by omega) (by omega)
        have hpos : 0 < (r : Int) := by omega
        have hle : (r : Int) ≤ 1099511627776 := by omega
        obtain ⟨R, hR⟩ : ∃ R : Int, R = (r : Int) := ⟨_, rfl⟩
        rw [← hR] at h2 h3 h4 hl hge hb hb2 hpos hle
        generalize shS o d R = v at *
        generalize shS o d (R - 1) = v' at *
        have H2 := Lib.hid h2; clear h2
        have H4 := Lib.hid h4; clear h4
        have H3 := Lib.hid h3; clear h3 hlt hr hok hR h0
        rcases hq with ⟨rfl, hq, hq2⟩ | rfl
        · have HQ := Lib.hid hq; clear hq
          have H1 := Lib.hid h1; clear h1
          go_enter Try.func8, Try.ntmps8
          go_wp2_with (first
            | (go_at_call 11; (with_reducible refine (HAW.out _).mono ?_); rintro e w1 ⟨rfl, hw⟩; have HB := Lib.hid ((Cx.new w o d 23).keep hw); clear hw; obtain ⟨k0, k1, k2⟩ := HB.out)
            | (go_at_call 14; (with_reducible refine (H2.out _).mono ?_); rintro e w2 ⟨rfl, hw⟩; have HB' := Lib.hid (HB.out.keep hw.toSame); clear hw HB k0 k1 k2; have HB := HB'; clear HB'; obtain ⟨k0, k1, k2⟩ := HB.out)
            | (go_at_call 14; (with_reducible refine (HQ.out _).mono ?_); rintro e w2 ⟨rfl, hw⟩; have HB' := Lib.hid (HB.out.keep hw.toSame); clear hw HB k0 k1 k2; have HB := HB'; clear HB'; obtain ⟨k0, k1, k2⟩ := HB.out)
            | (go_at_call 12; (with_reducible refine (H3.out _).mono ?_); rintro e w2 ⟨rfl, hw⟩; have HB' := Lib.hid (HB.out.keep hw.toSame); clear hw HB k0 k1 k2; have HB := HB'; clear HB'; obtain ⟨k0, k1, k2⟩ := HB.out)
            | (go_at_call 12; (with_reducible refine (H4.out _).mono ?_); rintro e w2 ⟨rfl, hw⟩; have HB' := Lib.hid (HB.out.keep hw.toSame); clear hw HB k0 k1 k2; have HB := HB'; clear HB'; obtain ⟨k0, k1, k2⟩ := HB.out)
            | (go_at_call 12; (with_reducible refine (H1.out _).mono ?_); rintro e w2 ⟨rfl, hw⟩; have HB' := Lib.hid (HB.out.keep hw.toSame); clear hw HB k0 k1 k2; have HB := HB'; clear HB'; obtain ⟨k0, k1, k2⟩ := HB.out))
          all_goals go_ret
          all_goals exact ⟨rfl, HB.out.2.2⟩
        · have H1 := Lib.hid h1; clear h1
          go_enter Try.func8, Try.ntmps8
          go_wp2_with (first
            | (go_at_call 11; (with_reducible refine (HAW.out _).mono ?_); rintro e w1 ⟨rfl, hw⟩; have HB := Lib.hid ((Cx.new w o d 23).keep hw); clear hw; obtain ⟨k0, k1, k2⟩ := HB.out)
            | (go_at_call 14; (with_reducible refine (H2.out _).mono ?_); rintro e w2 ⟨rfl, hw⟩; have HB' := Lib.hid (HB.out.keep hw.toSame); clear hw HB k0 k1 k2; have HB := HB'; clear HB'; obtain ⟨k0, k1, k2⟩ := HB.out)
            | (go_at_call 12; (with_reducible refine (H3.out _).mono ?_); rintro e w2 ⟨rfl, hw⟩; have HB' := Lib.hid (HB.out.keep hw.toSame); clear hw HB k0 k1 k2; have HB := HB'; clear HB'; obtain ⟨k0, k1, k2⟩ := HB.out)
            | (go_at_call 12; (with_reducible refine (H4.out _).mono ?_); rintro e w2 ⟨rfl, hw⟩; have HB' := Lib.hid (HB.out.keep hw.toSame); clear hw HB k0 k1 k2; have HB := HB'; clear HB'; obtain ⟨k0, k1, k2⟩ := HB.out)
            | (go_at_call 12; (with_reducible refine (H1.out _).mono ?_); rintro e w2 ⟨rfl, hw⟩; have HB' := Lib.hid (HB.out.keep hw.toSame); clear hw HB k0 k1 k2; have HB := HB'; clear HB'; obtain ⟨k0, k1, k2⟩ := HB.out))
          all_goals go_ret
          all_goals exact ⟨rfl, HB.out.2.2⟩
    · rw [show rchP r = (0, 15) from if_neg hlt] at h2
      have H2 := Lib.hid h2; clear h2 hlt hr hok
      rcases hq with ⟨rfl, hq, hq2⟩ | rfl
      · have HQ := Lib.hid hq; clear hq
        have H1 := Lib.hid h1; clear h1
        go_enter Try.func8, Try.ntmps8
        go_wp2_with (first
          | (go_at_call 11; (with_reducible refine (HAW.out _).mono ?_); rintro e w1 ⟨rfl, hw⟩; have HB := Lib.hid ((Cx.new w o d 23).keep hw); clear hw; obtain ⟨k0, k1, k2⟩ := HB.out)
          | (go_at_call 14; (with_reducible refine (H2.out _).mono ?_); rintro e w2 ⟨rfl, hw⟩; have HB' := Lib.hid (HB.out.keep hw.toSame); clear hw HB k0 k1 k2; have HB := HB'; clear HB'; obtain ⟨k0, k1, k2⟩ := HB.out)
          | (go_at_call 14; (with_reducible refine (HQ.out _).mono ?_); rintro e w2 ⟨rfl, hw⟩; have HB' := Lib.hid (HB.out.keep hw.toSame); clear hw HB k0 k1 k2; have HB := HB'; clear HB'; obtain ⟨k0, k1, k2⟩ := HB.out)
          | (go_at_call 12; (with_reducible refine (H1.out _).mono ?_); rintro e w2 ⟨rfl, hw⟩; have HB' := Lib.hid (HB.out.keep hw.toSame); clear hw HB k0 k1 k2; have HB := HB'; clear HB'; obtain ⟨k0, k1, k2⟩ := HB.out))
        all_goals go_ret
        all_goals exact ⟨rfl, HB.out.2.2⟩
      · have H1 := Lib.hid h1; clear h1
        go_enter Try.func8, Try.ntmps8
        go_wp2_with (first
          | (go_at_call 11; (with_reducible refine (HAW.out _).mono ?_); rintro e w1 ⟨rfl, hw⟩; have HB := Lib.hid ((Cx.new w o d 23).keep hw); clear hw; obtain ⟨k0, k1, k2⟩ := HB.out)
          | (go_at_call 14; (with_reducible refine (H2.out _).mono ?_); rintro e w2 ⟨rfl, hw⟩; have HB' := Lib.hid (HB.out.keep hw.toSame); clear hw HB k0 k1 k2; have HB := HB'; clear HB'; obtain ⟨k0, k1, k2⟩ := HB.out)
          | (go_at_call 12; (with_reducible refine (H1.out _).mono ?_); rintro e w2 ⟨rfl, hw⟩; have HB' := Lib.hid (HB.out.keep hw.toSame); clear hw HB k0 k1 k2; have HB := HB'; clear HB'; obtain ⟨k0, k1, k2⟩ := HB.out))
        all_goals go_ret
        all_goals exact ⟨rfl, HB.out.2.2⟩
open Go.ChangeShapes Go.WideShapes Go.ChangeAt
theorem own : ownKnob Try.prog.godebug = none := by kernel_rfl

set_option maxRecDepth 100000 in
theorem lifted (os : Os) (started : os.Started) (H : Type) (enc : TypeId × Value → H) :
    ReturnsInHanded {} Try.checked os 8 .any (Rows.clockReachesSpec.pre6 enc Try.prog Try.f8 Rows.clockReachesRow.domain false) (Rows.clockReachesSpec.post enc Try.prog Try.f8 false true false false) := by
  refine returnsInHanded_of_change (C := Try.checked) own started (by kernel_rfl) Try.func8
    (ChangeSpec.witness6 (enc := enc) (C := Try.checked) false ⟨#[], #[.agg #[.int .i64 0, .int .i64 0], .int .i64 0, .int .i64 0], []⟩ 8 (by kernel_rfl) (by kernel_rfl) (by kernel_rfl) (by kernel_rfl)) ?_
  intro W base args ds gs before hval0 hW hcnd _
  have hval : ∀ (j : Nat) t v, Try.f8.params[j]? = some t → args[j]? = some v → Value.okWide Try.prog W .any base t v := hval0
  have hW' := hW
  obtain ⟨p, q, hA0, hV, rfl, hfz, hnd⟩ := hW
  have hA : DataW.TrodAll enc Try.prog W 0 (fun _ => true) true Try.f8.params.toList args.toList ds p := hA0
  rw [Try.params8] at hA hval
  obtain ⟨v0, vs0, d0, ds0, p0, q0, hargs, rfl, rfl, h0, r0⟩ := trodAll_cons hA
  obtain ⟨v1, vs1, d1, ds1, p1, q1, rfl, rfl, rfl, h1, r1⟩ := trodAll_cons r0
  obtain ⟨v2, vs2, d2, ds2, p2, q2, rfl, rfl, rfl, h2, r2⟩ := trodAll_cons r1
  obtain ⟨rfl, rfl, rfl⟩ := trodAll_nil r2
  obtain rfl : args = #[v0, v1, v2] := by cases args; simp_all
  obtain ⟨rfl, rfl⟩ := trodVars_none hV
  obtain ⟨x0, y0, rfl, bx0, be0⟩ := open_clock (hval 0 23 v0 rfl rfl) h0
  obtain ⟨a1, rfl, rfl, rfl, w1⟩ := open_int Try.underlying3 (hval 1 3 v1 rfl rfl) h1
  obtain ⟨a2, rfl, rfl, rfl, w2⟩ := open_int Try.underlying3 (hval 2 3 v2 rfl rfl) h2
  clear hA0 hval0
  try simp only [List.append_nil] at hW'
  try simp only [List.nil_append] at hW'
  have hlt : ∀ x ∈ p0, x.block < W.heap.size := fun x hx => by
    have := hW'.lt x (by simpa using hx)
    simpa using this
  refine (walk x0 y0 a1 (bounds_i64 w1) a2 (bounds_i64 w2) W).mono fun e W' ⟨he, hg⟩ => ?_
  subst he
  exact ⟨_, rfl, _, _, _, [], _, [], hW', trodAll_cons_mk (shut_bool Try.underlying4 _) trodAll_mk0, trodAll_cons_mk (Below.trod Try.laidOut (by kernel_rfl) (of_decide_eq_true (by kernel_rfl)) h0 (Same.toBelow hg) (fun x hx => hlt x (by simp [hx]))) (trodAll_cons_mk (shut_int Try.underlying3 w1) (trodAll_cons_mk (shut_int Try.underlying3 w2) trodAll_mk0)), rfl, (Same.toBelow hg).frame _, fun h => by cases h⟩

theorem over : Rows.clockReachesRow.holds Try.pinned (OpenSpec.ofChange Rows.clockReachesSpec) :=
  OpenClaim.holds_of_wide 8 Try.f8 rfl rfl rfl rfl rfl rfl rfl ⟨rfl, rfl, rfl, rfl, rfl⟩ rfl rfl rfl rfl rfl (by kernel_rfl) Try.func8 (by kernel_rfl)
    (of_decide_eq_true (by kernel_rfl)) (by unfold Func.isWrapper; first | (rw [if_pos (by decide +kernel)]; kernel_rfl) | (rw [if_neg (by decide +kernel)]; exact ⟨rfl, rfl⟩))
    (fun os started H enc _ => lifted os started H enc)

theorem proved : Rows.ClockReachesSaid :=
  over
end clockReaches
end Go.Proofs.Ytjjphmmnmdplgaa
