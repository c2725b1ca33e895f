/- ClockOwn: for all clocks and slots the law returns true: what is sent by a clock begins within the window of the same clock, behind the beginning of the slot, and before the next slot begins. No condition on the input. -/
import Derived.Test.YtjjphmmnmdplgaaSlots
namespace Go.Proofs.Ytjjphmmnmdplgaa
open Go.RowKit

namespace clockOwn
theorem isR_le {o d x x' : Int} {r r' : Nat} (h : IsR o d x r) (h' : IsR o d x' r') (hx : x ≤ x') : r ≤ r' := by
  by_cases e : r' < r
  · have := (h.2 r' (by have := h.1; omega)).1 e
    have := (h'.2 r' (by have := h.1; omega)).2 (by omega)
    omega
  · omega
theorem isR_step {o d x x' : Int} {r r' : Nat} (hok : okC o d = true) (h : IsR o d x r) (h' : IsR o d x' r') (hx : x' + 2 ≤ x) (h0 : 0 < r) (hr : r ≤ 1099511627776) : r' < r := by
  have a : ¬ shS o d r < x := fun e => by have := (h.2 r (by omega)).2 e; omega
  have b := (sh_step hok ((r - 1 : Nat) : Int)).2
  rw [show ((r - 1 : Nat) : Int) + 1 = (r : Int) by omega] at b
  by_cases e : r - 1 < r'
  · have := (h'.2 (r - 1) (by omega)).1 e
    omega
  · omega
theorem isR_zero {o d x : Int} (h : IsR o d x 0) : x ≤ shS o d 0 := by
  have : ¬ shS o d ((0 : Nat) : Int) < x := fun e => by have := (h.2 0 (by decide)).2 e; omega
  simpa using this
theorem refused (o d n : Int) (er : Int) (her : (er != 0) = true) (w : World) (HW : ∀ w, Calls Try.prog 24 #[.agg #[.int .i64 o, .int .i64 d], .int .i64 n] w fun e w' => e = .returned (.tuple #[.int .i64 0, .int .i64 0, .int .i64 er]) ∧ Grew w w') :
    Calls Try.prog 9 #[.agg #[.int .i64 o, .int .i64 d], .int .i64 n] w fun e w' => e = .returned (.bool true) ∧ Same w w' := by
  have HAW := Lib.hid (fun w => awake_any w)
  have H1 := Lib.hid HW; clear HW
  go_enter Try.func9, Try.ntmps9
  go_wp2_with (first
    | (go_at_call 11; (with_reducible refine (HAW.out _).mono ?_); rintro e w1 ⟨rfl, hw⟩; have HB := Lib.hid ((Cx.new w o d 23).keep hw); clear hw; obtain ⟨k0, k1, k2⟩ := HB.out)
    | (go_at_call 24; (with_reducible refine (H1.out _).mono ?_); rintro e w2 ⟨rfl, hw⟩; have HB' := Lib.hid (HB.out.keep hw.toSame); clear hw HB k0 k1 k2; have HB := HB'; clear HB'; obtain ⟨k0, k1, k2⟩ := HB.out))
  go_ret
  exact ⟨rfl, HB.out.2.2⟩
set_option maxHeartbeats 1600000 in
theorem taken (o d n F T S B N E V : Int) (n1 : 0 ≤ n) (n2 : n ≤ 109951162) (hF : B ≤ F) (hS : F ≤ S) (hN : (E == 0) = false ∨ (E = 0 ∧ B ≤ N ∧ N = 0) ∨ (E = 0 ∧ B ≤ N ∧ S < N ∧ 0 < N)) (hT : S ≤ T ∨ (T < S ∧ n * 10000 + 2120 + 1100 < V)) (w : World)
    (HW : ∀ w, Calls Try.prog 24 #[.agg #[.int .i64 o, .int .i64 d], .int .i64 n] w fun e w' => e = .returned (.tuple #[.int .i64 F, .int .i64 T, .int .i64 0]) ∧ Grew w w')
    (HS : ∀ w, Calls Try.prog 22 #[.agg #[.int .i64 o, .int .i64 d], .int .i64 n] w fun e w' => e = .returned (.tuple #[.int .i64 S, .int .i64 0]) ∧ Grew w w')
    (HB : ∀ w, Calls Try.prog 20 #[.agg #[.int .i64 o, .int .i64 d], .int .i64 n] w fun e w' => e = .returned (.tuple #[.int .i64 B, .int .i64 0]) ∧ Grew w w')
    (HN : ∀ w, Calls Try.prog 20 #[.agg #[.int .i64 o, .int .i64 d], .int .i64 (n + 1)] w fun e w' => e = .returned (.tuple #[.int .i64 N, .int .i64 E]) ∧ Grew w w')
    (HV : ∀ w, Calls Try.prog 12 #[.agg #[.int .i64 o, .int .i64 d], .int .i64 0] w fun e w' => e = .returned (.tuple #[.int .i64 V, .int .i64 0]) ∧ Grew w w') :
    Calls Try.prog 9 #[.agg #[.int .i64 o, .int .i64 d], .int .i64 n] w fun e w' => e = .returned (.bool true) ∧ Same w w' := by
  have HAW := Lib.hid (fun w => awake_any w)
  have H1 := Lib.hid HW; clear HW
  have H2 := Lib.hid HS; clear HS
  have H3 := Lib.hid HB; clear HB
  have H4 := Lib.hid HN; clear HN
  have H5 := Lib.hid HV; clear HV
  rcases hN with hE | ⟨rfl, hN1, rfl⟩ | ⟨rfl, hN1, hN2, hN3⟩ <;> rcases hT with hT | ⟨hT, hV⟩
  all_goals
    go_enter Try.func9, Try.ntmps9
    go_wp2_with (first
      | (go_at_call 11; (with_reducible refine (HAW.out _).mono ?_); rintro e w1 ⟨rfl, hw⟩; have HB := Lib.hid ((Cx.new w o d 23).keep hw); clear hw; obtain ⟨k0, k1, k2⟩ := HB.out)
      | (go_at_call 24; (with_reducible refine (H1.out _).mono ?_); rintro e w2 ⟨rfl, hw⟩; have HB' := Lib.hid (HB.out.keep hw.toSame); clear hw HB k0 k1 k2; have HB := HB'; clear HB'; obtain ⟨k0, k1, k2⟩ := HB.out)
      | (go_at_call 22; (with_reducible refine (H2.out _).mono ?_); rintro e w2 ⟨rfl, hw⟩; have HB' := Lib.hid (HB.out.keep hw.toSame); clear hw HB k0 k1 k2; have HB := HB'; clear HB'; obtain ⟨k0, k1, k2⟩ := HB.out)
      | (go_at_call 20; (with_reducible refine (H3.out _).mono ?_); rintro e w2 ⟨rfl, hw⟩; have HB' := Lib.hid (HB.out.keep hw.toSame); clear hw HB k0 k1 k2; have HB := HB'; clear HB'; obtain ⟨k0, k1, k2⟩ := HB.out)
      | (go_at_call 20; (with_reducible refine (H4.out _).mono ?_); rintro e w2 ⟨rfl, hw⟩; have HB' := Lib.hid (HB.out.keep hw.toSame); clear hw HB k0 k1 k2; have HB := HB'; clear HB'; obtain ⟨k0, k1, k2⟩ := HB.out)
      | (go_at_call 12; (with_reducible refine (H5.out _).mono ?_); rintro e w2 ⟨rfl, hw⟩; have HB' := Lib.hid (HB.out.keep hw.toSame); clear hw HB k0 k1 k2; have HB := HB'; clear HB'; obtain ⟨k0, k1, k2⟩ := HB.out))
    all_goals first
      | (exfalso; omega)
      | (go_ret; exact ⟨rfl, HB.out.2.2⟩)
theorem walk (o d : Int) (n : Int) (_hn : -9223372036854775808 ≤ n ∧ n ≤ 9223372036854775807) (w : World) :
    Calls Try.prog 9 #[.agg #[.int .i64 o, .int .i64 d], .int .i64 n] w fun e w' => e = .returned (.bool true) ∧ Same w w' := by
  obtain ⟨r0, hr0⟩ := reached o d n 0
  rw [Int.add_zero] at hr0
  obtain ⟨r1, hr1⟩ := reached o d n 2120
  obtain ⟨r2, hr2⟩ := reached o d n 1020
  obtain ⟨r3, hr3⟩ := reached o d n 3221
  obtain ⟨r4, hr4⟩ := reached o d (n + 1) 0
  rw [Int.add_zero] at hr4
  have hw := fun w => Window_any o d n r2 r3 hr2 hr3 w
  have hc : winS o d n r2 r3 = if (inS o d n r3).2 = 0 then ((inS o d n r2).1, (inS o d n r3).1 - 1, 0) else (0, 0, (inS o d n r3).2) := rfl
  rcases in_cases o d n r3 with ⟨a, b, hs⟩ | ⟨a, b, hs⟩ | ⟨a, hs⟩ <;> rw [hs] at hc
  · have g0 := hr0 a b
    have g1 := hr1 a b
    have g2 := hr2 a b
    have g3 := hr3 a b
    obtain ⟨n1, n2⟩ := slB_of b
    by_cases h3 : r3 ≤ 1099511627776
    · rw [show rchP r3 = ((r3 : Int), 0) from if_pos h3] at hc
      rw [if_pos rfl] at hc
      have l01 := isR_le g0 g2 (by omega)
      have l12 := isR_le g2 g1 (by omega)
      have l23 := isR_le g1 g3 (by omega)
      have in_ok : ∀ r : Nat, r ≤ 1099511627776 → inS o d n r = ((r : Int), 0) := fun r hr => by
        unfold inS; rw [if_pos a, if_pos b]; exact if_pos hr
      rw [in_ok r2 (by omega)] at hc
      rw [hc] at hw
      have hs := fun w => Send_any o d n r1 hr1 w
      rw [in_ok r1 (by omega)] at hs
      have hb := fun w => Begin_any o d n r0 hr0 w
      rw [in_ok r0 (by omega)] at hb
      have hn := fun w => Begin_any o d (n + 1) r4 hr4 w
      have hv := fun w => Show_any o d 0 w
      rw [show showS o d 0 = (shS o d 0, 0) by unfold showS; rw [if_pos a, if_pos (by decide)]] at hv
      refine taken o d n r2 ((r3 : Int) - 1) r1 r0 (inS o d (n + 1) r4).1 (inS o d (n + 1) r4).2 (shS o d 0) n1 n2 (by omega) (by omega) ?_ ?_ w hw hs hb hn hv
      · rcases in_cases o d (n + 1) r4 with ⟨_, b', hs'⟩ | ⟨_, b', hs'⟩ | ⟨a', hs'⟩ <;> rw [hs']
        · have g4 := hr4 a b'
          have l04 := isR_le g0 g4 (by omega)
          by_cases h4 : r4 ≤ 1099511627776
          · rw [show rchP r4 = ((r4 : Int), 0) from if_pos h4]
            by_cases z : r4 = 0
            · exact .inr (.inl ⟨rfl, by simp only []; omega, by simp only []; omega⟩)
            · have := isR_step a g4 g1 (by omega) (by omega) h4
              exact .inr (.inr ⟨rfl, by simp only []; omega, by simp only []; omega, by simp only []; omega⟩)
          · rw [show rchP r4 = (0, 15) from if_neg h4]
            exact .inl rfl
        · exact .inl rfl
        · exact .inl rfl
      · by_cases z : r3 = 0
        · subst z
          have := isR_zero g3
          exact .inr ⟨by omega, by omega⟩
        · have := isR_step a g3 g1 (by omega) (by omega) h3
          exact .inl (by omega)
    · rw [show rchP r3 = (0, 15) from if_neg h3] at hc
      rw [if_neg (by decide)] at hc
      rw [hc] at hw
      exact refused o d n 15 rfl w hw
  · rw [if_neg (by decide)] at hc
    rw [hc] at hw
    exact refused o d n 2 rfl w hw
  · rw [if_neg (by decide)] at hc
    rw [hc] at hw
    exact refused o d n 1 rfl w hw
open Go.ChangeShapes Go.WideShapes Go.ChangeAt
theorem own : ownKnob Try.prog.godebug = none := by kernel_rfl

set_option maxRecDepth 100000 in
theorem lifted (os : Os) (started : os.Started) (H : Type) (enc : TypeId × Value → H) :
    ReturnsInHanded {} Try.checked os 9 .any (Rows.clockOwnSpec.pre6 enc Try.prog Try.f9 Rows.clockOwnRow.domain false) (Rows.clockOwnSpec.post enc Try.prog Try.f9 false true false false) := by
  refine returnsInHanded_of_change (C := Try.checked) own started (by kernel_rfl) Try.func9
    (ChangeSpec.witness6 (enc := enc) (C := Try.checked) false ⟨#[], #[.agg #[.int .i64 0, .int .i64 0], .int .i64 0], []⟩ 8 (by kernel_rfl) (by kernel_rfl) (by kernel_rfl) (by kernel_rfl)) ?_
  intro W base args ds gs before hval0 hW hcnd _
  have hval : ∀ (j : Nat) t v, Try.f9.params[j]? = some t → args[j]? = some v → Value.okWide Try.prog W .any base t v := hval0
  have hW' := hW
  obtain ⟨p, q, hA0, hV, rfl, hfz, hnd⟩ := hW
  have hA : DataW.TrodAll enc Try.prog W 0 (fun _ => true) true Try.f9.params.toList args.toList ds p := hA0
  rw [Try.params9] at hA hval
  obtain ⟨v0, vs0, d0, ds0, p0, q0, hargs, rfl, rfl, h0, r0⟩ := trodAll_cons hA
  obtain ⟨v1, vs1, d1, ds1, p1, q1, rfl, rfl, rfl, h1, r1⟩ := trodAll_cons r0
  obtain ⟨rfl, rfl, rfl⟩ := trodAll_nil r1
  obtain rfl : args = #[v0, v1] := by cases args; simp_all
  obtain ⟨rfl, rfl⟩ := trodVars_none hV
  obtain ⟨x0, y0, rfl, bx0, be0⟩ := open_clock (hval 0 23 v0 rfl rfl) h0
  obtain ⟨a1, rfl, rfl, rfl, w1⟩ := open_int Try.underlying3 (hval 1 3 v1 rfl rfl) h1
  clear hA0 hval0
  try simp only [List.append_nil] at hW'
  try simp only [List.nil_append] at hW'
  have hlt : ∀ x ∈ p0, x.block < W.heap.size := fun x hx => by
    have := hW'.lt x (by simpa using hx)
    simpa using this
  refine (walk x0 y0 a1 (bounds_i64 w1) W).mono fun e W' ⟨he, hg⟩ => ?_
  subst he
  exact ⟨_, rfl, _, _, _, [], _, [], hW', trodAll_cons_mk (shut_bool Try.underlying4 _) trodAll_mk0, trodAll_cons_mk (Below.trod Try.laidOut (by kernel_rfl) (of_decide_eq_true (by kernel_rfl)) h0 (Same.toBelow hg) (fun x hx => hlt x (by simp [hx]))) (trodAll_cons_mk (shut_int Try.underlying3 w1) trodAll_mk0), rfl, (Same.toBelow hg).frame _, fun h => by cases h⟩

theorem over : Rows.clockOwnRow.holds Try.pinned (OpenSpec.ofChange Rows.clockOwnSpec) :=
  OpenClaim.holds_of_wide 9 Try.f9 rfl rfl rfl rfl rfl rfl rfl ⟨rfl, rfl, rfl, rfl, rfl⟩ rfl rfl rfl rfl rfl (by kernel_rfl) Try.func9 (by kernel_rfl)
    (of_decide_eq_true (by kernel_rfl)) (by unfold Func.isWrapper; first | (rw [if_pos (by decide +kernel)]; kernel_rfl) | (rw [if_neg (by decide +kernel)]; exact ⟨rfl, rfl⟩))
    (fun os started H enc _ => lifted os started H enc)

theorem proved : Rows.ClockOwnSaid :=
  over
end clockOwn
end Go.Proofs.Ytjjphmmnmdplgaa
