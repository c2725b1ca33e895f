/- GuardSlots: for all depths and drift bounds the law returns true: with the slots between corrections the spread is at most GuardTime, and with one more it is greater; deeper nodes and greater drifts allow not more. No condition on the input. -/
import Derived.Test.YtkffmflhonknpaaNumbers
namespace Go.Proofs.Ytkffmflhonknpaa
open Go.RowKit

theorem ln_mono2 {n d : Int} (h1 : 0 ≤ n) (h2 : n ≤ 4096) (d1 : 0 ≤ d) (d2 : d + 1 ≤ 100000) : lnS n d ≤ lnS n (d + 1) := by
  obtain ⟨l1, _⟩ := ln_bd h1 h2 d1 (by omega : d ≤ 100000)
  have hq : lnS n d * (1000000000 - d) ≤ (n * 10000 + 1) * 1000000000 + (1000000000 - d) - 1 := Int.ediv_mul_le _ (by omega)
  generalize lnS n d = q at *
  unfold lnS
  refine Int.le_ediv_of_mul_le (by omega) ?_
  have : q * (1000000000 - (d + 1)) = q * (1000000000 - d) - q := by
    rw [show (1000000000 - (d + 1)) = (1000000000 - d) - 1 by omega, Int.mul_sub, Int.mul_one]
  omega
theorem gr_mono2 {t d e : Int} (ht : 0 ≤ t) (h : d ≤ e) : grS t d ≤ grS t e := by
  unfold grS
  have : 2 * t * d ≤ 2 * t * e := Int.mul_le_mul_of_nonneg_left h (by omega)
  have := Int.ediv_le_ediv (c := 1000000000) (by decide) this
  omega
theorem st_mono2 {n d : Int} (h1 : 0 ≤ n) (h2 : n ≤ 4096) (d1 : 0 ≤ d) (d2 : d + 1 ≤ 100000) : stS n d ≤ stS n (d + 1) := by
  obtain ⟨l1, _⟩ := ln_bd h1 h2 d1 (by omega : d ≤ 100000)
  have a := gr_mono (ln_mono2 h1 h2 d1 d2) d1
  have b := gr_mono2 (t := lnS n (d + 1)) (d := d) (e := d + 1) (by have := ln_mono2 h1 h2 d1 d2; omega) (by omega)
  unfold stS; omega
theorem sp_mono2 {a b n d : Int} (ha : 0 ≤ a) (hb : 0 ≤ b) (h1 : 0 ≤ n) (h2 : n ≤ 4096) (d1 : 0 ≤ d) (d2 : d + 1 ≤ 100000) : spS a b n d ≤ spS a b n (d + 1) := by
  unfold spS
  exact Int.mul_le_mul_of_nonneg_left (st_mono2 h1 h2 d1 d2) (by omega)
theorem sp_deep {a b n d : Int} (h1 : 0 ≤ n) (h2 : n ≤ 4096) (d1 : 0 ≤ d) (d2 : d ≤ 100000) : spS a b n d ≤ spS (a + 1) b n d := by
  have := (st_bd h1 h2 d1 d2).1
  unfold spS
  exact Int.mul_le_mul_of_nonneg_right (by omega) (by omega)
theorem isS_le {a b d a' b' d' : Int} {r r' : Nat} (h : IsS a b d r) (h' : IsS a' b' d' r') (hm : ∀ i : Nat, i < 4097 → spS a b i d ≤ spS a' b' i d') : r' ≤ r := by
  by_cases e : r < r'
  · have h1 := h'.1
    have := (h'.2 r (by omega)).1 e
    have := hm r (by omega)
    have := (h.2 r (by omega)).2 (by omega)
    omega
  · omega
namespace guardSlots
theorem refused (a b d K s : Int) (hs : 1100 < s) (w : World) (HL : ∀ w, Calls Try.prog 20 #[.int .i64 a, .int .i64 b, .int .i64 d] w fun e w' => e = .returned (.tuple #[.int .i64 0, .int .i64 K]) ∧ Grew w w')
    (HK : K = 2 ∨ (K = 16 ∧ ∀ w, Calls Try.prog 18 #[.int .i64 a, .int .i64 b, .int .i64 0, .int .i64 d] w fun e w' => e = .returned (.tuple #[.int .i64 s, .int .i64 0]) ∧ w' = w)) :
    Calls Try.prog 8 #[.int .i64 a, .int .i64 b, .int .i64 d] w fun e w' => e = .returned (.bool true) ∧ Same w w' := by
  have HAW := Lib.hid (fun w => gawake_any w)
  rcases HK with rfl | ⟨rfl, hk⟩
  · have H1 := Lib.hid HL; clear HL hs
    go_enter Try.func8, Try.ntmps8
    go_wp2_with (first
      | (go_at_call 11; (with_reducible refine (HAW.out _).mono ?_); rintro e w1 ⟨rfl, hw⟩; have HB := Lib.hid hw; clear hw)
      | (go_at_call 20; (with_reducible refine (H1.out _).mono ?_); rintro e w2 ⟨rfl, hw⟩; have HC := Lib.hid (HB.out.trans hw.toSame); clear hw HB))
    go_ret
    exact ⟨rfl, HC.out⟩
  · have H1 := Lib.hid HL; clear HL
    have H2 := Lib.hid hk; clear hk
    go_enter Try.func8, Try.ntmps8
    go_wp2_with (first
      | (go_at_call 11; (with_reducible refine (HAW.out _).mono ?_); rintro e w1 ⟨rfl, hw⟩; have HB := Lib.hid hw; clear hw)
      | (go_at_call 20; (with_reducible refine (H1.out _).mono ?_); rintro e w2 ⟨rfl, hw⟩; have HC := Lib.hid (HB.out.trans hw.toSame); clear hw HB)
      | (go_at_call 18; (with_reducible refine (H2.out _).mono ?_); rintro e w3 ⟨rfl, rfl⟩))
    go_ret
    exact ⟨rfl, HC.out⟩
theorem taken (a b d K s m g p pe q qe : Int) (a1 : 0 ≤ a) (a2 : a ≤ 32) (d1 : 0 ≤ d) (d2 : d ≤ 100000) (k1 : 0 ≤ K) (k2 : K ≤ 4096) (hs : s ≤ 1100) (hm : K = 4096 ∨ (K < 4096 ∧ g = 0 ∧ 1100 < m)) (hp : (pe != 0) = true ∨ (pe = 0 ∧ p ≤ K)) (hq : (qe != 0) = true ∨ (qe = 0 ∧ q ≤ K)) (w : World)
    (HL : ∀ w, Calls Try.prog 20 #[.int .i64 a, .int .i64 b, .int .i64 d] w fun e w' => e = .returned (.tuple #[.int .i64 K, .int .i64 0]) ∧ Grew w w')
    (HS : ∀ w, Calls Try.prog 18 #[.int .i64 a, .int .i64 b, .int .i64 K, .int .i64 d] w fun e w' => e = .returned (.tuple #[.int .i64 s, .int .i64 0]) ∧ w' = w)
    (HM : ∀ w, Calls Try.prog 18 #[.int .i64 a, .int .i64 b, .int .i64 (K + 1), .int .i64 d] w fun e w' => e = .returned (.tuple #[.int .i64 m, .int .i64 g]) ∧ w' = w)
    (HP : ∀ w, Calls Try.prog 20 #[.int .i64 (a + 1), .int .i64 b, .int .i64 d] w fun e w' => e = .returned (.tuple #[.int .i64 p, .int .i64 pe]) ∧ Grew w w')
    (HQ : ∀ w, Calls Try.prog 20 #[.int .i64 a, .int .i64 b, .int .i64 (d + 1)] w fun e w' => e = .returned (.tuple #[.int .i64 q, .int .i64 qe]) ∧ Grew w w') :
    Calls Try.prog 8 #[.int .i64 a, .int .i64 b, .int .i64 d] w fun e w' => e = .returned (.bool true) ∧ Same w w' := by
  have HAW := Lib.hid (fun w => gawake_any w)
  have H1 := Lib.hid HL; clear HL
  have H2 := Lib.hid HS; clear HS
  have H3 := Lib.hid HM; clear HM
  have H4 := Lib.hid HP; clear HP
  have H5 := Lib.hid HQ; clear HQ
  rcases hm with rfl | ⟨hm1, rfl, hm2⟩ <;> rcases hp with hp | ⟨rfl, hp⟩ <;> rcases hq with hq | ⟨rfl, hq⟩
  all_goals
    try simp only [Int.reduceAdd] at H3
    go_enter Try.func8, Try.ntmps8
    go_wp2_with (first
      | (go_at_call 11; (with_reducible refine (HAW.out _).mono ?_); rintro e w1 ⟨rfl, hw⟩; have HB := Lib.hid hw; clear hw)
      | (go_at_call 20; (with_reducible refine (H1.out _).mono ?_); rintro e w2 ⟨rfl, hw⟩; have HB' := Lib.hid (HB.out.trans hw.toSame); clear hw HB; have HB := HB'; clear HB')
      | (go_at_call 18; (with_reducible refine (H2.out _).mono ?_); rintro e w3 ⟨rfl, rfl⟩)
      | (go_at_call 18; (with_reducible refine (H3.out _).mono ?_); rintro e w3 ⟨rfl, rfl⟩)
      | (go_at_call 20; (with_reducible refine (H4.out _).mono ?_); rintro e w2 ⟨rfl, hw⟩; have HB' := Lib.hid (HB.out.trans hw.toSame); clear hw HB; have HB := HB'; clear HB')
      | (go_at_call 20; (with_reducible refine (H5.out _).mono ?_); rintro e w2 ⟨rfl, hw⟩; have HB' := Lib.hid (HB.out.trans hw.toSame); clear hw HB; have HB := HB'; clear HB'))
    go_ret
    exact ⟨rfl, HB.out⟩
theorem Sl_ok {a b d : Int} {r : Nat} (h : okS a b d = true) (hr : ¬ r = 0) : SlS a b d r = ((r : Int) - 1, 0) := by
  unfold SlS; rw [if_pos h, if_neg hr]
theorem walk (a : Int) (_ha : -9223372036854775808 ≤ a ∧ a ≤ 9223372036854775807) (b : Int) (_hb : -9223372036854775808 ≤ b ∧ b ≤ 9223372036854775807) (d : Int) (_hd : -9223372036854775808 ≤ d ∧ d ≤ 9223372036854775807) (w : World) :
    Calls Try.prog 8 #[.int .i64 a, .int .i64 b, .int .i64 d] w fun e w' => e = .returned (.bool true) ∧ Same w w' := by
  obtain ⟨r, hr⟩ := searched a b d
  obtain ⟨r1, hr1⟩ := searched (a + 1) b d
  obtain ⟨r2, hr2⟩ := searched a b (d + 1)
  have hl := fun w => gSlots_any a b d r hr w
  have hp := fun w => gSlots_any (a + 1) b d r1 hr1 w
  have hq := fun w => gSlots_any a b (d + 1) r2 hr2 w
  cases ok : okS a b d with
  | false =>
    rw [show SlS a b d r = (0, 2) from if_neg (by rw [ok]; decide)] at hl
    exact refused a b d 2 1101 (by decide) w hl (.inl rfl)
  | true =>
    have h := hr ok
    have O := okS_of ok
    obtain ⟨a1, a2, b1, b2, d1, d2⟩ := O
    by_cases z : r = 0
    · subst z
      rw [show SlS a b d 0 = (0, 16) by unfold SlS; rw [if_pos ok]; rfl] at hl
      refine refused a b d 16 (spS a b 0 d) ?_ w hl (.inr ⟨rfl, fun w => ?_⟩)
      · by_cases e : spS a b 0 d ≤ 1100
        · have := (h.2 0 (by decide)).2 e
          omega
        · omega
      · have := gSpread_any a b 0 d w
        rw [SpS_ok ok 0 (by decide) (by decide)] at this
        exact this
    · rw [Sl_ok ok z] at hl
      have hle := h.1
      refine taken a b d ((r : Int) - 1) (spS a b ((r : Int) - 1) d) (SpS a b ((r : Int) - 1 + 1) d).1 (SpS a b ((r : Int) - 1 + 1) d).2 (SlS (a + 1) b d r1).1 (SlS (a + 1) b d r1).2 (SlS a b (d + 1) r2).1 (SlS a b (d + 1) r2).2 a1 a2 d1 d2 (by omega) (by omega) ?_ ?_ ?_ ?_ w hl (fun w => ?_) (fun w => gSpread_any a b _ d w) hp hq
      · have := (h.2 (r - 1) (by omega)).1 (by omega)
        rw [show ((r - 1 : Nat) : Int) = (r : Int) - 1 by omega] at this
        exact this
      · by_cases e : r = 4097
        · subst e; exact .inl rfl
        · refine .inr ⟨by omega, ?_, ?_⟩
          · rw [SpS_ok ok _ (by omega) (by omega)]
          · rw [SpS_ok ok _ (by omega) (by omega), show (r : Int) - 1 + 1 = r by omega]
            by_cases e' : spS a b r d ≤ 1100
            · have := (h.2 r (by omega)).2 e'
              omega
            · simp only; omega
      · cases ok1 : okS (a + 1) b d with
        | false => exact .inl (by rw [show SlS (a + 1) b d r1 = (0, 2) from if_neg (by rw [ok1]; decide)]; rfl)
        | true =>
          by_cases z1 : r1 = 0
          · exact .inl (by unfold SlS; rw [if_pos ok1, if_pos z1]; rfl)
          · rw [Sl_ok ok1 z1]
            have := isS_le h (hr1 ok1) (fun i hi => sp_deep (by omega) (by omega) d1 d2)
            exact .inr ⟨rfl, by simp only; omega⟩
      · cases ok1 : okS a b (d + 1) with
        | false => exact .inl (by rw [show SlS a b (d + 1) r2 = (0, 2) from if_neg (by rw [ok1]; decide)]; rfl)
        | true =>
          by_cases z1 : r2 = 0
          · exact .inl (by unfold SlS; rw [if_pos ok1, if_pos z1]; rfl)
          · rw [Sl_ok ok1 z1]
            have := isS_le h (hr2 ok1) (fun i hi => sp_mono2 a1 b1 (by omega) (by omega) d1 (okS_of ok1).d2)
            exact .inr ⟨rfl, by simp only; omega⟩
      · have := gSpread_any a b ((r : Int) - 1) d w
        rw [SpS_ok ok _ (by omega) (by omega)] at this
        exact this
open Go.ChangeShapes Go.WideShapes Go.ChangeAt
theorem own : ownKnob Try.prog.godebug = none := by kernel_rfl

set_option maxRecDepth 100000 in
theorem lifted (os : Os) (started : os.Started) (H : Type) (enc : TypeId × Value → H) :
    ReturnsInHanded {} Try.checked os 8 .any (Rows.guardSlotsSpec.pre6 enc Try.prog Try.f8 Rows.guardSlotsRow.domain false) (Rows.guardSlotsSpec.post enc Try.prog Try.f8 false true false false) := by
  refine returnsInHanded_of_change (C := Try.checked) own started (by kernel_rfl) Try.func8
    (ChangeSpec.witness6 (enc := enc) (C := Try.checked) false ⟨#[], #[.int .i64 0, .int .i64 0, .int .i64 0], []⟩ 8 (by kernel_rfl) (by kernel_rfl) (by kernel_rfl) (by kernel_rfl)) ?_
  intro W base args ds gs before hval0 hW hcnd _
  have hval : ∀ (j : Nat) t v, Try.f8.params[j]? = some t → args[j]? = some v → Value.okWide Try.prog W .any base t v := hval0
  have hW' := hW
  obtain ⟨p, q, hA0, hV, rfl, hfz, hnd⟩ := hW
  have hA : DataW.TrodAll enc Try.prog W 0 (fun _ => true) true Try.f8.params.toList args.toList ds p := hA0
  rw [Try.params8] at hA hval
  obtain ⟨v0, vs0, d0, ds0, p0, q0, hargs, rfl, rfl, h0, r0⟩ := trodAll_cons hA
  obtain ⟨v1, vs1, d1, ds1, p1, q1, rfl, rfl, rfl, h1, r1⟩ := trodAll_cons r0
  obtain ⟨v2, vs2, d2, ds2, p2, q2, rfl, rfl, rfl, h2, r2⟩ := trodAll_cons r1
  obtain ⟨rfl, rfl, rfl⟩ := trodAll_nil r2
  obtain rfl : args = #[v0, v1, v2] := by cases args; simp_all
  obtain ⟨rfl, rfl⟩ := trodVars_none hV
  obtain ⟨a0, rfl, rfl, rfl, w0⟩ := open_int Try.underlying3 (hval 0 3 v0 rfl rfl) h0
  obtain ⟨a1, rfl, rfl, rfl, w1⟩ := open_int Try.underlying3 (hval 1 3 v1 rfl rfl) h1
  obtain ⟨a2, rfl, rfl, rfl, w2⟩ := open_int Try.underlying3 (hval 2 3 v2 rfl rfl) h2
  clear hA0 hval0
  try simp only [List.append_nil] at hW'
  try simp only [List.nil_append] at hW'
  refine (walk a0 (bounds_i64 w0) a1 (bounds_i64 w1) a2 (bounds_i64 w2) W).mono fun e W' ⟨he, hg⟩ => ?_
  subst he
  exact ⟨_, rfl, _, _, _, [], _, [], hW', trodAll_cons_mk (shut_bool Try.underlying4 _) trodAll_mk0, trodAll_cons_mk (shut_int Try.underlying3 w0) (trodAll_cons_mk (shut_int Try.underlying3 w1) (trodAll_cons_mk (shut_int Try.underlying3 w2) trodAll_mk0)), rfl, (Same.toBelow hg).frame _, fun h => by cases h⟩

theorem over : Rows.guardSlotsRow.holds Try.pinned (OpenSpec.ofChange Rows.guardSlotsSpec) :=
  OpenClaim.holds_of_wide 8 Try.f8 rfl rfl rfl rfl rfl rfl rfl ⟨rfl, rfl, rfl, rfl, rfl⟩ rfl rfl rfl rfl rfl (by kernel_rfl) Try.func8 (by kernel_rfl)
    (of_decide_eq_true (by kernel_rfl)) (by unfold Func.isWrapper; first | (rw [if_pos (by decide +kernel)]; kernel_rfl) | (rw [if_neg (by decide +kernel)]; exact ⟨rfl, rfl⟩))
    (fun os started H enc _ => lifted os started H enc)

theorem proved : Rows.GuardSlotsSaid :=
  over
end guardSlots
end Go.Proofs.Ytkffmflhonknpaa
