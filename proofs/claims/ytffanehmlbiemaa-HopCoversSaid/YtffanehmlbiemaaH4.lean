/- A hopping list: Check of both packages; when it is in force; the reference's Channel and Meet. -/
import Derived.Test.YtffanehmlbiemaaH3
namespace Go.Proofs.Ytffanehmlbiemaa
open Go.RowKit

abbrev hopV (v f u : Int) (s : Value) : Value := .agg #[.int .i64 v, .int .i64 f, .int .i64 u, s]
def hopB (v f u : Int) (zs : List Int) : Bool := verB v && (!decide (f < 0) && (!decide (u ≤ f) && (!decide (109951163 < u) && chsB zs)))
def chkH (v f u : Int) (zs : List Int) : Int := if hopB v f u zs = true then 0 else 1
theorem hopB_of {v f u : Int} {zs : List Int} (h : hopB v f u zs = true) : (0 ≤ v ∧ v ≤ 255) ∧ 0 ≤ f ∧ f < u ∧ u ≤ 109951163 ∧ chsB zs = true := by
  unfold hopB at h
  simp only [Bool.and_eq_true, Bool.not_eq_true', decide_eq_false_iff_not] at h
  obtain ⟨a, b, c, d, e⟩ := h
  exact ⟨inB_yes a, by omega, by omega, by omega, e⟩
theorem chsB_of {zs : List Int} (h : chsB zs = true) : 0 < zs.length ∧ zs.length ≤ 16 ∧ diffB zs = true := by
  unfold chsB at h
  rw [Bool.and_eq_true, decide_eq_true_eq] at h
  exact ⟨h.1, diff_len h.2, h.2⟩
set_option maxHeartbeats 1600000 in
theorem Check_any (v f u : Int) (s : Value) (zs : List Int) (w : World) (h : IL w s zs) (hl : zs.length ≤ 1000) : Calls Try.prog 16 #[hopV v f u s] w fun e w' => e = .returned (.int .i64 (chkH v f u zs)) ∧ Same w w' := by
  have HV := Lib.hid (fun w => isVersion_any v w)
  have HA := Lib.hid (fun (w1 : World) (hs : Same w w1) => areChannels_any w1 s zs (h.same hs) hl)
  obtain ⟨ao, cap, rfl⟩ := h.shape
  unfold chkH hopB
  clear h
  obtain ⟨b1, h1⟩ : ∃ b, verB v = b := ⟨_, rfl⟩
  obtain ⟨b2, h2⟩ : ∃ b, decide (f < 0) = b := ⟨_, rfl⟩
  obtain ⟨b3, h3⟩ : ∃ b, decide (u ≤ f) = b := ⟨_, rfl⟩
  obtain ⟨b4, h4⟩ : ∃ b, decide (109951163 < u) = b := ⟨_, rfl⟩
  obtain ⟨b5, h5⟩ : ∃ b, chsB zs = b := ⟨_, rfl⟩
  rw [h1] at HV
  rw [h5] at HA
  rw [h1, h2, h3, h4, h5]
  have HS := Lib.hid ((Same.refl w).alloc (.cells #[.int .i64 v, .int .i64 f, .int .i64 u, .slice ao zs.length cap] 24))
  clear h1 h5
  generalize zs.length = n at *
  cases b1 with
  | false =>
    go_enter Try.func16, Try.ntmps16
    go_wp2_with (first
      | (go_at_call 37; (with_reducible refine (HV.out _).mono ?_); rintro e w1 ⟨rfl, hw⟩; replace hw := hw.symm; subst hw)
      | (go_at_call 38; (with_reducible refine (HA.out _ (by exact HS.out)).mono ?_); rintro e w1 ⟨rfl, hw⟩; replace hw := hw.symm; subst hw))
    go_ret
    exact ⟨rfl, HS.out⟩
  | true =>
    cases b2 with
    | true =>
      go_enter Try.func16, Try.ntmps16
      go_wp2_with (first
        | (go_at_call 37; (with_reducible refine (HV.out _).mono ?_); rintro e w1 ⟨rfl, hw⟩; replace hw := hw.symm; subst hw)
        | (go_at_call 38; (with_reducible refine (HA.out _ (by exact HS.out)).mono ?_); rintro e w1 ⟨rfl, hw⟩; replace hw := hw.symm; subst hw))
      go_ret
      exact ⟨rfl, HS.out⟩
    | false =>
      cases b3 with
      | true =>
        go_enter Try.func16, Try.ntmps16
        go_wp2_with (first
          | (go_at_call 37; (with_reducible refine (HV.out _).mono ?_); rintro e w1 ⟨rfl, hw⟩; replace hw := hw.symm; subst hw)
          | (go_at_call 38; (with_reducible refine (HA.out _ (by exact HS.out)).mono ?_); rintro e w1 ⟨rfl, hw⟩; replace hw := hw.symm; subst hw))
        go_ret
        exact ⟨rfl, HS.out⟩
      | false =>
        cases b4 with
        | true =>
          go_enter Try.func16, Try.ntmps16
          go_wp2_with (first
            | (go_at_call 37; (with_reducible refine (HV.out _).mono ?_); rintro e w1 ⟨rfl, hw⟩; replace hw := hw.symm; subst hw)
            | (go_at_call 38; (with_reducible refine (HA.out _ (by exact HS.out)).mono ?_); rintro e w1 ⟨rfl, hw⟩; replace hw := hw.symm; subst hw))
          go_ret
          exact ⟨rfl, HS.out⟩
        | false =>
          cases b5 with
          | false =>
            go_enter Try.func16, Try.ntmps16
            go_wp2_with (first
              | (go_at_call 37; (with_reducible refine (HV.out _).mono ?_); rintro e w1 ⟨rfl, hw⟩; replace hw := hw.symm; subst hw)
              | (go_at_call 38; (with_reducible refine (HA.out _ (by exact HS.out)).mono ?_); rintro e w1 ⟨rfl, hw⟩; replace hw := hw.symm; subst hw))
            go_ret
            exact ⟨rfl, HS.out⟩
          | true =>
            go_enter Try.func16, Try.ntmps16
            go_wp2_with (first
              | (go_at_call 37; (with_reducible refine (HV.out _).mono ?_); rintro e w1 ⟨rfl, hw⟩; replace hw := hw.symm; subst hw)
              | (go_at_call 38; (with_reducible refine (HA.out _ (by exact HS.out)).mono ?_); rintro e w1 ⟨rfl, hw⟩; replace hw := hw.symm; subst hw))
            go_ret
            exact ⟨rfl, HS.out⟩
set_option maxHeartbeats 1600000 in
theorem Check2_any (v f u : Int) (s : Value) (zs : List Int) (w : World) (h : IL w s zs) (hl : zs.length ≤ 1000) : Calls Try.prog 17 #[hopV v f u s] w fun e w' => e = .returned (.int .i64 (chkH v f u zs)) ∧ Same w w' := by
  have HA := Lib.hid (fun (w1 : World) (hs : Same w w1) => different2_any w1 s zs (h.same hs) hl)
  obtain ⟨ao, cap, rfl⟩ := h.shape
  have hv : verB v = (!decide (v < 0) && !decide (255 < v)) := by
    unfold verB inB
    by_cases q : v < 0
    · have : ¬ (0 ≤ v ∧ v ≤ 255) := by omega
      simp [q, this]
    · by_cases q2 : 255 < v
      · have : ¬ (0 ≤ v ∧ v ≤ 255) := by omega
        simp [q2, this]
      · have : 0 ≤ v ∧ v ≤ 255 := by omega
        simp [q, q2, this]
  unfold chkH hopB
  rw [hv]
  clear h hv
  obtain ⟨b0, h0⟩ : ∃ b, decide (v < 0) = b := ⟨_, rfl⟩
  obtain ⟨b1, h1⟩ : ∃ b, decide (255 < v) = b := ⟨_, rfl⟩
  obtain ⟨b2, h2⟩ : ∃ b, decide (f < 0) = b := ⟨_, rfl⟩
  obtain ⟨b3, h3⟩ : ∃ b, decide (u ≤ f) = b := ⟨_, rfl⟩
  obtain ⟨b4, h4⟩ : ∃ b, decide (109951163 < u) = b := ⟨_, rfl⟩
  obtain ⟨b5, h5⟩ : ∃ b, chsB zs = b := ⟨_, rfl⟩
  rw [h5] at HA
  rw [h0, h1, h2, h3, h4, h5]
  have HS := Lib.hid ((Same.refl w).alloc (.cells #[.int .i64 v, .int .i64 f, .int .i64 u, .slice ao zs.length cap] 24))
  clear h5
  generalize zs.length = n at *
  cases b0 with
  | true =>
    go_enter Try.func17, Try.ntmps17
    go_wp2_with (go_at_call 39; (with_reducible refine (HA.out _ (by exact HS.out)).mono ?_); rintro e w1 ⟨rfl, hw⟩; have HW := Lib.hid (HS.out.trans hw); clear hw)
    go_ret
    exact ⟨rfl, HS.out⟩
  | false =>
    cases b1 with
    | true =>
      go_enter Try.func17, Try.ntmps17
      go_wp2_with (go_at_call 39; (with_reducible refine (HA.out _ (by exact HS.out)).mono ?_); rintro e w1 ⟨rfl, hw⟩; have HW := Lib.hid (HS.out.trans hw); clear hw)
      go_ret
      exact ⟨rfl, HS.out⟩
    | false =>
      cases b2 with
      | true =>
        go_enter Try.func17, Try.ntmps17
        go_wp2_with (go_at_call 39; (with_reducible refine (HA.out _ (by exact HS.out)).mono ?_); rintro e w1 ⟨rfl, hw⟩; have HW := Lib.hid (HS.out.trans hw); clear hw)
        go_ret
        exact ⟨rfl, HS.out⟩
      | false =>
        cases b3 with
        | true =>
          go_enter Try.func17, Try.ntmps17
          go_wp2_with (go_at_call 39; (with_reducible refine (HA.out _ (by exact HS.out)).mono ?_); rintro e w1 ⟨rfl, hw⟩; have HW := Lib.hid (HS.out.trans hw); clear hw)
          go_ret
          exact ⟨rfl, HS.out⟩
        | false =>
          cases b4 with
          | true =>
            go_enter Try.func17, Try.ntmps17
            go_wp2_with (go_at_call 39; (with_reducible refine (HA.out _ (by exact HS.out)).mono ?_); rintro e w1 ⟨rfl, hw⟩; have HW := Lib.hid (HS.out.trans hw); clear hw)
            go_ret
            exact ⟨rfl, HS.out⟩
          | false =>
            cases b5 with
            | false =>
              go_enter Try.func17, Try.ntmps17
              go_wp2_with (go_at_call 39; (with_reducible refine (HA.out _ (by exact HS.out)).mono ?_); rintro e w1 ⟨rfl, hw⟩; have HW := Lib.hid (HS.out.trans hw); clear hw)
              go_ret
              exact ⟨rfl, HW.out⟩
            | true =>
              go_enter Try.func17, Try.ntmps17
              go_wp2_with (go_at_call 39; (with_reducible refine (HA.out _ (by exact HS.out)).mono ?_); rintro e w1 ⟨rfl, hw⟩; have HW := Lib.hid (HS.out.trans hw); clear hw)
              go_ret
              exact ⟨rfl, HW.out⟩
def forceB (slot f u : Int) : Bool := decide (f ≤ slot ∧ slot < u)
theorem isInForce_any (v f u : Int) (s : Value) (ao : Option Addr) (n cap : Nat) (hs : s = .slice ao n cap) (slot : Int) (w : World) (hu : 0 ≤ u ∧ u ≤ 109951164) : Calls Try.prog 35 #[hopV v f u s, .int .i64 slot] w fun e w' => e = .returned (.bool (forceB slot f u)) ∧ Same w w' := by
  subst hs
  have e : forceB slot f u = inB slot f (u - 1) := by unfold forceB inB; congr 1; apply propext; constructor <;> (intro h; omega)
  rw [e]; clear e
  have HW := Lib.hid (fun w => within_any slot f (u - 1) w)
  have HS := Lib.hid ((Same.refl w).alloc (.cells #[.int .i64 v, .int .i64 f, .int .i64 u, .slice ao n cap] 24))
  have hwr : wrap64 (u - 1) = u - 1 := by unfold wrap64; omega
  generalize inB slot f (u - 1) = x at *
  clear hu
  go_enter Try.func35, Try.ntmps35
  go_wp2_with (go_at_call 42; (with_reducible refine (HW.out _).mono ?_); rintro e w1 ⟨rfl, hw⟩; replace hw := hw.symm; subst hw)
  go_ret
  exact ⟨rfl, HS.out⟩
end Go.Proofs.Ytffanehmlbiemaa
