/- GuardFits: for all clocks and slots the law returns true: if two clocks differ by at most GuardTime - 2 when a frame is sent, it fits; what comes earlier or later than GuardTime does not. No condition on the input. -/
import Derived.Test.YtkffmflhonknpaaGLaw
namespace Go.Proofs.Ytkffmflhonknpaa
open Go.RowKit

namespace guardFits
theorem bad (o d o' d' n e : Int) (he : (e != 0) = true) (w : World)
    (HF : ∀ w, Calls Try.prog 24 #[.agg #[.int .i64 o, .int .i64 d], .agg #[.int .i64 o', .int .i64 d'], .int .i64 n] w fun r w' => r = .returned (.tuple #[.bool false, .int .i64 e]) ∧ Same w w')
    (HL : ∀ w, Calls Try.prog 26 #[.agg #[.int .i64 o, .int .i64 d], .agg #[.int .i64 o', .int .i64 d'], .int .i64 n] w fun r w' => r = .returned (.tuple #[.int .i64 0, .int .i64 e]) ∧ Same w w') :
    Calls Try.prog 7 #[.agg #[.int .i64 o, .int .i64 d], .agg #[.int .i64 o', .int .i64 d'], .int .i64 n] w fun e w' => e = .returned (.bool true) ∧ Same w w' := by
  have HAW := Lib.hid (fun w => gawake_any w)
  have H1 := Lib.hid HF; clear HF
  have H2 := Lib.hid HL; clear HL
  go_enter Try.func7, Try.ntmps7
  go_wp2_with (first
    | (go_at_call 11; (with_reducible refine (HAW.out _).mono ?_); rintro e w1 ⟨rfl, hw⟩; have HB := Lib.hid ((Bz.new w o d o' d' 31 31).keep hw); clear hw; obtain ⟨k0, k1, k2, k3, k4⟩ := HB.out)
    | (go_at_call 24; (with_reducible refine (H1.out _).mono ?_); rintro e w2 ⟨rfl, hw⟩; have HC := Lib.hid (HB.out.keep hw); clear hw HB k0 k1 k2 k3 k4; obtain ⟨k0, k1, k2, k3, k4⟩ := HC.out)
    | (go_at_call 26; (with_reducible refine (H2.out _).mono ?_); rintro e w3 ⟨rfl, hw⟩; have HD := Lib.hid (HC.out.keep hw); clear hw HC k0 k1 k2 k3 k4))
  go_ret
  exact ⟨rfl, HD.out.2.2.2.2⟩
set_option maxHeartbeats 1600000 in
theorem good (o d o' d' n T N L sl sn : Int) (F : Bool) (T0 : 0 ≤ T)
    (h1 : sl ≤ 1101 ∨ (1101 < sl ∧ (T = 0 ∨ (0 < T ∧ F = false)))) (h2 : T = 0 ∨ (0 < T ∧ (1098 < sn ∨ (sn ≤ 1098 ∧ F = true)))) (w : World)
    (HF : ∀ w, Calls Try.prog 24 #[.agg #[.int .i64 o, .int .i64 d], .agg #[.int .i64 o', .int .i64 d'], .int .i64 n] w fun r w' => r = .returned (.tuple #[.bool F, .int .i64 0]) ∧ Same w w')
    (HL : ∀ w, Calls Try.prog 26 #[.agg #[.int .i64 o, .int .i64 d], .agg #[.int .i64 o', .int .i64 d'], .int .i64 n] w fun r w' => r = .returned (.tuple #[.int .i64 L, .int .i64 0]) ∧ Same w w')
    (HS : CSend o d n T 0)
    (HA : ∀ w, Calls Try.prog 29 #[.agg #[.int .i64 o, .int .i64 d], .agg #[.int .i64 o', .int .i64 d'], .int .i64 T] w fun r w' => r = .returned (.tuple #[.int .i64 N, .int .i64 0]) ∧ Grew w w')
    (HZ1 : ∀ w, Calls Try.prog 31 #[.int .i64 L] w fun e w' => e = .returned (.int .i64 sl) ∧ w' = w)
    (HZ2 : ∀ w, Calls Try.prog 31 #[.int .i64 N] w fun e w' => e = .returned (.int .i64 sn) ∧ w' = w) :
    Calls Try.prog 7 #[.agg #[.int .i64 o, .int .i64 d], .agg #[.int .i64 o', .int .i64 d'], .int .i64 n] w fun e w' => e = .returned (.bool true) ∧ Same w w' := by
  have HAW := Lib.hid (fun w => gawake_any w)
  have H1 := Lib.hid HF; clear HF
  have H2 := Lib.hid HL; clear HL
  have H3 := Lib.hid HS; clear HS
  have H4 := Lib.hid HA; clear HA
  have H5 := Lib.hid HZ1; clear HZ1
  have H6 := Lib.hid HZ2; clear HZ2
  have h : (T = 0 ∧ sl ≤ 1101) ∨ (T = 0 ∧ 1101 < sl) ∨ (0 < T ∧ sl ≤ 1101 ∧ 1098 < sn) ∨ (0 < T ∧ sl ≤ 1101 ∧ sn ≤ 1098 ∧ F = true) ∨ (0 < T ∧ 1101 < sl ∧ 1098 < sn ∧ F = false) := by
    cases F <;> simp at h1 h2 ⊢ <;> omega
  clear h1 h2 T0
  rcases h with ⟨rfl, g1⟩ | ⟨rfl, g1⟩ | ⟨g1, g2, g3⟩ | ⟨g1, g2, g3, rfl⟩ | ⟨g1, g2, g3, rfl⟩
  all_goals
    go_enter Try.func7, Try.ntmps7
    go_wp2_with (first
      | (go_at_call 11; (with_reducible refine (HAW.out _).mono ?_); rintro e w1 ⟨rfl, hw⟩; have HB := Lib.hid ((Bz.new w o d o' d' 31 31).keep hw); clear hw; obtain ⟨k0, k1, k2, k3, k4⟩ := HB.out)
      | (go_at_call 24; (with_reducible refine (H1.out _).mono ?_); rintro e w2 ⟨rfl, hw⟩; have HC := Lib.hid (HB.out.keep hw); clear hw HB k0 k1 k2 k3 k4; obtain ⟨k0, k1, k2, k3, k4⟩ := HC.out)
      | (go_at_call 26; (with_reducible refine (H2.out _).mono ?_); rintro e w3 ⟨rfl, hw⟩; have HD := Lib.hid (HC.out.keep hw); clear hw HC k0 k1 k2 k3 k4; obtain ⟨k0, k1, k2, k3, k4⟩ := HD.out)
      | (go_at_call 33; (with_reducible refine (H3.out _).mono ?_); rintro e w4 ⟨rfl, hw⟩; have HE := Lib.hid (HD.out.keep hw.toSame); clear hw HD k0 k1 k2 k3 k4; obtain ⟨k0, k1, k2, k3, k4⟩ := HE.out)
      | (go_at_call 29; (with_reducible refine (H4.out _).mono ?_); rintro e w5 ⟨rfl, hw⟩; have HF := Lib.hid (HE.out.keep hw.toSame); clear hw HE k0 k1 k2 k3 k4; obtain ⟨k0, k1, k2, k3, k4⟩ := HF.out)
      | (go_at_call 31; (with_reducible refine (H5.out _).mono ?_); rintro e w6 ⟨rfl, rfl⟩)
      | (go_at_call 31; (with_reducible refine (H6.out _).mono ?_); rintro e w6 ⟨rfl, rfl⟩))
    go_ret
    exact ⟨rfl, HF.out.2.2.2.2⟩
theorem sz_le {n k : Int} : szS n ≤ k ↔ -k ≤ n ∧ n ≤ k := by unfold szS; omega
theorem walk (o d o' d' : Int) (n : Int) (_hn : -9223372036854775808 ≤ n ∧ n ≤ 9223372036854775807) (w : World) :
    Calls Try.prog 7 #[.agg #[.int .i64 o, .int .i64 d], .agg #[.int .i64 o', .int .i64 d'], .int .i64 n] w fun e w' => e = .returned (.bool true) ∧ Same w w' := by
  obtain ⟨r1, hr1⟩ := reached o d n 2120
  obtain ⟨r2, hr2⟩ := reached o' d' n 1020
  obtain ⟨r3, hr3⟩ := reached o' d' n 3221
  have s1 : CSend o d n (inS o d n r1).1 (inS o d n r1).2 := fun w => Send_any o d n r1 hr1 w
  have w1 : CWin o' d' n (winS o' d' n r2 r3).1 (winS o' d' n r2 r3).2.1 (winS o' d' n r2 r3).2.2 := fun w => Window_any o' d' n r2 r3 hr2 hr3 w
  obtain ⟨b1, b2, _⟩ := inS_bd o d n r1
  have h3 := fun w => Fits_of s1 w1 w
  have h5 := fun w => Late_of (v := shS o' d' (inS o d n r1).1) s1 w1 (fun _ k => ⟨(shows_of ⟨b1, b2⟩ k).1, (shows_of ⟨b1, b2⟩ k).2.2⟩) w
  rcases ar_cases (inS o d n r1).1 (inS o d n r1).2 (winS o' d' n r2 r3).1 (winS o' d' n r2 r3).2.1 (winS o' d' n r2 r3).2.2 with ⟨e1, e2, hs⟩ | ⟨_, e2, hs⟩ | ⟨e1, hs⟩
  · rw [hs] at h3 h5
    obtain ⟨ok1, sl⟩ := in_ok e1
    obtain ⟨ok2, _⟩ := win_ok e2
    have e3 : (inS o' d' n r3).2 = 0 := by
      by_cases k : (inS o' d' n r3).2 = 0
      · exact k
      · unfold winS at e2; rw [if_neg k] at e2; exact e2
    have R1 := hr1 ok1 sl
    have R2 := hr2 ok2 sl
    have R3 := hr3 ok2 sl
    obtain ⟨n1, n2⟩ := slB_of sl
    have i1 : inS o d n r1 = rchP r1 := by unfold inS; rw [if_pos ok1, if_pos sl]
    have i2 : inS o' d' n r2 = rchP r2 := by unfold inS; rw [if_pos ok2, if_pos sl]
    have i3 : inS o' d' n r3 = rchP r3 := by unfold inS; rw [if_pos ok2, if_pos sl]
    have l1 : r1 ≤ 1099511627776 := by
      rw [i1] at e1; unfold rchP at e1
      by_cases k : r1 ≤ 1099511627776
      · exact k
      · rw [if_neg k] at e1; exact absurd e1 (by decide)
    have l3 : r3 ≤ 1099511627776 := by
      rw [i3] at e3; unfold rchP at e3
      by_cases k : r3 ≤ 1099511627776
      · exact k
      · rw [if_neg k] at e3; exact absurd e3 (by decide)
    have l23 : r2 ≤ r3 := by
      by_cases k : r3 < r2
      · have a := (R2.2 r3 (by omega)).1 k
        have := (R3.2 r3 (by omega)).2 (by omega)
        omega
      · omega
    rw [show rchP r1 = ((r1 : Int), 0) from if_pos l1] at i1
    rw [show rchP r2 = ((r2 : Int), 0) from if_pos (by omega)] at i2
    rw [show rchP r3 = ((r3 : Int), 0) from if_pos l3] at i3
    have hw : winS o' d' n r2 r3 = ((r2 : Int), (r3 : Int) - 1, 0) := by unfold winS; rw [i2, i3]; rfl
    rw [i1, hw] at h3
    rw [i1, hw] at h5
    rw [i1] at s1
    simp only at h3 h5 s1
    rw [show fiF (((r1 : Int), (r2 : Int), (r3 : Int) - 1), 0) = (decide ((r2 : Int) ≤ r1) && decide ((r1 : Int) ≤ (r3 : Int) - 1), 0) from rfl] at h3
    rw [show laF n (shS o' d' r1) (((r1 : Int), (r2 : Int), (r3 : Int) - 1), 0) = (shS o' d' r1 - (n * 10000 + 2120), 0) from rfl] at h5
    have hT : timeB (r1 : Int) = true := by simp [timeB, inB]; omega
    have ha := fun w => Apart_any o d o' d' r1 w
    rw [show apS o d o' d' r1 = (shS o' d' r1 - shS o d r1, 0) by unfold apS; rw [if_pos ok1, if_pos ok2, if_pos hT]] at ha
    have q1 := shS_bd (t := (r1 : Int)) ok1 (by omega) (by omega)
    have q2 := shS_bd (t := (r1 : Int)) ok2 (by omega) (by omega)
    have hsend : 0 < r1 → n * 10000 + 2120 ≤ shS o d r1 ∧ shS o d r1 ≤ n * 10000 + 2121 := fun z => by
      have a : ¬ shS o d r1 < n * 10000 + 2120 := fun e => by have := (R1.2 r1 (by omega)).2 e; omega
      have b := (R1.2 (r1 - 1) (by omega)).1 (by omega)
      have c := (sh_step ok1 ((r1 - 1 : Nat) : Int)).2
      rw [show ((r1 - 1 : Nat) : Int) + 1 = (r1 : Int) by omega] at c
      omega
    have f2 := R2.2 r1 (by omega)
    have f3 := R3.2 r1 (by omega)
    refine good o d o' d' n r1 (shS o' d' r1 - shS o d r1) (shS o' d' r1 - (n * 10000 + 2120)) (szS (shS o' d' r1 - (n * 10000 + 2120))) (szS (shS o' d' r1 - shS o d r1)) _ (by omega) ?_ ?_ w h3 h5 s1 ha (fun w => lsize_any _ (by omega) (by omega) w) (fun w => lsize_any _ (by omega) (by omega) w)
    · by_cases z : szS (shS o' d' r1 - (n * 10000 + 2120)) ≤ 1101
      · exact .inl z
      · refine .inr ⟨by omega, ?_⟩
        by_cases z0 : r1 = 0
        · exact .inl (by omega)
        · refine .inr ⟨by omega, ?_⟩
          rw [sz_le] at z
          by_cases x : r2 ≤ r1
          · have : ¬ (r1 : Int) ≤ (r3 : Int) - 1 := by
              intro y
              have a := f3.1 (by omega)
              have b : ¬ shS o' d' r1 < n * 10000 + 1020 := fun e => by have := f2.2 e; omega
              omega
            simp [this]
          · have : ¬ (r2 : Int) ≤ r1 := by omega
            simp [this]
    · by_cases z0 : r1 = 0
      · exact .inl (by omega)
      · refine .inr ⟨by omega, ?_⟩
        by_cases z : szS (shS o' d' r1 - shS o d r1) ≤ 1098
        · refine .inr ⟨z, ?_⟩
          rw [sz_le] at z
          obtain ⟨s2, s3⟩ := hsend (by omega)
          have x : (r2 : Int) ≤ r1 := by
            by_cases e : r1 < r2
            · have := f2.1 e; omega
            · omega
          have y : (r1 : Int) ≤ (r3 : Int) - 1 := by
            have := f3.2 (by omega); omega
          simp [x, y]
        · exact .inl (by omega)
  · rw [hs] at h3 h5
    have ne : ¬ (winS o' d' n r2 r3).2.2 = 0 := by simpa using e2
    exact bad o d o' d' n _ e2 w (by intro w; have := h3 w; rw [show fiF ((0, 0, 0), (winS o' d' n r2 r3).2.2) = (false, (winS o' d' n r2 r3).2.2) from if_neg ne] at this; exact this)
      (by intro w; have := h5 w; rw [show laF n (shS o' d' (inS o d n r1).1) ((0, 0, 0), (winS o' d' n r2 r3).2.2) = (0, (winS o' d' n r2 r3).2.2) from if_neg ne] at this; exact this)
  · rw [hs] at h3 h5
    have ne : ¬ (inS o d n r1).2 = 0 := by simpa using e1
    exact bad o d o' d' n _ e1 w (by intro w; have := h3 w; rw [show fiF ((0, 0, 0), (inS o d n r1).2) = (false, (inS o d n r1).2) from if_neg ne] at this; exact this)
      (by intro w; have := h5 w; rw [show laF n (shS o' d' (inS o d n r1).1) ((0, 0, 0), (inS o d n r1).2) = (0, (inS o d n r1).2) from if_neg ne] at this; exact this)
open Go.ChangeShapes Go.WideShapes Go.ChangeAt
theorem own : ownKnob Try.prog.godebug = none := by kernel_rfl

set_option maxRecDepth 100000 in
theorem lifted (os : Os) (started : os.Started) (H : Type) (enc : TypeId × Value → H) :
    ReturnsInHanded {} Try.checked os 7 .any (Rows.guardFitsSpec.pre6 enc Try.prog Try.f7 Rows.guardFitsRow.domain false) (Rows.guardFitsSpec.post enc Try.prog Try.f7 false true false false) := by
  refine returnsInHanded_of_change (C := Try.checked) own started (by kernel_rfl) Try.func7
    (ChangeSpec.witness6 (enc := enc) (C := Try.checked) false ⟨#[], #[.agg #[.int .i64 0, .int .i64 0], .agg #[.int .i64 0, .int .i64 0], .int .i64 0], []⟩ 8 (by kernel_rfl) (by kernel_rfl) (by kernel_rfl) (by kernel_rfl)) ?_
  intro W base args ds gs before hval0 hW hcnd _
  have hval : ∀ (j : Nat) t v, Try.f7.params[j]? = some t → args[j]? = some v → Value.okWide Try.prog W .any base t v := hval0
  have hW' := hW
  obtain ⟨p, q, hA0, hV, rfl, hfz, hnd⟩ := hW
  have hA : DataW.TrodAll enc Try.prog W 0 (fun _ => true) true Try.f7.params.toList args.toList ds p := hA0
  rw [Try.params7] at hA hval
  obtain ⟨v0, vs0, d0, ds0, p0, q0, hargs, rfl, rfl, h0, r0⟩ := trodAll_cons hA
  obtain ⟨v1, vs1, d1, ds1, p1, q1, rfl, rfl, rfl, h1, r1⟩ := trodAll_cons r0
  obtain ⟨v2, vs2, d2, ds2, p2, q2, rfl, rfl, rfl, h2, r2⟩ := trodAll_cons r1
  obtain ⟨rfl, rfl, rfl⟩ := trodAll_nil r2
  obtain rfl : args = #[v0, v1, v2] := by cases args; simp_all
  obtain ⟨rfl, rfl⟩ := trodVars_none hV
  obtain ⟨x0, y0, rfl, bx0, be0⟩ := open_clock (hval 0 31 v0 rfl rfl) h0
  obtain ⟨x1, y1, rfl, bx1, be1⟩ := open_clock (hval 1 31 v1 rfl rfl) h1
  obtain ⟨a2, rfl, rfl, rfl, w2⟩ := open_int Try.underlying3 (hval 2 3 v2 rfl rfl) h2
  clear hA0 hval0
  try simp only [List.append_nil] at hW'
  try simp only [List.nil_append] at hW'
  have hlt : ∀ x ∈ p0 ++ p1, x.block < W.heap.size := fun x hx => by
    have := hW'.lt x (by simpa using hx)
    simpa using this
  refine (walk x0 y0 x1 y1 a2 (bounds_i64 w2) W).mono fun e W' ⟨he, hg⟩ => ?_
  subst he
  exact ⟨_, rfl, _, _, _, [], _, [], hW', trodAll_cons_mk (shut_bool Try.underlying4 _) trodAll_mk0, trodAll_cons_mk (Below.trod Try.laidOut (by kernel_rfl) (of_decide_eq_true (by kernel_rfl)) h0 (Same.toBelow hg) (fun x hx => hlt x (by simp [hx]))) (trodAll_cons_mk (Below.trod Try.laidOut (by kernel_rfl) (of_decide_eq_true (by kernel_rfl)) h1 (Same.toBelow hg) (fun x hx => hlt x (by simp [hx]))) (trodAll_cons_mk (shut_int Try.underlying3 w2) trodAll_mk0)), rfl, (Same.toBelow hg).frame _, fun h => by cases h⟩

theorem over : Rows.guardFitsRow.holds Try.pinned (OpenSpec.ofChange Rows.guardFitsSpec) :=
  OpenClaim.holds_of_wide 7 Try.f7 rfl rfl rfl rfl rfl rfl rfl ⟨rfl, rfl, rfl, rfl, rfl⟩ rfl rfl rfl rfl rfl (by kernel_rfl) Try.func7 (by kernel_rfl)
    (of_decide_eq_true (by kernel_rfl)) (by unfold Func.isWrapper; first | (rw [if_pos (by decide +kernel)]; kernel_rfl) | (rw [if_neg (by decide +kernel)]; exact ⟨rfl, rfl⟩))
    (fun os started H enc _ => lifted os started H enc)

theorem proved : Rows.GuardFitsSaid :=
  over
end guardFits
end Go.Proofs.Ytkffmflhonknpaa
