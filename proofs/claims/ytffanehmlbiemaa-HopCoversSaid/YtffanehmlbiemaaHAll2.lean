/- CheckAll of the reference. -/
import Derived.Test.YtffanehmlbiemaaHAll
import Derived.Test.YtffanehmlbiemaaHNext2
namespace Go.Proofs.Ytffanehmlbiemaa
open Go.RowKit Go.Deep

set_option maxHeartbeats 3200000 in
set_option maxRecDepth 100000 in
theorem CheckAll2_any (w : World) (v : Value) (hs : List Hp) (h : HL w v hs) (hz : ∀ i, (hs.getD i hp0).2.2.2.length ≤ 1000) :
    Calls Try.prog 23 #[v] w fun e w' => e = .returned (.int .i64 (allE hs)) ∧ Same w w' := by
  by_cases c0 : inB (hs.length : Int) 1 1024 = true
  · obtain ⟨q1, q2⟩ := inB_yes c0
    rcases h with ⟨b, off, cap, rfl, h0, hc⟩ | ⟨ao, cap, rfl, rfl⟩
    · have HZ := Lib.hid (allK_zero (hs := hs) hs.length)
      have HST := Lib.hid (fun (k : Nat) (hk : k < hs.length) (h0 : ∀ j, j < k → stepE hs j = 0) (h : ¬ stepE hs k = 0) => (show allK hs hs.length = stepE hs k from by
        have := allK_stop h0 h (hs.length - k - 1)
        rwa [show k + 1 + (hs.length - k - 1) = hs.length by omega] at this))
      rw [show allE hs = allK hs hs.length from if_pos c0]
      obtain ⟨R, hR⟩ : ∃ R, allK hs hs.length = R := ⟨_, rfl⟩
      rw [hR] at HZ HST ⊢
      clear hR c0
      have H := Lib.hid hc; clear hc
      have HLN := Lib.hid hz; clear hz
      generalize hn : hs.length = n at *
      clear hn
      have r1 : decide ((n : Int) < 1) = false := decide_eq_false (by omega)
      have r2 : decide ((1024 : Int) < (n : Int)) = false := decide_eq_false (by omega)
      go_enter Try.func23, Try.ntmps23
      go_wp2
      go_loopw [3] (fun i wr => ∃ k : Nat, k ≤ n ∧ i = .int .i64 k ∧ (∀ j, j < k → stepE hs j = 0) ∧ Same w wr) (fun i _ => n - (intOf i).toNat)
      case atStart => exact ⟨0, Nat.zero_le _, rfl, fun j hj => absurd hj (Nat.not_lt_zero _), Same.refl _⟩
      case round =>
        obtain ⟨k, hk, rfl, hall, hS⟩ := hrel
        by_cases hlt : k < n
        · obtain ⟨ao, ca, z0, z1, z2, z3, hil⟩ := (H.out k hlt).same hS
          have hln := HLN.out k
          have hst : stepE hs k = if hopE (hs.getD k hp0) = true then if k = 0 then 0 else folS (hs.getD (k - 1) hp0) (hs.getD k hp0) else 1 := rfl
          obtain ⟨x, hx⟩ : ∃ x, hs.getD k hp0 = x := ⟨_, rfl⟩
          rw [hx] at z0 z1 z2 z3 hil hln hst
          obtain ⟨xv, xf, xu, xz⟩ := x
          simp only at z0 z1 z2 z3 hil hln
          have HX := Lib.hid hx; clear hx
          have hck := Check2_any xv xf xu (.slice ao xz.length ca) xz wr hil hln
          have HXC := Lib.hid (fun (w1 : World) (hq : Same wr w1) => And.intro (hq.cell z0) (And.intro (hq.cell z1) (And.intro (hq.cell z2) (hq.cell z3))))
          by_cases hh : hopE (xv, xf, xu, xz) = true
          · rw [if_pos hh] at hst
            rw [show chkH xv xf xu xz = 0 from if_pos hh] at hck
            have HCK := Lib.hid hck; clear hck
            by_cases k0 : k = 0
            · subst k0
              have HS0 := Lib.hid (show stepE hs 0 = 0 from hst)
              simp only [Nat.zero_mul, Nat.add_zero] at z0 z1 z2 z3
              have HSR := Lib.hid hS; clear hst hall hS hil hh hln HXC
              generalize xz.length = m at *
              go_wp2_with (go_at_call 17; (with_reducible refine HCK.out.mono ?_); rintro e w2 ⟨rfl, hw⟩; have HW2 := Lib.hid (HSR.out.trans hw); clear hw)
              go_quiet (fail)
              go_wp2
              go_quiet (fail)
              go_wp2
              go_roundw
              case rel => exact ⟨1, by omega, by first | rfl | go_num, fun j hj => (show stepE hs j = 0 from by rw [show j = 0 by omega]; exact HS0.out), by first | exact HW2.out.drewN _ | exact (HW2.out.drewN _).drewN _⟩
              case measure => simp [intOf]; omega
            · obtain ⟨m, rfl⟩ : ∃ m, k = m + 1 := ⟨k - 1, by omega⟩
              obtain ⟨ap, cp, y0, y1, y2, y3, _⟩ := (H.out m (by omega)).same hS
              have hprev := hall m (by omega)
              rw [if_neg (by omega), Nat.add_sub_cancel] at hst
              obtain ⟨y, hy⟩ : ∃ y, hs.getD m hp0 = y := ⟨_, rfl⟩
              have hpv : hopE y = true := by
                unfold stepE at hprev
                rw [hy] at hprev
                by_cases q : hopE y = true
                · exact q
                · rw [if_neg q] at hprev; exact absurd hprev (by decide)
              rw [hy] at y0 y1 y2 y3 hst
              obtain ⟨yv, yf, yu, yz⟩ := y
              simp only at y0 y1 y2 y3
              have hyv := (hopB_of (show hopB yv yf yu yz = true from hpv)).1
              have HSK := Lib.hid (fun (h0 : stepE hs (m + 1) = 0) (j : Nat) (hj : j < m + 1 + 1) => (show stepE hs j = 0 from by
                by_cases e : j = m + 1
                · subst e; exact h0
                · exact hall j (by omega)))
              have HFN := Lib.hid (fun (hne : ¬ stepE hs (m + 1) = 0) => HST.out (m + 1) hlt hall hne)
              have HSR := Lib.hid hS
              have HY := Lib.hid (fun (w1 : World) (hq : Same wr w1) => And.intro (hq.cell y0) (And.intro (hq.cell y1) (hq.cell y2)))
              have hst2 : stepE hs (m + 1) = if xf = yu then if xv = (yv + 1) % 256 then 0 else 23 else 5 := hst
              clear hy hpv hprev hall hS hil hh hln y0 y1 y2 y3 hst
              generalize xz.length = n1 at *
              generalize yz.length = n2 at *
              have i1 : ((m + 1 : Nat) : Int) - 1 = (m : Int) := by omega
              have i2 : decide ((0 : Int) < ((m + 1 : Nat) : Int)) = true := decide_eq_true (by omega)
              have i3 : decide ((0 : Int) < (m : Int) + 1) = true := decide_eq_true (by omega)
              have i4 : ((m : Int) + 1 - 1) = (m : Int) := by omega
              have i5 : (0 : Int) ≤ (m : Int) := by omega
              have i6 : (m : Int) < (n : Int) := by omega
              have i7 : m < n := by omega
              have i8 : IntKind.i64.wrap (m : Int) = (m : Int) := IntWalk.i64_in _ (by omega)
              have i9 : IntKind.i64.wrap (yv + 1) = yv + 1 := IntWalk.i64_in _ (by omega)
              have i10 : (yv + 1).tmod 256 = (yv + 1) % 256 := Int.tmod_eq_emod_of_nonneg (by omega)
              clear hyv
              generalize hYV : (yv + 1) % 256 = YV at *
              clear hYV
              by_cases e1 : xf = yu
              · rw [if_pos e1] at hst2
                have f1 : (xf != yu) = false := by simpa using e1
                clear e1
                by_cases e2 : xv = YV
                · rw [if_pos e2] at hst2
                  have f2 : (xv != YV) = false := by simpa using e2
                  clear e2
                  have HS0 := Lib.hid hst2; clear hst2
                  go_wp2_with (go_at_call 17; (with_reducible refine HCK.out.mono ?_); rintro e w2 ⟨rfl, hw⟩; have HW2 := Lib.hid (HSR.out.trans hw); obtain ⟨y0, y1, y2⟩ := HY.out _ hw; obtain ⟨x0, x1, x2, x3⟩ := HXC.out _ hw; clear hw)
                  go_quiet (fail)
                  go_wp2
                  go_quiet (fail)
                  go_wp2
                  go_roundw
                  case rel => exact ⟨m + 1 + 1, by omega, by go_num, HSK.out HS0.out, by first | exact HW2.out.drewN _ | exact (HW2.out.drewN _).drewN _⟩
                  case measure => simp [intOf]; omega
                · rw [if_neg e2] at hst2
                  have f2 : (xv != YV) = true := by simpa using e2
                  have hF := HFN.out (by rw [hst2]; decide)
                  rw [hst2] at hF
                  have HF := Lib.hid hF; clear hst2 hF
                  go_wp2_with (go_at_call 17; (with_reducible refine HCK.out.mono ?_); rintro e w2 ⟨rfl, hw⟩; have HW2 := Lib.hid (HSR.out.trans hw); obtain ⟨y0, y1, y2⟩ := HY.out _ hw; obtain ⟨x0, x1, x2, x3⟩ := HXC.out _ hw; clear hw)
                  go_quiet (fail)
                  go_wp2
                  go_quiet (fail)
                  go_wp2
                  go_ret
                  exact ⟨ret_i64 HF.out.symm, by first | exact HW2.out.drewN _ | exact (HW2.out.drewN _).drewN _⟩
              · rw [if_neg e1] at hst2
                have f1 : (xf != yu) = true := by simpa using e1
                have hF := HFN.out (by rw [hst2]; decide)
                rw [hst2] at hF
                have HF := Lib.hid hF; clear hst2 hF
                go_wp2_with (go_at_call 17; (with_reducible refine HCK.out.mono ?_); rintro e w2 ⟨rfl, hw⟩; have HW2 := Lib.hid (HSR.out.trans hw); obtain ⟨y0, y1, y2⟩ := HY.out _ hw; obtain ⟨x0, x1, x2, x3⟩ := HXC.out _ hw; clear hw)
                go_quiet (fail)
                go_wp2
                go_ret
                exact ⟨ret_i64 HF.out.symm, by first | exact HW2.out.drewN _ | exact (HW2.out.drewN _).drewN _⟩
          · rw [if_neg hh] at hst
            rw [show chkH xv xf xu xz = 1 from if_neg hh] at hck
            have HCK := Lib.hid hck; clear hck
            have HF := Lib.hid ((HST.out k hlt hall (by rw [hst]; decide)).trans hst)
            have HSR := Lib.hid hS; clear hst hall hS hil hh hln
            generalize xz.length = m at *
            go_wp2_with (go_at_call 17; (with_reducible refine HCK.out.mono ?_); rintro e w2 ⟨rfl, hw⟩; have HW2 := Lib.hid (HSR.out.trans hw); clear hw)
            go_ret
            exact ⟨ret_i64 HF.out.symm, HW2.out⟩
        · obtain rfl : n = k := by omega
          have HF := Lib.hid (HZ.out hall)
          have HQ := Lib.hid hS; clear hall hS
          go_wp2
          go_ret
          exact ⟨ret_i64 HF.out.symm, HQ.out⟩
    · simp at q1
  · have c0' : hs.length = 0 ∨ 1024 < hs.length := by
      unfold inB at c0
      simp only [decide_eq_true_eq] at c0
      omega
    rw [show allE hs = 1 from if_neg c0]
    obtain ⟨ao, cap, rfl⟩ := h.shape
    clear h c0 hz
    generalize hs.length = n at *
    rcases c0' with rfl | hgt
    · go_enter Try.func23, Try.ntmps23
      go_wp2
      go_ret
      exact ⟨rfl, Same.refl _⟩
    · have r1 : decide ((n : Int) < 1) = false := decide_eq_false (by omega)
      have r2 : decide ((1024 : Int) < (n : Int)) = true := decide_eq_true (by omega)
      go_enter Try.func23, Try.ntmps23
      go_wp2
      go_ret
      exact ⟨rfl, Same.refl _⟩
end Go.Proofs.Ytffanehmlbiemaa
