/- The reference's Check of a site: its loops. -/
import Derived.Test.YtcennbjegdlbhaaCheck3
namespace Go.Proofs.Ytcennbjegdlbhaa
open Go.RowKit

/-- What the two loops give. -/
def bothV (ps : List Pt) (zs : List Int) (ws : List Wl) : Int := if (decide (∀ i, i < ps.length → nodeB ps zs i = true) && decide (∀ i, i < ws.length → wlB (ws.getD i ⟨0, 0, 0, 0, 0⟩) = true)) then 0 else 1
theorem bothV_node {ps : List Pt} {zs : List Int} {ws : List Wl} {k : Nat} (hk : k < ps.length) (h : nodeB ps zs k = false) : bothV ps zs ws = 1 := by
  unfold bothV
  rw [show decide (∀ i, i < ps.length → nodeB ps zs i = true) = false from all_false hk h, Bool.false_and]; rfl
theorem bothV_wall {ps : List Pt} {zs : List Int} {ws : List Wl} {k : Nat} (hk : k < ws.length) (h : wlB (ws.getD k ⟨0, 0, 0, 0, 0⟩) = false) : bothV ps zs ws = 1 := by
  unfold bothV
  rw [show decide (∀ i, i < ws.length → wlB (ws.getD i ⟨0, 0, 0, 0, 0⟩) = true) = false from all_false hk h, Bool.and_false]; rfl
theorem bothV_all {ps : List Pt} {zs : List Int} {ws : List Wl} (h : ∀ i, i < ps.length → nodeB ps zs i = true) (k : ∀ i, i < ws.length → wlB (ws.getD i ⟨0, 0, 0, 0, 0⟩) = true) : bothV ps zs ws = 0 := by
  unfold bothV
  rw [all_true h, all_true k]; rfl
set_option maxHeartbeats 3200000 in
theorem check2_good (w : World) (s : Site) (v1 v2 v3 : Value) (h1 : Pts w v1 s.ps) (h2 : Ints w v2 s.zs) (h3 : Wls w v3 s.ws) (hh : headP s) (c : Int) (hcv : bothV s.ps s.zs s.ws = c) :
    Calls Try.prog 25 #[.agg #[v1, v2, v3, .int .i64 s.e, .int .i64 s.n, .int .i64 s.t]] w fun e w' => e = .returned (.int .i64 c) ∧ Same w w' := by
  have HCV := Lib.hid hcv; clear hcv
  obtain ⟨hd1, hd2, hd3, hd4, hd5, hd6⟩ := hh
  obtain ⟨ao3, cap3, e3⟩ := h3.shape
  rcases h1 with ⟨b, off, cap, rfl, h0, hc⟩ | ⟨ao, cap, rfl, e⟩
  · rcases h2 with ⟨b2, off2, cap2, rfl, h02, hc2⟩ | ⟨ao, cap, rfl, e⟩
    · have HC := Lib.hid hc; clear hc
      have HD := Lib.hid hc2; clear hc2
      have H3 := Lib.hid h3; clear h3
      subst e3
      have HR := Lib.hid (fun w => right_at s.t s.n true hd6 w)
      rw [hd3]
      have l1 : 2 ≤ (s.ps.length : Int) := by omega
      have l2 : (s.ps.length : Int) ≤ 32 := by omega
      have l3 : (s.ws.length : Int) ≤ 32 := by omega
      have HZ := Lib.hid hd3
      have HE := Lib.hid hd5
      clear hd3 hd6 h0 h02 hd1 hd2 hd4
      generalize s.e = e at *
      generalize s.n = n at *
      generalize s.t = t at *
      generalize s.ps = ps at *
      generalize s.zs = zs at *
      generalize s.ws = ws at *
      have hB : ∀ w1, Same (boxS w (.slice (some ⟨b, off, none⟩) ps.length cap) (.slice (some ⟨b2, off2, none⟩) ps.length cap2) (.slice ao3 ws.length cap3) e n t) w1 → w1.cell? ⟨w.heap.size, 0, none⟩ = some (.slice (some ⟨b, off, none⟩) ps.length cap) ∧ w1.cell? ⟨w.heap.size, 1, none⟩ = some (.slice (some ⟨b2, off2, none⟩) ps.length cap2) ∧ w1.cell? ⟨w.heap.size, 2, none⟩ = some (.slice ao3 ws.length cap3) ∧ Same w w1 := fun w1 h => ⟨(boxS_at h).1, (boxS_at h).2.1, (boxS_at h).2.2.1, (boxS_at h).2.2.2.2.2.2⟩
      have HB := Lib.hid hB; clear hB
      rcases hd5 with rfl | rfl
      all_goals
        go_enter Try.func25, Try.ntmps25
        go_wp2_with (go_at_call 56; (with_reducible refine (HR.out _).mono ?_); rintro e w' ⟨rfl, rfl⟩)
        go_loopw [4] (fun i wr => ∃ k : Nat, k ≤ ps.length ∧ i = .int .i64 k ∧ (∀ j, j < k → nodeB ps zs j = true) ∧ Same (boxS w (.slice (some ⟨b, off, none⟩) ps.length cap) (.slice (some ⟨b2, off2, none⟩) ps.length cap2) (.slice ao3 ws.length cap3) _ n t) wr) (fun i _ => ps.length - (intOf i).toNat)
        case atStart => exact ⟨0, Nat.zero_le _, rfl, fun j hj => absurd hj (Nat.not_lt_zero _), Same.refl _⟩
        case round =>
          obtain ⟨k, hk, rfl, hall, hS⟩ := hrel
          have HS := Lib.hid hS
          obtain ⟨ka, kb, kc, hSw⟩ := HB.out _ hS
          by_cases hlt : k < ps.length
          · obtain ⟨g1, g2⟩ := HC.out k hlt
            have g3 := HD.out k (by rw [HZ.out]; exact hlt)
            replace g1 := hSw.cell g1; replace g2 := hSw.cell g2; replace g3 := hSw.cell g3
            have hw : nodeB ps zs k = (ptB (ps.getD k ⟨0, 0⟩).x (ps.getD k ⟨0, 0⟩).y && pwB (zs.getD k 0)) := rfl
            have HA := Lib.hid hall; clear hall hS hSw
            obtain ⟨vv, hvv⟩ : ∃ vv, vv = ps.getD k ⟨0, 0⟩ := ⟨_, rfl⟩
            rw [← hvv] at hw g1 g2
            obtain ⟨z, hzz⟩ : ∃ z, z = zs.getD k 0 := ⟨_, rfl⟩
            rw [← hzz] at hw g3
            clear hvv hzz
            obtain ⟨x, y⟩ := vv
            dsimp only at hw g1 g2
            obtain ⟨u1, hu1⟩ : ∃ u, ptB x y = u := ⟨_, rfl⟩
            obtain ⟨u2, hu2⟩ : ∃ u, pwB z = u := ⟨_, rfl⟩
            rw [hu1, hu2] at hw
            have H1 := Lib.hid (fun w => point2_at x y u1 hu1 w)
            have H2 := Lib.hid (fun w => is_at z u2 hu2 w)
            clear hu1 hu2
            have HW := Lib.hid hw; clear hw
            have hcase : u1 = false ∨ (u1 = true ∧ u2 = false) ∨ (u1 = true ∧ u2 = true) := by cases u1 <;> cases u2 <;> simp
            rcases hcase with rfl | ⟨rfl, rfl⟩ | ⟨rfl, rfl⟩
            all_goals
              go_wp2_with (first
                | (go_at_call 48; (with_reducible refine (H1.out _).mono ?_); rintro e w1 ⟨rfl, hw⟩; have g3' := hw.cell g3; clear g3; have g3 := g3'; clear g3'; have kb' := hw.cell kb; clear kb; have kb := kb'; clear kb'; have hb := Lib.hid hw; clear hw)
                | (go_at_call 49; (with_reducible refine (H2.out _).mono ?_); rintro e w' ⟨rfl, rfl⟩))
            · go_ret
              exact ⟨ret_i64 ((bothV_node hlt HW.out).symm.trans HCV.out), ((HB.out _ HS.out).2.2.2).trans hb.out⟩
            · go_ret
              exact ⟨ret_i64 ((bothV_node hlt HW.out).symm.trans HCV.out), ((HB.out _ HS.out).2.2.2).trans hb.out⟩
            · go_roundw
              case rel =>
                refine ⟨k + 1, by omega, by go_num, fun j hj => ?_, HS.out.trans hb.out⟩
                rcases Nat.lt_succ_iff_lt_or_eq.1 hj with h | rfl
                · exact HA.out j h
                · exact HW.out
              case measure => simp [intOf]; omega
          · have hkn : k = ps.length := by omega
            have HN := Lib.hid (hkn ▸ hall); clear hall hS
            clear hlt hk
            subst hkn
            rcases H3.out with ⟨b3, off3, capx, he3, h03, hc3⟩ | ⟨ao, capx, he3, hws⟩
            · injection he3 with q1 q2 q3
              subst q1 q3
              clear q2
              have HE3 := Lib.hid hc3; clear hc3
              go_wp2
              go_loopw [5] (fun i wr => ∃ k : Nat, k ≤ ws.length ∧ i = .int .i64 k ∧ (∀ j, j < k → wlB (ws.getD j ⟨0, 0, 0, 0, 0⟩) = true) ∧ Same (boxS w (.slice (some ⟨b, off, none⟩) ps.length cap) (.slice (some ⟨b2, off2, none⟩) ps.length cap2) (.slice (some ⟨b3, off3, none⟩) ws.length cap3) _ n t) wr) (fun i _ => ws.length - (intOf i).toNat)
              case atStart => exact ⟨0, Nat.zero_le _, rfl, fun j hj => absurd hj (Nat.not_lt_zero _), HS.out⟩
              case round =>
                clear ka kb kc hSw HS
                obtain ⟨k, hk, rfl, hall, hS⟩ := hrel
                have HS := Lib.hid hS
                obtain ⟨ka, kb, kc, hSw⟩ := HB.out _ hS
                by_cases hlt : k < ws.length
                · obtain ⟨g1, g2, g3, g4, g5⟩ := HE3.out k hlt
                  replace g1 := hSw.cell g1; replace g2 := hSw.cell g2; replace g3 := hSw.cell g3; replace g4 := hSw.cell g4; replace g5 := hSw.cell g5
                  have hw : wlB (ws.getD k ⟨0, 0, 0, 0, 0⟩) = (ptB (ws.getD k ⟨0, 0, 0, 0, 0⟩).a1 (ws.getD k ⟨0, 0, 0, 0, 0⟩).a2 && (ptB (ws.getD k ⟨0, 0, 0, 0, 0⟩).b1 (ws.getD k ⟨0, 0, 0, 0, 0⟩).b2 && decide (0 ≤ (ws.getD k ⟨0, 0, 0, 0, 0⟩).f ∧ (ws.getD k ⟨0, 0, 0, 0, 0⟩).f ≤ 1000))) := rfl
                  have HA := Lib.hid hall; clear hall hS hSw
                  obtain ⟨vv, hvv⟩ : ∃ vv, vv = ws.getD k ⟨0, 0, 0, 0, 0⟩ := ⟨_, rfl⟩
                  rw [← hvv] at hw g1 g2 g3 g4 g5
                  have HV := Lib.hid hvv; clear hvv
                  obtain ⟨a1, a2, b1, b2, f⟩ := vv
                  dsimp only at hw g1 g2 g3 g4 g5
                  obtain ⟨u1, hu1⟩ : ∃ u, ptB a1 a2 = u := ⟨_, rfl⟩
                  obtain ⟨u2, hu2⟩ : ∃ u, ptB b1 b2 = u := ⟨_, rfl⟩
                  rw [hu1, hu2] at hw
                  have H1 := Lib.hid (fun w => point2_at a1 a2 u1 hu1 w)
                  have H2 := Lib.hid (fun w => point2_at b1 b2 u2 hu2 w)
                  clear hu1 hu2
                  have hcase : (u1 = false) ∨ (u1 = true ∧ u2 = false) ∨ (u1 = true ∧ u2 = true ∧ f < 0) ∨ (u1 = true ∧ u2 = true ∧ 0 ≤ f ∧ 1000 < f) ∨ (u1 = true ∧ u2 = true ∧ 0 ≤ f ∧ f ≤ 1000) := by
                    cases u1 <;> cases u2 <;> simp; omega
                  have hwb : (u1 = false ∨ u2 = false ∨ f < 0 ∨ 1000 < f) → wlB (ws.getD k ⟨0, 0, 0, 0, 0⟩) = false := fun h => by
                    rw [← HV.out, hw]
                    rcases h with rfl | rfl | h | h
                    · rfl
                    · simp
                    · rw [decide_eq_false (by omega)]; simp
                    · rw [decide_eq_false (by omega)]; simp
                  have hwg : u1 = true → u2 = true → 0 ≤ f → f ≤ 1000 → wlB (ws.getD k ⟨0, 0, 0, 0, 0⟩) = true := fun h1 h2 h3 h4 => by
                    rw [← HV.out, hw, h1, h2, decide_eq_true (show 0 ≤ f ∧ f ≤ 1000 from ⟨h3, h4⟩)]; rfl
                  have HWB := Lib.hid hwb; clear hwb
                  have HWG := Lib.hid hwg; clear hwg hw
                  rcases hcase with rfl | ⟨rfl, rfl⟩ | ⟨rfl, rfl, f1⟩ | ⟨rfl, rfl, f1, f2⟩ | ⟨rfl, rfl, f1, f2⟩
                  all_goals
                    go_wp2_with (first
                      | (go_at_call 48; (with_reducible refine (H1.out _).mono ?_); rintro e w1 ⟨rfl, hw⟩; have hb := Lib.hid hw; obtain ⟨k0, k1, k2, k3, k4, hs⟩ := boxW_at hw; clear hw hs)
                      | (go_at_call 48; (with_reducible refine (H2.out _).mono ?_); rintro e w2 ⟨rfl, hw⟩; have hb' := Lib.hid (hb.out.trans hw); clear hb hw k0 k1 k2 k3 k4; have hb := hb'; clear hb'; obtain ⟨k0, k1, k2, k3, k4, hs⟩ := boxW_at hb.out; clear hs))
                  · go_ret
                    exact ⟨ret_i64 ((bothV_wall hlt (HWB.out (.inl (by simp)))).symm.trans HCV.out), ((HB.out _ HS.out).2.2.2).trans (boxW_at hb.out).2.2.2.2.2⟩
                  · go_ret
                    exact ⟨ret_i64 ((bothV_wall hlt (HWB.out (.inr (.inl (by simp))))).symm.trans HCV.out), ((HB.out _ HS.out).2.2.2).trans (boxW_at hb.out).2.2.2.2.2⟩
                  · go_ret
                    exact ⟨ret_i64 ((bothV_wall hlt (HWB.out (.inr (.inr (.inl f1))))).symm.trans HCV.out), ((HB.out _ HS.out).2.2.2).trans (boxW_at hb.out).2.2.2.2.2⟩
                  · go_ret
                    exact ⟨ret_i64 ((bothV_wall hlt (HWB.out (.inr (.inr (.inr f2))))).symm.trans HCV.out), ((HB.out _ HS.out).2.2.2).trans (boxW_at hb.out).2.2.2.2.2⟩
                  · go_roundw
                    case rel =>
                      refine ⟨k + 1, by omega, by go_num, fun j hj => ?_, HS.out.trans (boxW_at hb.out).2.2.2.2.2⟩
                      rcases Nat.lt_succ_iff_lt_or_eq.1 hj with h | rfl
                      · exact HA.out j h
                      · exact HWG.out (by simp) (by simp) f1 f2
                    case measure => simp [intOf]; omega
                · have hkn : k = ws.length := by omega
                  have HA := Lib.hid (hkn ▸ hall); clear hall hS
                  go_wp2
                  go_ret
                  exact ⟨ret_i64 ((bothV_all HN.out HA.out).symm.trans HCV.out), (HB.out _ HS.out).2.2.2⟩
            · injection he3 with q1 q2 q3
              clear q1 q3
              have hws0 : ws.length = 0 := by rw [hws]; rfl
              have HW0 := Lib.hid (show ∀ i, i < ws.length → wlB (ws.getD i ⟨0, 0, 0, 0, 0⟩) = true from fun i hi => by omega)
              have hl0 : (ws.length : Int) ≤ 0 := by omega
              clear hws q2 hws0
              go_wp2
              refine wp_loop_rounds 1 ?_
              rw [rounds_succ]
              go_wp2
              go_ret
              exact ⟨ret_i64 ((bothV_all HN.out HW0.out).symm.trans HCV.out), hSw⟩
    · rw [← hd3, e] at hd1; simp at hd1
  · rw [e] at hd1; simp at hd1
theorem check2_any (w : World) (v : Value) (s : Site) (h : SiteAt w v s) : Calls Try.prog 25 #[v] w fun e w' => e = .returned (.int .i64 (if siteB s then 0 else 1)) ∧ Same w w' := by
  by_cases hh : headP s
  · obtain ⟨v1, v2, v3, rfl, h1, h2, h3⟩ := h.read
    refine check2_good w s v1 v2 v3 h1 h2 h3 hh _ ?_
    rw [site_eq hh]; rfl
  · rw [if_neg (fun hs => hh (head_of hs))]
    exact check2_bad w v s h hh
theorem check2_at (w : World) (v : Value) (s : Site) (h : SiteAt w v s) (c : Int) (hc : (if siteB s then (0 : Int) else 1) = c) : Calls Try.prog 25 #[v] w fun e w' => e = .returned (.int .i64 c) ∧ Same w w' := hc ▸ check2_any w v s h
end Go.Proofs.Ytcennbjegdlbhaa
