/- The reference's Between. -/
import Derived.Test.YtcennbjegdlbhaaAt2
namespace Go.Proofs.Ytcennbjegdlbhaa
open Go.RowKit

set_option maxHeartbeats 3200000 in
theorem Between2_any (w : World) (v : Value) (s : Site) (h : SiteAt w v s) (a b : Int) :
    Calls Try.prog 21 #[v, .int .i64 a, .int .i64 b] w fun e w' => e = .returned (.tuple #[.int .i64 (betweenS s a b).1, .int .i64 (betweenS s a b).2]) ∧ Same w w' := by
  have hread := h.read
  obtain ⟨v1, v2, v3, rfl, h1, h2, h3⟩ := hread
  obtain ⟨ao1, cap1, e1⟩ := h1.shape
  obtain ⟨ao2, cap2, e2⟩ := h2.shape
  obtain ⟨ao3, cap3, e3⟩ := h3.shape
  have HAT := Lib.hid (fun (w1 : World) (h : Same (boxS w v1 v2 v3 s.e s.n s.t) w1) => boxS_at h)
  have s0 : Same w (boxS w v1 v2 v3 s.e s.n s.t) := by repeat' (first | exact Same.refl _ | apply Same.alloc)
  have HS0 := Lib.hid s0
  by_cases hs : siteB s = true
  · have hc := check2_at _ _ s (h.same s0) 0 (by rw [if_pos hs])
    have HC := Lib.hid hc; clear hc
    have hg := good_of hs
    have hn2 := hg.n2
    have hn32 := hg.n32
    by_cases hin : ndB s a = true ∧ ndB s b = true
    · obtain ⟨k1, k2⟩ := hin
      have r1 := of_decide_eq_true k1
      have r2 := of_decide_eq_true k2
      have hr : betweenS s a b = (betS s a.toNat b.toNat, 0) := by unfold betweenS; rw [if_pos hs, k1, k2]; rfl
      rw [hr]; clear hr k1 k2
      obtain ⟨a, rfl⟩ := Int.eq_ofNat_of_zero_le r1.1
      obtain ⟨b, rfl⟩ := Int.eq_ofNat_of_zero_le r2.1
      have ha : a < s.ps.length := by omega
      have hb : b < s.ps.length := by omega
      simp only [Int.toNat_natCast]
      by_cases hab : a = b
      · subst hab
        rw [show betS s a a = 0 from if_pos rfl]
        clear h h1 h2 h3 hg hs s0 r1 r2 hn2 hn32
        subst e1 e2 e3
        have i1 : (a : Int) < (s.ps.length : Int) := by omega
        have i3 : (0 : Int) ≤ (a : Int) := by omega
        clear ha hb
        generalize s.ps.length = n1 at *
        generalize s.zs.length = n2 at *
        generalize s.ws.length = n3 at *
        generalize s.e = e at *
        generalize s.n = nn at *
        generalize s.t = t at *
        go_enter Try.func21, Try.ntmps21
        go_wp2_with (go_at_call 25; (with_reducible refine HC.out.mono ?_); rintro e w1 ⟨rfl, hw⟩; have hb := Lib.hid hw; obtain ⟨z1, z2, z3, z4, z5, z6, hs⟩ := HAT.out _ hw; clear hw hs)
        go_ret2
        exact ⟨rfl, HS0.out.trans hb.out⟩
      · have hr : betS s a b = arrS s (s.ps.getD a ⟨0, 0⟩).x (s.ps.getD a ⟨0, 0⟩).y (s.zs.getD a 0) (s.ps.getD b ⟨0, 0⟩).x (s.ps.getD b ⟨0, 0⟩).y := if_neg hab
        rw [hr]; clear hr
        obtain ⟨pa1, pa2, pa3⟩ := hg.pt a ha
        obtain ⟨pb1, pb2, _⟩ := hg.pt b hb
        have hab' : ((a : Int) == (b : Int)) = false := by rw [beq_eq_false_iff_ne]; omega
        rcases h1 with ⟨b1, off1, cap1', e1', h0, hc1⟩ | ⟨ao, cap, e1', e⟩
        · rcases h2 with ⟨b2, off2, cap2', e2', h02, hc2⟩ | ⟨ao, cap, e2', e⟩
          · subst e1' e2' e3
            clear e1 e2
            obtain ⟨c1, c2⟩ := hc1 a ha
            obtain ⟨c4, c5⟩ := hc1 b hb
            have c3 := hc2 a (by rw [hg.z]; exact ha)
            clear hc1 hc2
            generalize (s.ps.getD a ⟨0, 0⟩).x = xa at *
            generalize (s.ps.getD a ⟨0, 0⟩).y = ya at *
            generalize (s.ps.getD b ⟨0, 0⟩).x = xb at *
            generalize (s.ps.getD b ⟨0, 0⟩).y = yb at *
            generalize s.zs.getD a 0 = za at *
            have HAR := Lib.hid (fun w1 (k : Same w w1) => at2_in w1 _ s (h.same k) xa ya za xb yb pa1 pa2 pb1 pb2 pa3 hg.wl hg.w32 _ rfl)
            have hst : ∀ w1, Same (boxS w (.slice (some ⟨b1, off1, none⟩) s.ps.length cap1') (.slice (some ⟨b2, off2, none⟩) s.zs.length cap2') (.slice ao3 s.ws.length cap3) s.e s.n s.t) w1 → S12 w w.heap.size (.slice (some ⟨b1, off1, none⟩) s.ps.length cap1') (.slice (some ⟨b2, off2, none⟩) s.zs.length cap2') (.slice ao3 s.ws.length cap3) (.int .i64 s.e) (.int .i64 s.n) (.int .i64 s.t) ⟨b1, off1 + a * 2, none⟩ (.int .i64 xa) ⟨b1, off1 + a * 2 + 1, none⟩ (.int .i64 ya) ⟨b2, off2 + a, none⟩ (.int .i64 za) ⟨b1, off1 + b * 2, none⟩ (.int .i64 xb) ⟨b1, off1 + b * 2 + 1, none⟩ (.int .i64 yb) w1 := fun w1 hw => by
              obtain ⟨k0, k1, k2, k3, k4, k5, ks⟩ := boxS_at hw
              exact ⟨k0, k1, k2, k3, k4, k5, ks.cell c1, ks.cell c2, ks.cell c3, ks.cell c4, ks.cell c5, ks⟩
            have HST := Lib.hid hst; clear hst
            have hz := hg.z
            rw [hz]
            rw [hz] at HST HAR HAT HC HS0
            have i1 : (a : Int) < (s.ps.length : Int) := by omega
            have i2 : (b : Int) < (s.ps.length : Int) := by omega
            have i3 : (0 : Int) ≤ (a : Int) := by omega
            have i4 : (0 : Int) ≤ (b : Int) := by omega
            clear hz h hg h3 h0 h02 pa1 pa2 pb1 pb2 pa3 c1 c2 c3 c4 c5 hab s0 hs r1 r2 hn2 hn32 ha hb
            generalize arrS s xa ya za xb yb = R at *
            generalize s.e = e at *
            generalize s.n = nn at *
            generalize s.t = t at *
            go_enter Try.func21, Try.ntmps21
            go_wp2_with (go_at_call 25; (with_reducible refine HC.out.mono ?_); rintro e w1 ⟨rfl, hw⟩; have hb := Lib.hid hw; obtain ⟨z1, z2, z3, z4, z5, z6, hs⟩ := HAT.out _ hw; clear hw hs)
            go_region_held3 (fun w1 => S12 w w.heap.size (.slice (some ⟨b1, off1, none⟩) s.ps.length cap1') (.slice (some ⟨b2, off2, none⟩) s.ps.length cap2') (.slice ao3 s.ws.length cap3) (.int .i64 e) (.int .i64 nn) (.int .i64 t) ⟨b1, off1 + a * 2, none⟩ (.int .i64 xa) ⟨b1, off1 + a * 2 + 1, none⟩ (.int .i64 ya) ⟨b2, off2 + a, none⟩ (.int .i64 za) ⟨b1, off1 + b * 2, none⟩ (.int .i64 xb) ⟨b1, off1 + b * 2 + 1, none⟩ (.int .i64 yb) w1)
              (first | exact keep12 (HST.out _ hb.out) ((Same.refl _).drew) | exact keep12 (by assumption) (by assumption) | assumption)
              (first | (go_at_call 50; refine (HAR.out _ (by exact (by assumption : S12 _ _ _ _ _ _ _ _ _ _ _ _ _ _ _ _ _ _ _).2.2.2.2.2.2.2.2.2.2.2)).mono ?_; rintro e w2 ⟨rfl, hw2⟩))
            have hfin := (by assumption : S12 _ _ _ _ _ _ _ _ _ _ _ _ _ _ _ _ _ _ w2).2.2.2.2.2.2.2.2.2.2.2
            have HF := Lib.hid hfin
            clear hfin z1 z2 z3 z4 z5 z6
            go_wp2
            go_ret2
            exact ⟨rfl, HF.out⟩
          · rw [← hg.z, e] at ha; simp at ha
        · rw [e] at ha; simp at ha
    · have hr : betweenS s a b = (0, 7) := by
        unfold betweenS; rw [if_pos hs, if_neg (by rw [Bool.and_eq_true]; exact hin)]
      rw [hr]; clear hr
      have hcase : a < 0 ∨ (0 ≤ a ∧ (s.ps.length : Int) ≤ a) ∨ (0 ≤ a ∧ a < (s.ps.length : Int) ∧ b < 0) ∨ (0 ≤ a ∧ a < (s.ps.length : Int) ∧ 0 ≤ b ∧ (s.ps.length : Int) ≤ b) := by
        unfold ndB at hin
        simp only [decide_eq_true_eq] at hin
        omega
      clear h h1 h2 h3 hg hs s0 hin hn2 hn32
      subst e1 e2 e3
      generalize s.ps.length = n1 at *
      generalize s.zs.length = n2 at *
      generalize s.ws.length = n3 at *
      generalize s.e = e at *
      generalize s.n = nn at *
      generalize s.t = t at *
      rcases hcase with g1 | ⟨g1, g2⟩ | ⟨g1, g2, g3⟩ | ⟨g1, g2, g3, g4⟩
      all_goals
        go_enter Try.func21, Try.ntmps21
        go_wp2_with (go_at_call 25; (with_reducible refine HC.out.mono ?_); rintro e w1 ⟨rfl, hw⟩; have hb := Lib.hid hw; obtain ⟨z1, z2, z3, z4, z5, z6, hs⟩ := HAT.out _ hw; clear hw hs)
        go_ret2
        exact ⟨rfl, HS0.out.trans hb.out⟩
  · have hc := check2_at _ _ s (h.same s0) 1 (by rw [if_neg hs])
    have HC := Lib.hid hc; clear hc
    have hr : betweenS s a b = (0, 1) := by unfold betweenS; rw [if_neg hs]
    rw [hr]; clear hr
    clear hs h s0 h1 h2 h3
    subst e1 e2 e3
    generalize s.e = e at *
    generalize s.n = nn at *
    generalize s.t = t at *
    go_enter Try.func21, Try.ntmps21
    go_wp2_with (go_at_call 25; (with_reducible refine HC.out.mono ?_); rintro e w1 ⟨rfl, hw⟩; have hb := Lib.hid hw; obtain ⟨z1, z2, z3, z4, z5, z6, hs⟩ := HAT.out _ hw; clear hw hs)
    go_ret2
    exact ⟨rfl, HS0.out.trans hb.out⟩
end Go.Proofs.Ytcennbjegdlbhaa
