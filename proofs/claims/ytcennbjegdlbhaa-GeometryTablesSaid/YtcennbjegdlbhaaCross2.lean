/- The reference's Crosses, walked. -/
import Derived.Test.YtcennbjegdlbhaaRef5
namespace Go.Proofs.Ytcennbjegdlbhaa
open Go.RowKit

theorem turn2_at (a1 a2 b1 b2 c1 c2 : Int) (ha1 : Co a1) (ha2 : Co a2) (hb1 : Co b1) (hb2 : Co b2) (hc1 : Co c1) (hc2 : Co c2) (p : Int) (hp : tn a1 a2 b1 b2 c1 c2 = p) (w : World) :
    Calls Try.prog 43 #[.agg #[.int .i64 a1, .int .i64 a2], .agg #[.int .i64 b1, .int .i64 b2], .agg #[.int .i64 c1, .int .i64 c2]] w fun e w' => e = .returned (.int .i64 p) ∧ Same w w' := hp ▸ turn2_any a1 a2 b1 b2 c1 c2 ha1 ha2 hb1 hb2 hc1 hc2 w
theorem within2_at (a1 a2 b1 b2 c1 c2 : Int) (u : Bool) (hu : inB a1 a2 b1 b2 c1 c2 = u) (w : World) :
    Calls Try.prog 44 #[.agg #[.int .i64 a1, .int .i64 a2], .agg #[.int .i64 b1, .int .i64 b2], .agg #[.int .i64 c1, .int .i64 c2]] w fun e w' => e = .returned (.bool u) ∧ Same w w' := hu ▸ within2_any a1 a2 b1 b2 c1 c2 w
abbrev F9 (w : World) (a1 a2 b1 b2 c1 c2 d1 d2 f : Int) (w1 : World) : Prop :=
    w1.cell? ⟨w.heap.size, 0, none⟩ = some (.int .i64 a1) ∧ w1.cell? ⟨w.heap.size, 1, none⟩ = some (.int .i64 a2) ∧ w1.cell? ⟨w.heap.size + 1, 0, none⟩ = some (.int .i64 b1) ∧ w1.cell? ⟨w.heap.size + 1, 1, none⟩ = some (.int .i64 b2) ∧
    w1.cell? ⟨w.heap.size + 1 + 1, 0, none⟩ = some (.int .i64 c1) ∧ w1.cell? ⟨w.heap.size + 1 + 1, 1, none⟩ = some (.int .i64 c2) ∧ w1.cell? ⟨w.heap.size + 1 + 1, 2, none⟩ = some (.int .i64 d1) ∧ w1.cell? ⟨w.heap.size + 1 + 1, 3, none⟩ = some (.int .i64 d2) ∧ w1.cell? ⟨w.heap.size + 1 + 1, 4, none⟩ = some (.int .i64 f) ∧ Same w w1
theorem keep9 {w w1 w2 : World} {a1 a2 b1 b2 c1 c2 d1 d2 f : Int} (h : F9 w a1 a2 b1 b2 c1 c2 d1 d2 f w1) (s : Same w1 w2) : F9 w a1 a2 b1 b2 c1 c2 d1 d2 f w2 := by
  obtain ⟨h0, h1, h2, h3, h4, h5, h6, h7, h8, hs⟩ := h
  exact ⟨s.cell h0, s.cell h1, s.cell h2, s.cell h3, s.cell h4, s.cell h5, s.cell h6, s.cell h7, s.cell h8, hs.trans s⟩
set_option maxHeartbeats 6400000 in
set_option maxRecDepth 100000 in
theorem crosses2_any (a1 a2 b1 b2 c1 c2 d1 d2 f : Int) (ha1 : Co a1) (ha2 : Co a2) (hb1 : Co b1) (hb2 : Co b2) (hc1 : Co c1) (hc2 : Co c2) (hd1 : Co d1) (hd2 : Co d2) (w : World) :
    Calls Try.prog 16 #[.agg #[.int .i64 a1, .int .i64 a2], .agg #[.int .i64 b1, .int .i64 b2], .agg #[.int .i64 c1, .int .i64 c2, .int .i64 d1, .int .i64 d2, .int .i64 f]] w fun e w' => e = .returned (.bool (crB a1 a2 b1 b2 c1 c2 d1 d2)) ∧ Same w w' := by
  rw [← cr_eq]
  have t1 := tn_cr a1 a2 b1 b2 c1 c2
  have t2 := tn_cr a1 a2 b1 b2 d1 d2
  have t3 := tn_cr c1 c2 d1 d2 a1 a2
  have t4 := tn_cr c1 c2 d1 d2 b1 b2
  have hr : crR a1 a2 b1 b2 c1 c2 d1 d2 = ((decide (tn a1 a2 b1 b2 c1 c2 * tn a1 a2 b1 b2 d1 d2 < 0) && decide (tn c1 c2 d1 d2 a1 a2 * tn c1 c2 d1 d2 b1 b2 < 0)) || ((decide (tn a1 a2 b1 b2 c1 c2 = 0) && inB a1 a2 b1 b2 c1 c2) || ((decide (tn a1 a2 b1 b2 d1 d2 = 0) && inB a1 a2 b1 b2 d1 d2) || ((decide (tn c1 c2 d1 d2 a1 a2 = 0) && inB c1 c2 d1 d2 a1 a2) || (decide (tn c1 c2 d1 d2 b1 b2 = 0) && inB c1 c2 d1 d2 b1 b2))))) := rfl
  rw [hr]; clear hr
  obtain ⟨p, hp⟩ : ∃ p, tn a1 a2 b1 b2 c1 c2 = p := ⟨_, rfl⟩
  obtain ⟨q, hq⟩ : ∃ p, tn a1 a2 b1 b2 d1 d2 = p := ⟨_, rfl⟩
  obtain ⟨r, hr⟩ : ∃ p, tn c1 c2 d1 d2 a1 a2 = p := ⟨_, rfl⟩
  obtain ⟨s, hs⟩ : ∃ p, tn c1 c2 d1 d2 b1 b2 = p := ⟨_, rfl⟩
  obtain ⟨u1, hu1⟩ : ∃ u, inB a1 a2 b1 b2 c1 c2 = u := ⟨_, rfl⟩
  obtain ⟨u2, hu2⟩ : ∃ u, inB a1 a2 b1 b2 d1 d2 = u := ⟨_, rfl⟩
  obtain ⟨u3, hu3⟩ : ∃ u, inB c1 c2 d1 d2 a1 a2 = u := ⟨_, rfl⟩
  obtain ⟨u4, hu4⟩ : ∃ u, inB c1 c2 d1 d2 b1 b2 = u := ⟨_, rfl⟩
  have T1 := Lib.hid (fun w => turn2_at a1 a2 b1 b2 c1 c2 ha1 ha2 hb1 hb2 hc1 hc2 p hp w)
  have T2 := Lib.hid (fun w => turn2_at a1 a2 b1 b2 d1 d2 ha1 ha2 hb1 hb2 hd1 hd2 q hq w)
  have T3 := Lib.hid (fun w => turn2_at c1 c2 d1 d2 a1 a2 hc1 hc2 hd1 hd2 ha1 ha2 r hr w)
  have T4 := Lib.hid (fun w => turn2_at c1 c2 d1 d2 b1 b2 hc1 hc2 hd1 hd2 hb1 hb2 s hs w)
  have U1 := Lib.hid (fun w => within2_at a1 a2 b1 b2 c1 c2 u1 hu1 w)
  have U2 := Lib.hid (fun w => within2_at a1 a2 b1 b2 d1 d2 u2 hu2 w)
  have U3 := Lib.hid (fun w => within2_at c1 c2 d1 d2 a1 a2 u3 hu3 w)
  have U4 := Lib.hid (fun w => within2_at c1 c2 d1 d2 b1 b2 u4 hu4 w)
  rw [hp] at t1; rw [hq] at t2; rw [hr] at t3; rw [hs] at t4
  rw [hp, hq, hr, hs, hu1, hu2, hu3, hu4]
  have bd : ∀ {P p : Int}, (0 < P ∧ p = 1) ∨ (P < 0 ∧ p = -1) ∨ (P = 0 ∧ p = 0) → -1 ≤ p ∧ p ≤ 1 := by intro P p h; omega
  have pr : ∀ {p q : Int}, (-1 ≤ p ∧ p ≤ 1) → (-1 ≤ q ∧ q ≤ 1) → -1 ≤ p * q ∧ p * q ≤ 1 := by
    intro p q h k
    have hp : p = -1 ∨ p = 0 ∨ p = 1 := by omega
    have hq : q = -1 ∨ q = 0 ∨ q = 1 := by omega
    rcases hp with rfl | rfl | rfl <;> rcases hq with rfl | rfl | rfl <;> decide
  obtain ⟨m1, m2⟩ := pr (bd t1) (bd t2)
  obtain ⟨m3, m4⟩ := pr (bd t3) (bd t4)
  clear t1 t2 t3 t4 hp hq hr hs hu1 hu2 hu3 hu4 ha1 ha2 hb1 hb2 hc1 hc2 hd1 hd2 bd pr
  have HAT := Lib.hid (fun (w1 : World) (h : Same (boxes3 w a1 a2 b1 b2 c1 c2 d1 d2 f) w1) => (boxes3_at h : F9 w a1 a2 b1 b2 c1 c2 d1 d2 f w1))
  go_enter Try.func16, Try.ntmps16
  go_wp2
  go_region_held3 (fun w1 => F9 w a1 a2 b1 b2 c1 c2 d1 d2 f w1)
    (first | exact HAT.out _ ((Same.refl _).drew) | exact keep9 (by assumption) (by assumption) | assumption)
    (first
      | (go_at_call 43; (with_reducible refine (T1.out _).mono ?_); rintro e w1 ⟨rfl, hw1⟩)
      | (go_at_call 43; (with_reducible refine (T2.out _).mono ?_); rintro e w2 ⟨rfl, hw2⟩))
  have HF := Lib.hid (by assumption : F9 w a1 a2 b1 b2 c1 c2 d1 d2 f w2)
  obtain ⟨k0, k1, k2, k3, k4, k5, k6, k7, k8, hs⟩ := HF.out
  clear hs
  go_wp2
  clear k0 k1 k2 k3 k4 k5 k6 k7 k8
  go_region_held3 (fun w1 => F9 w a1 a2 b1 b2 c1 c2 d1 d2 f w1)
    (first | exact keep9 HF.out ((Same.refl _).drew) | exact keep9 (by assumption) (by assumption) | assumption)
    (first
      | (go_at_call 43; (with_reducible refine (T3.out _).mono ?_); rintro e w3 ⟨rfl, hw3⟩)
      | (go_at_call 43; (with_reducible refine (T4.out _).mono ?_); rintro e w4 ⟨rfl, hw4⟩))
  have HG := Lib.hid (by assumption : F9 w a1 a2 b1 b2 c1 c2 d1 d2 f w4)
  clear HF
  have HF := HG
  clear HG
  obtain ⟨k0, k1, k2, k3, k4, k5, k6, k7, k8, hs⟩ := HF.out
  clear hs
  go_wp2_with (first
    | (go_at_call 44; (with_reducible refine (U1.out _).mono ?_); rintro e w5 ⟨rfl, hw⟩; have h' := Lib.hid (keep9 HF.out hw); clear HF hw k0 k1 k2 k3 k4 k5 k6 k7 k8; have HF := h'; clear h'; obtain ⟨k0, k1, k2, k3, k4, k5, k6, k7, k8, hs⟩ := HF.out; clear hs)
    | (go_at_call 44; (with_reducible refine (U2.out _).mono ?_); rintro e w5 ⟨rfl, hw⟩; have h' := Lib.hid (keep9 HF.out hw); clear HF hw k0 k1 k2 k3 k4 k5 k6 k7 k8; have HF := h'; clear h'; obtain ⟨k0, k1, k2, k3, k4, k5, k6, k7, k8, hs⟩ := HF.out; clear hs)
    | (go_at_call 44; (with_reducible refine (U3.out _).mono ?_); rintro e w5 ⟨rfl, hw⟩; have h' := Lib.hid (keep9 HF.out hw); clear HF hw k0 k1 k2 k3 k4 k5 k6 k7 k8; have HF := h'; clear h'; obtain ⟨k0, k1, k2, k3, k4, k5, k6, k7, k8, hs⟩ := HF.out; clear hs)
    | (go_at_call 44; (with_reducible refine (U4.out _).mono ?_); rintro e w5 ⟨rfl, hw⟩; have h' := Lib.hid (keep9 HF.out hw); clear HF hw k0 k1 k2 k3 k4 k5 k6 k7 k8; have HF := h'; clear h'; obtain ⟨k0, k1, k2, k3, k4, k5, k6, k7, k8, hs⟩ := HF.out; clear hs))
  all_goals go_ret
  all_goals exact ⟨ret_bool (by first | (simp [*]; done) | (simp [*]; omega) | (simp_all; try omega)), HF.out.2.2.2.2.2.2.2.2.2⟩
end Go.Proofs.Ytcennbjegdlbhaa
