/- Package geometry: Between. -/
import Derived.Test.YtcennbjegdlbhaaAt
namespace Go.Proofs.Ytcennbjegdlbhaa
open Go.RowKit

theorem isNode_any (v1 v2 v3 : Value) (ao1 ao2 ao3 : Option Addr) (l1 l2 l3 c1 c2 c3 : Nat) (h1 : v1 = .slice ao1 l1 c1) (h2 : v2 = .slice ao2 l2 c2) (h3 : v3 = .slice ao3 l3 c3) (hl : l1 ≤ 1000) (e n t i : Int) (w : World) :
    Calls Try.prog 51 #[.agg #[v1, v2, v3, .int .i64 e, .int .i64 n, .int .i64 t], .int .i64 i] w fun e' w' => e' = .returned (.bool (decide (0 ≤ i ∧ i < (l1 : Int)))) ∧ Same w w' := by
  subst h1 h2 h3
  have hl' : (l1 : Int) ≤ 1000 := by omega
  obtain ⟨u, hu⟩ : ∃ u, u = decide (0 ≤ i ∧ i < (l1 : Int)) := ⟨_, rfl⟩
  have HW := Lib.hid (fun w => within_at i 0 ((l1 : Int) - 1) u (by rw [hu]; exact decide_eq_decide.2 (by omega)) w)
  rw [← hu]
  clear hu
  go_enter Try.func51, Try.ntmps51
  go_wp2_with (go_at_call 46; (with_reducible refine (HW.out _).mono ?_); rintro e w' ⟨rfl, rfl⟩)
  go_ret
  exact ⟨rfl, by repeat' (first | exact Same.refl _ | apply Same.alloc)⟩
/-- The power of node a at node b. -/
def betS (s : Site) (a b : Nat) : Int := if a = b then 0 else arrS s (s.ps.getD a ⟨0, 0⟩).x (s.ps.getD a ⟨0, 0⟩).y (s.zs.getD a 0) (s.ps.getD b ⟨0, 0⟩).x (s.ps.getD b ⟨0, 0⟩).y
abbrev S12 (w : World) (n : Nat) (v0 v1 v2 v3 v4 v5 : Value) (A : Addr) (x : Value) (A' : Addr) (x' : Value) (B : Addr) (z : Value) (C : Addr) (y : Value) (C' : Addr) (y' : Value) (w1 : World) : Prop :=
  w1.cell? ⟨n, 0, none⟩ = some v0 ∧ w1.cell? ⟨n, 1, none⟩ = some v1 ∧ w1.cell? ⟨n, 2, none⟩ = some v2 ∧ w1.cell? ⟨n, 3, none⟩ = some v3 ∧ w1.cell? ⟨n, 4, none⟩ = some v4 ∧ w1.cell? ⟨n, 5, none⟩ = some v5 ∧ w1.cell? A = some x ∧ w1.cell? A' = some x' ∧ w1.cell? B = some z ∧ w1.cell? C = some y ∧ w1.cell? C' = some y' ∧ Same w w1
theorem keep12 {w w1 w2 : World} {n : Nat} {v0 v1 v2 v3 v4 v5 : Value} {A : Addr} {x : Value} {A' : Addr} {x' : Value} {B : Addr} {z : Value} {C : Addr} {y : Value} {C' : Addr} {y' : Value} (h : S12 w n v0 v1 v2 v3 v4 v5 A x A' x' B z C y C' y' w1) (s : Same w1 w2) : S12 w n v0 v1 v2 v3 v4 v5 A x A' x' B z C y C' y' w2 := by
  obtain ⟨h0, h1, h2, h3, h4, h5, h6, h7, h8, h9, h10, hs⟩ := h
  exact ⟨s.cell h0, s.cell h1, s.cell h2, s.cell h3, s.cell h4, s.cell h5, s.cell h6, s.cell h7, s.cell h8, s.cell h9, s.cell h10, hs.trans s⟩
set_option maxHeartbeats 1600000 in
theorem between_any (w : World) (v : Value) (s : Site) (h : SiteAt w v s) (hg : Good s) (a b : Nat) (ha : a < s.ps.length) (hb : b < s.ps.length) :
    Calls Try.prog 52 #[v, .int .i64 a, .int .i64 b] w fun e w' => e = .returned (.int .i64 (betS s a b)) ∧ Same w w' := by
  have hread := h.read
  obtain ⟨v1, v2, v3, rfl, h1, h2, h3⟩ := hread
  obtain ⟨ao3, cap3, rfl⟩ := h3.shape
  by_cases hab : a = b
  · obtain ⟨ao1, cap1, rfl⟩ := h1.shape
    obtain ⟨ao2, cap2, rfl⟩ := h2.shape
    subst hab
    rw [show betS s a a = 0 from if_pos rfl]
    clear h h1 h2 h3 hg ha hb
    go_enter Try.func52, Try.ntmps52
    go_wp2
    go_ret
    exact ⟨rfl, by repeat' (first | exact Same.refl _ | apply Same.alloc)⟩
  · have hr : betS s a b = arrS s (s.ps.getD a ⟨0, 0⟩).x (s.ps.getD a ⟨0, 0⟩).y (s.zs.getD a 0) (s.ps.getD b ⟨0, 0⟩).x (s.ps.getD b ⟨0, 0⟩).y := if_neg hab
    rw [hr]; clear hr
    obtain ⟨pa1, pa2, pa3⟩ := hg.pt a ha
    obtain ⟨pb1, pb2, _⟩ := hg.pt b hb
    have hab' : ((a : Int) == (b : Int)) = false := by rw [beq_eq_false_iff_ne]; omega
    rcases h1 with ⟨b1, off1, cap1, rfl, h0, hc1⟩ | ⟨ao, cap, rfl, e1⟩
    · rcases h2 with ⟨b2, off2, cap2, rfl, h02, hc2⟩ | ⟨ao, cap, rfl, e2⟩
      · obtain ⟨c1, c2⟩ := hc1 a ha
        obtain ⟨c4, c5⟩ := hc1 b hb
        have c3 := hc2 a (by rw [hg.z]; exact ha)
        clear hc1 hc2
        generalize (s.ps.getD a ⟨0, 0⟩).x = xa at *
        generalize (s.ps.getD a ⟨0, 0⟩).y = ya at *
        generalize (s.ps.getD b ⟨0, 0⟩).x = xb at *
        generalize (s.ps.getD b ⟨0, 0⟩).y = yb at *
        generalize s.zs.getD a 0 = za at *
        have s0 : Same w (boxS w (.slice (some ⟨b1, off1, none⟩) s.ps.length cap1) (.slice (some ⟨b2, off2, none⟩) s.zs.length cap2) (.slice ao3 s.ws.length cap3) s.e s.n s.t) := (Same.refl w).alloc _
        have HAR := Lib.hid (fun w1 (k : Same w w1) => arrives_any w1 _ s (h.same k) xa ya za xb yb pa1 pa2 pb1 pb2 pa3 hg.wl hg.w32)
        have hst : S12 w w.heap.size (.slice (some ⟨b1, off1, none⟩) s.ps.length cap1) (.slice (some ⟨b2, off2, none⟩) s.zs.length cap2) (.slice ao3 s.ws.length cap3) (.int .i64 s.e) (.int .i64 s.n) (.int .i64 s.t) ⟨b1, off1 + a * 2, none⟩ (.int .i64 xa) ⟨b1, off1 + a * 2 + 1, none⟩ (.int .i64 ya) ⟨b2, off2 + a, none⟩ (.int .i64 za) ⟨b1, off1 + b * 2, none⟩ (.int .i64 xb) ⟨b1, off1 + b * 2 + 1, none⟩ (.int .i64 yb) (boxS w (.slice (some ⟨b1, off1, none⟩) s.ps.length cap1) (.slice (some ⟨b2, off2, none⟩) s.zs.length cap2) (.slice ao3 s.ws.length cap3) s.e s.n s.t) := by
          obtain ⟨k0, k1, k2, k3, k4, k5, _⟩ := boxS_at (Same.refl (boxS w (.slice (some ⟨b1, off1, none⟩) s.ps.length cap1) (.slice (some ⟨b2, off2, none⟩) s.zs.length cap2) (.slice ao3 s.ws.length cap3) s.e s.n s.t))
          exact ⟨k0, k1, k2, k3, k4, k5, s0.cell c1, s0.cell c2, s0.cell c3, s0.cell c4, s0.cell c5, s0⟩
        have HST := Lib.hid hst; clear hst
        have hz := hg.z
        rw [hz]
        rw [hz] at HST HAR
        have i1 : (a : Int) < (s.ps.length : Int) := by omega
        have i2 : (b : Int) < (s.ps.length : Int) := by omega
        have i3 : (0 : Int) ≤ (a : Int) := by omega
        have i4 : (0 : Int) ≤ (b : Int) := by omega
        clear hz h hg h3 h0 h02 pa1 pa2 pb1 pb2 pa3 c1 c2 c3 c4 c5 hab s0
        generalize arrS s xa ya za xb yb = R at *
        generalize s.e = e at *
        generalize s.n = nn at *
        generalize s.t = t at *
        go_enter Try.func52, Try.ntmps52
        go_wp2
        go_region_held3 (fun w1 => S12 w w.heap.size (.slice (some ⟨b1, off1, none⟩) s.ps.length cap1) (.slice (some ⟨b2, off2, none⟩) s.ps.length cap2) (.slice ao3 s.ws.length cap3) (.int .i64 e) (.int .i64 nn) (.int .i64 t) ⟨b1, off1 + a * 2, none⟩ (.int .i64 xa) ⟨b1, off1 + a * 2 + 1, none⟩ (.int .i64 ya) ⟨b2, off2 + a, none⟩ (.int .i64 za) ⟨b1, off1 + b * 2, none⟩ (.int .i64 xb) ⟨b1, off1 + b * 2 + 1, none⟩ (.int .i64 yb) w1)
          (first | exact keep12 HST.out ((Same.refl _).drew) | exact keep12 (by assumption) (by assumption) | assumption)
          (first | (go_at_call 47; refine (HAR.out _ (by exact (by assumption : S12 _ _ _ _ _ _ _ _ _ _ _ _ _ _ _ _ _ _ _).2.2.2.2.2.2.2.2.2.2.2)).mono ?_; rintro e w1 ⟨rfl, hw1⟩))
        have hfin := (by assumption : S12 _ _ _ _ _ _ _ _ _ _ _ _ _ _ _ _ _ _ w1).2.2.2.2.2.2.2.2.2.2.2
        go_wp2
        go_ret
        exact ⟨rfl, hfin⟩
      · rw [← hg.z, e2] at ha; simp at ha
    · rw [e1] at ha; simp at ha
theorem isNode_at (w : World) (v : Value) (s : Site) (h : SiteAt w v s) (hl : s.ps.length ≤ 1000) (i : Int) (u : Bool) (hu : decide (0 ≤ i ∧ i < (s.ps.length : Int)) = u) :
    Calls Try.prog 51 #[v, .int .i64 i] w fun e' w' => e' = .returned (.bool u) ∧ Same w w' := by
  obtain ⟨v1, v2, v3, rfl, h1, h2, h3⟩ := h.read
  obtain ⟨ao1, cap1, e1⟩ := h1.shape
  obtain ⟨ao2, cap2, e2⟩ := h2.shape
  obtain ⟨ao3, cap3, e3⟩ := h3.shape
  rw [← hu]
  exact isNode_any v1 v2 v3 ao1 ao2 ao3 _ _ _ cap1 cap2 cap3 e1 e2 e3 hl s.e s.n s.t i w
def ndB (s : Site) (i : Int) : Bool := decide (0 ≤ i ∧ i < (s.ps.length : Int))
def betweenS (s : Site) (a b : Int) : Int × Int := if siteB s then (if ndB s a && ndB s b then (betS s a.toNat b.toNat, 0) else (0, 7)) else (0, 1)
set_option maxHeartbeats 1600000 in
theorem between_api (w : World) (v : Value) (s : Site) (h : SiteAt w v s) (a b : Int) :
    Calls Try.prog 20 #[v, .int .i64 a, .int .i64 b] w fun e w' => e = .returned (.tuple #[.int .i64 (betweenS s a b).1, .int .i64 (betweenS s a b).2]) ∧ Same w w' := by
  have hread := h.read
  obtain ⟨v1, v2, v3, rfl, h1, h2, h3⟩ := hread
  obtain ⟨ao1, cap1, e1⟩ := h1.shape
  obtain ⟨ao2, cap2, e2⟩ := h2.shape
  obtain ⟨ao3, cap3, e3⟩ := h3.shape
  have HAT := Lib.hid (fun (w1 : World) (h : Same (boxS w v1 v2 v3 s.e s.n s.t) w1) => boxS_at h)
  clear h1 h2 h3
  have s0 : Same w (boxS w v1 v2 v3 s.e s.n s.t) := by repeat' (first | exact Same.refl _ | apply Same.alloc)
  have HS0 := Lib.hid s0
  by_cases hs : siteB s = true
  · have hc := check_at _ _ s (h.same s0) 0 (by rw [if_pos hs])
    have HC := Lib.hid hc; clear hc
    have hg := good_of hs
    obtain ⟨u1, hu1⟩ : ∃ u, ndB s a = u := ⟨_, rfl⟩
    obtain ⟨u2, hu2⟩ : ∃ u, ndB s b = u := ⟨_, rfl⟩
    have hr : betweenS s a b = if (u1 && u2) then (betS s a.toNat b.toNat, 0) else (0, 7) := by unfold betweenS; rw [if_pos hs, hu1, hu2]
    rw [hr]; clear hr
    have har : u1 = true → u2 = true → ∀ w1, Same w w1 → Calls Try.prog 52 #[.agg #[v1, v2, v3, .int .i64 s.e, .int .i64 s.n, .int .i64 s.t], .int .i64 a, .int .i64 b] w1 fun e w' => e = .returned (.int .i64 (betS s a.toNat b.toNat)) ∧ Same w1 w' := fun g1 g2 w1 k => by
      have k1 := of_decide_eq_true (hu1.trans g1)
      have k2 := of_decide_eq_true (hu2.trans g2)
      obtain ⟨a, rfl⟩ := Int.eq_ofNat_of_zero_le k1.1
      obtain ⟨b, rfl⟩ := Int.eq_ofNat_of_zero_le k2.1
      exact between_any w1 _ s (h.same k) hg a b (by omega) (by omega)
    have HAR := Lib.hid har; clear har
    have hn32 := hg.n32
    have H1 := Lib.hid (fun w1 k => isNode_at w1 _ s (h.same k) (by omega) a u1 hu1)
    have H2 := Lib.hid (fun w1 k => isNode_at w1 _ s (h.same k) (by omega) b u2 hu2)
    clear hu1 hu2 hg hs h s0 hn32
    subst e1 e2 e3
    generalize betS s a.toNat b.toNat = R at *
    generalize s.e = e at *
    generalize s.n = nn at *
    generalize s.t = t at *
    have hcase : u1 = false ∨ (u1 = true ∧ u2 = false) ∨ (u1 = true ∧ u2 = true) := by cases u1 <;> cases u2 <;> simp
    rcases hcase with rfl | ⟨rfl, rfl⟩ | ⟨rfl, rfl⟩
    all_goals
      go_enter Try.func20, Try.ntmps20
      go_wp2_with (first
        | (go_at_call 24; (with_reducible refine HC.out.mono ?_); rintro e w1 ⟨rfl, hw⟩; have hb := Lib.hid hw; obtain ⟨z1, z2, z3, z4, z5, z6, hs⟩ := HAT.out _ hw; clear hw hs)
        | (go_at_call 51; (with_reducible refine (H1.out _ (HS0.out.trans hb.out)).mono ?_); rintro e w2 ⟨rfl, hw⟩; have hb' := Lib.hid (hb.out.trans hw); clear hb hw z1 z2 z3 z4 z5 z6; have hb := hb'; clear hb'; obtain ⟨z1, z2, z3, z4, z5, z6, hs⟩ := HAT.out _ hb.out; clear hs)
        | (go_at_call 51; (with_reducible refine (H2.out _ (HS0.out.trans hb.out)).mono ?_); rintro e w2 ⟨rfl, hw⟩; have hb' := Lib.hid (hb.out.trans hw); clear hb hw z1 z2 z3 z4 z5 z6; have hb := hb'; clear hb'; obtain ⟨z1, z2, z3, z4, z5, z6, hs⟩ := HAT.out _ hb.out; clear hs)
        | (go_at_call 52; refine (HAR.out (by simp) (by simp) _ (HS0.out.trans hb.out)).mono ?_; rintro e w2 ⟨rfl, hw⟩; have hb' := Lib.hid (hb.out.trans hw); clear hb hw z1 z2 z3 z4 z5 z6; have hb := hb'; clear hb'))
      go_ret2
      exact ⟨rfl, HS0.out.trans hb.out⟩
  · have hc := check_at _ _ s (h.same s0) 1 (by rw [if_neg hs])
    have HC := Lib.hid hc; clear hc
    have hr : betweenS s a b = (0, 1) := by unfold betweenS; rw [if_neg hs]
    rw [hr]; clear hr
    clear hs h s0
    subst e1 e2 e3
    generalize s.e = e at *
    generalize s.n = nn at *
    generalize s.t = t at *
    go_enter Try.func20, Try.ntmps20
    go_wp2_with (go_at_call 24; (with_reducible refine HC.out.mono ?_); rintro e w1 ⟨rfl, hw⟩; have hb := Lib.hid hw; obtain ⟨z1, z2, z3, z4, z5, z6, hs⟩ := HAT.out _ hw; clear hw hs)
    go_ret2
    exact ⟨rfl, HS0.out.trans hb.out⟩
end Go.Proofs.Ytcennbjegdlbhaa
