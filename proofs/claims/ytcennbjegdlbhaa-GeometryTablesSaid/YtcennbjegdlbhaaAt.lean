/- Package geometry: At, Between. -/
import Derived.Test.YtcennbjegdlbhaaArrives2
namespace Go.Proofs.Ytcennbjegdlbhaa
open Go.RowKit

structure Good (s : Site) : Prop where
  n2 : 2 ≤ s.ps.length
  n32 : s.ps.length ≤ 32
  z : s.zs.length = s.ps.length
  pt : ∀ i, i < s.ps.length → In (s.ps.getD i ⟨0, 0⟩).x ∧ In (s.ps.getD i ⟨0, 0⟩).y ∧ Pw (s.zs.getD i 0)
  w32 : s.ws.length ≤ 32
  wl : ∀ i, i < s.ws.length → wlB (s.ws.getD i ⟨0, 0, 0, 0, 0⟩) = true
  e : s.e = 2 ∨ s.e = 4
  t : 1000 ≤ s.t ∧ s.t ≤ 100000
  n : 1 ≤ s.n ∧ s.n ≤ 68719476736
theorem good_of {s : Site} (h : siteB s = true) : Good s := by
  unfold siteB nodesB wallsB rcB at h
  simp only [Bool.and_eq_true, Bool.or_eq_true, decide_eq_true_eq] at h
  obtain ⟨⟨⟨⟨h1, h2⟩, h3⟩, h4⟩, ⟨h5, h6⟩, h7, h8, h9⟩ := h
  refine ⟨h1, h2, h3, fun i hi => ?_, h5, h6, h7, h8, h9⟩
  have := h4 i hi
  unfold nodeB ptB pwB at this
  simp only [Bool.and_eq_true, decide_eq_true_eq] at this
  exact ⟨this.1.1, this.1.2, this.2⟩
def argB (f1 f2 p t1 t2 : Int) : Bool := ptB f1 f2 && (ptB t1 t2 && pwB p)
theorem arg_of {f1 f2 p t1 t2 : Int} (h : argB f1 f2 p t1 t2 = true) : In f1 ∧ In f2 ∧ In t1 ∧ In t2 ∧ Pw p := by
  unfold argB ptB pwB at h
  simp only [Bool.and_eq_true, decide_eq_true_eq] at h
  exact ⟨h.1.1, h.1.2, h.2.1.1, h.2.1.2, h.2.2⟩
def atS (s : Site) (f1 f2 p t1 t2 : Int) : Int × Int := if siteB s then (if argB f1 f2 p t1 t2 then (arrS s f1 f2 p t1 t2, 0) else (0, 2)) else (0, 1)
theorem check_at (w : World) (v : Value) (s : Site) (h : SiteAt w v s) (c : Int) (hc : (if siteB s then (0 : Int) else 1) = c) : Calls Try.prog 24 #[v] w fun e w' => e = .returned (.int .i64 c) ∧ Same w w' := hc ▸ check_any w v s h
theorem ret2_i64 {a b c : Int} (h : a = b) : Ending.returned (.tuple #[.int .i64 a, .int .i64 c]) = .returned (.tuple #[.int .i64 b, .int .i64 c]) := by rw [h]
set_option maxHeartbeats 1600000 in
theorem at_any (w : World) (v : Value) (s : Site) (h : SiteAt w v s) (f1 f2 p t1 t2 : Int) :
    Calls Try.prog 18 #[v, .agg #[.int .i64 f1, .int .i64 f2], .int .i64 p, .agg #[.int .i64 t1, .int .i64 t2]] w fun e w' => e = .returned (.tuple #[.int .i64 (atS s f1 f2 p t1 t2).1, .int .i64 (atS s f1 f2 p t1 t2).2]) ∧ Same w w' := by
  have hread := h.read
  obtain ⟨v1, v2, v3, rfl, h1, h2, h3⟩ := hread
  obtain ⟨ao1, cap1, e1⟩ := h1.shape
  obtain ⟨ao2, cap2, e2⟩ := h2.shape
  obtain ⟨ao3, cap3, e3⟩ := h3.shape
  have HAT := Lib.hid (fun (w1 : World) (h : Same (boxesA w v1 v2 v3 s.e s.n s.t f1 f2 t1 t2) w1) => boxesA_at h)
  clear h1 h2 h3
  have s0 : Same w (boxesA w v1 v2 v3 s.e s.n s.t f1 f2 t1 t2) := by repeat' (first | exact Same.refl _ | apply Same.alloc)
  have HS0 := Lib.hid s0
  by_cases hs : siteB s = true
  · have hc := check_at _ _ s (h.same s0) 0 (by rw [if_pos hs])
    have HC := Lib.hid hc; clear hc
    have hg := good_of hs
    obtain ⟨u1, hu1⟩ : ∃ u, ptB f1 f2 = u := ⟨_, rfl⟩
    obtain ⟨u2, hu2⟩ : ∃ u, ptB t1 t2 = u := ⟨_, rfl⟩
    obtain ⟨u3, hu3⟩ : ∃ u, pwB p = u := ⟨_, rfl⟩
    have hab : argB f1 f2 p t1 t2 = (u1 && (u2 && u3)) := by unfold argB; rw [hu1, hu2, hu3]
    have hr : atS s f1 f2 p t1 t2 = if (u1 && (u2 && u3)) then (arrS s f1 f2 p t1 t2, 0) else (0, 2) := by unfold atS; rw [if_pos hs, hab]
    rw [hr]; clear hr
    have har : (u1 && (u2 && u3)) = true → ∀ w1, Same w w1 → _ := fun hu w1 k => by
      obtain ⟨g1, g2, g3, g4, g5⟩ := arg_of (hab.trans hu)
      exact arrives_any w1 _ s (h.same k) f1 f2 p t1 t2 g1 g2 g3 g4 g5 hg.wl hg.w32
    have HAR := Lib.hid har; clear har
    have H1 := Lib.hid (fun w => isPoint_at f1 f2 u1 hu1 w)
    have H2 := Lib.hid (fun w => isPoint_at t1 t2 u2 hu2 w)
    have H3 := Lib.hid (fun w => within_at p 0 68719476736 u3 hu3 w)
    clear hu1 hu2 hu3 hab hg hs h s0
    subst e1 e2 e3
    generalize arrS s f1 f2 p t1 t2 = R at *
    generalize s.e = e at *
    generalize s.n = nn at *
    generalize s.t = t at *
    have hcase : u1 = false ∨ (u1 = true ∧ u2 = false) ∨ (u1 = true ∧ u2 = true ∧ u3 = false) ∨ (u1 = true ∧ u2 = true ∧ u3 = true) := by cases u1 <;> cases u2 <;> cases u3 <;> simp
    rcases hcase with rfl | ⟨rfl, rfl⟩ | ⟨rfl, rfl, rfl⟩ | ⟨rfl, rfl, rfl⟩
    all_goals
      go_enter Try.func18, Try.ntmps18
      go_wp2_with (first
        | (go_at_call 24; (with_reducible refine HC.out.mono ?_); rintro e w1 ⟨rfl, hw⟩; have hb := Lib.hid hw; obtain ⟨z1, z2, z3, z4, z5, z6, z7, z8, z9, z10, hs⟩ := HAT.out _ hw; clear hw hs)
        | (go_at_call 45; (with_reducible refine (H1.out _).mono ?_); rintro e w2 ⟨rfl, hw⟩; have hb' := Lib.hid (hb.out.trans hw); clear hb hw z1 z2 z3 z4 z5 z6 z7 z8 z9 z10; have hb := hb'; clear hb'; obtain ⟨z1, z2, z3, z4, z5, z6, z7, z8, z9, z10, hs⟩ := HAT.out _ hb.out; clear hs)
        | (go_at_call 45; (with_reducible refine (H2.out _).mono ?_); rintro e w2 ⟨rfl, hw⟩; have hb' := Lib.hid (hb.out.trans hw); clear hb hw z1 z2 z3 z4 z5 z6 z7 z8 z9 z10; have hb := hb'; clear hb'; obtain ⟨z1, z2, z3, z4, z5, z6, z7, z8, z9, z10, hs⟩ := HAT.out _ hb.out; clear hs)
        | (go_at_call 46; (with_reducible refine (H3.out _).mono ?_); rintro e w' ⟨rfl, rfl⟩)
        | (go_at_call 47; refine (HAR.out rfl _ (HS0.out.trans hb.out)).mono ?_; rintro e w2 ⟨rfl, hw⟩; have hb' := Lib.hid (hb.out.trans hw); clear hb hw z1 z2 z3 z4 z5 z6 z7 z8 z9 z10; have hb := hb'; clear hb'))
      go_ret2
      exact ⟨rfl, HS0.out.trans hb.out⟩
  · have hs' : siteB s = false := by simpa using hs
    have hc := check_at _ _ s (h.same s0) 1 (by rw [if_neg hs])
    have HC := Lib.hid hc; clear hc
    have hr : atS s f1 f2 p t1 t2 = (0, 1) := by unfold atS; rw [if_neg hs]
    rw [hr]; clear hr
    clear hs hs' h s0
    subst e1 e2 e3
    generalize s.e = e at *
    generalize s.n = nn at *
    generalize s.t = t at *
    go_enter Try.func18, Try.ntmps18
    go_wp2_with (go_at_call 24; (with_reducible refine HC.out.mono ?_); rintro e w1 ⟨rfl, hw⟩; have hb := Lib.hid hw; obtain ⟨z1, z2, z3, z4, z5, z6, z7, z8, z9, z10, hs⟩ := HAT.out _ hw; clear hw hs)
    go_ret2
    exact ⟨rfl, HS0.out.trans hb.out⟩
end Go.Proofs.Ytcennbjegdlbhaa
