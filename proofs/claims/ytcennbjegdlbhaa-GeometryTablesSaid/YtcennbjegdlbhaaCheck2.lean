/- Package geometry: Check, of the nodes and of the whole. -/
import Derived.Test.YtcennbjegdlbhaaCheck
namespace Go.Proofs.Ytcennbjegdlbhaa
open Go.RowKit

def pwB (p : Int) : Bool := decide (0 ≤ p ∧ p ≤ 68719476736)
def nodeB (ps : List Pt) (zs : List Int) (i : Nat) : Bool := ptB (ps.getD i ⟨0, 0⟩).x (ps.getD i ⟨0, 0⟩).y && pwB (zs.getD i 0)
def nodesB (ps : List Pt) (zs : List Int) : Bool := (decide (2 ≤ ps.length ∧ ps.length ≤ 32) && decide (zs.length = ps.length)) && decide (∀ i, i < ps.length → nodeB ps zs i = true)
/-- The box of a point. -/
abbrev boxP (w : World) (x y : Int) : World := w.alloc (.cells #[.int .i64 x, .int .i64 y] 23)
theorem boxP_at {w w1 : World} {x y : Int} (h : Same (boxP w x y) w1) :
    w1.cell? ⟨w.heap.size, 0, none⟩ = some (.int .i64 x) ∧ w1.cell? ⟨w.heap.size, 1, none⟩ = some (.int .i64 y) ∧ Same w w1 := by
  refine ⟨h.cell ?_, h.cell ?_, Same.trans ?_ h⟩
  all_goals first | (go_simp; done) | (repeat' (first | exact Same.refl _ | apply Same.alloc))
set_option maxHeartbeats 1600000 in
theorem hasNodes_few (v1 v2 v3 : Value) (ao3 : Option Addr) (l3 c3 : Nat) (h3 : v3 = .slice ao3 l3 c3) (e n t : Int) (ps : List Pt) (zs : List Int) (w : World) (h1 : Pts w v1 ps) (h2 : Ints w v2 zs) (hl : 2 ≤ ps.length) (hl2 : ps.length ≤ 32) (hz : zs.length = ps.length) :
    Calls Try.prog 53 #[.agg #[v1, v2, v3, .int .i64 e, .int .i64 n, .int .i64 t]] w fun e' w' => e' = .returned (.bool (decide (∀ i, i < ps.length → nodeB ps zs i = true))) ∧ Same w w' := by
  subst h3
  rcases h1 with ⟨b, off, cap, rfl, h0, hc⟩ | ⟨ao, cap, rfl, rfl⟩
  · rcases h2 with ⟨b2, off2, cap2, rfl, h02, hc2⟩ | ⟨ao, cap, rfl, rfl⟩
    · have HC := Lib.hid hc; clear hc
      have HD := Lib.hid hc2; clear hc2
      have hW1 := fun w => within_at (ps.length : Int) 2 32 true (decide_eq_true (by omega)) w
      have HW1 := Lib.hid hW1; clear hW1
      rw [hz]
      have hl' : (ps.length : Int) ≤ 32 := by omega
      have HZ := Lib.hid hz
      have hB : (∀ w1, Same (boxS w (.slice (some ⟨b, off, none⟩) ps.length cap) (.slice (some ⟨b2, off2, none⟩) ps.length cap2) (.slice ao3 l3 c3) e n t) w1 → w1.cell? ⟨w.heap.size, 1, none⟩ = some (.slice (some ⟨b2, off2, none⟩) ps.length cap2) ∧ Same w w1) := (fun w1 h => ⟨(boxS_at h).2.1, (boxS_at h).2.2.2.2.2.2⟩)
      have HB := Lib.hid hB; clear hB
      clear hz
      go_enter Try.func53, Try.ntmps53
      go_wp2_with (go_at_call 46; (with_reducible refine (HW1.out _).mono ?_); rintro e w' ⟨rfl, rfl⟩)
      go_loopw [22] (fun i wr => ∃ k : Nat, k ≤ ps.length ∧ i = .int .i64 k ∧ (∀ j, j < k → nodeB ps zs j = true) ∧ Same (boxS w (.slice (some ⟨b, off, none⟩) ps.length cap) (.slice (some ⟨b2, off2, none⟩) ps.length cap2) (.slice ao3 l3 c3) e n t) wr) (fun i _ => ps.length - (intOf i).toNat)
      case atStart => exact ⟨0, Nat.zero_le _, rfl, fun j hj => absurd hj (Nat.not_lt_zero _), Same.refl _⟩
      case round =>
        obtain ⟨k, hk, rfl, hall, hS⟩ := hrel
        have HS := Lib.hid hS
        obtain ⟨kb, hS⟩ := HB.out _ hS
        by_cases hlt : k < ps.length
        · obtain ⟨g1, g2⟩ := HC.out k hlt
          have g3 := HD.out k (by rw [HZ.out]; exact hlt)
          replace g1 := hS.cell g1; replace g2 := hS.cell g2; replace g3 := hS.cell g3
          have hw : nodeB ps zs k = (ptB (ps.getD k ⟨0, 0⟩).x (ps.getD k ⟨0, 0⟩).y && pwB (zs.getD k 0)) := rfl
          have HA := Lib.hid hall; clear hall hS
          obtain ⟨vv, hvv⟩ : ∃ vv, vv = ps.getD k ⟨0, 0⟩ := ⟨_, rfl⟩
          rw [← hvv] at hw g1 g2
          obtain ⟨z, hzz⟩ : ∃ z, z = zs.getD k 0 := ⟨_, rfl⟩
          rw [← hzz] at hw g3
          clear hvv hzz
          obtain ⟨x, y⟩ := vv
          dsimp only at hw g1 g2
          obtain ⟨u1, hu1⟩ : ∃ u, ptB x y = u := ⟨_, rfl⟩
          obtain ⟨u2, hu2⟩ : ∃ u, pwB z = u := ⟨_, rfl⟩
          rw [hu1, hu2] at hw
          have H1 := Lib.hid (fun w => isPoint_at x y u1 hu1 w)
          have H2 := Lib.hid (fun w => within_at z 0 68719476736 u2 hu2 w)
          clear hu1 hu2
          have HW := Lib.hid hw; clear hw
          have hcase : u1 = false ∨ (u1 = true ∧ u2 = false) ∨ (u1 = true ∧ u2 = true) := by cases u1 <;> cases u2 <;> simp
          rcases hcase with rfl | ⟨rfl, rfl⟩ | ⟨rfl, rfl⟩
          all_goals
            go_wp2_with (first
              | (go_at_call 45; (with_reducible refine (H1.out _).mono ?_); rintro e w1 ⟨rfl, hw⟩; obtain ⟨k0, k1, hs⟩ := boxP_at hw; have g3' := hs.cell g3; clear g3; have g3 := g3'; clear g3'; have kb' := hs.cell kb; clear kb; have kb := kb'; clear kb'; have hb := Lib.hid hs; clear hw hs k0 k1)
              | (go_at_call 46; (with_reducible refine (H2.out _).mono ?_); rintro e w' ⟨rfl, rfl⟩))
          · go_ret
            exact ⟨ret_bool (all_false hlt HW.out).symm, ((HB.out _ HS.out).2).trans hb.out⟩
          · go_ret
            exact ⟨ret_bool (all_false hlt HW.out).symm, ((HB.out _ HS.out).2).trans hb.out⟩
          · go_roundw
            case rel =>
              refine ⟨k + 1, by omega, by go_num, fun j hj => ?_, HS.out.trans hb.out⟩
              rcases Nat.lt_succ_iff_lt_or_eq.1 hj with h | rfl
              · exact HA.out j h
              · exact HW.out
            case measure => simp [intOf]; omega
        · have hkn : k = ps.length := by omega
          have HA := Lib.hid (hkn ▸ hall); clear hall
          have HS2 := Lib.hid hS; clear hS
          go_wp2
          go_ret
          exact ⟨ret_bool (all_true HA.out).symm, HS2.out⟩
    · rw [← hz] at hl; simp at hl
  · simp at hl
theorem hasNodes_any (v1 v2 v3 : Value) (ao3 : Option Addr) (l3 c3 : Nat) (h3 : v3 = .slice ao3 l3 c3) (e n t : Int) (ps : List Pt) (zs : List Int) (w : World) (h1 : Pts w v1 ps) (h2 : Ints w v2 zs) :
    Calls Try.prog 53 #[.agg #[v1, v2, v3, .int .i64 e, .int .i64 n, .int .i64 t]] w fun e' w' => e' = .returned (.bool (nodesB ps zs)) ∧ Same w w' := by
  by_cases hl : 2 ≤ ps.length ∧ ps.length ≤ 32
  · by_cases hz : zs.length = ps.length
    · rw [show nodesB ps zs = _ by unfold nodesB; rw [decide_eq_true hl, decide_eq_true hz, Bool.true_and, Bool.true_and]]
      exact hasNodes_few v1 v2 v3 ao3 l3 c3 h3 e n t ps zs w h1 h2 hl.1 hl.2 hz
    · rw [show nodesB ps zs = false by unfold nodesB; rw [decide_eq_false hz, Bool.and_false, Bool.false_and]]
      obtain ⟨ao1, cap1, rfl⟩ := h1.shape
      obtain ⟨ao2, cap2, rfl⟩ := h2.shape
      subst h3
      have HW1 := Lib.hid (fun w => within_at (ps.length : Int) 2 32 true (decide_eq_true (by omega)) w)
      have hz' : ((zs.length : Int) != (ps.length : Int)) = true := by simp; omega
      clear h1 h2 hl hz
      go_enter Try.func53, Try.ntmps53
      go_wp2_with (go_at_call 46; (with_reducible refine (HW1.out _).mono ?_); rintro e w' ⟨rfl, rfl⟩)
      go_ret
      exact ⟨rfl, by repeat' (first | exact Same.refl _ | apply Same.alloc)⟩
  · rw [show nodesB ps zs = false by unfold nodesB; rw [decide_eq_false hl, Bool.false_and, Bool.false_and]]
    obtain ⟨ao1, cap1, rfl⟩ := h1.shape
    obtain ⟨ao2, cap2, rfl⟩ := h2.shape
    subst h3
    have HW1 := Lib.hid (fun w => within_at (ps.length : Int) 2 32 false (decide_eq_false (by omega)) w)
    clear h1 h2 hl
    go_enter Try.func53, Try.ntmps53
    go_wp2_with (go_at_call 46; (with_reducible refine (HW1.out _).mono ?_); rintro e w' ⟨rfl, rfl⟩)
    go_ret
    exact ⟨rfl, by repeat' (first | exact Same.refl _ | apply Same.alloc)⟩

/-- A site as it is handed over. -/
structure Site where
  ps : List Pt
  zs : List Int
  ws : List Wl
  e : Int
  n : Int
  t : Int
structure SiteAt (w : World) (v : Value) (s : Site) : Prop where
  read : ∃ v1 v2 v3, v = .agg #[v1, v2, v3, .int .i64 s.e, .int .i64 s.n, .int .i64 s.t] ∧ Pts w v1 s.ps ∧ Ints w v2 s.zs ∧ Wls w v3 s.ws
theorem SiteAt.same {w w' : World} {v : Value} {s : Site} (h : SiteAt w v s) (k : Same w w') : SiteAt w' v s := by
  obtain ⟨v1, v2, v3, h0, h1, h2, h3⟩ := h.read
  exact ⟨⟨v1, v2, v3, h0, h1.same k, h2.same k, h3.same k⟩⟩
def siteB (s : Site) : Bool := nodesB s.ps s.zs && (wallsB s.ws && rcB s.e s.n s.t)
set_option maxHeartbeats 800000 in
theorem check_any (w : World) (v : Value) (s : Site) (h : SiteAt w v s) : Calls Try.prog 24 #[v] w fun e w' => e = .returned (.int .i64 (if siteB s then 0 else 1)) ∧ Same w w' := by
  obtain ⟨v1, v2, v3, rfl, h1, h2, h3⟩ := h.read
  obtain ⟨ao1, cap1, e1⟩ := h1.shape
  obtain ⟨ao2, cap2, e2⟩ := h2.shape
  obtain ⟨ao3, cap3, e3⟩ := h3.shape
  have c1 := fun w1 (k : Same w w1) => hasNodes_any v1 v2 v3 ao3 _ cap3 e3 s.e s.n s.t s.ps s.zs w1 (h1.same k) (h2.same k)
  have c2 := fun w1 (k : Same w w1) => hasWalls_any v1 v2 v3 ao1 ao2 _ _ cap1 cap2 e1 e2 s.e s.n s.t s.ws w1 (h3.same k)
  have c3 := fun w1 => hasReceivers_any v1 v2 v3 ao1 ao2 ao3 _ _ _ cap1 cap2 cap3 e1 e2 e3 s.e s.n s.t w1
  subst e1 e2 e3
  clear h1 h2 h3 h
  unfold siteB
  generalize nodesB s.ps s.zs = u1 at *
  generalize wallsB s.ws = u2 at *
  generalize rcB s.e s.n s.t = u3 at *
  have C1 := Lib.hid c1; have C2 := Lib.hid c2; have C3 := Lib.hid c3
  clear c1 c2 c3
  generalize s.e = e at *
  generalize s.n = n at *
  generalize s.t = t at *
  have hcase : u1 = false ∨ (u1 = true ∧ u2 = false) ∨ (u1 = true ∧ u2 = true ∧ u3 = false) ∨ (u1 = true ∧ u2 = true ∧ u3 = true) := by cases u1 <;> cases u2 <;> cases u3 <;> simp
  rcases hcase with rfl | ⟨rfl, rfl⟩ | ⟨rfl, rfl, rfl⟩ | ⟨rfl, rfl, rfl⟩
  all_goals
    go_enter Try.func24, Try.ntmps24
    go_wp2_with (first
      | (go_at_call 53; (with_reducible refine (C1.out _ ((Same.refl w).alloc _)).mono ?_); rintro e w1 ⟨rfl, hw⟩; have hb := Lib.hid hw; obtain ⟨k0, k1, k2, k3, k4, k5, hs⟩ := boxS_at hw; clear hw hs)
      | (go_at_call 54; (with_reducible refine (C2.out _ (boxS_at hb.out).2.2.2.2.2.2).mono ?_); rintro e w2 ⟨rfl, hw⟩; have hb' := Lib.hid (hb.out.trans hw); clear hb hw k0 k1 k2 k3 k4 k5; have hb := hb'; clear hb'; obtain ⟨k0, k1, k2, k3, k4, k5, hs⟩ := boxS_at hb.out; clear hs)
      | (go_at_call 55; (with_reducible refine (C3.out _).mono ?_); rintro e w2 ⟨rfl, hw⟩; have hb' := Lib.hid (hb.out.trans hw); clear hb hw k0 k1 k2 k3 k4 k5; have hb := hb'; clear hb'; obtain ⟨k0, k1, k2, k3, k4, k5, hs⟩ := boxS_at hb.out; clear hs))
    go_ret
    exact ⟨rfl, (boxS_at hb.out).2.2.2.2.2.2⟩
end Go.Proofs.Ytcennbjegdlbhaa
