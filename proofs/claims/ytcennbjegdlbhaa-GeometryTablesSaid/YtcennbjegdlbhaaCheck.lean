/- Package geometry: Check. -/
import Derived.Test.YtcennbjegdlbhaaSites
namespace Go.Proofs.Ytcennbjegdlbhaa
open Go.RowKit

theorem isPoint_at (x y : Int) (u : Bool) (h : ptB x y = u) (w : World) : Calls Try.prog 45 #[.agg #[.int .i64 x, .int .i64 y]] w fun e w' => e = .returned (.bool u) ∧ Same w w' := h ▸ isPoint_any x y w
theorem within_at (n l m : Int) (u : Bool) (h : decide (l ≤ n ∧ n ≤ m) = u) (w : World) : Calls Try.prog 46 #[.int .i64 n, .int .i64 l, .int .i64 m] w fun e w' => e = .returned (.bool u) ∧ w' = w := h ▸ within_any n l m w
/-- A wall is one. -/
def wlB (v : Wl) : Bool := ptB v.a1 v.a2 && (ptB v.b1 v.b2 && decide (0 ≤ v.f ∧ v.f ≤ 1000))
def wallsB (ws : List Wl) : Bool := decide (ws.length ≤ 32) && decide (∀ i, i < ws.length → wlB (ws.getD i ⟨0, 0, 0, 0, 0⟩) = true)
/-- The box of a site. -/
abbrev boxS (w : World) (v1 v2 v3 : Value) (e n t : Int) : World := w.alloc (.cells #[v1, v2, v3, .int .i64 e, .int .i64 n, .int .i64 t] 34)
theorem boxS_at {w w1 : World} {v1 v2 v3 : Value} {e n t : Int} (h : Same (boxS w v1 v2 v3 e n t) w1) :
    w1.cell? ⟨w.heap.size, 0, none⟩ = some v1 ∧ w1.cell? ⟨w.heap.size, 1, none⟩ = some v2 ∧ w1.cell? ⟨w.heap.size, 2, none⟩ = some v3 ∧ w1.cell? ⟨w.heap.size, 3, none⟩ = some (.int .i64 e) ∧ w1.cell? ⟨w.heap.size, 4, none⟩ = some (.int .i64 n) ∧ w1.cell? ⟨w.heap.size, 5, none⟩ = some (.int .i64 t) ∧ Same w w1 := by
  refine ⟨h.cell ?_, h.cell ?_, h.cell ?_, h.cell ?_, h.cell ?_, h.cell ?_, Same.trans ?_ h⟩
  all_goals first | (go_simp; done) | (repeat' (first | exact Same.refl _ | apply Same.alloc))
/-- The box of a wall. -/
abbrev boxW (w : World) (a1 a2 b1 b2 f : Int) : World := w.alloc (.cells #[.int .i64 a1, .int .i64 a2, .int .i64 b1, .int .i64 b2, .int .i64 f] 25)
theorem boxW_at {w w1 : World} {a1 a2 b1 b2 f : Int} (h : Same (boxW w a1 a2 b1 b2 f) w1) :
    w1.cell? ⟨w.heap.size, 0, none⟩ = some (.int .i64 a1) ∧ w1.cell? ⟨w.heap.size, 1, none⟩ = some (.int .i64 a2) ∧ w1.cell? ⟨w.heap.size, 2, none⟩ = some (.int .i64 b1) ∧ w1.cell? ⟨w.heap.size, 3, none⟩ = some (.int .i64 b2) ∧ w1.cell? ⟨w.heap.size, 4, none⟩ = some (.int .i64 f) ∧ Same w w1 := by
  refine ⟨h.cell ?_, h.cell ?_, h.cell ?_, h.cell ?_, h.cell ?_, Same.trans ?_ h⟩
  all_goals first | (go_simp; done) | (repeat' (first | exact Same.refl _ | apply Same.alloc))
theorem all_false {n k : Nat} {p : Nat → Bool} (hk : k < n) (h : p k = false) : decide (∀ i, i < n → p i = true) = false := by
  apply decide_eq_false
  intro hall
  rw [hall k hk] at h; exact absurd h (by decide)
theorem all_true {n : Nat} {p : Nat → Bool} (h : ∀ i, i < n → p i = true) : decide (∀ i, i < n → p i = true) = true := decide_eq_true h
set_option maxHeartbeats 1600000 in
theorem hasWalls_few (v1 v2 v3 : Value) (ao1 ao2 : Option Addr) (l1 l2 c1 c2 : Nat) (h1 : v1 = .slice ao1 l1 c1) (h2 : v2 = .slice ao2 l2 c2) (e n t : Int) (ws : List Wl) (w : World) (h3 : Wls w v3 ws) (hl : ws.length ≤ 32) :
    Calls Try.prog 54 #[.agg #[v1, v2, v3, .int .i64 e, .int .i64 n, .int .i64 t]] w fun e' w' => e' = .returned (.bool (decide (∀ i, i < ws.length → wlB (ws.getD i ⟨0, 0, 0, 0, 0⟩) = true))) ∧ Same w w' := by
  subst h1 h2
  rcases h3 with ⟨b, off, cap, rfl, h0, hc⟩ | ⟨ao, cap, rfl, rfl⟩
  · have HC := Lib.hid hc; clear hc
    have hl' : (ws.length : Int) ≤ 32 := by omega
    go_enter Try.func54, Try.ntmps54
    go_wp2
    go_loopw [12] (fun i wr => ∃ k : Nat, k ≤ ws.length ∧ i = .int .i64 k ∧ (∀ j, j < k → wlB (ws.getD j ⟨0, 0, 0, 0, 0⟩) = true) ∧ Same w wr) (fun i _ => ws.length - (intOf i).toNat)
    case atStart => exact ⟨0, Nat.zero_le _, rfl, fun j hj => absurd hj (Nat.not_lt_zero _), by repeat' (first | exact Same.refl _ | apply Same.alloc)⟩
    case round =>
      obtain ⟨k, hk, rfl, hall, hS⟩ := hrel
      have HS := Lib.hid hS
      by_cases hlt : k < ws.length
      · obtain ⟨g1, g2, g3, g4, g5⟩ := HC.out k hlt
        replace g1 := hS.cell g1; replace g2 := hS.cell g2; replace g3 := hS.cell g3; replace g4 := hS.cell g4; replace g5 := hS.cell g5
        have hw : wlB (ws.getD k ⟨0, 0, 0, 0, 0⟩) = (ptB (ws.getD k ⟨0, 0, 0, 0, 0⟩).a1 (ws.getD k ⟨0, 0, 0, 0, 0⟩).a2 && (ptB (ws.getD k ⟨0, 0, 0, 0, 0⟩).b1 (ws.getD k ⟨0, 0, 0, 0, 0⟩).b2 && decide (0 ≤ (ws.getD k ⟨0, 0, 0, 0, 0⟩).f ∧ (ws.getD k ⟨0, 0, 0, 0, 0⟩).f ≤ 1000))) := rfl
        have HA := Lib.hid hall; clear hall hS
        obtain ⟨vv, hvv⟩ : ∃ vv, vv = ws.getD k ⟨0, 0, 0, 0, 0⟩ := ⟨_, rfl⟩
        rw [← hvv] at hw g1 g2 g3 g4 g5
        have HV := Lib.hid hvv; clear hvv
        obtain ⟨a1, a2, b1, b2, f⟩ := vv
        dsimp only at hw g1 g2 g3 g4 g5
        obtain ⟨u1, hu1⟩ : ∃ u, ptB a1 a2 = u := ⟨_, rfl⟩
        obtain ⟨u2, hu2⟩ : ∃ u, ptB b1 b2 = u := ⟨_, rfl⟩
        obtain ⟨u3, hu3⟩ : ∃ u, decide (0 ≤ f ∧ f ≤ 1000) = u := ⟨_, rfl⟩
        rw [hu1, hu2, hu3] at hw
        have H1 := Lib.hid (fun w => isPoint_at a1 a2 u1 hu1 w)
        have H2 := Lib.hid (fun w => isPoint_at b1 b2 u2 hu2 w)
        have H3 := Lib.hid (fun w => within_at f 0 1000 u3 hu3 w)
        clear hu1 hu2 hu3
        have HW := Lib.hid hw; clear hw
        have hcase : u1 = false ∨ (u1 = true ∧ u2 = false) ∨ (u1 = true ∧ u2 = true ∧ u3 = false) ∨ (u1 = true ∧ u2 = true ∧ u3 = true) := by cases u1 <;> cases u2 <;> cases u3 <;> simp
        rcases hcase with rfl | ⟨rfl, rfl⟩ | ⟨rfl, rfl, rfl⟩ | ⟨rfl, rfl, rfl⟩
        all_goals
          go_wp2_with (first
            | (go_at_call 45; (with_reducible refine (H1.out _).mono ?_); rintro e w1 ⟨rfl, hw⟩; have hb := Lib.hid hw; obtain ⟨k0, k1, k2, k3, k4, hs⟩ := boxW_at hw; clear hw hs)
            | (go_at_call 45; (with_reducible refine (H2.out _).mono ?_); rintro e w2 ⟨rfl, hw⟩; have hb' := Lib.hid (hb.out.trans hw); clear hb hw k0 k1 k2 k3 k4; have hb := hb'; clear hb'; obtain ⟨k0, k1, k2, k3, k4, hs⟩ := boxW_at hb.out; clear hs)
            | (go_at_call 46; (with_reducible refine (H3.out _).mono ?_); rintro e w' ⟨rfl, rfl⟩))
        · go_ret
          exact ⟨ret_bool (all_false hlt (by rw [← HV.out, HW.out]; rfl)).symm, HS.out.trans (boxW_at hb.out).2.2.2.2.2⟩
        · go_ret
          exact ⟨ret_bool (all_false hlt (by rw [← HV.out, HW.out]; rfl)).symm, HS.out.trans (boxW_at hb.out).2.2.2.2.2⟩
        · go_ret
          exact ⟨ret_bool (all_false hlt (by rw [← HV.out, HW.out]; rfl)).symm, HS.out.trans (boxW_at hb.out).2.2.2.2.2⟩
        · go_roundw
          case rel =>
            refine ⟨k + 1, by omega, by go_num, fun j hj => ?_, HS.out.trans (boxW_at hb.out).2.2.2.2.2⟩
            rcases Nat.lt_succ_iff_lt_or_eq.1 hj with h | rfl
            · exact HA.out j h
            · rw [← HV.out, HW.out]; rfl
          case measure => simp [intOf]; omega
      · have hkn : k = ws.length := by omega
        have HA := Lib.hid (hkn ▸ hall); clear hall hS
        go_wp2
        go_ret
        exact ⟨ret_bool (all_true HA.out).symm, HS.out⟩
  · go_enter Try.func54, Try.ntmps54
    go_wp2
    refine wp_loop_rounds 1 ?_
    rw [rounds_succ]
    go_wp2
    go_ret
    exact ⟨ret_bool (by simp), by repeat' (first | exact Same.refl _ | apply Same.alloc)⟩
theorem hasWalls_any (v1 v2 v3 : Value) (ao1 ao2 : Option Addr) (l1 l2 c1 c2 : Nat) (h1 : v1 = .slice ao1 l1 c1) (h2 : v2 = .slice ao2 l2 c2) (e n t : Int) (ws : List Wl) (w : World) (h3 : Wls w v3 ws) :
    Calls Try.prog 54 #[.agg #[v1, v2, v3, .int .i64 e, .int .i64 n, .int .i64 t]] w fun e' w' => e' = .returned (.bool (wallsB ws)) ∧ Same w w' := by
  by_cases hl : ws.length ≤ 32
  · rw [show wallsB ws = _ by unfold wallsB; rw [decide_eq_true hl, Bool.true_and]]
    exact hasWalls_few v1 v2 v3 ao1 ao2 l1 l2 c1 c2 h1 h2 e n t ws w h3 hl
  · rw [show wallsB ws = false by unfold wallsB; rw [decide_eq_false hl, Bool.false_and]]
    obtain ⟨ao, cap, rfl⟩ := h3.shape
    subst h1 h2
    have hl' : 32 < (ws.length : Int) := by omega
    clear h3 hl
    go_enter Try.func54, Try.ntmps54
    go_wp2
    go_ret
    exact ⟨rfl, by repeat' (first | exact Same.refl _ | apply Same.alloc)⟩
end Go.Proofs.Ytcennbjegdlbhaa
