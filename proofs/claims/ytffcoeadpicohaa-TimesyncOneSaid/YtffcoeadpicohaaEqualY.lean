/- slices.Equal of states. -/
import Derived.Test.YtffcoeadpicohaaSames
namespace Go.Proofs.Ytffcoeadpicohaa
open Go.RowKit

set_option maxHeartbeats 2000000 in
set_option maxRecDepth 100000 in
/-- slices.Equal of states. -/
theorem EqualY_any (w : World) (v1 v2 : Value) (xs : List St) (h1 : Lst w v1 xs.length (ycells xs)) (h2 : Lst w v2 xs.length (ycells xs)) (hl : xs.length ≤ 1000) :
    Calls Try.prog 35 #[v1, v2] w fun e w' => e = .returned (.bool true) ∧ Same w w' := by
  rcases h1 with ⟨b1, o1, c1, rfl, hc1⟩ | ⟨ao1, c1, rfl, e1, _⟩
  · rcases h2 with ⟨b2, o2, c2, rfl, hc2⟩ | ⟨ao2, c2, rfl, e2, _⟩
    · have H1 := Lib.hid (fun (w1 : World) (hs : Same w w1) (j : Nat) (h : j < xs.length) => (y_at hc1 j h).same hs); clear hc1
      have H2 := Lib.hid (fun (w1 : World) (hs : Same w w1) (j : Nat) (h : j < xs.length) => (y_at hc2 j h).same hs); clear hc2
      go_enter Try.func35, Try.ntmps35
      go_wp2
      go_loopw [13] (fun i wr => ∃ k : Nat, k ≤ xs.length ∧ i = .int .i64 k ∧ Same w wr) (fun i _ => xs.length - (intOf i).toNat)
      case atStart => exact ⟨0, Nat.zero_le _, rfl, Same.refl _⟩
      case round =>
        obtain ⟨k, hk, rfl, hS⟩ := hrel
        by_cases hlt : k < xs.length
        · obtain ⟨g1, g2, g3, g4⟩ := H1.out _ hS k hlt
          obtain ⟨k1, k2, k3, k4⟩ := H2.out _ hS k hlt
          have HS := Lib.hid hS; clear hS
          generalize xs.getD k st0 = x at *
          obtain ⟨x0, x1, x2, x3⟩ := x
          go_wp2
          go_quiet (fail)
          go_wp2
          go_roundw
          case rel => exact ⟨k + 1, by omega, by go_num, HS.out.drewN _⟩
          case measure => simp [intOf]; omega
        · have HS := Lib.hid hS; clear hS
          go_wp2
          go_ret
          exact ⟨rfl, HS.out⟩
    · have hz : xs = [] := List.length_eq_zero_iff.1 e2
      subst hz
      go_enter Try.func35, Try.ntmps35
      go_wp2
      refine wp_loop_rounds 1 ?_
      rw [rounds_succ]
      go_wp2
      go_ret
      exact ⟨rfl, Same.refl _⟩
  · have hz : xs = [] := List.length_eq_zero_iff.1 e1
    subst hz
    obtain ⟨ao2, c2, rfl⟩ := h2.shape
    go_enter Try.func35, Try.ntmps35
    go_wp2
    refine wp_loop_rounds 1 ?_
    rw [rounds_succ]
    go_wp2
    go_ret
    exact ⟨rfl, Same.refl _⟩
end Go.Proofs.Ytffcoeadpicohaa
