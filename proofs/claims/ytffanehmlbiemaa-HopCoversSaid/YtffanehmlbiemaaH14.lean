/- slices.Equal; the awake of the laws; how the laws' arguments are read. -/
import Derived.Test.YtffanehmlbiemaaH13
import Derived.ProofKit
import Derived.OpenShut
import Derived.Deep.Slices
import Derived.Lib.SmallJoins
namespace Go.Proofs.Ytffanehmlbiemaa
open Go.RowKit

set_option maxHeartbeats 2000000 in
set_option maxRecDepth 100000 in
theorem EqualI_any (w : World) (v1 v2 : Value) (xs : List Int) (h1 : IL w v1 xs) (h2 : IL w v2 xs) (hl : xs.length ≤ 1000) :
    Calls Try.prog 30 #[v1, v2] w fun e w' => e = .returned (.bool true) ∧ Same w w' := by
  rcases h1 with ⟨b1, o1, c1, rfl, _, _, hc1⟩ | ⟨ao1, c1, rfl, hz⟩
  · rcases h2 with ⟨b2, o2, c2, rfl, _, _, hc2⟩ | ⟨ao2, c2, rfl, hz⟩
    · have H1 := Lib.hid (fun (j : Nat) (h : j < xs.length) => hc1 j h); clear hc1
      have H2 := Lib.hid (fun (j : Nat) (h : j < xs.length) => hc2 j h); clear hc2
      go_enter Try.func30, Try.ntmps30
      go_wp2
      go_loopw [13] (fun i wr => ∃ k : Nat, k ≤ xs.length ∧ i = .int .i64 k ∧ Same w wr) (fun i _ => xs.length - (intOf i).toNat)
      case atStart => exact ⟨0, Nat.zero_le _, rfl, Same.refl _⟩
      case round =>
        obtain ⟨k, hk, rfl, hS⟩ := hrel
        by_cases hlt : k < xs.length
        · have g1 := hS.cell (H1.out k hlt)
          have g2 := hS.cell (H2.out k hlt)
          have HS := Lib.hid hS; clear hS
          generalize xs.getD k 0 = x at *
          go_wp2
          go_quiet (fail)
          go_wp2
          go_roundw
          case rel => exact ⟨k + 1, by omega, by go_num, HS.out.drewN _⟩
          case measure => simp [intOf]; omega
        · have HS := Lib.hid hS; clear hS
          go_wp2
          go_ret
          exact ⟨rfl, HS.out⟩
    · subst hz
      go_enter Try.func30, Try.ntmps30
      go_wp2
      refine wp_loop_rounds 1 ?_
      rw [rounds_succ]
      go_wp2
      go_ret
      exact ⟨rfl, Same.refl _⟩
  · subst hz
    obtain ⟨ao2, c2, rfl⟩ := h2.shape
    go_enter Try.func30, Try.ntmps30
    go_wp2
    refine wp_loop_rounds 1 ?_
    rw [rounds_succ]
    go_wp2
    go_ret
    exact ⟨rfl, Same.refl _⟩
theorem IL.lit (w : World) (l : List Int) (h : 0 < l.length) (w1 : World) (hs : Same (w.alloc (.cells (icells l).toArray 3)) w1) : IL w1 (.slice (some ⟨w.heap.size, 0, none⟩) l.length l.length) l := by
  refine .inl ⟨_, _, _, rfl, h, Nat.le_refl _, fun i hi => hs.cell ?_⟩
  rw [cell_of_row _ _ _ _ _ _ (heap_alloc_new w _), Nat.zero_add, List.getElem?_toArray, icells_get l i hi]
set_option maxHeartbeats 3200000 in
set_option maxRecDepth 100000 in
theorem hawake_any (w : World) : Calls Try.prog 11 #[] w fun e w' => e = .returned (.bool true) ∧ Same w w' := by
  have HI1 := Lib.hid (fun (w1 : World) (hs : Same (w.alloc (.cells #[.int .i64 11, .int .i64 12, .int .i64 15] 3)) w1) => (show IL w1 (.slice (some ⟨w.heap.size, 0, none⟩) 3 3) [11, 12, 15] from IL.lit w [11, 12, 15] (by decide) w1 hs))
  have HC4 := Lib.hid (fun (w1 : World) (hs : Same (w.alloc (.cells #[.int .i64 11, .int .i64 12, .int .i64 15] 3)) w1) => (show Calls Try.prog 12 #[hopV 0 0 100 (.slice (some ⟨w.heap.size, 0, none⟩) 3 3), .int .i64 4, .int .i64 1] w1 fun e w' => e = .returned (.tuple #[.int .i64 15, .int .i64 0]) ∧ Same w1 w' from Channel_any 0 0 100 _ [11, 12, 15] 4 1 w1 (HI1.out w1 hs) (by decide)))
  have HC5 := Lib.hid (fun (w1 : World) (hs : Same (w.alloc (.cells #[.int .i64 11, .int .i64 12, .int .i64 15] 3)) w1) => (show Calls Try.prog 12 #[hopV 0 0 100 (.slice (some ⟨w.heap.size, 0, none⟩) 3 3), .int .i64 5, .int .i64 1] w1 fun e w' => e = .returned (.tuple #[.int .i64 11, .int .i64 0]) ∧ Same w1 w' from Channel_any 0 0 100 _ [11, 12, 15] 5 1 w1 (HI1.out w1 hs) (by decide)))
  have HW := Lib.hid (fun (w1 : World) => (show Calls Try.prog 25 #[.slice (some ⟨w1.heap.size, 0, none⟩) 4 4, .slice (some ⟨w1.heap.size + 1, 0, none⟩) 2 2, .int .i64 3] ((w1.alloc (.cells #[.int .i64 11, .int .i64 12, .int .i64 15, .int .i64 3] 3)).alloc (.cells #[.int .i64 12, .int .i64 15] 3)) fun e w' => ∃ v, e = .returned (.tuple #[v, .int .i64 0]) ∧ Same ((w1.alloc (.cells #[.int .i64 11, .int .i64 12, .int .i64 15, .int .i64 3] 3)).alloc (.cells #[.int .i64 12, .int .i64 15] 3)) w' ∧ IL w' v [11, 12, 3] from
    Without_any _ _ _ [11, 12, 15, 3] [12, 15] 3 (IL.lit w1 [11, 12, 15, 3] (by decide) _ ((Same.refl _).alloc _)) (by
      have := IL.lit (w1.alloc (.cells #[.int .i64 11, .int .i64 12, .int .i64 15, .int .i64 3] 3)) [12, 15] (by decide) _ (Same.refl _)
      rw [World.size_alloc] at this
      exact this) (by decide) (by decide)))
  have HEQ := Lib.hid (fun (w1 : World) (v : Value) (h : IL w1 v [11, 12, 3]) => EqualI_any (w1.alloc (.cells #[.int .i64 11, .int .i64 12, .int .i64 3] 3)) v (.slice (some ⟨w1.heap.size, 0, none⟩) 3 3) [11, 12, 3] (h.same ((Same.refl _).alloc _)) (IL.lit w1 [11, 12, 3] (by decide) _ (Same.refl _)) (by decide))
  have HN1 := Lib.hid (fun (w1 : World) => (show Calls Try.prog 34 #[.int .i64 3, .int .i64 250] w1 fun e w' => e = .returned (.bool true) ∧ w' = w1 from Newer_any 3 250 w1))
  have HN2 := Lib.hid (fun (w1 : World) => (show Calls Try.prog 34 #[.int .i64 250, .int .i64 3] w1 fun e w' => e = .returned (.bool false) ∧ w' = w1 from Newer_any 250 3 w1))
  have HS1 := Lib.hid ((Same.refl (w.alloc (.cells #[.int .i64 11, .int .i64 12, .int .i64 15] 3))).alloc (.cells #[.int .i64 0, .int .i64 0, .int .i64 100, .slice (some ⟨w.heap.size, 0, none⟩) 3 3] 24))
  have HB := Lib.hid (fun (w1 : World) (hs : Same ((w.alloc (.cells #[.int .i64 11, .int .i64 12, .int .i64 15] 3)).alloc (.cells #[.int .i64 0, .int .i64 0, .int .i64 100, .slice (some ⟨w.heap.size, 0, none⟩) 3 3] 24)) w1) => (show w1.cell? ⟨w.heap.size + 1, 0, none⟩ = some (.int .i64 0) ∧ w1.cell? ⟨w.heap.size + 1, 1, none⟩ = some (.int .i64 0) ∧ w1.cell? ⟨w.heap.size + 1, 2, none⟩ = some (.int .i64 100) ∧ w1.cell? ⟨w.heap.size + 1, 3, none⟩ = some (.slice (some ⟨w.heap.size, 0, none⟩) 3 3) from ⟨hs.cell (by go_simp), hs.cell (by go_simp), hs.cell (by go_simp), hs.cell (by go_simp)⟩))
  go_enter Try.func11, Try.ntmps11
  go_wp2_with (first
    | (go_at_call 12; (with_reducible refine (HC4.out _ (by exact HS1.out)).mono ?_); rintro e w2 ⟨rfl, hw⟩; have HW2 := Lib.hid hw; obtain ⟨c0, c1, c2, c3⟩ := HB.out _ hw; clear hw)
    | (go_at_call 12; (with_reducible refine (HC5.out _ (by exact HS1.out.trans HW2.out)).mono ?_); rintro e w3 ⟨rfl, hw⟩; have HW3 := Lib.hid (HW2.out.trans hw); clear hw)
    | (go_at_call 25; (with_reducible refine (HW.out _).mono ?_); rintro e w4 ⟨v4, rfl, hw, hil⟩; have HW4 := Lib.hid ((((HW3.out).alloc _).alloc _).trans hw); have HIL := Lib.hid hil; clear hw hil)
    | (go_at_call 30; (with_reducible refine (HEQ.out _ _ HIL.out).mono ?_); rintro e w5 ⟨rfl, hw⟩; have HW5 := Lib.hid ((HW4.out.alloc _).trans hw); clear hw)
    | (go_at_call 34; (with_reducible refine (HN1.out _).mono ?_); rintro e w6 ⟨rfl, hw⟩; replace hw := hw.symm; subst hw)
    | (go_at_call 34; (with_reducible refine (HN2.out _).mono ?_); rintro e w7 ⟨rfl, hw⟩; replace hw := hw.symm; subst hw))
  go_ret
  exact ⟨rfl, ((((Same.refl w).alloc _).alloc _).trans HW5.out)⟩
end Go.Proofs.Ytffanehmlbiemaa
