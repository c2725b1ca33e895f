/- The example of the chapter, which each statement checks first. -/
import Derived.Test.YtjjphmmnmdplgaaCalls5
namespace Go.Proofs.Ytjjphmmnmdplgaa
open Go.RowKit Go.Lib Go.Sort

def xs : List Int := [0, 5, 1, 5, 10000, 10004, 9995, 9999]
abbrev wA (w : World) : World := (w.alloc (.cells #[.int .i64 5, .int .i64 (-100000)] 23)).alloc (.cells #[.int .i64 0, .int .i64 5, .int .i64 1, .int .i64 5, .int .i64 10000, .int .i64 10004, .int .i64 9995, .int .i64 9999] 33)
theorem cellsA {w w1 : World} (h : Same (wA w) w1) :
    w1.cell? ⟨w.heap.size, 0, none⟩ = some (.int .i64 5) ∧ w1.cell? ⟨w.heap.size, 1, none⟩ = some (.int .i64 (-100000)) ∧
    ∀ k, k < 4 → w1.cell? ⟨w.heap.size + 1, k * 2, none⟩ = some (.int .i64 (xs.getD (k * 2) 0)) ∧ w1.cell? ⟨w.heap.size + 1, k * 2 + 1, none⟩ = some (.int .i64 (xs.getD (k * 2 + 1) 0)) := by
  refine ⟨h.cell (by go_simp), h.cell (by go_simp), fun k hk => ?_⟩
  match k, hk with
  | 0, _ => exact ⟨h.cell (by go_simp; rfl), h.cell (by go_simp; rfl)⟩
  | 1, _ => exact ⟨h.cell (by go_simp; rfl), h.cell (by go_simp; rfl)⟩
  | 2, _ => exact ⟨h.cell (by go_simp; rfl), h.cell (by go_simp; rfl)⟩
  | 3, _ => exact ⟨h.cell (by go_simp; rfl), h.cell (by go_simp; rfl)⟩
  | n + 4, h => omega
theorem showX : ∀ k, k < 4 → showS 5 (-100000) (xs.getD (k * 2) 0) = (xs.getD (k * 2 + 1) 0, 0) := by decide +kernel
theorem rchX (w : World) : Calls Try.prog 20 #[.agg #[.int .i64 5, .int .i64 (-100000)], .int .i64 1] w fun e w' => e = .returned (.tuple #[.int .i64 9996, .int .i64 0]) ∧ Grew w w' := by
  have h := Begin_any 5 (-100000) 1 9996 (fun hok _ => by
    refine ⟨by decide, fun i hi => ?_⟩
    have a1 : shS 5 (-100000) 9995 < 1 * 10000 := by decide
    have a2 : 1 * 10000 ≤ shS 5 (-100000) 9996 := by decide
    constructor
    · intro h
      have : shS 5 (-100000) (i : Int) ≤ shS 5 (-100000) 9995 := sh_mono hok (by omega)
      omega
    · intro h
      by_cases e : i < 9996
      · exact e
      · have : shS 5 (-100000) 9996 ≤ shS 5 (-100000) (i : Int) := sh_mono hok (by omega)
        omega) w
  rw [show inS 5 (-100000) 1 9996 = (9996, 0) by decide +kernel] at h
  exact h
theorem boxA (w1 w2 : World) (x y : Int) (h : Grew (w1.alloc (.cells #[.int .i64 x, .int .i64 y] 33)) w2) : w2.cell? ⟨w1.heap.size, 1, none⟩ = some (.int .i64 y) := h.cell (by go_simp)
theorem awake_any (w : World) : Calls Try.prog 11 #[] w fun e w' => e = .returned (.bool true) ∧ Same w w' := by
  have H1 := Lib.hid (fun (t : Int) (w : World) => Show_any 5 (-100000) t w)
  have H2 := Lib.hid (fun w => rchX w)
  go_enter Try.func11, Try.ntmps11
  go_wp2_with fail
  go_loopw [15] (fun i wr => ∃ k : Nat, k ≤ 4 ∧ i = .int .i64 k ∧ Same (wA w) wr) (fun i _ => 4 - (intOf i).toNat)
  case atStart => exact ⟨0, Nat.zero_le _, rfl, Same.refl _⟩
  case round =>
    obtain ⟨k, hk, rfl, hS⟩ := hrel
    obtain ⟨k0, k1, hc⟩ := cellsA hS
    have HS := Lib.hid hS; clear hS
    by_cases hlt : k < 4
    · obtain ⟨c0, c1⟩ := hc k hlt
      have hx := showX k hlt
      generalize xs.getD (k * 2) 0 = x at *
      generalize xs.getD (k * 2 + 1) 0 = y at *
      have hsh := fun w => H1.out x w
      rw [hx] at hsh
      have H3 := Lib.hid hsh; clear hsh hx hc H1 H2
      have y0 := cell_alloc_sl (.cells #[.int .i64 x, .int .i64 y] 33) k0
      have y1 := cell_alloc_sl (.cells #[.int .i64 x, .int .i64 y] 33) k1
      go_wp2_with (go_at_call 12; (with_reducible refine (H3.out _).mono ?_); rintro e w2 ⟨rfl, hw⟩; have k3 := boxA _ _ _ _ hw; have HB := Lib.hid ((HS.out.alloc _).trans hw.toSame); clear hw)
      go_roundw
      case rel => exact ⟨k + 1, by omega, by go_num, HB.out⟩
      case measure => simp [intOf]; omega
    · obtain rfl : k = 4 := by omega
      clear hc H1
      go_wp2_with (go_at_call 20; (with_reducible refine (H2.out _).mono ?_); rintro e w2 ⟨rfl, hw⟩; have HB := Lib.hid (HS.out.trans hw.toSame); clear hw)
      go_ret
      exact ⟨rfl, (((Same.refl w).alloc _).alloc _).trans HB.out⟩
end Go.Proofs.Ytjjphmmnmdplgaa
