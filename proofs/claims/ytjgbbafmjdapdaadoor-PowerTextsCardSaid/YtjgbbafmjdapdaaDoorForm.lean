/- Format of small powers, and the example of the chapter, which each statement checks first. -/
import Derived.Test.YtjgbbafmjdapdaaDoorDecs
namespace Go.Proofs.YtjgbbafmjdapdaaDoor
open Go.RowKit

set_option maxRecDepth 100000 in
theorem small30 (w : World) : Calls Tryd.prog 41 #[.int .i64 30] w fun e w' => e = .returned (.string ⟨#[51, 48]⟩) ∧ w' = w := by
  go_enter Tryd.func41, Tryd.ntmps41
  go_wp2
  go_ret
  exact ⟨rfl, rfl⟩
theorem dec_cell (w : World) (i : Nat) (hi : i < 10) : (w.alloc (.cells #[.int .i64 1000, .int .i64 1259, .int .i64 1585, .int .i64 1995, .int .i64 2512, .int .i64 3162, .int .i64 3981, .int .i64 5012, .int .i64 6310, .int .i64 7943] 48)).cell? ⟨w.heap.size, i, none⟩ = some (.int .i64 (dec i : Nat)) := by
  rw [cell_of_row _ _ _ _ _ _ (heap_alloc_new w _)]
  match i, hi with
  | 0, _ => rfl
  | 1, _ => rfl
  | 2, _ => rfl
  | 3, _ => rfl
  | 4, _ => rfl
  | 5, _ => rfl
  | 6, _ => rfl
  | 7, _ => rfl
  | 8, _ => rfl
  | 9, _ => rfl
  | n + 10, h => exact absurd h (by omega)
theorem level2_any (n : Int) (w : World) : Calls Tryd.prog 13 #[.int .i64 n] w fun e w' => e = .returned (.tuple #[.int .i64 (levS n).1, .int .i64 (levS n).2]) ∧ Same w w' := by
  by_cases h : 0 ≤ n ∧ n ≤ 108
  · obtain ⟨h0, h1⟩ := h
    obtain ⟨n, rfl⟩ := Int.eq_ofNat_of_zero_le h0
    have hs : levS (n : Int) = ((lev n : Int), 0) := if_pos ⟨h0, h1⟩
    rw [hs]
    clear hs
    have hc := dec_cell w (n % 10) (Nat.mod_lt _ (by decide))
    have hd := dec_le (n % 10)
    have hlev : lev n = dec (n % 10) * 10 ^ (n / 10) / 1000 := rfl
    have HL := Lib.hid hlev; clear hlev
    have i0 : n % 10 < 10 := Nat.mod_lt _ (by decide)
    generalize dec (n % 10) = t at *
    obtain ⟨q, hqe⟩ : ∃ q, q = n / 10 := ⟨_, rfl⟩
    have hqi : (n : Int) / 10 = (q : Int) := by omega
    have hq10 : q ≤ 10 := by omega
    rw [← hqe] at HL
    clear hqe
    go_enter Tryd.func13, Tryd.ntmps13
    go_wp2
    clear hc
    go_loop [5, 6] (fun x i => ∃ k : Nat, k ≤ q ∧ i = .int .i64 k ∧ x = .int .i64 ((t * 10 ^ k : Nat) : Int)) (fun _ i => q - (intOf i).toNat)
    case atStart => exact ⟨0, Nat.zero_le _, rfl, by rw [Nat.pow_zero, Nat.mul_one]⟩
    case round =>
      obtain ⟨k, hk, rfl, rfl⟩ := hrel
      have hb : t * 10 ^ k ≤ 7943 * 10 ^ 10 := Nat.mul_le_mul hd (pow_le k (by omega))
      obtain ⟨x, hx⟩ : ∃ x, x = t * 10 ^ k := ⟨_, rfl⟩
      rw [← hx] at hb ⊢
      have hb' : (x : Int) ≤ 79430000000000 := by omega
      have HX := Lib.hid hx; clear hx
      by_cases hlt : k < q
      · go_wp2
        go_round
        case rel => exact ⟨k + 1, by omega, by go_num, by rw [Nat.pow_succ, ← Nat.mul_assoc, ← HX.out]; go_num⟩
        case measure => simp [intOf]; omega
      · obtain rfl : k = q := by omega
        go_wp2
        go_ret2
        exact ⟨ret2_i64 (by rw [HL.out, ← HX.out]; omega), (Same.refl w).alloc _⟩
  · have hs : levS n = (0, 2) := if_neg h
    rw [hs]
    have hc : n < 0 ∨ (0 ≤ n ∧ 108 < n) := by omega
    clear hs h
    rcases hc with g1 | ⟨g1, g2⟩
    all_goals
      go_enter Tryd.func13, Tryd.ntmps13
      go_wp2
      go_ret2
      exact ⟨rfl, Same.refl w⟩
end Go.Proofs.YtjgbbafmjdapdaaDoor
