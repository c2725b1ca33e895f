/- The calls of package power that compute with single powers. -/
import Derived.Test.YtjgbbafmjdapdaaDoorRows
import Derived.WalkKit
import Derived.WalkLawsBesides
import Derived.WalkSpells
import Derived.BigRegion
import Derived.BigQuiet
import Derived.Deep.QuietTactic
import Derived.Deep.RegionHeld3
import Derived.Outline
import Derived.Handy
import Derived.Lib.Hide
namespace Go.Proofs.YtjgbbafmjdapdaaDoor
open Go.RowKit

/-- All blocks that were there are as they were. -/
structure Same (w w' : World) : Prop where
  os : w'.os = w.os
  tape : w'.tape = w.tape
  output : w'.output = w.output
  size : w.heap.size ≤ w'.heap.size
  block : ∀ k, k < w.heap.size → w'.heap[k]? = w.heap[k]?
theorem Same.refl (w : World) : Same w w := ⟨rfl, rfl, rfl, Nat.le_refl _, fun _ _ => rfl⟩
theorem Same.trans {a b c : World} (h : Same a b) (k : Same b c) : Same a c :=
  ⟨k.os.trans h.os, k.tape.trans h.tape, k.output.trans h.output, Nat.le_trans h.size k.size, fun i hi => (k.block i (Nat.lt_of_lt_of_le hi h.size)).trans (h.block i hi)⟩
theorem Same.drewN {a w : World} (h : Same a w) (n : Nat) : Same a (w.drewN n) := ⟨h.os, h.tape, h.output, h.size, h.block⟩
theorem Same.drew {a w : World} (h : Same a w) : Same a w.drew := ⟨h.os, h.tape, h.output, h.size, h.block⟩
theorem Same.ofDrewN {w w' : World} (h : ∃ n, w' = w.drewN n) : Same w w' := by obtain ⟨n, rfl⟩ := h; exact (Same.refl w).drewN n
theorem Same.alloc {a w : World} (h : Same a w) (o : Obj) : Same a (w.alloc o) :=
  ⟨h.os, h.tape, h.output, Nat.le_trans h.size (by simp), fun k hk => (Below.heap_alloc _ _ _ (Nat.lt_of_lt_of_le hk h.size)).trans (h.block k hk)⟩
theorem Same.setCell {a w : World} (h : Same a w) {p : Addr} (hp : a.heap.size ≤ p.block) (u : Value) : Same a (w.setCell p u) :=
  ⟨h.os, h.tape, h.output, Nat.le_trans h.size (by simp [World.setCell]), fun k hk => (Below.heap_setCell _ _ _ _ (by omega)).trans (h.block k hk)⟩
theorem Same.toBelow {w w' : World} (h : Same w w') : Below w.heap.size w w' := ⟨h.os, h.tape, h.output, h.size, fun k hk => h.block k hk⟩
theorem Same.ofBelow {w w' : World} (h : Below w.heap.size w w') : Same w w' := ⟨h.os, h.tape, h.output, h.size, fun k hk => h.block k hk⟩
theorem Same.cell {w w1 : World} (h : Same w w1) {p : Addr} {v : Value} (hc : w.cell? p = some v) : w1.cell? p = some v := by
  have hb := h.block p.block (World.block_lt_of_cell? w p hc)
  unfold World.cell? at hc ⊢
  rw [hb]; exact hc

/-- The powers of 0 to 9 decibels, in thousandths. -/
def dec (i : Nat) : Nat := [1000, 1259, 1585, 1995, 2512, 3162, 3981, 5012, 6310, 7943].getD i 0
theorem dec_le (i : Nat) : dec i ≤ 7943 := by
  unfold dec
  match i with
  | 0 | 1 | 2 | 3 | 4 | 5 | 6 | 7 | 8 | 9 => decide
  | n + 10 => simp
/-- The table of a decade lies in its variable. -/
def Tab (w : World) : Prop := ∀ i, i < 10 → w.cell? ⟨0, i, none⟩ = some (.int .i64 (dec i : Nat))
theorem Tab.same {w w' : World} (h : Tab w) (s : Same w w') : Tab w' := fun i hi => s.cell (h i hi)
/-- The power of n decibels. -/
def lev (n : Nat) : Nat := dec (n % 10) * 10 ^ (n / 10) / 1000
theorem ret_i64 {a b : Int} (h : a = b) : Ending.returned (.int .i64 a) = .returned (.int .i64 b) := by rw [h]

theorem within_yes (n l m : Int) (h1 : l ≤ n) (h2 : n ≤ m) (w : World) : Calls Tryd.prog 32 #[.int .i64 n, .int .i64 l, .int .i64 m] w fun e w' => e = .returned (.bool true) ∧ w' = w := by
  go_enter Tryd.func32, Tryd.ntmps32
  go_wp2
  go_ret
  exact ⟨rfl, rfl⟩
theorem within_no (n l m : Int) (h : n < l ∨ m < n) (w : World) : Calls Tryd.prog 32 #[.int .i64 n, .int .i64 l, .int .i64 m] w fun e w' => e = .returned (.bool false) ∧ w' = w := by
  by_cases h1 : n < l
  · clear h
    go_enter Tryd.func32, Tryd.ntmps32
    go_wp2
    go_ret
    exact ⟨rfl, rfl⟩
  · have h2 : m < n := by omega
    have h3 : l ≤ n := by omega
    have hd : decide (n ≤ m) = false := by simp; omega
    clear h h1
    go_enter Tryd.func32, Tryd.ntmps32
    go_wp2
    go_ret
    exact ⟨rfl, rfl⟩

theorem pow_le (n : Nat) (h : n ≤ 10) : 10 ^ n ≤ 10 ^ 10 := Nat.pow_le_pow_right (by decide) h
theorem level_any (n : Nat) (hn : n ≤ 108) (w : World) (ht : Tab w) : Calls Tryd.prog 33 #[.int .i64 n] w fun e w' => e = .returned (.int .i64 (lev n : Nat)) ∧ w' = w := by
  have hc := ht (n % 10) (Nat.mod_lt _ (by decide))
  have hd := dec_le (n % 10)
  have hlev : lev n = dec (n % 10) * 10 ^ (n / 10) / 1000 := rfl
  have HL := Lib.hid hlev; clear hlev
  have i0 : n % 10 < 10 := Nat.mod_lt _ (by decide)
  clear ht
  generalize dec (n % 10) = t at *
  have hq : n / 10 ≤ 10 := by omega
  obtain ⟨q, hqe⟩ : ∃ q, q = n / 10 := ⟨_, rfl⟩
  have hqi : (n : Int) / 10 = (q : Int) := by omega
  have hq10 : q ≤ 10 := by omega
  have HQ := Lib.hid hqe
  rw [← hqe] at HL
  clear hqe hq
  go_enter Tryd.func33, Tryd.ntmps33
  go_wp2
  clear hqi
  go_loop [3, 10] (fun x i => ∃ k : Nat, k ≤ q ∧ i = .int .i64 k ∧ x = .int .i64 ((t * 10 ^ k : Nat) : Int)) (fun _ i => q - (intOf i).toNat)
  case atStart => exact ⟨0, Nat.zero_le _, rfl, by rw [Nat.pow_zero, Nat.mul_one]⟩
  case round =>
    obtain ⟨k, hk, rfl, rfl⟩ := hrel
    have hb : t * 10 ^ k ≤ 7943 * 10 ^ 10 := Nat.mul_le_mul hd (pow_le k (by omega))
    obtain ⟨x, hx⟩ : ∃ x, x = t * 10 ^ k := ⟨_, rfl⟩
    rw [← hx] at hb ⊢
    have hb' : (x : Int) ≤ 79430000000000 := by omega
    have HX := Lib.hid hx; clear hx
    by_cases hlt : k < q
    · go_wp2
      go_round
      case rel => exact ⟨k + 1, by omega, by go_num, by rw [Nat.pow_succ, ← Nat.mul_assoc, ← HX.out]; go_num⟩
      case measure => simp [intOf]; omega
    · obtain rfl : k = q := by omega
      go_wp2
      go_ret
      exact ⟨ret_i64 (by rw [HL.out, ← HX.out]; omega), rfl⟩
theorem lev_lt (n : Nat) (h : n ≤ 108) : lev n ≤ 79430000000 := by
  unfold lev
  have := Nat.mul_le_mul (dec_le (n % 10)) (pow_le (n / 10) (by omega))
  omega

/-- Level. -/
def levS (n : Int) : Int × Int := if 0 ≤ n ∧ n ≤ 108 then ((lev n.toNat : Int), 0) else (0, 2)
theorem level_api (n : Int) (w : World) (ht : Tab w) : Calls Tryd.prog 12 #[.int .i64 n] w fun e w' => e = .returned (.tuple #[.int .i64 (levS n).1, .int .i64 (levS n).2]) ∧ w' = w := by
  by_cases h : 0 ≤ n ∧ n ≤ 108
  · obtain ⟨h0, h1⟩ := h
    obtain ⟨n, rfl⟩ := Int.eq_ofNat_of_zero_le h0
    have hs : levS (n : Int) = ((lev n : Int), 0) := if_pos ⟨h0, h1⟩
    have hw := fun w => within_yes (n : Int) 0 108 h0 h1 w
    have hl := level_any n (by omega) w ht
    rw [hs]
    have HW := Lib.hid hw; clear hw
    have HL := Lib.hid hl; clear hl hs ht
    go_enter Tryd.func12, Tryd.ntmps12
    go_wp2_with (first | (go_at_call 32; refine (HW.out _).mono ?_; rintro e w' ⟨rfl, rfl⟩) | (go_at_call 33; refine HL.out.mono ?_; rintro e w' ⟨rfl, rfl⟩))
    go_ret2
    exact ⟨rfl, rfl⟩
  · have hs : levS n = (0, 2) := if_neg h
    have hw := fun w => within_no n 0 108 (by omega) w
    rw [hs]
    have HW := Lib.hid hw; clear hw hs ht h
    go_enter Tryd.func12, Tryd.ntmps12
    go_wp2_with (go_at_call 32; refine (HW.out _).mono ?_; rintro e w' ⟨rfl, rfl⟩)
    go_ret2
    exact ⟨rfl, rfl⟩
end Go.Proofs.YtjgbbafmjdapdaaDoor
