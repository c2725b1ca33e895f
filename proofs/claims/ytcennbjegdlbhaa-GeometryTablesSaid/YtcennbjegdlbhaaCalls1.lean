/- Package geometry: numbers, points, turns and crossings. -/
import Derived.Test.YtcennbjegdlbhaaRows
import Derived.WalkKit
import Derived.WalkLawsBesides
import Derived.WalkSpells
import Derived.BigRegion
import Derived.BigQuiet
import Derived.Deep.QuietTactic
import Derived.Deep.RegionHeld3
import Derived.Outline
import Derived.Handy
import Derived.Lib.Hide
namespace Go.Proofs.Ytcennbjegdlbhaa
open Go.RowKit

/-- All blocks that were there are as they were. -/
structure Same (w w' : World) : Prop where
  os : w'.os = w.os
  tape : w'.tape = w.tape
  output : w'.output = w.output
  size : w.heap.size ≤ w'.heap.size
  block : ∀ k, k < w.heap.size → w'.heap[k]? = w.heap[k]?
theorem Same.refl (w : World) : Same w w := ⟨rfl, rfl, rfl, Nat.le_refl _, fun _ _ => rfl⟩
theorem Same.trans {a b c : World} (h : Same a b) (k : Same b c) : Same a c :=
  ⟨k.os.trans h.os, k.tape.trans h.tape, k.output.trans h.output, Nat.le_trans h.size k.size, fun i hi => (k.block i (Nat.lt_of_lt_of_le hi h.size)).trans (h.block i hi)⟩
theorem Same.drewN {a w : World} (h : Same a w) (n : Nat) : Same a (w.drewN n) := ⟨h.os, h.tape, h.output, h.size, h.block⟩
theorem Same.drew {a w : World} (h : Same a w) : Same a w.drew := ⟨h.os, h.tape, h.output, h.size, h.block⟩
theorem Same.ofDrewN {w w' : World} (h : ∃ n, w' = w.drewN n) : Same w w' := by obtain ⟨n, rfl⟩ := h; exact (Same.refl w).drewN n
theorem Same.alloc {a w : World} (h : Same a w) (o : Obj) : Same a (w.alloc o) :=
  ⟨h.os, h.tape, h.output, Nat.le_trans h.size (by simp), fun k hk => (Below.heap_alloc _ _ _ (Nat.lt_of_lt_of_le hk h.size)).trans (h.block k hk)⟩
theorem Same.setCell {a w : World} (h : Same a w) {p : Addr} (hp : a.heap.size ≤ p.block) (u : Value) : Same a (w.setCell p u) :=
  ⟨h.os, h.tape, h.output, Nat.le_trans h.size (by simp [World.setCell]), fun k hk => (Below.heap_setCell _ _ _ _ (by omega)).trans (h.block k hk)⟩
theorem Same.toBelow {w w' : World} (h : Same w w') : Below w.heap.size w w' := ⟨h.os, h.tape, h.output, h.size, fun k hk => h.block k hk⟩
theorem Same.ofBelow {w w' : World} (h : Below w.heap.size w w') : Same w w' := ⟨h.os, h.tape, h.output, h.size, fun k hk => h.block k hk⟩
theorem Same.cell {w w1 : World} (h : Same w w1) {p : Addr} {v : Value} (hc : w.cell? p = some v) : w1.cell? p = some v := by
  have hb := h.block p.block (World.block_lt_of_cell? w p hc)
  unfold World.cell? at hc ⊢
  rw [hb]; exact hc


theorem ret_i64 {a b : Int} (h : a = b) : Ending.returned (.int .i64 a) = .returned (.int .i64 b) := by rw [h]
theorem ret_bool {a b : Bool} (h : a = b) : Ending.returned (.bool a) = .returned (.bool b) := by rw [h]

theorem within_any (n l m : Int) (w : World) : Calls Try.prog 46 #[.int .i64 n, .int .i64 l, .int .i64 m] w fun e w' => e = .returned (.bool (decide (l ≤ n ∧ n ≤ m))) ∧ w' = w := by
  by_cases h1 : n < l
  · have e : decide (l ≤ n ∧ n ≤ m) = false := decide_eq_false (by omega)
    rw [e]; clear e
    go_enter Try.func46, Try.ntmps46
    go_wp2
    go_ret
    exact ⟨rfl, rfl⟩
  · have h2 : l ≤ n := by omega
    have e : decide (l ≤ n ∧ n ≤ m) = decide (n ≤ m) := by simp [h2]
    rw [e]; clear e h1
    go_enter Try.func46, Try.ntmps46
    go_wp2
    go_ret
    exact ⟨rfl, rfl⟩
theorem isNaN_any (n : Int) (w : World) : Calls Try.prog 68 #[.int .i64 n] w fun e w' => e = .returned (.bool false) ∧ w' = w := by
  go_enter Try.func68, Try.ntmps68
  go_wp2
  go_ret
  exact ⟨ret_bool (by simp), rfl⟩
def cmp3 (a b : Int) : Int := if a < b then -1 else if b < a then 1 else 0
theorem compare_any (a b : Int) (w : World) : Calls Try.prog 69 #[.int .i64 a, .int .i64 b] w fun e w' => e = .returned (.int .i64 (cmp3 a b)) ∧ w' = w := by
  have HN := Lib.hid (fun n w => isNaN_any n w)
  have hc : (a < b ∧ cmp3 a b = -1) ∨ (b ≤ a ∧ b < a ∧ cmp3 a b = 1) ∨ (b ≤ a ∧ a ≤ b ∧ cmp3 a b = 0) := by unfold cmp3; split <;> (try split) <;> omega
  rcases hc with ⟨h, e⟩ | ⟨h, h2, e⟩ | ⟨h, h2, e⟩
  all_goals
    rw [e]; clear e
    go_enter Try.func69, Try.ntmps69
    go_wp2_with (go_at_call 68; with_reducible refine (HN.out _ _).mono ?_; rintro e w' ⟨rfl, rfl⟩)
    go_ret
    exact ⟨rfl, rfl⟩

/-- The sign of the turn from a over b to c. -/
def tn (a1 a2 b1 b2 c1 c2 : Int) : Int := cmp3 ((b1 - a1) * (c2 - a2)) ((b2 - a2) * (c1 - a1))
/-- A coordinate for which Square and Crosses are promised. -/
def Co (x : Int) : Prop := -20000 ≤ x ∧ x ≤ 20000
instance (x : Int) : Decidable (Co x) := by unfold Co; infer_instance
theorem prod_bd {x y : Int} (h1 : -40000 ≤ x) (h2 : x ≤ 40000) (h3 : -40000 ≤ y) (h4 : y ≤ 40000) : -1600000000 ≤ x * y ∧ x * y ≤ 1600000000 := by
  have a1 : 0 ≤ (40000 - x) * (40000 - y) := Int.mul_nonneg (by omega) (by omega)
  have a2 : 0 ≤ (40000 + x) * (40000 + y) := Int.mul_nonneg (by omega) (by omega)
  have a3 : 0 ≤ (40000 - x) * (40000 + y) := Int.mul_nonneg (by omega) (by omega)
  have a4 : 0 ≤ (40000 + x) * (40000 - y) := Int.mul_nonneg (by omega) (by omega)
  simp only [Int.sub_mul, Int.add_mul, Int.mul_sub, Int.mul_add] at a1 a2 a3 a4
  constructor <;> omega
theorem turn_any (a1 a2 b1 b2 c1 c2 : Int) (ha1 : Co a1) (ha2 : Co a2) (hb1 : Co b1) (hb2 : Co b2) (hc1 : Co c1) (hc2 : Co c2) (w : World) :
    Calls Try.prog 62 #[.agg #[.int .i64 a1, .int .i64 a2], .agg #[.int .i64 b1, .int .i64 b2], .agg #[.int .i64 c1, .int .i64 c2]] w fun e w' => e = .returned (.int .i64 (tn a1 a2 b1 b2 c1 c2)) ∧ Same w w' := by
  have HC := Lib.hid (fun a b w => compare_any a b w)
  obtain ⟨p1, p2⟩ := prod_bd (x := b1 - a1) (y := c2 - a2) (by unfold Co at *; omega) (by unfold Co at *; omega) (by unfold Co at *; omega) (by unfold Co at *; omega)
  obtain ⟨q1, q2⟩ := prod_bd (x := b2 - a2) (y := c1 - a1) (by unfold Co at *; omega) (by unfold Co at *; omega) (by unfold Co at *; omega) (by unfold Co at *; omega)
  unfold Co at *
  obtain ⟨x1, x2⟩ := ha1; obtain ⟨x3, x4⟩ := ha2; obtain ⟨x5, x6⟩ := hb1; obtain ⟨x7, x8⟩ := hb2; obtain ⟨x9, x10⟩ := hc1; obtain ⟨x11, x12⟩ := hc2
  go_enter Try.func62, Try.ntmps62
  go_wp2_with (go_at_call 69; with_reducible refine (HC.out _ _ _).mono ?_; rintro e w' ⟨rfl, rfl⟩)
  go_ret
  exact ⟨rfl, by repeat' (first | exact Same.refl _ | apply Same.alloc)⟩
end Go.Proofs.Ytcennbjegdlbhaa
