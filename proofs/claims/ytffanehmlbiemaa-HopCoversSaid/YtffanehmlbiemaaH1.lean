/- Package hop and its reference: numbers. -/
import Derived.Test.YtffanehmlbiemaaRows
import Derived.WalkKit
import Derived.WalkLawsBesides
import Derived.WalkSpells
import Derived.BigRegion
import Derived.BigQuiet
import Derived.Deep.QuietTactic
import Derived.Deep.RegionHeld3
import Derived.Outline
import Derived.Handy
import Derived.Lib.Hide
import Derived.IntWalk
namespace Go.Proofs.Ytffanehmlbiemaa
open Go.RowKit

/-- All blocks that were there are as they were. -/
structure Same (w w' : World) : Prop where
  os : w'.os = w.os
  tape : w'.tape = w.tape
  output : w'.output = w.output
  size : w.heap.size ≤ w'.heap.size
  block : ∀ k, k < w.heap.size → w'.heap[k]? = w.heap[k]?
theorem Same.refl (w : World) : Same w w := ⟨rfl, rfl, rfl, Nat.le_refl _, fun _ _ => rfl⟩
theorem Same.trans {a b c : World} (h : Same a b) (k : Same b c) : Same a c :=
  ⟨k.os.trans h.os, k.tape.trans h.tape, k.output.trans h.output, Nat.le_trans h.size k.size, fun i hi => (k.block i (Nat.lt_of_lt_of_le hi h.size)).trans (h.block i hi)⟩
theorem Same.drewN {a w : World} (h : Same a w) (n : Nat) : Same a (w.drewN n) := ⟨h.os, h.tape, h.output, h.size, h.block⟩
theorem Same.drew {a w : World} (h : Same a w) : Same a w.drew := ⟨h.os, h.tape, h.output, h.size, h.block⟩
theorem Same.ofDrewN {w w' : World} (h : ∃ n, w' = w.drewN n) : Same w w' := by obtain ⟨n, rfl⟩ := h; exact (Same.refl w).drewN n
theorem Same.alloc {a w : World} (h : Same a w) (o : Obj) : Same a (w.alloc o) :=
  ⟨h.os, h.tape, h.output, Nat.le_trans h.size (by simp), fun k hk => (Below.heap_alloc _ _ _ (Nat.lt_of_lt_of_le hk h.size)).trans (h.block k hk)⟩
theorem Same.setCell {a w : World} (h : Same a w) {p : Addr} (hp : a.heap.size ≤ p.block) (u : Value) : Same a (w.setCell p u) :=
  ⟨h.os, h.tape, h.output, Nat.le_trans h.size (by simp [World.setCell]), fun k hk => (Below.heap_setCell _ _ _ _ (by omega)).trans (h.block k hk)⟩
theorem Same.toBelow {w w' : World} (h : Same w w') : Below w.heap.size w w' := ⟨h.os, h.tape, h.output, h.size, fun k hk => h.block k hk⟩
theorem Same.ofBelow {w w' : World} (h : Below w.heap.size w w') : Same w w' := ⟨h.os, h.tape, h.output, h.size, fun k hk => h.block k hk⟩
theorem Same.cell {w w1 : World} (h : Same w w1) {p : Addr} {v : Value} (hc : w.cell? p = some v) : w1.cell? p = some v := by
  have hb := h.block p.block (World.block_lt_of_cell? w p hc)
  unfold World.cell? at hc ⊢
  rw [hb]; exact hc
theorem Same.grown {A B : World} (h : Same A B) : A.grownBy B none := ⟨h.os, h.tape, h.output, h.size, fun k hk _ => h.block k hk⟩
theorem ret_bool {a b : Bool} (h : a = b) : Ending.returned (.bool a) = .returned (.bool b) := by rw [h]
theorem ret_i64 {a b : Int} (h : a = b) : Ending.returned (.int .i64 a) = .returned (.int .i64 b) := by rw [h]
theorem ret2_i64 {a b c d : Int} (h : a = b) (k : c = d) : Ending.returned (.tuple #[.int .i64 a, .int .i64 c]) = .returned (.tuple #[.int .i64 b, .int .i64 d]) := by rw [h, k]

def inB (n l m : Int) : Bool := decide (l ≤ n ∧ n ≤ m)
theorem inB_yes {n l m : Int} (h : inB n l m = true) : l ≤ n ∧ n ≤ m := by simpa [inB] using h
theorem inB_no {n l m : Int} (h : inB n l m = false) : n < l ∨ m < n := by
  have : ¬ (l ≤ n ∧ n ≤ m) := by simpa [inB] using h
  omega
theorem within_any (n l m : Int) (w : World) : Calls Try.prog 42 #[.int .i64 n, .int .i64 l, .int .i64 m] w fun e w' => e = .returned (.bool (inB n l m)) ∧ w' = w := by
  unfold inB
  by_cases h1 : n < l
  · have e : decide (l ≤ n ∧ n ≤ m) = false := decide_eq_false (by omega)
    rw [e]; clear e
    go_enter Try.func42, Try.ntmps42
    go_wp2
    go_ret
    exact ⟨rfl, rfl⟩
  · have h2 : l ≤ n := by omega
    have e : decide (l ≤ n ∧ n ≤ m) = decide (n ≤ m) := by simp [h2]
    rw [e]; clear e h1
    go_enter Try.func42, Try.ntmps42
    go_wp2
    go_ret
    exact ⟨rfl, rfl⟩
def chB (c : Int) : Bool := inB c 0 15
def verB (c : Int) : Bool := inB c 0 255
theorem isChannel_any (c : Int) (w : World) : Calls Try.prog 52 #[.int .i64 c] w fun e w' => e = .returned (.bool (chB c)) ∧ w' = w := by
  have H := Lib.hid (within_any c 0 15 w)
  unfold chB
  generalize inB c 0 15 = u at *
  go_enter Try.func52, Try.ntmps52
  go_wp2_with (go_at_call 42; (with_reducible refine H.out.mono ?_); rintro e w1 ⟨rfl, rfl⟩)
  go_ret
  exact ⟨rfl, rfl⟩
theorem isVersion_any (c : Int) (w : World) : Calls Try.prog 37 #[.int .i64 c] w fun e w' => e = .returned (.bool (verB c)) ∧ w' = w := by
  have H := Lib.hid (within_any c 0 255 w)
  unfold verB
  generalize inB c 0 255 = u at *
  go_enter Try.func37, Try.ntmps37
  go_wp2_with (go_at_call 42; (with_reducible refine H.out.mono ?_); rintro e w1 ⟨rfl, rfl⟩)
  go_ret
  exact ⟨rfl, rfl⟩
theorem channel2_any (c : Int) (w : World) : Calls Try.prog 46 #[.int .i64 c] w fun e w' => e = .returned (.bool (chB c)) ∧ w' = w := by
  unfold chB inB
  by_cases h1 : c < 0
  · have e : decide (0 ≤ c ∧ c ≤ 15) = false := decide_eq_false (by omega)
    rw [e]; clear e
    go_enter Try.func46, Try.ntmps46
    go_wp2
    go_ret
    exact ⟨rfl, rfl⟩
  · have h2 : 0 ≤ c := by omega
    have e : decide (0 ≤ c ∧ c ≤ 15) = decide (c < 16) := by simp [h2]; omega
    rw [e]; clear e h1
    go_enter Try.func46, Try.ntmps46
    go_wp2
    go_ret
    exact ⟨rfl, rfl⟩
/-- The version behind another one. -/
theorem nextVersion_any (v : Int) (h : 0 ≤ v ∧ v ≤ 255) (w : World) : Calls Try.prog 48 #[.int .i64 v] w fun e w' => e = .returned (.int .i64 ((v + 1) % 256)) ∧ w' = w := by
  obtain ⟨h1, h2⟩ := h
  go_enter Try.func48, Try.ntmps48
  go_wp2
  go_ret
  exact ⟨rfl, rfl⟩
def newB (a b : Int) : Bool := verB a && verB b && inB ((a - b) % 256) 1 127
theorem Newer_any (a b : Int) (w : World) : Calls Try.prog 34 #[.int .i64 a, .int .i64 b] w fun e w' => e = .returned (.bool (newB a b)) ∧ w' = w := by
  have hA := isVersion_any a w
  have hB := isVersion_any b w
  by_cases h1 : verB a = true
  · by_cases h2 : verB b = true
    · obtain ⟨a1, a2⟩ := inB_yes (show inB a 0 255 = true from h1)
      obtain ⟨b1, b2⟩ := inB_yes (show inB b 0 255 = true from h2)
      have e : newB a b = inB ((a - b) % 256) 1 127 := by unfold newB; rw [h1, h2]; rfl
      rw [e]; clear e
      rw [h1] at hA
      rw [h2] at hB
      clear h1 h2
      have HA := Lib.hid hA; clear hA
      have HB := Lib.hid hB; clear hB
      have HW := Lib.hid (within_any ((a - b) % 256) 1 127 w)
      generalize inB ((a - b) % 256) 1 127 = u at *
      go_enter Try.func34, Try.ntmps34
      go_wp2_with (first
        | (go_at_call 37; (with_reducible refine HA.out.mono ?_); rintro e w1 ⟨rfl, rfl⟩)
        | (go_at_call 37; (with_reducible refine HB.out.mono ?_); rintro e w1 ⟨rfl, rfl⟩)
        | (go_at_call 42; (with_reducible refine HW.out.mono ?_); rintro e w1 ⟨rfl, rfl⟩))
      go_ret
      exact ⟨rfl, rfl⟩
    · have h2' : verB b = false := by simpa using h2
      have e : newB a b = false := by unfold newB; rw [h1, h2']; rfl
      rw [e]; clear e
      rw [h1] at hA
      rw [h2'] at hB
      clear h1 h2 h2'
      have HA := Lib.hid hA; clear hA
      have HB := Lib.hid hB; clear hB
      go_enter Try.func34, Try.ntmps34
      go_wp2_with (first
        | (go_at_call 37; (with_reducible refine HA.out.mono ?_); rintro e w1 ⟨rfl, rfl⟩)
        | (go_at_call 37; (with_reducible refine HB.out.mono ?_); rintro e w1 ⟨rfl, rfl⟩))
      go_ret
      exact ⟨rfl, rfl⟩
  · have h1' : verB a = false := by simpa using h1
    have e : newB a b = false := by unfold newB; rw [h1']; rfl
    rw [e]; clear e
    rw [h1'] at hA
    clear h1 h1' hB
    have HA := Lib.hid hA; clear hA
    go_enter Try.func34, Try.ntmps34
    go_wp2_with (go_at_call 37; (with_reducible refine HA.out.mono ?_); rintro e w1 ⟨rfl, rfl⟩)
    go_ret
    exact ⟨rfl, rfl⟩
end Go.Proofs.Ytffanehmlbiemaa
