/- Frames: numbers, and the parts of the check by package frame. -/
import Derived.Test.YtilpbbpdchbdfaaRows
import Derived.Test.YtilpbbpdchbdfaaBWorld
import Derived.WalkKit
import Derived.WalkLawsBesides
import Derived.WalkSpells
import Derived.BigRegion
import Derived.BigQuiet
import Derived.Deep.QuietTactic
import Derived.Deep.RegionHeld3
import Derived.Outline
import Derived.Handy
import Derived.Lib.Hide
import Derived.IntWalk
namespace Go.Proofs.Ytilpbbpdchbdfaa
open Go.RowKit

/-- All blocks that were there are as they were. -/
structure Same (w w' : World) : Prop where
  os : w'.os = w.os
  tape : w'.tape = w.tape
  output : w'.output = w.output
  size : w.heap.size ≤ w'.heap.size
  block : ∀ k, k < w.heap.size → w'.heap[k]? = w.heap[k]?
theorem Same.refl (w : World) : Same w w := ⟨rfl, rfl, rfl, Nat.le_refl _, fun _ _ => rfl⟩
theorem Same.trans {a b c : World} (h : Same a b) (k : Same b c) : Same a c :=
  ⟨k.os.trans h.os, k.tape.trans h.tape, k.output.trans h.output, Nat.le_trans h.size k.size, fun i hi => (k.block i (Nat.lt_of_lt_of_le hi h.size)).trans (h.block i hi)⟩
theorem Same.drewN {a w : World} (h : Same a w) (n : Nat) : Same a (w.drewN n) := ⟨h.os, h.tape, h.output, h.size, h.block⟩
theorem Same.drew {a w : World} (h : Same a w) : Same a w.drew := ⟨h.os, h.tape, h.output, h.size, h.block⟩
theorem Same.ofDrewN {w w' : World} (h : ∃ n, w' = w.drewN n) : Same w w' := by obtain ⟨n, rfl⟩ := h; exact (Same.refl w).drewN n
theorem Same.alloc {a w : World} (h : Same a w) (o : Obj) : Same a (w.alloc o) :=
  ⟨h.os, h.tape, h.output, Nat.le_trans h.size (by simp), fun k hk => (Below.heap_alloc _ _ _ (Nat.lt_of_lt_of_le hk h.size)).trans (h.block k hk)⟩
theorem Same.setCell {a w : World} (h : Same a w) {p : Addr} (hp : a.heap.size ≤ p.block) (u : Value) : Same a (w.setCell p u) :=
  ⟨h.os, h.tape, h.output, Nat.le_trans h.size (by simp [World.setCell]), fun k hk => (Below.heap_setCell _ _ _ _ (by omega)).trans (h.block k hk)⟩
theorem Same.toBelow {w w' : World} (h : Same w w') : Below w.heap.size w w' := ⟨h.os, h.tape, h.output, h.size, fun k hk => h.block k hk⟩
theorem Same.ofBelow {w w' : World} (h : Below w.heap.size w w') : Same w w' := ⟨h.os, h.tape, h.output, h.size, fun k hk => h.block k hk⟩
theorem Same.cell {w w1 : World} (h : Same w w1) {p : Addr} {v : Value} (hc : w.cell? p = some v) : w1.cell? p = some v := by
  have hb := h.block p.block (World.block_lt_of_cell? w p hc)
  unfold World.cell? at hc ⊢
  rw [hb]; exact hc
theorem Same.grown {A B : World} (h : Same A B) : A.grownBy B none := ⟨h.os, h.tape, h.output, h.size, fun k hk _ => h.block k hk⟩
theorem ret_bool {a b : Bool} (h : a = b) : Ending.returned (.bool a) = .returned (.bool b) := by rw [h]
theorem ret_i64 {a b : Int} (h : a = b) : Ending.returned (.int .i64 a) = .returned (.int .i64 b) := by rw [h]
theorem ret2_i64 {a b c d : Int} (h : a = b) (k : c = d) : Ending.returned (.tuple #[.int .i64 a, .int .i64 c]) = .returned (.tuple #[.int .i64 b, .int .i64 d]) := by rw [h, k]

def inB (n l m : Int) : Bool := decide (l ≤ n ∧ n ≤ m)
theorem inB_yes {n l m : Int} (h : inB n l m = true) : l ≤ n ∧ n ≤ m := by simpa [inB] using h
theorem inB_no {n l m : Int} (h : inB n l m = false) : n < l ∨ m < n := by
  have : ¬ (l ≤ n ∧ n ≤ m) := by simpa [inB] using h
  omega
theorem within_any (n l m : Int) (w : World) : Calls Try.prog 39 #[.int .i64 n, .int .i64 l, .int .i64 m] w fun e w' => e = .returned (.bool (inB n l m)) ∧ w' = w := by
  unfold inB
  by_cases h1 : n < l
  · have e : decide (l ≤ n ∧ n ≤ m) = false := decide_eq_false (by omega)
    rw [e]; clear e
    go_enter Try.func39, Try.ntmps39
    go_wp2
    go_ret
    exact ⟨rfl, rfl⟩
  · have h2 : l ≤ n := by omega
    have e : decide (l ≤ n ∧ n ≤ m) = decide (n ≤ m) := by simp [h2]
    rw [e]; clear e h1
    go_enter Try.func39, Try.ntmps39
    go_wp2
    go_ret
    exact ⟨rfl, rfl⟩

theorem Same.keeps {w w' : World} (h : Same w w') : Bit.Keeps (fun _ => False) w w' := ⟨h.os, h.tape, h.output, h.size, fun k hk _ => h.block k hk⟩
theorem Same.ofKeeps {w w' : World} (h : Bit.Keeps (fun _ => False) w w') : Same w w' := ⟨h.os, h.tape, h.output, h.size, fun k hk => h.block k hk (fun x => x)⟩

structure Fr where
  (k s t l q fl n e sl r ep : Int)
  (d : ByteArray)
/-- A frame's cells. -/
abbrev frC (f : Fr) : Array Value := #[.int .i64 f.k, .int .i64 f.s, .int .i64 f.t, .int .i64 f.l, .int .i64 f.q, .int .i64 f.fl, .int .i64 f.n, .int .i64 f.e, .int .i64 f.sl, .int .i64 f.r, .int .i64 f.ep, .string f.d]
abbrev frV (f : Fr) : Value := .agg (frC f)
/-- There is a Target that is not the Source. -/
def oneB (s t : Int) : Bool := inB t 0 31 && t != s
def endsB (f : Fr) : Bool := inB f.s 0 31 && (if f.k = 3 then f.t == -1 else if f.k = 4 then (oneB f.s f.t || f.t == -1) else oneB f.s f.t)
theorem isNode_any (n : Int) (w : World) : Calls Try.prog 53 #[.int .i64 n] w fun e w' => e = .returned (.bool (inB n 0 31)) ∧ w' = w := by
  have HA := Lib.hid (fun w1 => within_any n 0 31 w1)
  generalize inB n 0 31 = b at *
  go_enter Try.func53, Try.ntmps53
  go_wp2_with (go_at_call 39; (with_reducible refine (HA.out _).mono ?_); rintro e w1 ⟨rfl, hw⟩; replace hw := hw.symm; subst hw)
  go_ret
  exact ⟨rfl, rfl⟩
theorem isDifference_any (n : Int) (w : World) : Calls Try.prog 52 #[.int .i64 n] w fun e w' => e = .returned (.bool (inB n (-32768) 32767)) ∧ w' = w := by
  have HA := Lib.hid (fun w1 => within_any n (-32768) 32767 w1)
  generalize inB n (-32768) 32767 = b at *
  go_enter Try.func52, Try.ntmps52
  go_wp2_with (go_at_call 39; (with_reducible refine (HA.out _).mono ?_); rintro e w1 ⟨rfl, hw⟩; replace hw := hw.symm; subst hw)
  go_ret
  exact ⟨rfl, rfl⟩
set_option maxRecDepth 100000 in
theorem hasEnds_no (f : Fr) (h1 : inB f.s 0 31 = false) (w : World) : Calls Try.prog 38 #[frV f] w fun e w' => e = .returned (.bool false) ∧ Same w w' := by
  obtain ⟨k, s, t, l, q, fl, n, e, sl, r, ep, d⟩ := f
  dsimp only at h1
  have hA := fun w1 => isNode_any s w1
  have HS := Lib.hid ((Same.refl w).alloc (.cells (frC ⟨k, s, t, l, q, fl, n, e, sl, r, ep, d⟩) 23))
  rw [h1] at hA
  have HA := Lib.hid hA; clear hA h1
  go_enter Try.func38, Try.ntmps38
  go_wp2_with (go_at_call 53; (with_reducible refine (HA.out _).mono ?_); rintro e w1 ⟨rfl, hw⟩; replace hw := hw.symm; subst hw)
  go_ret
  exact ⟨rfl, HS.out⟩
set_option maxRecDepth 100000 in
theorem hasEnds_3 (s t l q fl n e sl r ep : Int) (d : ByteArray) (h1 : inB s 0 31 = true) (b u v R : Bool) (hb : inB t 0 31 = b) (hu : (t == -1) = u) (hv : (t != s) = v) (hR : u = R) (w : World) : Calls Try.prog 38 #[frV ⟨3, s, t, l, q, fl, n, e, sl, r, ep, d⟩] w fun e w' => e = .returned (.bool R) ∧ Same w w' := by
  have hA := fun w1 => isNode_any s w1
  have hB := fun w1 => isNode_any t w1
  have HS := Lib.hid ((Same.refl w).alloc (.cells (frC ⟨3, s, t, l, q, fl, n, e, sl, r, ep, d⟩) 23))
  rw [h1] at hA
  rw [hb] at hB
  have HA := Lib.hid hA; have HB := Lib.hid hB; clear hA hB h1 hb
  cases b <;> cases u <;> cases v <;> cases R
  all_goals first
    | exact absurd hR (by decide)
    | (clear hR
       go_enter Try.func38, Try.ntmps38
       go_wp2_with (first
         | (go_at_call 53; (with_reducible refine (HA.out _).mono ?_); rintro e w1 ⟨rfl, hw⟩; replace hw := hw.symm; subst hw)
         | (go_at_call 53; (with_reducible refine (HB.out _).mono ?_); rintro e w1 ⟨rfl, hw⟩; replace hw := hw.symm; subst hw))
       go_ret
       exact ⟨rfl, HS.out⟩)
set_option maxRecDepth 100000 in
theorem hasEnds_4 (s t l q fl n e sl r ep : Int) (d : ByteArray) (h1 : inB s 0 31 = true) (b u v R : Bool) (hb : inB t 0 31 = b) (hu : (t == -1) = u) (hv : (t != s) = v) (hR : (b && v || u) = R) (w : World) : Calls Try.prog 38 #[frV ⟨4, s, t, l, q, fl, n, e, sl, r, ep, d⟩] w fun e w' => e = .returned (.bool R) ∧ Same w w' := by
  have hA := fun w1 => isNode_any s w1
  have hB := fun w1 => isNode_any t w1
  have HS := Lib.hid ((Same.refl w).alloc (.cells (frC ⟨4, s, t, l, q, fl, n, e, sl, r, ep, d⟩) 23))
  rw [h1] at hA
  rw [hb] at hB
  have HA := Lib.hid hA; have HB := Lib.hid hB; clear hA hB h1 hb
  cases b <;> cases u <;> cases v <;> cases R
  all_goals first
    | exact absurd hR (by decide)
    | (clear hR
       go_enter Try.func38, Try.ntmps38
       go_wp2_with (first
         | (go_at_call 53; (with_reducible refine (HA.out _).mono ?_); rintro e w1 ⟨rfl, hw⟩; replace hw := hw.symm; subst hw)
         | (go_at_call 53; (with_reducible refine (HB.out _).mono ?_); rintro e w1 ⟨rfl, hw⟩; replace hw := hw.symm; subst hw))
       go_ret
       exact ⟨rfl, HS.out⟩)
set_option maxRecDepth 100000 in
theorem hasEnds_9 (k s t l q fl n e sl r ep : Int) (d : ByteArray) (n3 : (k == 3) = false) (n4 : (k == 4) = false) (h1 : inB s 0 31 = true) (b u v R : Bool) (hb : inB t 0 31 = b) (hu : (t == -1) = u) (hv : (t != s) = v) (hR : (b && v) = R) (w : World) : Calls Try.prog 38 #[frV ⟨k, s, t, l, q, fl, n, e, sl, r, ep, d⟩] w fun e w' => e = .returned (.bool R) ∧ Same w w' := by
  have hA := fun w1 => isNode_any s w1
  have hB := fun w1 => isNode_any t w1
  have HS := Lib.hid ((Same.refl w).alloc (.cells (frC ⟨k, s, t, l, q, fl, n, e, sl, r, ep, d⟩) 23))
  rw [h1] at hA
  rw [hb] at hB
  have HA := Lib.hid hA; have HB := Lib.hid hB; clear hA hB h1 hb
  cases b <;> cases u <;> cases v <;> cases R
  all_goals first
    | exact absurd hR (by decide)
    | (clear hR
       go_enter Try.func38, Try.ntmps38
       go_wp2_with (first
         | (go_at_call 53; (with_reducible refine (HA.out _).mono ?_); rintro e w1 ⟨rfl, hw⟩; replace hw := hw.symm; subst hw)
         | (go_at_call 53; (with_reducible refine (HB.out _).mono ?_); rintro e w1 ⟨rfl, hw⟩; replace hw := hw.symm; subst hw))
       go_ret
       exact ⟨rfl, HS.out⟩)
theorem hasEnds_any (f : Fr) (w : World) : Calls Try.prog 38 #[frV f] w fun e w' => e = .returned (.bool (endsB f)) ∧ Same w w' := by
  cases h1 : inB f.s 0 31 with
  | false =>
    have e1 : endsB f = false := by unfold endsB; rw [h1]; rfl
    rw [e1]; exact hasEnds_no f h1 w
  | true =>
    obtain ⟨k, s, t, l, q, fl, n, e, sl, r, ep, d⟩ := f
    dsimp only at h1
    by_cases k3 : k = 3
    · subst k3
      exact hasEnds_3 s t l q fl n e sl r ep d h1 _ _ _ _ rfl rfl rfl (by unfold endsB; rw [h1, if_pos rfl, Bool.true_and]) w
    · by_cases k4 : k = 4
      · subst k4
        exact hasEnds_4 s t l q fl n e sl r ep d h1 _ _ _ _ rfl rfl rfl (by unfold endsB oneB; rw [h1, if_neg k3, if_pos rfl, Bool.true_and]) w
      · exact hasEnds_9 k s t l q fl n e sl r ep d (by simpa using k3) (by simpa using k4) h1 _ _ _ _ rfl rfl rfl (by unfold endsB oneB; rw [h1, if_neg k3, if_neg k4, Bool.true_and]) w
end Go.Proofs.Ytilpbbpdchbdfaa
