
/- The calls of package clock, and of the reference, that make no memory: checks, division, what a clock shows. -/
import Derived.Test.YtffcoeadpicohaaRows
import Derived.WalkKit
import Derived.WalkLawsBesides
import Derived.WalkSpells
import Derived.BigRegion
import Derived.BigQuiet
import Derived.Deep.QuietTactic
import Derived.Deep.RegionHeld3
import Derived.Outline
import Derived.Handy
import Derived.Lib.Hide
import Derived.Shelf.SlSorted.Search
namespace Go.Proofs.Ytffcoeadpicohaa
open Go.RowKit Go.Lib Go.Sort

/-- All blocks that were there are as they were. -/
structure Same (w w' : World) : Prop where
  os : w'.os = w.os
  tape : w'.tape = w.tape
  output : w'.output = w.output
  size : w.heap.size ≤ w'.heap.size
  block : ∀ k, k < w.heap.size → w'.heap[k]? = w.heap[k]?
theorem Same.refl (w : World) : Same w w := ⟨rfl, rfl, rfl, Nat.le_refl _, fun _ _ => rfl⟩
theorem Same.trans {a b c : World} (h : Same a b) (k : Same b c) : Same a c :=
  ⟨k.os.trans h.os, k.tape.trans h.tape, k.output.trans h.output, Nat.le_trans h.size k.size, fun i hi => (k.block i (Nat.lt_of_lt_of_le hi h.size)).trans (h.block i hi)⟩
theorem Same.drewN {a w : World} (h : Same a w) (n : Nat) : Same a (w.drewN n) := ⟨h.os, h.tape, h.output, h.size, h.block⟩
theorem Same.drew {a w : World} (h : Same a w) : Same a w.drew := ⟨h.os, h.tape, h.output, h.size, h.block⟩
theorem Same.ofDrewN {w w' : World} (h : ∃ n, w' = w.drewN n) : Same w w' := by obtain ⟨n, rfl⟩ := h; exact (Same.refl w).drewN n
theorem Same.alloc {a w : World} (h : Same a w) (o : Obj) : Same a (w.alloc o) :=
  ⟨h.os, h.tape, h.output, Nat.le_trans h.size (by simp), fun k hk => (Below.heap_alloc _ _ _ (Nat.lt_of_lt_of_le hk h.size)).trans (h.block k hk)⟩
theorem Same.setCell {a w : World} (h : Same a w) {p : Addr} (hp : a.heap.size ≤ p.block) (u : Value) : Same a (w.setCell p u) :=
  ⟨h.os, h.tape, h.output, Nat.le_trans h.size (by simp [World.setCell]), fun k hk => (Below.heap_setCell _ _ _ _ (by omega)).trans (h.block k hk)⟩
theorem Same.toBelow {w w' : World} (h : Same w w') : Below w.heap.size w w' := ⟨h.os, h.tape, h.output, h.size, fun k hk => h.block k hk⟩
theorem Same.ofBelow {w w' : World} (h : Below w.heap.size w w') : Same w w' := ⟨h.os, h.tape, h.output, h.size, fun k hk => h.block k hk⟩
theorem Same.cell {w w1 : World} (h : Same w w1) {p : Addr} {v : Value} (hc : w.cell? p = some v) : w1.cell? p = some v := by
  have hb := h.block p.block (World.block_lt_of_cell? w p hc)
  unfold World.cell? at hc ⊢
  rw [hb]; exact hc
/-- Some blocks have been laid behind, and something has been drawn. -/
def Grew (w w' : World) : Prop := ∃ q os, w' = grow (w.drewN q) os
theorem Grew.refl (w : World) : Grew w w := ⟨0, #[], by rw [grow_empty]; rfl⟩
theorem Grew.trans {a b c : World} (h : Grew a b) (k : Grew b c) : Grew a c := by
  obtain ⟨q, os, rfl⟩ := h
  obtain ⟨q', os', rfl⟩ := k
  exact ⟨q + q', os ++ os', by show grow (grow ((a.drewN q).drewN q') os) os' = _; rw [grow_grow, World.drewN_drewN]⟩
theorem Grew.alloc {a w : World} (h : Grew a w) (o : Obj) : Grew a (w.alloc o) := h.trans ⟨0, #[o], alloc_eq_grow w o⟩
theorem Grew.drewN {a w : World} (h : Grew a w) (n : Nat) : Grew a (w.drewN n) := h.trans ⟨n, #[], by rw [grow_empty]⟩
theorem Grew.drew {a w : World} (h : Grew a w) : Grew a w.drew := h.drewN 1
theorem Grew.toSame {w w' : World} (h : Grew w w') : Same w w' := by
  obtain ⟨q, os, rfl⟩ := h
  exact Same.ofBelow (below_grown_sl w.heap.size w q os (Nat.le_refl _))
theorem Grew.cell {w w1 : World} (h : Grew w w1) {p : Addr} {v : Value} (hc : w.cell? p = some v) : w1.cell? p = some v := h.toSame.cell hc
theorem ret_i64 {a b : Int} (h : a = b) : Ending.returned (.int .i64 a) = .returned (.int .i64 b) := by rw [h]
theorem ret2_i64 {a b c d : Int} (h : a = b) (k : c = d) : Ending.returned (.tuple #[.int .i64 a, .int .i64 c]) = .returned (.tuple #[.int .i64 b, .int .i64 d]) := by rw [h, k]

theorem within_yes (n l m : Int) (h1 : l ≤ n) (h2 : n ≤ m) (w : World) : Calls Try.prog 61 #[.int .i64 n, .int .i64 l, .int .i64 m] w fun e w' => e = .returned (.bool true) ∧ w' = w := by
  go_enter Try.func61, Try.ntmps61
  go_wp2
  go_ret
  exact ⟨rfl, rfl⟩
theorem within_no (n l m : Int) (h : n < l ∨ m < n) (w : World) : Calls Try.prog 61 #[.int .i64 n, .int .i64 l, .int .i64 m] w fun e w' => e = .returned (.bool false) ∧ w' = w := by
  by_cases h1 : n < l
  · clear h
    go_enter Try.func61, Try.ntmps61
    go_wp2
    go_ret
    exact ⟨rfl, rfl⟩
  · have h2 : m < n := by omega
    have h3 : l ≤ n := by omega
    have hd : decide (n ≤ m) = false := by simp; omega
    clear h h1
    go_enter Try.func61, Try.ntmps61
    go_wp2
    go_ret
    exact ⟨rfl, rfl⟩
/-- A number from least to most. -/
def inB (n l m : Int) : Bool := decide (l ≤ n ∧ n ≤ m)
theorem inB_yes {n l m : Int} (h : inB n l m = true) : l ≤ n ∧ n ≤ m := by simpa [inB] using h
theorem inB_no {n l m : Int} (h : inB n l m = false) : n < l ∨ m < n := by
  simp only [inB, decide_eq_false_iff_not] at h; omega
theorem within_any (n l m : Int) (w : World) : Calls Try.prog 61 #[.int .i64 n, .int .i64 l, .int .i64 m] w fun e w' => e = .returned (.bool (inB n l m)) ∧ w' = w := by
  cases h : inB n l m with
  | true => exact within_yes n l m (inB_yes h).1 (inB_yes h).2 w
  | false => exact within_no n l m (inB_no h) w
/-- A valid clock. -/
def okC (o d : Int) : Bool := inB o (-1099511627776) 1099511627776 && inB d (-100000) 100000
theorem okC_of {o d : Int} (h : okC o d = true) : (-1099511627776 ≤ o ∧ o ≤ 1099511627776) ∧ (-100000 ≤ d ∧ d ≤ 100000) := by
  unfold okC at h
  rw [Bool.and_eq_true] at h
  exact ⟨inB_yes h.1, inB_yes h.2⟩
def chk (o d : Int) : Int := if okC o d = true then 0 else 1
theorem check_any (o d : Int) (w : World) : Calls Try.prog 41 #[.agg #[.int .i64 o, .int .i64 d]] w fun e w' => e = .returned (.int .i64 (chk o d)) ∧ Grew w w' := by
  have H1 := Lib.hid (fun w => within_any o (-1099511627776) 1099511627776 w)
  have H2 := Lib.hid (fun w => within_any d (-100000) 100000 w)
  have hk : chk o d = if (inB o (-1099511627776) 1099511627776 && inB d (-100000) 100000) = true then 0 else 1 := rfl
  cases e1 : inB o (-1099511627776) 1099511627776 <;> cases e2 : inB d (-100000) 100000 <;> rw [e1] at H1 hk <;> rw [e2] at H2 hk <;> simp only [Bool.and_self, Bool.and_true, Bool.and_false, Bool.false_eq_true, if_true, if_false] at hk <;> rw [hk] <;> clear e1 e2 hk
  all_goals
    go_enter Try.func41, Try.ntmps41
    go_wp2_with (first | (go_at_call 61; ((with_reducible refine (H1.out _).mono ?_)); rintro e w' ⟨rfl, rfl⟩) | (go_at_call 61; ((with_reducible refine (H2.out _).mono ?_)); rintro e w' ⟨rfl, rfl⟩))
    go_ret
    exact ⟨rfl, (Grew.refl w).alloc _⟩
theorem check2_any (o d : Int) (w : World) : Calls Try.prog 44 #[.agg #[.int .i64 o, .int .i64 d]] w fun e w' => e = .returned (.int .i64 (chk o d)) ∧ Grew w w' := by
  cases h : okC o d with
  | true =>
    obtain ⟨⟨h1, h2⟩, h3, h4⟩ := okC_of h
    rw [show chk o d = 0 from if_pos h]
    clear h
    go_enter Try.func44, Try.ntmps44
    go_wp2
    go_ret
    exact ⟨rfl, (Grew.refl w).alloc _⟩
  | false =>
    rw [show chk o d = 1 from if_neg (by rw [h]; decide)]
    have hh : o < -1099511627776 ∨ 1099511627776 < o ∨ d < -100000 ∨ 100000 < d := by
      unfold okC at h
      rw [Bool.and_eq_false_iff] at h
      rcases h with h | h
      · have := inB_no h; omega
      · have := inB_no h; omega
    clear h
    by_cases a1 : o < -1099511627776
    · clear hh
      go_enter Try.func44, Try.ntmps44
      go_wp2
      go_ret
      exact ⟨rfl, (Grew.refl w).alloc _⟩
    · have b1 : -1099511627776 ≤ o := by omega
      clear a1
      by_cases a2 : 1099511627776 < o
      · clear hh
        go_enter Try.func44, Try.ntmps44
        go_wp2
        go_ret
        exact ⟨rfl, (Grew.refl w).alloc _⟩
      · have b2 : o ≤ 1099511627776 := by omega
        clear a2
        by_cases a3 : d < -100000
        · clear hh
          go_enter Try.func44, Try.ntmps44
          go_wp2
          go_ret
          exact ⟨rfl, (Grew.refl w).alloc _⟩
        · have b3 : -100000 ≤ d := by omega
          have b4 : 100000 < d := by omega
          clear hh a3
          go_enter Try.func44, Try.ntmps44
          go_wp2
          go_ret
          exact ⟨rfl, (Grew.refl w).alloc _⟩
/-- A time. -/
def timeB (t : Int) : Bool := inB t 0 1099511627776
theorem isTime_any (t : Int) (w : World) : Calls Try.prog 70 #[.int .i64 t] w fun e w' => e = .returned (.bool (timeB t)) ∧ w' = w := by
  have H1 := Lib.hid (fun w => within_any t 0 1099511627776 w)
  change Hid (∀ w, Calls Try.prog 61 #[.int .i64 t, .int .i64 0, .int .i64 1099511627776] w fun e w' => e = .returned (.bool (timeB t)) ∧ w' = w) at H1
  generalize timeB t = b at *
  go_enter Try.func70, Try.ntmps70
  go_wp2_with (go_at_call 61; (with_reducible refine (H1.out _).mono ?_); rintro e w' ⟨rfl, rfl⟩)
  go_ret
  exact ⟨rfl, rfl⟩
theorem time2_any (t : Int) (w : World) : Calls Try.prog 46 #[.int .i64 t] w fun e w' => e = .returned (.bool (timeB t)) ∧ w' = w := by
  cases h : timeB t with
  | true =>
    obtain ⟨h1, h2⟩ := inB_yes h
    clear h
    go_enter Try.func46, Try.ntmps46
    go_wp2
    go_ret
    exact ⟨rfl, rfl⟩
  | false =>
    have hh := inB_no h
    clear h
    by_cases a1 : t < 0
    · clear hh
      go_enter Try.func46, Try.ntmps46
      go_wp2
      go_ret
      exact ⟨rfl, rfl⟩
    · have b1 : 0 ≤ t := by omega
      have b2 : decide (t ≤ 1099511627776) = false := by simp; omega
      clear hh a1
      go_enter Try.func46, Try.ntmps46
      go_wp2
      go_ret
      exact ⟨rfl, rfl⟩
theorem tdiv_facts (n : Int) : n = 1000000000 * n.tdiv 1000000000 + n.tmod 1000000000 ∧ -1000000000 < n.tmod 1000000000 ∧ n.tmod 1000000000 < 1000000000 ∧ (0 ≤ n → 0 ≤ n.tmod 1000000000) ∧ (n < 0 → n.tmod 1000000000 ≤ 0) := by
  refine ⟨(Int.mul_tdiv_add_tmod n 1000000000).symm, ?_, ?_, ?_, ?_⟩
  · have := Int.lt_tmod_of_pos n (b := 1000000000) (by decide); omega
  · exact Int.tmod_lt_of_pos n (by decide)
  · intro h; exact Int.tmod_nonneg _ h
  · intro h
    rw [show n = -(-n) by omega, Int.neg_tmod]
    have := Int.tmod_nonneg (a := -n) 1000000000 (by omega)
    omega
theorem floorDiv_any (n : Int) (h1 : -109951162777600000 ≤ n) (h2 : n ≤ 109951162777600000) (w : World) : Calls Try.prog 71 #[.int .i64 n, .int .i64 1000000000] w fun e w' => e = .returned (.int .i64 (n / 1000000000)) ∧ w' = w := by
  obtain ⟨f1, f2, f3, f4, f5⟩ := tdiv_facts n
  obtain ⟨q, hq⟩ : ∃ q, n.tdiv 1000000000 = q := ⟨_, rfl⟩
  obtain ⟨r, hr⟩ : ∃ r, n.tmod 1000000000 = r := ⟨_, rfl⟩
  rw [hq, hr] at f1
  rw [hr] at f2 f3 f4 f5
  by_cases hneg : r < 0
  · have hfl : n / 1000000000 = q - 1 := by omega
    have b1 : -109951163 ≤ q := by omega
    have b2 : q ≤ 109951163 := by omega
    have hn : n < 0 := by
      by_cases a : 0 ≤ n
      · have := f4 a; omega
      · omega
    have HF := Lib.hid hfl
    rw [hfl]
    clear f1 f4 f5 hfl f2 f3
    go_enter Try.func71, Try.ntmps71
    go_wp2
    go_ret
    exact ⟨rfl, rfl⟩
  · have hfl : n / 1000000000 = q := by omega
    have b1 : -109951163 ≤ q := by omega
    have b2 : q ≤ 109951163 := by omega
    have hneg' : 0 ≤ r := by omega
    rw [hfl]
    clear f1 f4 f5 hfl f2 f3 hneg
    go_enter Try.func71, Try.ntmps71
    go_wp2
    go_ret
    exact ⟨rfl, rfl⟩
end Go.Proofs.Ytffcoeadpicohaa
