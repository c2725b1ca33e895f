/- What the laws of guard over clocks share: their helpers and boxes. -/
import Derived.Test.YtkffmflhonknpaaFrames
namespace Go.Proofs.Ytkffmflhonknpaa
open Go.RowKit

/-- A drift within a bound. -/
def wiB (c d : Int) : Bool := inB c (-d) d
theorem lwithin_any (o c d : Int) (d1 : 0 ≤ d) (d2 : d ≤ 100000) (w : World) : Calls Try.prog 28 #[.agg #[.int .i64 o, .int .i64 c], .int .i64 d] w fun e w' => e = .returned (.bool (wiB c d)) ∧ Same w w' := by
  cases h : wiB c d with
  | true =>
    obtain ⟨h1, h2⟩ := inB_yes h
    clear h
    go_enter Try.func28, Try.ntmps28
    go_wp2
    go_ret
    exact ⟨rfl, (Same.refl w).alloc _⟩
  | false =>
    have hh := inB_no h
    clear h
    by_cases a1 : c < -d
    · clear hh
      go_enter Try.func28, Try.ntmps28
      go_wp2
      go_ret
      exact ⟨rfl, (Same.refl w).alloc _⟩
    · have b1 : -d ≤ c := by omega
      have b2 : decide (c ≤ d) = false := by simp; omega
      clear hh a1
      go_enter Try.func28, Try.ntmps28
      go_wp2
      go_ret
      exact ⟨rfl, (Same.refl w).alloc _⟩
/-- The size of a number. -/
def szS (n : Int) : Int := max n (-n)
theorem lsize_any (n : Int) (h1 : -9000000000000 ≤ n) (h2 : n ≤ 9000000000000) (w : World) : Calls Try.prog 31 #[.int .i64 n] w fun e w' => e = .returned (.int .i64 (szS n)) ∧ w' = w := by
  have hmx : ∀ x y : Int, (if x < y then y else x) = max x y := fun x y => by omega
  have hs : max n (-n) = szS n := rfl
  go_enter Try.func31, Try.ntmps31
  go_wp2
  go_ret
  exact ⟨rfl, rfl⟩
/-- A law's clock and three numbers in their boxes. -/
def E1 (w : World) (o d x y z : Int) (w' : World) : Prop :=
  w'.cell? ⟨w.heap.size, 0, none⟩ = some (.int .i64 o) ∧ w'.cell? ⟨w.heap.size, 1, none⟩ = some (.int .i64 d) ∧ w'.cell? ⟨w.heap.size + 1, 0, none⟩ = some (.int .i64 x) ∧ w'.cell? ⟨w.heap.size + 1, 1, none⟩ = some (.int .i64 y) ∧ w'.cell? ⟨w.heap.size + 1, 2, none⟩ = some (.int .i64 z) ∧ Same w w'
theorem E1.keep {w w1 w2 : World} {o d x y z : Int} (h : E1 w o d x y z w1) (k : Same w1 w2) : E1 w o d x y z w2 := ⟨k.cell h.1, k.cell h.2.1, k.cell h.2.2.1, k.cell h.2.2.2.1, k.cell h.2.2.2.2.1, h.2.2.2.2.2.trans k⟩
theorem E1.new (w : World) (o d x y z : Int) : E1 w o d x y z ((w.alloc (.cells #[.int .i64 o, .int .i64 d] 31)).alloc (.cells #[.int .i64 x, .int .i64 y, .int .i64 z] 22)) :=
  ⟨by go_simp, by go_simp, by go_simp, by go_simp, by go_simp, ((Same.refl w).alloc _).alloc _⟩
/-- A law's two clocks and three numbers in their boxes. -/
def E2 (w : World) (o d o' d' x y z : Int) (w' : World) : Prop :=
  w'.cell? ⟨w.heap.size, 0, none⟩ = some (.int .i64 o) ∧ w'.cell? ⟨w.heap.size, 1, none⟩ = some (.int .i64 d) ∧ w'.cell? ⟨w.heap.size + 1, 0, none⟩ = some (.int .i64 o') ∧ w'.cell? ⟨w.heap.size + 1, 1, none⟩ = some (.int .i64 d') ∧
  w'.cell? ⟨w.heap.size + 1 + 1, 0, none⟩ = some (.int .i64 x) ∧ w'.cell? ⟨w.heap.size + 1 + 1, 1, none⟩ = some (.int .i64 y) ∧ w'.cell? ⟨w.heap.size + 1 + 1, 2, none⟩ = some (.int .i64 z) ∧ Same w w'
theorem E2.keep {w w1 w2 : World} {o d o' d' x y z : Int} (h : E2 w o d o' d' x y z w1) (k : Same w1 w2) : E2 w o d o' d' x y z w2 := by
  obtain ⟨h0, h1, h2, h3, h4, h5, h6, h7⟩ := h
  exact ⟨k.cell h0, k.cell h1, k.cell h2, k.cell h3, k.cell h4, k.cell h5, k.cell h6, h7.trans k⟩
theorem E2.new (w : World) (o d o' d' x y z : Int) : E2 w o d o' d' x y z (((w.alloc (.cells #[.int .i64 o, .int .i64 d] 31)).alloc (.cells #[.int .i64 o', .int .i64 d'] 31)).alloc (.cells #[.int .i64 x, .int .i64 y, .int .i64 z] 22)) :=
  ⟨by go_simp, by go_simp, by go_simp, by go_simp, by go_simp, by go_simp, by go_simp, (((Same.refl w).alloc _).alloc _).alloc _⟩
theorem ln_spec {n d : Int} (d2 : d ≤ 100000) : (n * 10000 + 1) * 1000000000 ≤ lnS n d * (1000000000 - d) := by
  have h : (n * 10000 + 1) * 1000000000 + (1000000000 - d) - 1 < (lnS n d + 1) * (1000000000 - d) := Int.lt_ediv_add_one_mul_self _ (by omega)
  rw [Int.add_mul (lnS n d), Int.one_mul] at h
  omega
end Go.Proofs.Ytkffmflhonknpaa
