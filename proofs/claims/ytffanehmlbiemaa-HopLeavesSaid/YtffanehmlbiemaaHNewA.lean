/- Which version is newer; the next list follows. -/
import Derived.Test.YtffanehmlbiemaaHAll
namespace Go.Proofs.Ytffanehmlbiemaa
open Go.RowKit

theorem newB_eq {a b : Int} (ha : 0 ≤ a ∧ a ≤ 255) (hb : 0 ≤ b ∧ b ≤ 255) : newB a b = inB ((a - b) % 256) 1 127 := by
  unfold newB verB
  rw [show inB a 0 255 = true from decide_eq_true ha, show inB b 0 255 = true from decide_eq_true hb]; rfl
theorem newB_two {a b : Int} (ha : 0 ≤ a ∧ a ≤ 255) (hb : 0 ≤ b ∧ b ≤ 255) : (newB a b || newB b a) = (!decide (max (a - b) (b - a) = 0) && !decide (max (a - b) (b - a) = 128)) ∧ (newB a b && newB b a) = false := by
  rw [newB_eq ha hb, newB_eq hb ha]
  unfold inB
  have h1 : (a - b) % 256 = a - b ∨ (a - b) % 256 = a - b + 256 := by omega
  have h2 : (b - a) % 256 = b - a ∨ (b - a) % 256 = b - a + 256 := by omega
  constructor
  · have e : ((decide (1 ≤ (a - b) % 256 ∧ (a - b) % 256 ≤ 127) || decide (1 ≤ (b - a) % 256 ∧ (b - a) % 256 ≤ 127)) = true) ↔ ((!decide (max (a - b) (b - a) = 0) && !decide (max (a - b) (b - a) = 128)) = true) := by
      simp only [Bool.or_eq_true, Bool.and_eq_true, Bool.not_eq_true', decide_eq_true_eq, decide_eq_false_iff_not]
      omega
    exact Bool.eq_iff_iff.2 e
  · have : ¬ ((decide (1 ≤ (a - b) % 256 ∧ (a - b) % 256 ≤ 127) && decide (1 ≤ (b - a) % 256 ∧ (b - a) % 256 ≤ 127)) = true) := by
      simp only [Bool.and_eq_true, decide_eq_true_eq]
      omega
    simpa using this
theorem newB_none {a b : Int} (h : ¬ ((0 ≤ a ∧ a ≤ 255) ∧ (0 ≤ b ∧ b ≤ 255))) : newB a b = false := by
  unfold newB verB inB
  by_cases ha : 0 ≤ a ∧ a ≤ 255
  · have : ¬ (0 ≤ b ∧ b ≤ 255) := fun hb => h ⟨ha, hb⟩
    rw [show decide (0 ≤ b ∧ b ≤ 255) = false from decide_eq_false this]; simp
  · rw [show decide (0 ≤ a ∧ a ≤ 255) = false from decide_eq_false ha]; simp
theorem newB_next {v : Int} (hv : 0 ≤ v ∧ v ≤ 255) : newB ((v + 1) % 256) v = true ∧ newB v ((v + 1) % 256) = false := by
  have hx : 0 ≤ (v + 1) % 256 ∧ (v + 1) % 256 ≤ 255 := by omega
  rw [newB_eq hx hv, newB_eq hv hx]
  constructor
  · exact decide_eq_true (by omega)
  · exact decide_eq_false (by omega)
theorem next_cases (v f u : Int) (zs : List Int) (til : Int) : nextS v f u zs til zs = ((0, 0, 0, []), 1) ∨ (nextS v f u zs til zs = (((v + 1) % 256, u, til, zs), 0) ∧ hopB v f u zs = true ∧ hopB ((v + 1) % 256) u til zs = true) := by
  unfold nextS
  by_cases h : (hopB v f u zs && hopB ((v + 1) % 256) u til zs) = true
  · rw [if_pos h]
    rw [Bool.and_eq_true] at h
    exact .inr ⟨rfl, h.1, h.2⟩
  · rw [if_neg h]; exact .inl rfl
theorem allE_two {v f u til : Int} {zs : List Int} (h1 : hopB v f u zs = true) (h2 : hopB ((v + 1) % 256) u til zs = true) : allE [(v, f, u, zs), ((v + 1) % 256, u, til, zs)] = 0 := by
  show (if inB ((2 : Nat) : Int) 1 1024 = true then allK [(v, f, u, zs), ((v + 1) % 256, u, til, zs)] 2 else 1) = 0
  rw [if_pos (by decide)]
  refine allK_zero 2 fun j hj => ?_
  unfold stepE
  have hj' : j = 0 ∨ j = 1 := by omega
  rcases hj' with rfl | rfl
  · show (if hopE (v, f, u, zs) = true then _ else _) = 0
    rw [if_pos (show hopE (v, f, u, zs) = true from h1)]; rfl
  · show (if hopE ((v + 1) % 256, u, til, zs) = true then (if (1 : Nat) = 0 then 0 else folS (v, f, u, zs) ((v + 1) % 256, u, til, zs)) else 1) = 0
    rw [if_pos (show hopE ((v + 1) % 256, u, til, zs) = true from h2), if_neg (by decide)]
    unfold folS
    simp
end Go.Proofs.Ytffanehmlbiemaa
