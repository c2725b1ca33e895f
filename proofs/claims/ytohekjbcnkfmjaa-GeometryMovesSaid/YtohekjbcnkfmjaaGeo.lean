/- Crossings as numbers: what they do not depend on, and ends that lie on the other segment. -/
import Derived.Test.YtohekjbcnkfmjaaCalls2
namespace Go.Proofs.Ytohekjbcnkfmjaa
open Go.RowKit

theorem cmp3_anti {x y x' y' : Int} (h : x - y = y' - x') : cmp3 x y = - cmp3 x' y' := by unfold cmp3; split <;> split <;> (try split) <;> (try split) <;> omega
theorem cmp3_same {x y x' y' : Int} (h : x - y = x' - y') : cmp3 x y = cmp3 x' y' := by unfold cmp3; split <;> split <;> (try split) <;> (try split) <;> omega
theorem tn_swap (a1 a2 b1 b2 c1 c2 : Int) : tn b1 b2 a1 a2 c1 c2 = - tn a1 a2 b1 b2 c1 c2 := by unfold tn; exact cmp3_anti (by grind)
theorem tn_axes (a1 a2 b1 b2 c1 c2 : Int) : tn a2 a1 b2 b1 c2 c1 = - tn a1 a2 b1 b2 c1 c2 := by unfold tn; exact cmp3_anti (by grind)
theorem tn_shift (a1 a2 b1 b2 c1 c2 s t : Int) : tn (a1 - s) (a2 + t) (b1 - s) (b2 + t) (c1 - s) (c2 + t) = tn a1 a2 b1 b2 c1 c2 := by unfold tn; exact cmp3_same (by grind)
theorem sameB_neg (p q : Int) : sameB (-p) (-q) = sameB p q := by unfold sameB; exact decide_eq_decide.2 (by omega)
theorem sameB_comm (p q : Int) : sameB p q = sameB q p := by unfold sameB; exact decide_eq_decide.2 (by omega)
theorem meetB_comm (a b c d : Int) : meetB a b c d = meetB c d a b := by unfold meetB; exact decide_eq_decide.2 (by omega)
theorem meetB_swap (a b c d : Int) : meetB b a c d = meetB a b c d := by unfold meetB; exact decide_eq_decide.2 (by omega)
theorem meetB_swap2 (a b c d : Int) : meetB a b d c = meetB a b c d := by unfold meetB; exact decide_eq_decide.2 (by omega)
theorem meetB_sub (a b c d s : Int) : meetB (a - s) (b - s) (c - s) (d - s) = meetB a b c d := by unfold meetB; exact decide_eq_decide.2 (by omega)
theorem meetB_add (a b c d s : Int) : meetB (a + s) (b + s) (c + s) (d + s) = meetB a b c d := by unfold meetB; exact decide_eq_decide.2 (by omega)
theorem crB_back (a1 a2 b1 b2 c1 c2 d1 d2 : Int) : crB b1 b2 a1 a2 c1 c2 d1 d2 = crB a1 a2 b1 b2 c1 c2 d1 d2 := by
  unfold crB
  rw [meetB_swap a1 b1, meetB_swap a2 b2, tn_swap a1 a2 b1 b2 c1 c2, tn_swap a1 a2 b1 b2 d1 d2, sameB_neg, sameB_comm (tn c1 c2 d1 d2 b1 b2)]
theorem crB_wall (a1 a2 b1 b2 c1 c2 d1 d2 : Int) : crB a1 a2 b1 b2 d1 d2 c1 c2 = crB a1 a2 b1 b2 c1 c2 d1 d2 := by
  unfold crB
  rw [meetB_swap2 a1 b1 c1 d1, meetB_swap2 a2 b2 c2 d2, tn_swap c1 c2 d1 d2 a1 a2, tn_swap c1 c2 d1 d2 b1 b2, sameB_neg, sameB_comm (tn a1 a2 b1 b2 d1 d2)]
theorem crB_other (a1 a2 b1 b2 c1 c2 d1 d2 : Int) : crB c1 c2 d1 d2 a1 a2 b1 b2 = crB a1 a2 b1 b2 c1 c2 d1 d2 := by
  unfold crB
  rw [meetB_comm c1 d1, meetB_comm c2 d2, Bool.and_comm (!sameB (tn c1 c2 d1 d2 a1 a2) (tn c1 c2 d1 d2 b1 b2))]
theorem crB_shift (a1 a2 b1 b2 c1 c2 d1 d2 s t : Int) : crB (a1 - s) (a2 + t) (b1 - s) (b2 + t) (c1 - s) (c2 + t) (d1 - s) (d2 + t) = crB a1 a2 b1 b2 c1 c2 d1 d2 := by
  unfold crB
  rw [meetB_sub, meetB_add, tn_shift, tn_shift, tn_shift, tn_shift]
theorem crB_axes (a1 a2 b1 b2 c1 c2 d1 d2 : Int) : crB a2 a1 b2 b1 c2 c1 d2 d1 = crB a1 a2 b1 b2 c1 c2 d1 d2 := by
  unfold crB
  rw [tn_axes a1 a2 b1 b2 c1 c2, tn_axes a1 a2 b1 b2 d1 d2, tn_axes c1 c2 d1 d2 a1 a2, tn_axes c1 c2 d1 d2 b1 b2, sameB_neg, sameB_neg]
  rw [← Bool.and_assoc, Bool.and_comm (meetB a2 b2 c2 d2), Bool.and_assoc]
/-- An end of the wall lies on the path, and the two ends of the path are not on one side of the wall's line. -/
theorem crB_on {p1 p2 q1 q2 e1 e2 s1 s2 : Int} (hx : min p1 q1 ≤ e1 ∧ e1 ≤ max p1 q1) (hy : min p2 q2 ≤ e2 ∧ e2 ≤ max p2 q2) (h0 : (q1 - p1) * (e2 - p2) = (q2 - p2) * (e1 - p1))
    (ho : ((s1 - e1) * (p2 - e2) ≤ (s2 - e2) * (p1 - e1) ∧ (s2 - e2) * (q1 - e1) ≤ (s1 - e1) * (q2 - e2)) ∨ ((s2 - e2) * (p1 - e1) ≤ (s1 - e1) * (p2 - e2) ∧ (s1 - e1) * (q2 - e2) ≤ (s2 - e2) * (q1 - e1))) :
    crB p1 p2 q1 q2 e1 e2 s1 s2 = true := by
  unfold crB
  have h1 : meetB p1 q1 e1 s1 = true := by unfold meetB; exact decide_eq_true (by omega)
  have h2 : meetB p2 q2 e2 s2 = true := by unfold meetB; exact decide_eq_true (by omega)
  have h3 : tn p1 p2 q1 q2 e1 e2 = 0 := by unfold tn cmp3; rw [if_neg (by omega), if_neg (by omega)]
  have h4 : sameB 0 (tn p1 p2 q1 q2 s1 s2) = false := by unfold sameB; exact decide_eq_false (by omega)
  have h5 : sameB (tn e1 e2 s1 s2 p1 p2) (tn e1 e2 s1 s2 q1 q2) = false := by
    unfold sameB tn cmp3
    apply decide_eq_false
    split <;> split <;> (try split) <;> (try split) <;> omega
  rw [h1, h2, h3, h4, h5]; rfl
theorem crB_first (a1 a2 b1 b2 c1 c2 : Int) : crB a1 a2 b1 b2 a1 a2 c1 c2 = true := by
  refine crB_on (by omega) (by omega) (by simp) ?_
  simp only [Int.sub_self, Int.mul_zero]
  omega
theorem crB_second (a1 a2 b1 b2 c1 c2 : Int) : crB a1 a2 b1 b2 c1 c2 b1 b2 = true := by
  rw [crB_wall, ← crB_back]; exact crB_first b1 b2 a1 a2 c1 c2
theorem crB_middle (a1 a2 b1 b2 c1 c2 : Int) : crB (2 * a1) (2 * a2) (2 * b1) (2 * b2) (a1 + b1) (a2 + b2) c1 c2 = true := by
  refine crB_on (by omega) (by omega) (by grind) ?_
  have e1 : (c1 - (a1 + b1)) * (2 * b2 - (a2 + b2)) = - ((c1 - (a1 + b1)) * (2 * a2 - (a2 + b2))) := by grind
  have e2 : (c2 - (a2 + b2)) * (2 * b1 - (a1 + b1)) = - ((c2 - (a2 + b2)) * (2 * a1 - (a1 + b1))) := by grind
  rw [e1, e2]
  omega
theorem crB_apart {a1 a2 b1 b2 c1 c2 d1 d2 : Int} (h : max a1 b1 < min c1 d1 ∨ max c1 d1 < min a1 b1 ∨ max a2 b2 < min c2 d2 ∨ max c2 d2 < min a2 b2) : crB a1 a2 b1 b2 c1 c2 d1 d2 = false := by
  unfold crB
  rcases h with h | h | h | h
  · rw [show meetB a1 b1 c1 d1 = false by unfold meetB; exact decide_eq_false (by omega)]; rfl
  · rw [show meetB a1 b1 c1 d1 = false by unfold meetB; exact decide_eq_false (by omega)]; rfl
  · rw [show meetB a2 b2 c2 d2 = false by unfold meetB; exact decide_eq_false (by omega)]; simp
  · rw [show meetB a2 b2 c2 d2 = false by unfold meetB; exact decide_eq_false (by omega)]; simp
end Go.Proofs.Ytohekjbcnkfmjaa
