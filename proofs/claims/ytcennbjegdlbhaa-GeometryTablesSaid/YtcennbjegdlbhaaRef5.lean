/- The reference of layer 5: squares, turns, crossings. -/
import Derived.Test.YtcennbjegdlbhaaGeoM
import Derived.Test.YtcennbjegdlbhaaCheck2
namespace Go.Proofs.Ytcennbjegdlbhaa
open Go.RowKit

theorem square2_any (a1 a2 b1 b2 : Int) (ha1 : Co a1) (ha2 : Co a2) (hb1 : Co b1) (hb2 : Co b2) (w : World) :
    Calls Try.prog 14 #[.agg #[.int .i64 a1, .int .i64 a2], .agg #[.int .i64 b1, .int .i64 b2]] w fun e w' => e = .returned (.int .i64 ((b1 - a1) * (b1 - a1) + (b2 - a2) * (b2 - a2))) ∧ Same w w' := by
  rw [show (b1 - a1) * (b1 - a1) + (b2 - a2) * (b2 - a2) = (a1 - b1) * (a1 - b1) + (a2 - b2) * (a2 - b2) by grind]
  obtain ⟨p1, p2⟩ := prod_bd (x := a1 - b1) (y := a1 - b1) (by unfold Co at *; omega) (by unfold Co at *; omega) (by unfold Co at *; omega) (by unfold Co at *; omega)
  obtain ⟨q1, q2⟩ := prod_bd (x := a2 - b2) (y := a2 - b2) (by unfold Co at *; omega) (by unfold Co at *; omega) (by unfold Co at *; omega) (by unfold Co at *; omega)
  unfold Co at *
  obtain ⟨x1, x2⟩ := ha1; obtain ⟨x3, x4⟩ := ha2; obtain ⟨x5, x6⟩ := hb1; obtain ⟨x7, x8⟩ := hb2
  go_enter Try.func14, Try.ntmps14
  go_wp2
  go_ret
  exact ⟨rfl, by repeat' (first | exact Same.refl _ | apply Same.alloc | apply Same.drew | apply Same.drewN)⟩
theorem turn2_any (a1 a2 b1 b2 c1 c2 : Int) (ha1 : Co a1) (ha2 : Co a2) (hb1 : Co b1) (hb2 : Co b2) (hc1 : Co c1) (hc2 : Co c2) (w : World) :
    Calls Try.prog 43 #[.agg #[.int .i64 a1, .int .i64 a2], .agg #[.int .i64 b1, .int .i64 b2], .agg #[.int .i64 c1, .int .i64 c2]] w fun e w' => e = .returned (.int .i64 (tn a1 a2 b1 b2 c1 c2)) ∧ Same w w' := by
  obtain ⟨p1, p2⟩ := prod_bd (x := b1 - a1) (y := c2 - a2) (by unfold Co at *; omega) (by unfold Co at *; omega) (by unfold Co at *; omega) (by unfold Co at *; omega)
  obtain ⟨q1, q2⟩ := prod_bd (x := b2 - a2) (y := c1 - a1) (by unfold Co at *; omega) (by unfold Co at *; omega) (by unfold Co at *; omega) (by unfold Co at *; omega)
  have hc : (0 < (b1 - a1) * (c2 - a2) - (b2 - a2) * (c1 - a1) ∧ tn a1 a2 b1 b2 c1 c2 = 1) ∨ ((b1 - a1) * (c2 - a2) - (b2 - a2) * (c1 - a1) ≤ 0 ∧ (b1 - a1) * (c2 - a2) - (b2 - a2) * (c1 - a1) < 0 ∧ tn a1 a2 b1 b2 c1 c2 = -1) ∨ ((b1 - a1) * (c2 - a2) - (b2 - a2) * (c1 - a1) ≤ 0 ∧ 0 ≤ (b1 - a1) * (c2 - a2) - (b2 - a2) * (c1 - a1) ∧ tn a1 a2 b1 b2 c1 c2 = 0) := by
    unfold tn cmp3; split <;> (try split) <;> omega
  unfold Co at *
  obtain ⟨x1, x2⟩ := ha1; obtain ⟨x3, x4⟩ := ha2; obtain ⟨x5, x6⟩ := hb1; obtain ⟨x7, x8⟩ := hb2; obtain ⟨x9, x10⟩ := hc1; obtain ⟨x11, x12⟩ := hc2
  rcases hc with ⟨h1, e⟩ | ⟨h1, h2, e⟩ | ⟨h1, h2, e⟩
  all_goals
    rw [e]; clear e
    go_enter Try.func43, Try.ntmps43
    go_wp2
    go_ret
    exact ⟨rfl, by repeat' (first | exact Same.refl _ | apply Same.alloc)⟩
def inB (a1 a2 b1 b2 c1 c2 : Int) : Bool := decide ((min a1 b1 ≤ c1 ∧ c1 ≤ max a1 b1) ∧ (min a2 b2 ≤ c2 ∧ c2 ≤ max a2 b2))
theorem within2_any (a1 a2 b1 b2 c1 c2 : Int) (w : World) :
    Calls Try.prog 44 #[.agg #[.int .i64 a1, .int .i64 a2], .agg #[.int .i64 b1, .int .i64 b2], .agg #[.int .i64 c1, .int .i64 c2]] w fun e w' => e = .returned (.bool (inB a1 a2 b1 b2 c1 c2)) ∧ Same w w' := by
  go_enter Try.func44, Try.ntmps44
  go_wp2
  all_goals go_ret
  all_goals exact ⟨ret_bool (by unfold inB; first | exact (decide_eq_false (by omega)).symm | exact (decide_eq_true (by omega)).symm | exact decide_eq_decide.2 (by omega)), by repeat' (first | exact Same.refl _ | apply Same.alloc)⟩
def crR (a1 a2 b1 b2 c1 c2 d1 d2 : Int) : Bool :=
  (decide (tn a1 a2 b1 b2 c1 c2 * tn a1 a2 b1 b2 d1 d2 < 0) && decide (tn c1 c2 d1 d2 a1 a2 * tn c1 c2 d1 d2 b1 b2 < 0)) || ((decide (tn a1 a2 b1 b2 c1 c2 = 0) && inB a1 a2 b1 b2 c1 c2) || ((decide (tn a1 a2 b1 b2 d1 d2 = 0) && inB a1 a2 b1 b2 d1 d2) || ((decide (tn c1 c2 d1 d2 a1 a2 = 0) && inB c1 c2 d1 d2 a1 a2) || (decide (tn c1 c2 d1 d2 b1 b2 = 0) && inB c1 c2 d1 d2 b1 b2))))
open GeoM in
theorem tn_cr (a1 a2 b1 b2 c1 c2 : Int) : (0 < cr a1 a2 b1 b2 c1 c2 ∧ tn a1 a2 b1 b2 c1 c2 = 1) ∨ (cr a1 a2 b1 b2 c1 c2 < 0 ∧ tn a1 a2 b1 b2 c1 c2 = -1) ∨ (cr a1 a2 b1 b2 c1 c2 = 0 ∧ tn a1 a2 b1 b2 c1 c2 = 0) := by
  unfold cr tn cmp3; split <;> (try split) <;> omega
open GeoM in
theorem same_iff {p q P Q : Int} (hp : (0 < P ∧ p = 1) ∨ (P < 0 ∧ p = -1) ∨ (P = 0 ∧ p = 0)) (hq : (0 < Q ∧ q = 1) ∨ (Q < 0 ∧ q = -1) ∨ (Q = 0 ∧ q = 0)) : sameB p q = true ↔ same P Q := by
  unfold sameB same; rw [decide_eq_true_iff]; omega
open GeoM in
theorem opp_iff {p q P Q : Int} (hp : (0 < P ∧ p = 1) ∨ (P < 0 ∧ p = -1) ∨ (P = 0 ∧ p = 0)) (hq : (0 < Q ∧ q = 1) ∨ (Q < 0 ∧ q = -1) ∨ (Q = 0 ∧ q = 0)) : p * q < 0 ↔ opp P Q := by
  unfold opp
  rcases hp with ⟨h, rfl⟩ | ⟨h, rfl⟩ | ⟨h, rfl⟩ <;> rcases hq with ⟨k, rfl⟩ | ⟨k, rfl⟩ | ⟨k, rfl⟩ <;> simp <;> omega
theorem zero_iff {p P : Int} (hp : (0 < P ∧ p = 1) ∨ (P < 0 ∧ p = -1) ∨ (P = 0 ∧ p = 0)) : p = 0 ↔ P = 0 := by omega
open GeoM in
theorem cr_eq (a1 a2 b1 b2 c1 c2 d1 d2 : Int) : crR a1 a2 b1 b2 c1 c2 d1 d2 = crB a1 a2 b1 b2 c1 c2 d1 d2 := by
  have t1 := tn_cr a1 a2 b1 b2 c1 c2
  have t2 := tn_cr a1 a2 b1 b2 d1 d2
  have t3 := tn_cr c1 c2 d1 d2 a1 a2
  have t4 := tn_cr c1 c2 d1 d2 b1 b2
  rw [Bool.eq_iff_iff]
  have hR : crR a1 a2 b1 b2 c1 c2 d1 d2 = true ↔ (opp (cr a1 a2 b1 b2 c1 c2) (cr a1 a2 b1 b2 d1 d2) ∧ opp (cr c1 c2 d1 d2 a1 a2) (cr c1 c2 d1 d2 b1 b2)) ∨ hit a1 a2 b1 b2 c1 c2 d1 d2 := by
    unfold crR hit inB bet
    simp only [Bool.or_eq_true, Bool.and_eq_true, decide_eq_true_eq]
    rw [opp_iff t1 t2, opp_iff t3 t4, zero_iff t1, zero_iff t2, zero_iff t3, zero_iff t4]
  have hB : crB a1 a2 b1 b2 c1 c2 d1 d2 = true ↔ meet a1 b1 c1 d1 ∧ meet a2 b2 c2 d2 ∧ ¬ same (cr a1 a2 b1 b2 c1 c2) (cr a1 a2 b1 b2 d1 d2) ∧ ¬ same (cr c1 c2 d1 d2 a1 a2) (cr c1 c2 d1 d2 b1 b2) := by
    unfold crB meetB meet
    simp only [Bool.and_eq_true, decide_eq_true_eq, Bool.not_eq_true']
    rw [← same_iff t1 t2, ← same_iff t3 t4]
    simp only [Bool.not_eq_true]
  rw [hR, hB]
  exact ⟨back, fun ⟨m1, m2, n1, n2⟩ => onto m1 m2 n1 n2⟩
end Go.Proofs.Ytcennbjegdlbhaa
