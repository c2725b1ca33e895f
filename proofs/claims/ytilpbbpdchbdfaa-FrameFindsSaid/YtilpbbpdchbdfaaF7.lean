/- Frames: the check by the reference, for every frame. -/
import Derived.Test.YtilpbbpdchbdfaaF6a
import Derived.Test.YtilpbbpdchbdfaaF6b
import Derived.Test.YtilpbbpdchbdfaaF6c
import Derived.Test.YtilpbbpdchbdfaaF6d
namespace Go.Proofs.Ytilpbbpdchbdfaa
open Go.RowKit

theorem inB_y {n m : Int} (h : 0 ≤ n ∧ n ≤ m) : inB n 0 m = true := by unfold inB; simpa using h
theorem inB_n {n m : Int} (h : ¬ (0 ≤ n ∧ n ≤ m)) : inB n 0 m = false := by unfold inB; simpa using h
theorem isE_y {d : ByteArray} (h : d.size = 0) : d.toList.isEmpty = true := by rw [List.isEmpty_iff]; exact (toList_nil d).2 h
theorem isE_n {d : ByteArray} (h : ¬ d.size = 0) : d.toList.isEmpty = false := by
  rw [← Bool.not_eq_true, List.isEmpty_iff]; exact fun x => h ((toList_nil d).1 x)
theorem check2_1 (s t l q fl n e sl r ep : Int) (d : ByteArray) (w : World) : Calls Try.prog 19 #[frV ⟨1, s, t, l, q, fl, n, e, sl, r, ep, d⟩] w fun E w' => E = .returned (.int .i64 (chk ⟨1, s, t, l, q, fl, n, e, sl, r, ep, d⟩)) ∧ Same w w' := by
  by_cases g1 : 0 ≤ s ∧ s ≤ 31
  case neg => rw [chk_no (by unfold Ok; dsimp only; omega)]; exact c2_1_1 s t l q fl n e sl r ep d (inB_n g1)  w
  by_cases g2 : 0 ≤ l ∧ l ≤ 255
  case neg => rw [chk_no (by unfold Ok; dsimp only; omega)]; exact c2_1_2 s t l q fl n e sl r ep d (inB_y g1) (inB_n g2)  w
  by_cases g3 : 0 ≤ q ∧ q ≤ 255
  case neg => rw [chk_no (by unfold Ok; dsimp only; omega)]; exact c2_1_3 s t l q fl n e sl r ep d (inB_y g1) (inB_y g2) (inB_n g3)  w
  by_cases g4 : t < -1
  case pos => rw [chk_no (by unfold Ok; dsimp only; omega)]; exact c2_1_4 s t l q fl n e sl r ep d (inB_y g1) (inB_y g2) (inB_y g3) (decide_eq_true g4) w
  by_cases g5 : 31 < t
  case pos => rw [chk_no (by unfold Ok; dsimp only; omega)]; exact c2_1_5 s t l q fl n e sl r ep d (inB_y g1) (inB_y g2) (inB_y g3) (decide_eq_false g4) (decide_eq_true g5) w
  by_cases g6 : t = s
  case pos => rw [chk_no (by unfold Ok; dsimp only; omega)]; exact c2_1_6 s t l q fl n e sl r ep d (inB_y g1) (inB_y g2) (inB_y g3) (decide_eq_false g4) (decide_eq_false g5) (by simpa using g6) w
  by_cases g7 : t = -1
  case pos => rw [chk_no (by unfold Ok; dsimp only; omega)]; exact c2_1_7 s t l q fl n e sl r ep d (inB_y g1) (inB_y g2) (inB_y g3) (decide_eq_false g4) (decide_eq_false g5) (by simpa using g6) (by simpa using g7) w
  by_cases g8 : e = 0
  case neg => rw [chk_no (by unfold Ok; dsimp only; omega)]; exact c2_1_8 s t l q fl n e sl r ep d (inB_y g1) (inB_y g2) (inB_y g3) (decide_eq_false g4) (decide_eq_false g5) (by simpa using g6) (by simpa using g7) (by simpa using g8) w
  subst g8
  by_cases g9 : sl = 0
  case neg => rw [chk_no (by unfold Ok; dsimp only; omega)]; exact c2_1_9 s t l q fl n sl r ep d (inB_y g1) (inB_y g2) (inB_y g3) (decide_eq_false g4) (decide_eq_false g5) (by simpa using g6) (by simpa using g7) (by simpa using g9) w
  subst g9
  by_cases g10 : r = 0
  case neg => rw [chk_no (by unfold Ok; dsimp only; omega)]; exact c2_1_10 s t l q fl n r ep d (inB_y g1) (inB_y g2) (inB_y g3) (decide_eq_false g4) (decide_eq_false g5) (by simpa using g6) (by simpa using g7) (by simpa using g10) w
  subst g10
  by_cases g11 : ep = 0
  case neg => rw [chk_no (by unfold Ok; dsimp only; omega)]; exact c2_1_11 s t l q fl n ep d (inB_y g1) (inB_y g2) (inB_y g3) (decide_eq_false g4) (decide_eq_false g5) (by simpa using g6) (by simpa using g7) (by simpa using g11) w
  subst g11
  by_cases g12 : 0 ≤ fl ∧ fl ≤ 255
  case neg => rw [chk_no (by unfold Ok; dsimp only; omega)]; exact c2_1_12 s t l q fl n d (inB_y g1) (inB_y g2) (inB_y g3) (inB_n g12) (decide_eq_false g4) (decide_eq_false g5) (by simpa using g6) (by simpa using g7) w
  by_cases g13 : 0 ≤ n ∧ n ≤ 65535
  case neg => rw [chk_no (by unfold Ok; dsimp only; omega)]; exact c2_1_13 s t l q fl n d (inB_y g1) (inB_y g2) (inB_y g3) (inB_y g12) (inB_n g13) (decide_eq_false g4) (decide_eq_false g5) (by simpa using g6) (by simpa using g7) w
  rw [chk_yes (by unfold Ok; dsimp only; omega)]; exact c2_1_14 s t l q fl n d (inB_y g1) (inB_y g2) (inB_y g3) (inB_y g12) (inB_y g13) (decide_eq_false g4) (decide_eq_false g5) (by simpa using g6) (by simpa using g7) w
theorem check2_2 (s t l q fl n e sl r ep : Int) (d : ByteArray) (w : World) : Calls Try.prog 19 #[frV ⟨2, s, t, l, q, fl, n, e, sl, r, ep, d⟩] w fun E w' => E = .returned (.int .i64 (chk ⟨2, s, t, l, q, fl, n, e, sl, r, ep, d⟩)) ∧ Same w w' := by
  by_cases g1 : 0 ≤ s ∧ s ≤ 31
  case neg => rw [chk_no (by unfold Ok; dsimp only; omega)]; exact c2_2_1 s t l q fl n e sl r ep d (inB_n g1)  w
  by_cases g2 : 0 ≤ l ∧ l ≤ 255
  case neg => rw [chk_no (by unfold Ok; dsimp only; omega)]; exact c2_2_2 s t l q fl n e sl r ep d (inB_y g1) (inB_n g2)  w
  by_cases g3 : 0 ≤ q ∧ q ≤ 255
  case neg => rw [chk_no (by unfold Ok; dsimp only; omega)]; exact c2_2_3 s t l q fl n e sl r ep d (inB_y g1) (inB_y g2) (inB_n g3)  w
  by_cases g4 : t < -1
  case pos => rw [chk_no (by unfold Ok; dsimp only; omega)]; exact c2_2_4 s t l q fl n e sl r ep d (inB_y g1) (inB_y g2) (inB_y g3) (decide_eq_true g4) w
  by_cases g5 : 31 < t
  case pos => rw [chk_no (by unfold Ok; dsimp only; omega)]; exact c2_2_5 s t l q fl n e sl r ep d (inB_y g1) (inB_y g2) (inB_y g3) (decide_eq_false g4) (decide_eq_true g5) w
  by_cases g6 : t = s
  case pos => rw [chk_no (by unfold Ok; dsimp only; omega)]; exact c2_2_6 s t l q fl n e sl r ep d (inB_y g1) (inB_y g2) (inB_y g3) (decide_eq_false g4) (decide_eq_false g5) (by simpa using g6) w
  by_cases g7 : t = -1
  case pos => rw [chk_no (by unfold Ok; dsimp only; omega)]; exact c2_2_7 s t l q fl n e sl r ep d (inB_y g1) (inB_y g2) (inB_y g3) (decide_eq_false g4) (decide_eq_false g5) (by simpa using g6) (by simpa using g7) w
  by_cases g8 : fl = 0
  case neg => rw [chk_no (by unfold Ok; dsimp only; omega)]; exact c2_2_8 s t l q fl n e sl r ep d (inB_y g1) (inB_y g2) (inB_y g3) (decide_eq_false g4) (decide_eq_false g5) (by simpa using g6) (by simpa using g7) (by simpa using g8) w
  subst g8
  by_cases g9 : n = 0
  case neg => rw [chk_no (by unfold Ok; dsimp only; omega)]; exact c2_2_9 s t l q n e sl r ep d (inB_y g1) (inB_y g2) (inB_y g3) (decide_eq_false g4) (decide_eq_false g5) (by simpa using g6) (by simpa using g7) (by simpa using g9) w
  subst g9
  by_cases g10 : sl = 0
  case neg => rw [chk_no (by unfold Ok; dsimp only; omega)]; exact c2_2_10 s t l q e sl r ep d (inB_y g1) (inB_y g2) (inB_y g3) (decide_eq_false g4) (decide_eq_false g5) (by simpa using g6) (by simpa using g7) (by simpa using g10) w
  subst g10
  by_cases g11 : r = 0
  case neg => rw [chk_no (by unfold Ok; dsimp only; omega)]; exact c2_2_11 s t l q e r ep d (inB_y g1) (inB_y g2) (inB_y g3) (decide_eq_false g4) (decide_eq_false g5) (by simpa using g6) (by simpa using g7) (by simpa using g11) w
  subst g11
  by_cases g12 : ep = 0
  case neg => rw [chk_no (by unfold Ok; dsimp only; omega)]; exact c2_2_12 s t l q e ep d (inB_y g1) (inB_y g2) (inB_y g3) (decide_eq_false g4) (decide_eq_false g5) (by simpa using g6) (by simpa using g7) (by simpa using g12) w
  subst g12
  by_cases g13 : ¬ d.size = 0
  case pos => rw [chk_no (by unfold Ok; dsimp only; omega)]; exact c2_2_13 s t l q e d (inB_y g1) (inB_y g2) (inB_y g3) (decide_eq_false g4) (decide_eq_false g5) (by simpa using g6) (by simpa using g7) (isE_n g13) w
  by_cases g14 : e < -32768
  case pos => rw [chk_no (by unfold Ok; dsimp only; omega)]; exact c2_2_14 s t l q e d (inB_y g1) (inB_y g2) (inB_y g3) (decide_eq_false g4) (decide_eq_false g5) (by simpa using g6) (by simpa using g7) (isE_y (by omega)) (decide_eq_true g14) w
  by_cases g15 : 32767 < e
  case pos => rw [chk_no (by unfold Ok; dsimp only; omega)]; exact c2_2_15 s t l q e d (inB_y g1) (inB_y g2) (inB_y g3) (decide_eq_false g4) (decide_eq_false g5) (by simpa using g6) (by simpa using g7) (isE_y (by omega)) (decide_eq_false g14) (decide_eq_true g15) w
  rw [chk_yes (by unfold Ok; dsimp only; omega)]; exact c2_2_16 s t l q e d (inB_y g1) (inB_y g2) (inB_y g3) (decide_eq_false g4) (decide_eq_false g5) (by simpa using g6) (by simpa using g7) (isE_y (by omega)) (decide_eq_false g14) (decide_eq_false g15) w
theorem check2_3 (s t l q fl n e sl r ep : Int) (d : ByteArray) (w : World) : Calls Try.prog 19 #[frV ⟨3, s, t, l, q, fl, n, e, sl, r, ep, d⟩] w fun E w' => E = .returned (.int .i64 (chk ⟨3, s, t, l, q, fl, n, e, sl, r, ep, d⟩)) ∧ Same w w' := by
  by_cases g1 : 0 ≤ s ∧ s ≤ 31
  case neg => rw [chk_no (by unfold Ok; dsimp only; omega)]; exact c2_3_1 s t l q fl n e sl r ep d (inB_n g1)  w
  by_cases g2 : 0 ≤ l ∧ l ≤ 255
  case neg => rw [chk_no (by unfold Ok; dsimp only; omega)]; exact c2_3_2 s t l q fl n e sl r ep d (inB_y g1) (inB_n g2)  w
  by_cases g3 : 0 ≤ q ∧ q ≤ 255
  case neg => rw [chk_no (by unfold Ok; dsimp only; omega)]; exact c2_3_3 s t l q fl n e sl r ep d (inB_y g1) (inB_y g2) (inB_n g3)  w
  by_cases g4 : t = -1
  case neg => rw [chk_no (by unfold Ok; dsimp only; omega)]; exact c2_3_4 s t l q fl n e sl r ep d (inB_y g1) (inB_y g2) (inB_y g3) (by simpa using g4) w
  subst g4
  by_cases g5 : fl = 0
  case neg => rw [chk_no (by unfold Ok; dsimp only; omega)]; exact c2_3_5 s l q fl n e sl r ep d (inB_y g1) (inB_y g2) (inB_y g3) (by simp; omega) (by simpa using g5) w
  subst g5
  by_cases g6 : n = 0
  case neg => rw [chk_no (by unfold Ok; dsimp only; omega)]; exact c2_3_6 s l q n e sl r ep d (inB_y g1) (inB_y g2) (inB_y g3) (by simp; omega) (by simpa using g6) w
  subst g6
  by_cases g7 : e = 0
  case neg => rw [chk_no (by unfold Ok; dsimp only; omega)]; exact c2_3_7 s l q e sl r ep d (inB_y g1) (inB_y g2) (inB_y g3) (by simp; omega) (by simpa using g7) w
  subst g7
  by_cases g8 : 0 ≤ sl ∧ sl ≤ 109951162
  case neg => rw [chk_no (by unfold Ok; dsimp only; omega)]; exact c2_3_8 s l q sl r ep d (inB_y g1) (inB_y g2) (inB_y g3) (inB_n g8) (by simp; omega) w
  by_cases g9 : 0 ≤ r ∧ r ≤ 65535
  case neg => rw [chk_no (by unfold Ok; dsimp only; omega)]; exact c2_3_9 s l q sl r ep d (inB_y g1) (inB_y g2) (inB_y g3) (inB_y g8) (inB_n g9) (by simp; omega) w
  by_cases g10 : 0 ≤ ep ∧ ep ≤ 65535
  case neg => rw [chk_no (by unfold Ok; dsimp only; omega)]; exact c2_3_10 s l q sl r ep d (inB_y g1) (inB_y g2) (inB_y g3) (inB_y g8) (inB_y g9) (inB_n g10) (by simp; omega) w
  rw [chk_yes (by unfold Ok; dsimp only; omega)]; exact c2_3_11 s l q sl r ep d (inB_y g1) (inB_y g2) (inB_y g3) (inB_y g8) (inB_y g9) (inB_y g10) (by simp; omega) w
theorem check2_4 (s t l q fl n e sl r ep : Int) (d : ByteArray) (w : World) : Calls Try.prog 19 #[frV ⟨4, s, t, l, q, fl, n, e, sl, r, ep, d⟩] w fun E w' => E = .returned (.int .i64 (chk ⟨4, s, t, l, q, fl, n, e, sl, r, ep, d⟩)) ∧ Same w w' := by
  by_cases g1 : 0 ≤ s ∧ s ≤ 31
  case neg => rw [chk_no (by unfold Ok; dsimp only; omega)]; exact c2_4_1 s t l q fl n e sl r ep d (inB_n g1)  w
  by_cases g2 : 0 ≤ l ∧ l ≤ 255
  case neg => rw [chk_no (by unfold Ok; dsimp only; omega)]; exact c2_4_2 s t l q fl n e sl r ep d (inB_y g1) (inB_n g2)  w
  by_cases g3 : 0 ≤ q ∧ q ≤ 255
  case neg => rw [chk_no (by unfold Ok; dsimp only; omega)]; exact c2_4_3 s t l q fl n e sl r ep d (inB_y g1) (inB_y g2) (inB_n g3)  w
  by_cases g4 : t < -1
  case pos => rw [chk_no (by unfold Ok; dsimp only; omega)]; exact c2_4_4 s t l q fl n e sl r ep d (inB_y g1) (inB_y g2) (inB_y g3) (decide_eq_true g4) w
  by_cases g5 : 31 < t
  case pos => rw [chk_no (by unfold Ok; dsimp only; omega)]; exact c2_4_5 s t l q fl n e sl r ep d (inB_y g1) (inB_y g2) (inB_y g3) (decide_eq_false g4) (decide_eq_true g5) w
  by_cases g6 : t = s
  case pos => rw [chk_no (by unfold Ok; dsimp only; omega)]; exact c2_4_6 s t l q fl n e sl r ep d (inB_y g1) (inB_y g2) (inB_y g3) (decide_eq_false g4) (decide_eq_false g5) (by simpa using g6) w
  by_cases g7 : fl = 0
  case neg => rw [chk_no (by unfold Ok; dsimp only; omega)]; exact c2_4_7 s t l q fl n e sl r ep d (inB_y g1) (inB_y g2) (inB_y g3) (decide_eq_false g4) (decide_eq_false g5) (by simpa using g6) (by simpa using g7) w
  subst g7
  by_cases g8 : n = 0
  case neg => rw [chk_no (by unfold Ok; dsimp only; omega)]; exact c2_4_8 s t l q n e sl r ep d (inB_y g1) (inB_y g2) (inB_y g3) (decide_eq_false g4) (decide_eq_false g5) (by simpa using g6) (by simpa using g8) w
  subst g8
  by_cases g9 : e = 0
  case neg => rw [chk_no (by unfold Ok; dsimp only; omega)]; exact c2_4_9 s t l q e sl r ep d (inB_y g1) (inB_y g2) (inB_y g3) (decide_eq_false g4) (decide_eq_false g5) (by simpa using g6) (by simpa using g9) w
  subst g9
  by_cases g10 : sl = 0
  case neg => rw [chk_no (by unfold Ok; dsimp only; omega)]; exact c2_4_10 s t l q sl r ep d (inB_y g1) (inB_y g2) (inB_y g3) (decide_eq_false g4) (decide_eq_false g5) (by simpa using g6) (by simpa using g10) w
  subst g10
  by_cases g11 : r = 0
  case neg => rw [chk_no (by unfold Ok; dsimp only; omega)]; exact c2_4_11 s t l q r ep d (inB_y g1) (inB_y g2) (inB_y g3) (decide_eq_false g4) (decide_eq_false g5) (by simpa using g6) (by simpa using g11) w
  subst g11
  by_cases g12 : ep = 0
  case neg => rw [chk_no (by unfold Ok; dsimp only; omega)]; exact c2_4_12 s t l q ep d (inB_y g1) (inB_y g2) (inB_y g3) (decide_eq_false g4) (decide_eq_false g5) (by simpa using g6) (by simpa using g12) w
  subst g12
  rw [chk_yes (by unfold Ok; dsimp only; omega)]; exact c2_4_13 s t l q d (inB_y g1) (inB_y g2) (inB_y g3) (decide_eq_false g4) (decide_eq_false g5) (by simpa using g6) w
theorem check2_any (f : Fr) (w : World) : Calls Try.prog 19 #[frV f] w fun e w' => e = .returned (.int .i64 (chk f)) ∧ Same w w' := by
  obtain ⟨k, s, t, l, q, fl, n, e, sl, r, ep, d⟩ := f
  by_cases k1 : k = 1
  case pos => subst k1; exact check2_1 s t l q fl n e sl r ep d w
  by_cases k2 : k = 2
  case pos => subst k2; exact check2_2 s t l q fl n e sl r ep d w
  by_cases k3 : k = 3
  case pos => subst k3; exact check2_3 s t l q fl n e sl r ep d w
  by_cases k4 : k = 4
  case pos => subst k4; exact check2_4 s t l q fl n e sl r ep d w
  rw [chk_no (by unfold Ok; dsimp only; omega)]
  exact c2_k_1 k s t l q fl n e sl r ep d (by simpa using k1) (by simpa using k2) (by simpa using k3) (by simpa using k4) w
end Go.Proofs.Ytilpbbpdchbdfaa
