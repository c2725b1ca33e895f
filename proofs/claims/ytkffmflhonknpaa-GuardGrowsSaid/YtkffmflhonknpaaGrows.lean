/- GuardGrows: for all clocks, times and drift bounds the law returns true: if two clocks with drifts within the bound differ by at most 1 at some time, they differ by at most 1 + the growth a time later. No condition on the input. -/
import Derived.Test.YtkffmflhonknpaaGLaw
namespace Go.Proofs.Ytkffmflhonknpaa
open Go.RowKit

namespace guardGrows
/-- The boxes of the law: two clocks and three numbers. -/
def Bh (w : World) (o d o' d' x y z : Int) (w' : World) : Prop :=
  w'.heap[w.heap.size]? = some (.cells #[.int .i64 o, .int .i64 d] 31 (0, 0)) ∧ w'.heap[w.heap.size + 1]? = some (.cells #[.int .i64 o', .int .i64 d'] 31 (0, 0)) ∧ w'.heap[w.heap.size + 1 + 1]? = some (.cells #[.int .i64 x, .int .i64 y, .int .i64 z] 22 (0, 0)) ∧ Same w w'
theorem heap_of {w w1 : World} (h : Same w w1) {k : Nat} {o : Obj} (e : w.heap[k]? = some o) : w1.heap[k]? = some o := by
  rw [h.block k (by have := (Array.getElem?_eq_some_iff.1 e).1; exact this)]; exact e
theorem Bh.keep {w w1 w2 : World} {o d o' d' x y z : Int} (h : Bh w o d o' d' x y z w1) (k : Same w1 w2) : Bh w o d o' d' x y z w2 := ⟨heap_of k h.1, heap_of k h.2.1, heap_of k h.2.2.1, h.2.2.2.trans k⟩
theorem Bh.new (w : World) (o d o' d' x y z : Int) : Bh w o d o' d' x y z (((w.alloc (.cells #[.int .i64 o, .int .i64 d] 31)).alloc (.cells #[.int .i64 o', .int .i64 d'] 31)).alloc (.cells #[.int .i64 x, .int .i64 y, .int .i64 z] 22)) := by
  refine ⟨?_, ?_, ?_, (((Same.refl w).alloc _).alloc _).alloc _⟩
  · rw [Below.heap_alloc _ _ _ (by simp; omega), Below.heap_alloc _ _ _ (by simp)]
    exact heap_alloc_new w _
  · rw [Below.heap_alloc _ _ _ (by simp)]
    have := heap_alloc_new (w.alloc (.cells #[.int .i64 o, .int .i64 d] 31)) (.cells #[.int .i64 o', .int .i64 d'] 31)
    simpa using this
  · have := heap_alloc_new ((w.alloc (.cells #[.int .i64 o, .int .i64 d] 31)).alloc (.cells #[.int .i64 o', .int .i64 d'] 31)) (.cells #[.int .i64 x, .int .i64 y, .int .i64 z] 22)
    simpa using this
theorem Bh.cells {w w1 : World} {o d o' d' x y z : Int} (h : Bh w o d o' d' x y z w1) :
    w1.cell? ⟨w.heap.size, 0, none⟩ = some (.int .i64 o) ∧ w1.cell? ⟨w.heap.size, 1, none⟩ = some (.int .i64 d) ∧ w1.cell? ⟨w.heap.size + 1, 0, none⟩ = some (.int .i64 o') ∧ w1.cell? ⟨w.heap.size + 1, 1, none⟩ = some (.int .i64 d') ∧
    w1.cell? ⟨w.heap.size + 1 + 1, 0, none⟩ = some (.int .i64 x) ∧ w1.cell? ⟨w.heap.size + 1 + 1, 1, none⟩ = some (.int .i64 y) ∧ w1.cell? ⟨w.heap.size + 1 + 1, 2, none⟩ = some (.int .i64 z) ∧
    w1.frozen? ⟨w.heap.size + 1, 0, none⟩ = false ∧ w1.frozen? ⟨w.heap.size + 1, 1, none⟩ = false := by
  obtain ⟨h1, h2, h3, _⟩ := h
  refine ⟨?_, ?_, ?_, ?_, ?_, ?_, ?_, ?_, ?_⟩
  all_goals first
    | (unfold World.cell?; rw [h1]; rfl)
    | (unfold World.cell?; rw [h2]; rfl)
    | (unfold World.cell?; rw [h3]; rfl)
    | (unfold World.frozen?; rw [h2]; rfl)
theorem Bh.set {w w1 : World} {o d o' d' x y z : Int} (h : Bh w o d o' d' x y z w1) (p q : Int) : Bh w o d p q x y z ((w1.setCell ⟨w.heap.size + 1, 0, none⟩ (.int .i64 p)).setCell ⟨w.heap.size + 1, 1, none⟩ (.int .i64 q)) := by
  obtain ⟨h1, h2, h3, h4⟩ := h
  have g2 : (w1.setCell ⟨w.heap.size + 1, 0, none⟩ (.int .i64 p)).heap[w.heap.size + 1]? = some (.cells #[.int .i64 p, .int .i64 d'] 31 (0, 0)) := heap_setCell_same _ _ 0 _ _ _ h2
  refine ⟨?_, heap_setCell_same _ _ 1 _ _ _ g2, ?_, (h4.setCell (Nat.le_succ _) _).setCell (Nat.le_succ _) _⟩
  · rw [Below.heap_setCell _ _ _ _ (by simp), Below.heap_setCell _ _ _ _ (by simp)]; exact h1
  · rw [Below.heap_setCell _ _ _ _ (by simp), Below.heap_setCell _ _ _ _ (by simp)]; exact h3
theorem early (o d o' d' t k c G e : Int) (hD : (e != 0) = true ∨ (e = 0 ∧ (t < 0 ∨ (0 ≤ t ∧ 0 ≤ k ∧ k ≤ 1099511627776 ∧ 1099511627776 - k < t)))) (w : World)
    (HL : ∀ w, Calls Try.prog 12 #[.int .i64 k, .int .i64 c] w fun r w' => r = .returned (.tuple #[.int .i64 G, .int .i64 e]) ∧ w' = w) :
    Calls Try.prog 5 #[.agg #[.int .i64 o, .int .i64 d], .agg #[.int .i64 o', .int .i64 d'], .agg #[.int .i64 t, .int .i64 k, .int .i64 c]] w fun r w' => r = .returned (.bool true) ∧ Same w w' := by
  have HAW := Lib.hid (fun w => gawake_any w)
  have H1 := Lib.hid HL; clear HL
  rcases hD with hD | ⟨rfl, hD | ⟨hD, hD1, hD2, hD3⟩⟩
  all_goals
    go_enter Try.func5, Try.ntmps5
    go_wp2_with (go_at_call 11; (with_reducible refine (HAW.out _).mono ?_); rintro r w1 ⟨rfl, hw⟩; have HB := Lib.hid ((E2.new w o d o' d' t k c).keep hw); clear hw; obtain ⟨k0, k1, k2, k3, k4, k5, k6, k7⟩ := HB.out)
    go_quiet (fail)
    go_wp2_with (go_at_call 12; (with_reducible refine (H1.out _).mono ?_); rintro r w2 ⟨rfl, rfl⟩)
    go_ret
    exact ⟨rfl, (HB.out.2.2.2.2.2.2.2).drewN _⟩
set_option maxHeartbeats 1600000 in
theorem full (o d o' d' t k c G N f a1 a2 a3 M s q : Int) (A B : Bool) (h1 : 0 ≤ t) (h2 : t ≤ 1099511627776 - k) (h3 : 0 ≤ k) (h4 : k ≤ 1099511627776) (hN1 : -9000000000000 ≤ N) (hN2 : N ≤ 9000000000000) (G1 : 0 ≤ G) (G2 : G ≤ 300000000) (q1 : 0 ≤ q) (q2 : q ≤ 2) (hq : t.tmod 3 = q) (_hq' : t % 3 = q)
    (hh : A = false ∨ (A = true ∧ B = false) ∨ (A = true ∧ B = true ∧ (f != 0) = true) ∨ (A = true ∧ B = true ∧ f = 0 ∧ (a3 != 0) = true) ∨ (A = true ∧ B = true ∧ f = 0 ∧ a3 = 0 ∧ s ≤ 1 + G)) (w : World)
    (HL : ∀ w, Calls Try.prog 12 #[.int .i64 k, .int .i64 c] w fun r w' => r = .returned (.tuple #[.int .i64 G, .int .i64 0]) ∧ w' = w)
    (HA : ∀ w, Calls Try.prog 28 #[.agg #[.int .i64 o, .int .i64 d], .int .i64 c] w fun e w' => e = .returned (.bool A) ∧ Same w w')
    (HB : ∀ w, Calls Try.prog 28 #[.agg #[.int .i64 o', .int .i64 d'], .int .i64 c] w fun e w' => e = .returned (.bool B) ∧ Same w w')
    (HN : ∀ w, Calls Try.prog 29 #[.agg #[.int .i64 o, .int .i64 d], .agg #[.int .i64 o', .int .i64 d'], .int .i64 t] w fun r w' => r = .returned (.tuple #[.int .i64 N, .int .i64 f]) ∧ Grew w w')
    (HJ : ∀ w, Calls Try.prog 30 #[.agg #[.int .i64 o', .int .i64 d'], .int .i64 (q - 1 - N)] w fun r w' => r = .returned (.tuple #[.agg #[.int .i64 a1, .int .i64 a2], .int .i64 a3]) ∧ Same w w')
    (HM : f = 0 → a3 = 0 → ∀ w, Calls Try.prog 29 #[.agg #[.int .i64 o, .int .i64 d], .agg #[.int .i64 a1, .int .i64 a2], .int .i64 (t + k)] w fun r w' => r = .returned (.tuple #[.int .i64 M, .int .i64 0]) ∧ Grew w w')
    (HZ : f = 0 → a3 = 0 → ∀ w, Calls Try.prog 31 #[.int .i64 M] w fun e w' => e = .returned (.int .i64 s) ∧ w' = w) :
    Calls Try.prog 5 #[.agg #[.int .i64 o, .int .i64 d], .agg #[.int .i64 o', .int .i64 d'], .agg #[.int .i64 t, .int .i64 k, .int .i64 c]] w fun r w' => r = .returned (.bool true) ∧ Same w w' := by
  have HAW := Lib.hid (fun w => gawake_any w)
  have H1 := Lib.hid HL; clear HL
  have H2 := Lib.hid HA; clear HA
  have H3 := Lib.hid HB; clear HB
  have H4 := Lib.hid HN; clear HN
  have H5 := Lib.hid HJ; clear HJ
  rcases hh with rfl | ⟨rfl, rfl⟩ | ⟨rfl, rfl, hf⟩ | ⟨rfl, rfl, rfl, ha⟩ | ⟨rfl, rfl, rfl, rfl, hs⟩
  · clear HM HZ H3 H4 H5
    go_enter Try.func5, Try.ntmps5
    go_wp2_with (go_at_call 11; (with_reducible refine (HAW.out _).mono ?_); rintro r w1 ⟨rfl, hw⟩; have HB := Lib.hid ((Bh.new w o d o' d' t k c).keep hw); clear hw; obtain ⟨k0, k1, k2, k3, k4, k5, k6, k7, k8⟩ := HB.out.cells)
    go_quiet (fail)
    go_wp2_with (first
      | (go_at_call 12; (with_reducible refine (H1.out _).mono ?_); rintro r w2 ⟨rfl, rfl⟩)
      | (go_at_call 28; (with_reducible refine (H2.out _).mono ?_); rintro r w3 ⟨rfl, hw⟩; have HC := Lib.hid (HB.out.keep (((Same.refl _).drewN _).trans hw)); clear hw HB k0 k1 k2 k3 k4 k5 k6 k7 k8))
    go_ret
    exact ⟨rfl, HC.out.2.2.2⟩
  · clear HM HZ H4 H5
    go_enter Try.func5, Try.ntmps5
    go_wp2_with (go_at_call 11; (with_reducible refine (HAW.out _).mono ?_); rintro r w1 ⟨rfl, hw⟩; have HB := Lib.hid ((Bh.new w o d o' d' t k c).keep hw); clear hw; obtain ⟨k0, k1, k2, k3, k4, k5, k6, k7, k8⟩ := HB.out.cells)
    go_quiet (fail)
    go_wp2_with (first
      | (go_at_call 12; (with_reducible refine (H1.out _).mono ?_); rintro r w2 ⟨rfl, rfl⟩)
      | (go_at_call 28; (with_reducible refine (H2.out _).mono ?_); rintro r w3 ⟨rfl, hw⟩; have HC := Lib.hid (HB.out.keep (((Same.refl _).drewN _).trans hw)); clear hw HB k0 k1 k2 k3 k4 k5 k6 k7 k8; obtain ⟨k0, k1, k2, k3, k4, k5, k6, k7, k8⟩ := HC.out.cells)
      | (go_at_call 28; (with_reducible refine (H3.out _).mono ?_); rintro r w4 ⟨rfl, hw⟩; have HD := Lib.hid (HC.out.keep hw); clear hw HC k0 k1 k2 k3 k4 k5 k6 k7 k8))
    go_ret
    exact ⟨rfl, HD.out.2.2.2⟩
  · clear HM HZ H5
    go_enter Try.func5, Try.ntmps5
    go_wp2_with (go_at_call 11; (with_reducible refine (HAW.out _).mono ?_); rintro r w1 ⟨rfl, hw⟩; have HB := Lib.hid ((Bh.new w o d o' d' t k c).keep hw); clear hw; obtain ⟨k0, k1, k2, k3, k4, k5, k6, k7, k8⟩ := HB.out.cells)
    go_quiet (fail)
    go_wp2_with (first
      | (go_at_call 12; (with_reducible refine (H1.out _).mono ?_); rintro r w2 ⟨rfl, rfl⟩)
      | (go_at_call 28; (with_reducible refine (H2.out _).mono ?_); rintro r w3 ⟨rfl, hw⟩; have HC := Lib.hid (HB.out.keep (((Same.refl _).drewN _).trans hw)); clear hw HB k0 k1 k2 k3 k4 k5 k6 k7 k8; obtain ⟨k0, k1, k2, k3, k4, k5, k6, k7, k8⟩ := HC.out.cells)
      | (go_at_call 28; (with_reducible refine (H3.out _).mono ?_); rintro r w4 ⟨rfl, hw⟩; have HD := Lib.hid (HC.out.keep hw); clear hw HC k0 k1 k2 k3 k4 k5 k6 k7 k8; obtain ⟨k0, k1, k2, k3, k4, k5, k6, k7, k8⟩ := HD.out.cells)
      | (go_at_call 29; (with_reducible refine (H4.out _).mono ?_); rintro r w5 ⟨rfl, hw⟩; have HE := Lib.hid (HD.out.keep hw.toSame); clear hw HD k0 k1 k2 k3 k4 k5 k6 k7 k8))
    go_ret
    exact ⟨rfl, HE.out.2.2.2⟩
  · clear HM HZ
    go_enter Try.func5, Try.ntmps5
    go_wp2_with (go_at_call 11; (with_reducible refine (HAW.out _).mono ?_); rintro r w1 ⟨rfl, hw⟩; have HB := Lib.hid ((Bh.new w o d o' d' t k c).keep hw); clear hw; obtain ⟨k0, k1, k2, k3, k4, k5, k6, k7, k8⟩ := HB.out.cells)
    go_quiet (fail)
    go_wp2_with (first
      | (go_at_call 12; (with_reducible refine (H1.out _).mono ?_); rintro r w2 ⟨rfl, rfl⟩)
      | (go_at_call 28; (with_reducible refine (H2.out _).mono ?_); rintro r w3 ⟨rfl, hw⟩; have HC := Lib.hid (HB.out.keep (((Same.refl _).drewN _).trans hw)); clear hw HB k0 k1 k2 k3 k4 k5 k6 k7 k8; obtain ⟨k0, k1, k2, k3, k4, k5, k6, k7, k8⟩ := HC.out.cells)
      | (go_at_call 28; (with_reducible refine (H3.out _).mono ?_); rintro r w4 ⟨rfl, hw⟩; have HD := Lib.hid (HC.out.keep hw); clear hw HC k0 k1 k2 k3 k4 k5 k6 k7 k8; obtain ⟨k0, k1, k2, k3, k4, k5, k6, k7, k8⟩ := HD.out.cells)
      | (go_at_call 29; (with_reducible refine (H4.out _).mono ?_); rintro r w5 ⟨rfl, hw⟩; have HE := Lib.hid (HD.out.keep hw.toSame); clear hw HD k0 k1 k2 k3 k4 k5 k6 k7 k8; obtain ⟨k0, k1, k2, k3, k4, k5, k6, k7, k8⟩ := HE.out.cells)
      | (go_at_call 30; (with_reducible refine (H5.out _).mono ?_); rintro r w6 ⟨rfl, hw⟩; have HF := Lib.hid (HE.out.keep hw); clear hw HE k0 k1 k2 k3 k4 k5 k6 k7 k8; obtain ⟨k0, k1, k2, k3, k4, k5, k6, k7, k8⟩ := HF.out.cells))
    go_ret
    exact ⟨rfl, (HF.out.set a1 a2).2.2.2⟩
  · have H6 := Lib.hid (HM rfl rfl); clear HM
    have H7 := Lib.hid (HZ rfl rfl); clear HZ
    go_enter Try.func5, Try.ntmps5
    go_wp2_with (go_at_call 11; (with_reducible refine (HAW.out _).mono ?_); rintro r w1 ⟨rfl, hw⟩; have HB := Lib.hid ((Bh.new w o d o' d' t k c).keep hw); clear hw; obtain ⟨k0, k1, k2, k3, k4, k5, k6, k7, k8⟩ := HB.out.cells)
    go_quiet (fail)
    go_wp2_with (first
      | (go_at_call 12; (with_reducible refine (H1.out _).mono ?_); rintro r w2 ⟨rfl, rfl⟩)
      | (go_at_call 28; (with_reducible refine (H2.out _).mono ?_); rintro r w3 ⟨rfl, hw⟩; have HC := Lib.hid (HB.out.keep (((Same.refl _).drewN _).trans hw)); clear hw HB k0 k1 k2 k3 k4 k5 k6 k7 k8; obtain ⟨k0, k1, k2, k3, k4, k5, k6, k7, k8⟩ := HC.out.cells)
      | (go_at_call 28; (with_reducible refine (H3.out _).mono ?_); rintro r w4 ⟨rfl, hw⟩; have HD := Lib.hid (HC.out.keep hw); clear hw HC k0 k1 k2 k3 k4 k5 k6 k7 k8; obtain ⟨k0, k1, k2, k3, k4, k5, k6, k7, k8⟩ := HD.out.cells)
      | (go_at_call 29; (with_reducible refine (H4.out _).mono ?_); rintro r w5 ⟨rfl, hw⟩; have HE := Lib.hid (HD.out.keep hw.toSame); clear hw HD k0 k1 k2 k3 k4 k5 k6 k7 k8; obtain ⟨k0, k1, k2, k3, k4, k5, k6, k7, k8⟩ := HE.out.cells)
      | (go_at_call 30; (with_reducible refine (H5.out _).mono ?_); rintro r w6 ⟨rfl, hw⟩; have HF := Lib.hid (HE.out.keep hw); clear hw HE k0 k1 k2 k3 k4 k5 k6 k7 k8; obtain ⟨k0, k1, k2, k3, k4, k5, k6, k7, k8⟩ := HF.out.cells)
      | (go_at_call 29; (with_reducible refine (H6.out _).mono ?_); rintro r w7 ⟨rfl, hw⟩; have HG := Lib.hid ((HF.out.set a1 a2).keep hw.toSame); clear hw HF k0 k1 k2 k3 k4 k5 k6 k7 k8)
      | (go_at_call 31; (with_reducible refine (H7.out _).mono ?_); rintro r w8 ⟨rfl, rfl⟩))
    go_ret
    exact ⟨rfl, HG.out.2.2.2⟩
theorem grows {o d o' d' t k c : Int} (h3 : 0 ≤ k) (ha : wiB d c = true) (hb : wiB d' c = true) (h : -1 ≤ shS o' d' t - shS o d t ∧ shS o' d' t - shS o d t ≤ 1) : szS (shS o' d' (t + k) - shS o d (t + k)) ≤ 1 + grS k c := by
  obtain ⟨a1, a2⟩ := inB_yes ha
  obtain ⟨b1, b2⟩ := inB_yes hb
  have x1 : k * d ≤ k * c := Int.mul_le_mul_of_nonneg_left a2 h3
  have x2 : k * -c ≤ k * d := Int.mul_le_mul_of_nonneg_left a1 h3
  have y1 : k * d' ≤ k * c := Int.mul_le_mul_of_nonneg_left b2 h3
  have y2 : k * -c ≤ k * d' := Int.mul_le_mul_of_nonneg_left b1 h3
  rw [Int.mul_neg] at x2 y2
  have e : 2 * k * c = 2 * (k * c) := Int.mul_assoc 2 k c
  unfold shS at h ⊢
  unfold szS grS
  rw [e, Int.add_mul, Int.add_mul]
  generalize k * d = u at *
  generalize k * d' = v at *
  generalize k * c = z at *
  generalize t * d = p at *
  generalize t * d' = q at *
  omega
theorem walk (o d o' d' : Int) (t k c : Int) (_ : i64 t) (_ : i64 k) (_ : i64 c) (w : World) :
    Calls Try.prog 5 #[.agg #[.int .i64 o, .int .i64 d], .agg #[.int .i64 o', .int .i64 d'], .agg #[.int .i64 t, .int .i64 k, .int .i64 c]] w fun r w' => r = .returned (.bool true) ∧ Same w w' := by
  have hl := fun w => Growth_any k c w
  rcases Gr_cases k c with ⟨a, b, hs⟩ | ⟨_, hs⟩ | ⟨_, _, hs⟩ <;> rw [hs] at hl
  · obtain ⟨n1, n2⟩ := inB_yes a
    obtain ⟨d1, d2⟩ := inB_yes b
    by_cases t1 : t < 0
    · exact early o d o' d' t k c _ 0 (.inr ⟨rfl, .inl t1⟩) w hl
    · by_cases t2 : 1099511627776 - k < t
      · exact early o d o' d' t k c _ 0 (.inr ⟨rfl, .inr ⟨by omega, n1, n2, t2⟩⟩) w hl
      · have hT : timeB t = true := by simp [timeB, inB]; omega
        have hT2 : timeB (t + k) = true := by simp [timeB, inB]; omega
        have hn := fun w => Apart_any o d o' d' t w
        have hj := fun w => Adjust_any o' d' (t % 3 - 1 - (apS o d o' d' t).1) w
        have hq : t.tmod 3 = t % 3 := Int.tmod_eq_emod_of_nonneg (by omega)
        have hg := gprod n1 n2 d1 d2
        have key : (apS o d o' d' t).2 = 0 → (adjS o' d' (t % 3 - 1 - (apS o d o' d' t).1)).2.2 = 0 →
            okC o d = true ∧ okC o' d' = true ∧ apS o d o' d' t = (shS o' d' t - shS o d t, 0) ∧ okC (o' + (t % 3 - 1 - (shS o' d' t - shS o d t))) d' = true ∧ adjS o' d' (t % 3 - 1 - (apS o d o' d' t).1) = (o' + (t % 3 - 1 - (shS o' d' t - shS o d t)), d', 0) := by
          intro e1 e2
          rcases ap_cases o d o' d' t with ⟨x, y, _, hp⟩ | ⟨_, _, hf, _⟩ | ⟨_, _, hp⟩ | ⟨_, hp⟩
          · rw [hp] at e2 ⊢
            unfold adjS at e2 ⊢
            cases hb : adjB o' d' (t % 3 - 1 - (shS o' d' t - shS o d t)) with
            | false => rw [hb, if_neg (by decide)] at e2; exact absurd e2 (by decide)
            | true =>
              refine ⟨x, y, rfl, ?_, rfl⟩
              unfold adjB at hb
              rw [Bool.and_eq_true] at hb
              obtain ⟨i1, i2⟩ := inB_yes hb.2
              obtain ⟨_, j1, j2⟩ := okC_of y
              have u1 : inB (o' + (t % 3 - 1 - (shS o' d' t - shS o d t))) (-1099511627776) 1099511627776 = true := by simp only [inB, decide_eq_true_eq]; omega
              have u2 : inB d' (-100000) 100000 = true := by simp only [inB, decide_eq_true_eq]; omega
              unfold okC; rw [u1, u2]; rfl
          · rw [hT] at hf; exact absurd hf (by decide)
          · rw [hp] at e1; exact absurd e1 (by decide)
          · rw [hp] at e1; exact absurd e1 (by decide)
        have apb : -9000000000000 ≤ (apS o d o' d' t).1 ∧ (apS o d o' d' t).1 ≤ 9000000000000 := by
          rcases ap_cases o d o' d' t with ⟨x, y, _, hp⟩ | ⟨_, _, _, hp⟩ | ⟨_, _, hp⟩ | ⟨_, hp⟩ <;> rw [hp]
          · have := shS_bd (t := t) x (by omega) (by omega)
            have := shS_bd (t := t) y (by omega) (by omega)
            simp only; omega
          all_goals exact ⟨by decide, by decide⟩
        refine full o d o' d' t k c (grS k c) (apS o d o' d' t).1 (apS o d o' d' t).2 (adjS o' d' (t % 3 - 1 - (apS o d o' d' t).1)).1 (adjS o' d' (t % 3 - 1 - (apS o d o' d' t).1)).2.1 (adjS o' d' (t % 3 - 1 - (apS o d o' d' t).1)).2.2
          (shS (o' + (t % 3 - 1 - (shS o' d' t - shS o d t))) d' (t + k) - shS o d (t + k)) (szS (shS (o' + (t % 3 - 1 - (shS o' d' t - shS o d t))) d' (t + k) - shS o d (t + k))) (t % 3) (wiB d c) (wiB d' c) (by omega) (by omega) n1 n2 apb.1 apb.2 (by unfold grS; omega) (by unfold grS; omega) (by omega) (by omega) hq rfl ?_ w hl (fun w => lwithin_any o d c d1 d2 w) (fun w => lwithin_any o' d' c d1 d2 w) hn hj (fun e1 e2 w => ?_) (fun e1 e2 w => ?_)
        · cases hA : wiB d c with
          | false => exact .inl rfl
          | true =>
            cases hB : wiB d' c with
            | false => exact .inr (.inl ⟨rfl, rfl⟩)
            | true =>
              by_cases e1 : (apS o d o' d' t).2 = 0
              · by_cases e2 : (adjS o' d' (t % 3 - 1 - (apS o d o' d' t).1)).2.2 = 0
                · refine .inr (.inr (.inr (.inr ⟨rfl, rfl, e1, e2, ?_⟩)))
                  refine grows n1 hA hB ?_
                  have : shS (o' + (t % 3 - 1 - (shS o' d' t - shS o d t))) d' t = shS o' d' t + (t % 3 - 1 - (shS o' d' t - shS o d t)) := by
                    generalize t % 3 - 1 - (shS o' d' t - shS o d t) = j
                    unfold shS; omega
                  omega
                · exact .inr (.inr (.inr (.inl ⟨rfl, rfl, e1, by simpa using e2⟩)))
              · exact .inr (.inr (.inl ⟨rfl, rfl, by simpa using e1⟩))
        · obtain ⟨x, _, _, z, hj'⟩ := key e1 e2
          rw [hj']
          have := Apart_any o d (o' + (t % 3 - 1 - (shS o' d' t - shS o d t))) d' (t + k) w
          rw [show apS o d (o' + (t % 3 - 1 - (shS o' d' t - shS o d t))) d' (t + k) = (shS (o' + (t % 3 - 1 - (shS o' d' t - shS o d t))) d' (t + k) - shS o d (t + k), 0) by unfold apS; rw [if_pos x, if_pos z, if_pos hT2]] at this
          exact this
        · obtain ⟨x, _, _, z, _⟩ := key e1 e2
          have u1 := shS_bd (t := t + k) x (by omega) (by omega)
          have u2 := shS_bd (t := t + k) z (by omega) (by omega)
          exact lsize_any _ (by omega) (by omega) w
  · exact early o d o' d' t k c _ 2 (.inl rfl) w hl
  · exact early o d o' d' t k c _ 2 (.inl rfl) w hl
open Go.ChangeShapes Go.WideShapes Go.ChangeAt
theorem own : ownKnob Try.prog.godebug = none := by kernel_rfl

set_option maxRecDepth 100000 in
theorem lifted (os : Os) (started : os.Started) (H : Type) (enc : TypeId × Value → H) :
    ReturnsInHanded {} Try.checked os 5 .any (Rows.guardGrowsSpec.pre6 enc Try.prog Try.f5 Rows.guardGrowsRow.domain false) (Rows.guardGrowsSpec.post enc Try.prog Try.f5 false true false false) := by
  refine returnsInHanded_of_change (C := Try.checked) own started (by kernel_rfl) Try.func5
    (ChangeSpec.witness6 (enc := enc) (C := Try.checked) false ⟨#[], #[.agg #[.int .i64 0, .int .i64 0], .agg #[.int .i64 0, .int .i64 0], .agg #[.int .i64 0, .int .i64 0, .int .i64 0]], []⟩ 8 (by kernel_rfl) (by kernel_rfl) (by kernel_rfl) (by kernel_rfl)) ?_
  intro W base args ds gs before hval0 hW hcnd _
  have hval : ∀ (j : Nat) t v, Try.f5.params[j]? = some t → args[j]? = some v → Value.okWide Try.prog W .any base t v := hval0
  have hW' := hW
  obtain ⟨p, q, hA0, hV, rfl, hfz, hnd⟩ := hW
  have hA : DataW.TrodAll enc Try.prog W 0 (fun _ => true) true Try.f5.params.toList args.toList ds p := hA0
  rw [Try.params5] at hA hval
  obtain ⟨v0, vs0, d0, ds0, p0, q0, hargs, rfl, rfl, h0, r0⟩ := trodAll_cons hA
  obtain ⟨v1, vs1, d1, ds1, p1, q1, rfl, rfl, rfl, h1, r1⟩ := trodAll_cons r0
  obtain ⟨v2, vs2, d2, ds2, p2, q2, rfl, rfl, rfl, h2, r2⟩ := trodAll_cons r1
  obtain ⟨rfl, rfl, rfl⟩ := trodAll_nil r2
  obtain rfl : args = #[v0, v1, v2] := by cases args; simp_all
  obtain ⟨rfl, rfl⟩ := trodVars_none hV
  obtain ⟨x0, y0, rfl, bx0, be0⟩ := open_clock (hval 0 31 v0 rfl rfl) h0
  obtain ⟨x1, y1, rfl, bx1, be1⟩ := open_clock (hval 1 31 v1 rfl rfl) h1
  obtain ⟨x2, y2, z2, rfl, bx2, be2, bz2⟩ := open_a3 (hval 2 22 v2 rfl rfl) h2
  clear hA0 hval0
  try simp only [List.append_nil] at hW'
  try simp only [List.nil_append] at hW'
  have hlt : ∀ x ∈ p0 ++ p1 ++ p2, x.block < W.heap.size := fun x hx => by
    have := hW'.lt x (by simpa using hx)
    simpa using this
  refine (walk x0 y0 x1 y1 x2 y2 z2 bx2 be2 bz2 W).mono fun e W' ⟨he, hg⟩ => ?_
  subst he
  exact ⟨_, rfl, _, _, _, [], _, [], hW', trodAll_cons_mk (shut_bool Try.underlying4 _) trodAll_mk0, trodAll_cons_mk (Below.trod Try.laidOut (by kernel_rfl) (of_decide_eq_true (by kernel_rfl)) h0 (Same.toBelow hg) (fun x hx => hlt x (by simp [hx]))) (trodAll_cons_mk (Below.trod Try.laidOut (by kernel_rfl) (of_decide_eq_true (by kernel_rfl)) h1 (Same.toBelow hg) (fun x hx => hlt x (by simp [hx]))) (trodAll_cons_mk (Below.trod Try.laidOut (by kernel_rfl) (of_decide_eq_true (by kernel_rfl)) h2 (Same.toBelow hg) (fun x hx => hlt x (by simp [hx]))) trodAll_mk0)), rfl, (Same.toBelow hg).frame _, fun h => by cases h⟩

theorem over : Rows.guardGrowsRow.holds Try.pinned (OpenSpec.ofChange Rows.guardGrowsSpec) :=
  OpenClaim.holds_of_wide 5 Try.f5 rfl rfl rfl rfl rfl rfl rfl ⟨rfl, rfl, rfl, rfl, rfl⟩ rfl rfl rfl rfl rfl (by kernel_rfl) Try.func5 (by kernel_rfl)
    (of_decide_eq_true (by kernel_rfl)) (by unfold Func.isWrapper; first | (rw [if_pos (by decide +kernel)]; kernel_rfl) | (rw [if_neg (by decide +kernel)]; exact ⟨rfl, rfl⟩))
    (fun os started H enc _ => lifted os started H enc)

theorem proved : Rows.GuardGrowsSaid :=
  over
end guardGrows
end Go.Proofs.Ytkffmflhonknpaa
