/- Frames: the check by the reference. -/
import Derived.Test.YtilpbbpdchbdfaaF3
namespace Go.Proofs.Ytilpbbpdchbdfaa
open Go.RowKit

def Ok (f : Fr) : Prop :=
  (0 ≤ f.s ∧ f.s ≤ 31) ∧ (0 ≤ f.l ∧ f.l ≤ 255) ∧ (0 ≤ f.q ∧ f.q ≤ 255) ∧
  ((f.k = 1 ∧ (0 ≤ f.t ∧ f.t ≤ 31 ∧ f.t ≠ f.s) ∧ (0 ≤ f.fl ∧ f.fl ≤ 255) ∧ (0 ≤ f.n ∧ f.n ≤ 65535) ∧ f.e = 0 ∧ f.sl = 0 ∧ f.r = 0 ∧ f.ep = 0) ∨
   (f.k = 2 ∧ (0 ≤ f.t ∧ f.t ≤ 31 ∧ f.t ≠ f.s) ∧ (-32768 ≤ f.e ∧ f.e ≤ 32767) ∧ f.fl = 0 ∧ f.n = 0 ∧ f.sl = 0 ∧ f.r = 0 ∧ f.ep = 0 ∧ f.d.size = 0) ∨
   (f.k = 3 ∧ f.t = -1 ∧ (0 ≤ f.sl ∧ f.sl ≤ 109951162) ∧ (0 ≤ f.r ∧ f.r ≤ 65535) ∧ (0 ≤ f.ep ∧ f.ep ≤ 65535) ∧ f.fl = 0 ∧ f.n = 0 ∧ f.e = 0) ∨
   (f.k = 4 ∧ (f.t = -1 ∨ (0 ≤ f.t ∧ f.t ≤ 31 ∧ f.t ≠ f.s)) ∧ f.fl = 0 ∧ f.n = 0 ∧ f.e = 0 ∧ f.sl = 0 ∧ f.r = 0 ∧ f.ep = 0))
theorem toList_nil (d : ByteArray) : d.toList = [] ↔ d.size = 0 := by
  constructor
  · intro h
    have := congrArg List.length h
    simpa [ByteArray.toList_eq] using this
  · intro h
    have : d = ⟨#[]⟩ := by cases d with | mk a => simp only [ByteArray.size] at h; rw [Array.eq_empty_of_size_eq_zero h]
    rw [this, ByteArray.toList_eq]
theorem okB_iff (f : Fr) : okB f = true ↔ Ok f := by
  obtain ⟨k, s, t, l, q, fl, n, e, sl, r, ep, d⟩ := f
  unfold okB endsB fieldsB oneB inB Ok
  dsimp only
  by_cases k1 : k = 1
  · subst k1
    simp
    omega
  · by_cases k2 : k = 2
    · subst k2
      have hz : (d.toList == []) = decide (d.size = 0) := by
        rw [Bool.eq_iff_iff, beq_iff_eq, decide_eq_true_eq]; exact toList_nil d
      rw [hz]
      clear hz
      generalize d.size = m at *
      simp
      omega
    · by_cases k3 : k = 3
      · subst k3
        simp
        omega
      · by_cases k4 : k = 4
        · subst k4
          simp
          omega
        · simp [k1, k2, k3, k4]
theorem chk_yes {f : Fr} (h : Ok f) : chk f = 0 := by unfold chk; rw [if_pos ((okB_iff f).2 h)]
theorem chk_no {f : Fr} (h : ¬ Ok f) : chk f = 1 := by unfold chk; rw [if_neg (fun x => h ((okB_iff f).1 x))]
theorem within2_any (n m : Int) (w : World) : Calls Try.prog 41 #[.int .i64 n, .int .i64 m] w fun e w' => e = .returned (.bool (inB n 0 m)) ∧ w' = w := by
  unfold inB
  by_cases h1 : n < 0
  · have e : decide (0 ≤ n ∧ n ≤ m) = false := decide_eq_false (by omega)
    rw [e]; clear e
    go_enter Try.func41, Try.ntmps41
    go_wp2
    go_ret
    exact ⟨rfl, rfl⟩
  · have h2 : 0 ≤ n := by omega
    have e : decide (0 ≤ n ∧ n ≤ m) = decide (n ≤ m) := by simp [h2]
    rw [e]; clear e h1
    go_enter Try.func41, Try.ntmps41
    go_wp2
    go_ret
    exact ⟨rfl, rfl⟩
theorem within2_zero (m : Int) (hm : 0 ≤ m) (w1 : World) : Calls Try.prog 41 #[.int .i64 0, .int .i64 m] w1 fun e w' => e = .returned (.bool true) ∧ w' = w1 := by
  have := within2_any 0 m w1
  rwa [show inB 0 0 m = true by unfold inB; simp; omega] at this
end Go.Proofs.Ytilpbbpdchbdfaa
