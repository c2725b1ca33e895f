/- The checks of package timesync and of the reference; the difference of a frame. -/
import Derived.Test.YtffcoeadpicohaaCalls5
namespace Go.Proofs.Ytffcoeadpicohaa
open Go.RowKit Go.Lib Go.Sort

theorem twithin_any (n l m : Int) (w : World) : Calls Try.prog 51 #[.int .i64 n, .int .i64 l, .int .i64 m] w fun e w' => e = .returned (.bool (inB n l m)) ∧ w' = w := by
  cases h : inB n l m with
  | true =>
    obtain ⟨h1, h2⟩ := inB_yes h
    clear h
    go_enter Try.func51, Try.ntmps51
    go_wp2
    go_ret
    exact ⟨rfl, rfl⟩
  | false =>
    have h := inB_no h
    by_cases h1 : n < l
    · clear h
      go_enter Try.func51, Try.ntmps51
      go_wp2
      go_ret
      exact ⟨rfl, rfl⟩
    · have h2 : m < n := by omega
      have h3 : l ≤ n := by omega
      have hd : decide (n ≤ m) = false := by simp; omega
      clear h h1
      go_enter Try.func51, Try.ntmps51
      go_wp2
      go_ret
      exact ⟨rfl, rfl⟩
def sltB (n : Int) : Bool := inB n 0 109951162
theorem isSlot_any (n : Int) (w : World) : Calls Try.prog 42 #[.int .i64 n] w fun e w' => e = .returned (.bool (sltB n)) ∧ w' = w := by
  have h1 := fun w => twithin_any n 0 109951162 w
  change ∀ w, Calls Try.prog 51 #[.int .i64 n, .int .i64 0, .int .i64 109951162] w fun e w' => e = .returned (.bool (sltB n)) ∧ w' = w at h1
  have H1 := Lib.hid h1; clear h1
  generalize sltB n = b at *
  go_enter Try.func42, Try.ntmps42
  go_wp2_with (go_at_call 51; (with_reducible refine (H1.out _).mono ?_); rintro e w' ⟨rfl, rfl⟩)
  go_ret
  exact ⟨rfl, rfl⟩
theorem tslots2_any (n : Int) (w : World) : Calls Try.prog 45 #[.int .i64 n] w fun e w' => e = .returned (.bool (sltB n)) ∧ w' = w := by
  cases h : sltB n with
  | true =>
    obtain ⟨h1, h2⟩ := inB_yes h
    clear h
    go_enter Try.func45, Try.ntmps45
    go_wp2
    go_ret
    exact ⟨rfl, rfl⟩
  | false =>
    have h := inB_no h
    by_cases h1 : n < 0
    · clear h
      go_enter Try.func45, Try.ntmps45
      go_wp2
      go_ret
      exact ⟨rfl, rfl⟩
    · have h2 : 109951162 < n := by omega
      have h3 : 0 ≤ n := by omega
      have hd : decide (n ≤ 109951162) = false := by simp; omega
      clear h h1
      go_enter Try.func45, Try.ntmps45
      go_wp2
      go_ret
      exact ⟨rfl, rfl⟩
/-- A state that was never corrected. -/
def newB (s c : Int) : Bool := decide (s = -1) && decide (c = 0)
theorem isNew_any (o d s c : Int) (w : World) : Calls Try.prog 50 #[.agg #[.int .i64 o, .int .i64 d, .int .i64 s, .int .i64 c]] w fun e w' => e = .returned (.bool (newB s c)) ∧ Grew w w' := by
  by_cases h1 : s = -1
  · subst h1
    by_cases h2 : c = 0
    · subst h2
      rw [show newB (-1) 0 = true by decide]
      go_enter Try.func50, Try.ntmps50
      go_wp2
      go_ret
      exact ⟨rfl, (Grew.refl w).alloc _⟩
    · rw [show newB (-1) c = false by simp [newB, h2]]
      have h3 : (c == 0) = false := by simpa using h2
      clear h2
      go_enter Try.func50, Try.ntmps50
      go_wp2
      go_ret
      exact ⟨rfl, (Grew.refl w).alloc _⟩
  · rw [show newB s c = false by simp [newB, h1]]
    have h3 : (s == -1) = false := by simpa using h1
    clear h1
    go_enter Try.func50, Try.ntmps50
    go_wp2
    go_ret
    exact ⟨rfl, (Grew.refl w).alloc _⟩
end Go.Proofs.Ytffcoeadpicohaa
