/- What Run returns: an error with no states, or the states behind all corrections; the same cut in two. -/
import Derived.Test.YtffcoeadpicohaaOneB
namespace Go.Proofs.Ytffcoeadpicohaa
open Go.RowKit

theorem runK_lt {n : Nat} {zs : List Int} {l : List St} {xs : List Sn} {i : Nat} {er : Int} : ∀ k : Nat, runK n zs l xs k = .error (i, er) → i < k ∧ ¬ er = 0
  | 0, h => by simp [runK] at h
  | k + 1, h => by
    unfold runK at h
    cases hk : runK n zs l xs k with
    | error e =>
      rw [hk] at h
      simp only at h
      have h' : e = (i, er) := by injection h
      rw [h'] at hk
      obtain ⟨a, b⟩ := runK_lt k hk
      exact ⟨by omega, b⟩
    | ok l3 =>
      rw [hk] at h
      simp only at h
      split at h
      · injection h with h
        injection h with h1 h2
        exact ⟨by omega, by rw [← h2]; decide⟩
      · split at h
        · cases h
        · rename_i hz
          injection h with h
          injection h with h1 h2
          exact ⟨by omega, by rw [← h2]; exact hz⟩
theorem runU_bad {l : List St} {zs : List Int} {xs : List Sn} (h : ¬ (runU l zs xs).2.2 = 0) : (runU l zs xs).1 = [] ∧ -1 ≤ (runU l zs xs).2.1 ∧ (runU l zs xs).2.1 < xs.length := by
  unfold runU at h ⊢
  by_cases ho : RunOk l zs xs
  · rw [if_pos ho] at h ⊢
    cases hk : runK zs.length zs l xs xs.length with
    | error e =>
      obtain ⟨i, er⟩ := e
      obtain ⟨a, _⟩ := runK_lt _ hk
      exact ⟨rfl, by simp only; omega, by simp only; omega⟩
    | ok l' => rw [hk] at h; exact absurd rfl h
  · rw [if_neg ho]
    exact ⟨rfl, by decide, by simp only; omega⟩
theorem runU_good {l : List St} {zs : List Int} {xs : List Sn} (h : (runU l zs xs).2.2 = 0) : RunOk l zs xs ∧ ∃ l', runK zs.length zs l xs xs.length = .ok l' ∧ runU l zs xs = (l', -1, 0) := by
  unfold runU at h ⊢
  by_cases ho : RunOk l zs xs
  · rw [if_pos ho] at h ⊢
    cases hk : runK zs.length zs l xs xs.length with
    | error e =>
      obtain ⟨i, er⟩ := e
      rw [hk] at h
      exact absurd h (runK_lt _ hk).2
    | ok l' => exact ⟨ho, l', rfl, rfl⟩
  · rw [if_neg ho] at h
    exact absurd h (by decide)
end Go.Proofs.Ytffcoeadpicohaa
