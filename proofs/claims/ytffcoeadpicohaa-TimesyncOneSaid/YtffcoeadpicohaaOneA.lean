/- Corrections in two parts; a correction changes one state. -/
import Derived.Test.YtffcoeadpicohaaRunU
namespace Go.Proofs.Ytffcoeadpicohaa
open Go.RowKit

/-- The first k corrections alone. -/
theorem runK_take (n : Nat) (zs : List Int) (l : List St) (xs : List Sn) (m : Nat) : ∀ k : Nat, k ≤ m → runK n zs l (xs.take m) k = runK n zs l xs k
  | 0, _ => rfl
  | k + 1, h => by
    have ih := runK_take n zs l xs m k (by omega)
    have e : (xs.take m).getD k sn0 = xs.getD k sn0 := by
      rw [List.getD_eq_getElem?_getD, List.getD_eq_getElem?_getD, List.getElem?_take_of_lt (by omega)]
    unfold runK
    rw [ih, e]
/-- The others, behind the first k. -/
theorem runK_drop (n : Nat) (zs : List Int) (l l1 : List St) (xs : List Sn) (k : Nat) (h : runK n zs l xs k = .ok l1) : ∀ (j : Nat) (l2 : List St), runK n zs l xs (k + j) = .ok l2 → runK n zs l1 (xs.drop k) j = .ok l2
  | 0, l2, h2 => by
    rw [Nat.add_zero, h] at h2
    exact h2
  | j + 1, l2, h2 => by
    have h2' : runK n zs l xs (k + j + 1) = .ok l2 := h2
    have e : (xs.drop k).getD j sn0 = xs.getD (k + j) sn0 := by
      rw [List.getD_eq_getElem?_getD, List.getD_eq_getElem?_getD, List.getElem?_drop]
    unfold runK at h2' ⊢
    cases hk : runK n zs l xs (k + j) with
    | error er => rw [hk] at h2'; simp at h2'
    | ok l3 =>
      rw [hk] at h2'
      rw [runK_drop n zs l l1 xs k h j l3 hk, e]
      simp only at h2' ⊢
      split at h2'
      · simp at h2'
      · rename_i hb
        split at h2'
        · rename_i hz
          rw [if_neg hb, if_pos hz]
          exact h2'
        · simp at h2'
theorem runK_prefix (n : Nat) (zs : List Int) (l l2 : List St) (xs : List Sn) (k : Nat) : ∀ j : Nat, runK n zs l xs (k + j) = .ok l2 → ∃ l1, runK n zs l xs k = .ok l1
  | 0, h => ⟨l2, h⟩
  | j + 1, h => by
    cases hk : runK n zs l xs k with
    | ok l1 => exact ⟨l1, rfl⟩
    | error er =>
      obtain ⟨i, er⟩ := er
      rw [runK_err (j + 1) k hk] at h
      simp at h
/-- A node that no correction names is as it was. -/
theorem runK_other (n : Nat) (zs : List Int) (l : List St) (xs : List Sn) (N : Nat) : ∀ (k : Nat) (l2 : List St), (∀ i, i < k → ¬ (xs.getD i sn0).1 = (N : Int)) → runK n zs l xs k = .ok l2 → l2.getD N st0 = l.getD N st0
  | 0, l2, _, h => by simp [runK] at h; rw [h]
  | k + 1, l2, hn, h => by
    unfold runK at h
    cases hk : runK n zs l xs k with
    | error er => rw [hk] at h; simp at h
    | ok l3 =>
      rw [hk] at h
      simp only at h
      have ih := runK_other n zs l xs N k l3 (fun i hi => hn i (by omega)) hk
      split at h
      · simp at h
      · rename_i hb
        split at h
        · injection h with h
          have hN := hn k (by omega)
          have hb' : nodeB n (xs.getD k sn0) = true := by
            cases e : nodeB n (xs.getD k sn0) with
            | true => rfl
            | false => exact absurd e hb
          obtain ⟨q1, _⟩ := inB_yes (show inB (xs.getD k sn0).1 1 ((n : Int) - 1) = true from hb')
          generalize xs.getD k sn0 = x at *
          rw [← h, List.getD_eq_getElem?_getD, List.getElem?_set_ne (by omega), ← List.getD_eq_getElem?_getD]
          exact ih
        · simp at h
end Go.Proofs.Ytffcoeadpicohaa
