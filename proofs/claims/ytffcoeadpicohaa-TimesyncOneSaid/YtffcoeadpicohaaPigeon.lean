/- The parents of a tree lead to 0 in fewer steps than there are nodes. -/
import Derived.Test.YtffcoeadpicohaaDepthsL
namespace Go.Proofs.Ytffcoeadpicohaa
open Go.RowKit

theorem inj_le : ∀ (n L : Nat) (f : Nat → Nat), (∀ i, i < L → f i < n) → (∀ i j, i < L → j < L → f i = f j → i = j) → L ≤ n
  | 0, L, f, h, _ => by
    by_cases e : L = 0
    · omega
    · have := h 0 (by omega); omega
  | n + 1, 0, f, _, _ => by omega
  | n + 1, L + 1, f, h, hi => by
    have := inj_le n L (fun i => if f i = n then f L else f i)
      (fun i hiL => by
        show (if f i = n then f L else f i) < n
        by_cases e : f i = n
        · rw [if_pos e]
          have h1 := h L (by omega)
          have h2 : f L ≠ n := fun e' => by have := hi i L (by omega) (by omega) (by omega); omega
          omega
        · rw [if_neg e]
          have := h i (by omega)
          omega)
      (fun i j hiL hjL he => by
        have he : (if f i = n then f L else f i) = (if f j = n then f L else f j) := he
        by_cases e : f i = n
        · by_cases e' : f j = n
          · exact hi i j (by omega) (by omega) (by omega)
          · rw [if_pos e, if_neg e'] at he
            have := hi L j (by omega) (by omega) he
            omega
        · by_cases e' : f j = n
          · rw [if_neg e, if_pos e'] at he
            have := hi i L (by omega) (by omega) he
            omega
          · rw [if_neg e, if_neg e'] at he
            exact hi i j (by omega) (by omega) he)
    omega
theorem depF_lift (zs : List Int) {j : Nat} {a : Int} {d : Nat} (h : depF zs j a = some d) (k : Nat) : depF zs (j + k) a = some d := by
  induction k with
  | zero => exact h
  | succ k ih => exact (depF_more zs (j + k) a d ih).1
/-- Each depth up to that of a node is that of some node. -/
theorem depF_all (zs : List Int) : ∀ (j : Nat) (a : Nat) (d : Nat), a < zs.length → depF zs j (a : Int) = some d → ∀ e, e ≤ d → ∃ b : Nat, b < zs.length ∧ depF zs j (b : Int) = some e
  | 0, a, d, _, h, _, _ => by simp [depF] at h
  | j + 1, a, d, ha, h, e, he => by
    by_cases hed : e = d
    · subst hed; exact ⟨a, ha, h⟩
    · by_cases h0 : (a : Int) = 0
      · rw [h0, depF_zero] at h
        simp at h; omega
      · have h' := h
        rw [depF_step h0, show (a : Int).toNat = a from rfl] at h'
        by_cases hin : 0 ≤ zs.getD a 0 ∧ zs.getD a 0 < zs.length
        · rw [if_pos hin] at h'
          obtain ⟨p, hp⟩ : ∃ p : Nat, zs.getD a 0 = (p : Int) := ⟨(zs.getD a 0).toNat, by omega⟩
          rw [hp] at h' hin
          cases hd : depF zs j (p : Int) with
          | none => rw [hd] at h'; simp at h'
          | some x =>
            rw [hd] at h'
            simp at h'
            obtain ⟨b, hb, hbe⟩ := depF_all zs j p x (by omega) hd e (by omega)
            exact ⟨b, hb, (depF_more zs j _ _ hbe).1⟩
        · rw [if_neg hin] at h'; simp at h'
theorem depF_short (zs : List Int) (j : Nat) (a d : Nat) (ha : a < zs.length) (h : depF zs j (a : Int) = some d) : d < zs.length := by
  have hall := depF_all zs j a d ha h
  have key : ∀ e, ∃ b : Nat, e ≤ d → b < zs.length ∧ depF zs j (b : Int) = some e := fun e => by
    by_cases he : e ≤ d
    · obtain ⟨b, h1, h2⟩ := hall e he
      exact ⟨b, fun _ => ⟨h1, h2⟩⟩
    · exact ⟨0, fun h => absurd h he⟩
  have hf : ∃ f : Nat → Nat, ∀ e, e ≤ d → f e < zs.length ∧ depF zs j (f e : Int) = some e := ⟨fun e => Classical.choose (key e), fun e he => Classical.choose_spec (key e) he⟩
  obtain ⟨f, hf⟩ := hf
  have := inj_le zs.length (d + 1) f (fun i hi => (hf i (by omega)).1) (fun i k hi hk e => by
    have h1 := (hf i (by omega)).2
    have h2 := (hf k (by omega)).2
    rw [e, h2] at h1
    exact (Option.some.inj h1).symm)
  omega
/-- As many steps as there are nodes serve as well as more. -/
theorem depF_exact (zs : List Int) : ∀ (j : Nat) (a : Int) (d : Nat), depF zs j a = some d → depF zs (d + 1) a = some d
  | 0, a, d, h => by simp [depF] at h
  | j + 1, a, d, h => by
    by_cases h0 : a = 0
    · rw [h0, depF_zero] at h
      simp at h; subst h
      rw [h0, depF_zero]
    · rw [depF_step h0] at h
      by_cases hin : 0 ≤ zs.getD a.toNat 0 ∧ zs.getD a.toNat 0 < zs.length
      · rw [if_pos hin] at h
        cases hd : depF zs j (zs.getD a.toNat 0) with
        | none => rw [hd] at h; simp at h
        | some x =>
          rw [hd] at h
          simp at h; subst h
          rw [depF_step h0, if_pos hin, depF_exact zs j _ x hd]
          rfl
      · rw [if_neg hin] at h; simp at h
theorem depF_same (zs : List Int) (k : Nat) (a : Nat) (ha : a < zs.length) : depF zs (zs.length + k) (a : Int) = depF zs zs.length (a : Int) := by
  cases h : depF zs (zs.length + k) (a : Int) with
  | some d =>
    have h1 := depF_short zs _ a d ha h
    have h2 := depF_exact zs _ _ d h
    have := depF_lift zs h2 (zs.length - (d + 1))
    rw [show d + 1 + (zs.length - (d + 1)) = zs.length by omega] at this
    exact this.symm
  | none =>
    cases h' : depF zs zs.length (a : Int) with
    | none => rfl
    | some d => rw [depF_lift zs h' k] at h; simp at h
end Go.Proofs.Ytffcoeadpicohaa
