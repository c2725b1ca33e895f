/- States that are corrected stay valid; corrections cut in two parts, both of them whole. -/
import Derived.Test.YtffcoeadpicohaaOneC
namespace Go.Proofs.Ytffcoeadpicohaa
open Go.RowKit

theorem okY_mk {o d n c : Int} (h1 : okC o d = true) (h2 : sltB n = true) (h3 : 0 ≤ c) (h4 : c ≤ 4095) : okY o d n (c + 1) = true := by
  unfold okY
  rw [h1, h2]
  have : inB (c + 1) 1 4096 = true := by unfold inB; simp; omega
  rw [this]
  simp
theorem co_okY {o d s c n k : Int} (hy : okY o d s c = true) (hn : sltB n = true) (h : (coS o d s c n k).2 = 0) : okYs (coS o d s c n k).1 = true := by
  obtain ⟨_, hc⟩ := okY_of hy
  rcases timesyncMeets.co_two o d s c n k with (e | e | e | e) | ⟨x, y, e⟩
  · rw [e] at h; exact absurd h (by decide)
  · rw [e] at h; exact absurd h (by decide)
  · rw [e] at h; exact absurd h (by decide)
  · rw [e] at h; exact absurd h (by decide)
  · rw [e]; exact okY_mk y hn (by omega) (by omega)
theorem me_slot {o d n t : Int} (h : (meS o d n t).2 = 0) : sltB n = true := by
  unfold meS at h
  split at h
  · split at h
    · assumption
    · exact absurd h (by decide)
  · exact absurd h (by decide)
theorem he_okY {o d s c n t : Int} (h : (heS o d s c n t).2 = 0) : okYs (heS o d s c n t).1 = true := by
  rcases he_cases o d s c n t with ⟨a, b, e⟩ | ⟨_, x, e⟩ | ⟨_, e⟩
  · rw [e] at h ⊢; exact co_okY a (me_slot b) h
  · rw [e] at h; simp only at h; rw [h] at x; exact absurd x (by decide)
  · rw [e] at h; exact absurd h (by decide)
theorem ac_okY {o d s c n k : Int} (h : (acS o d s c n k).2 = 0) : okYs (acS o d s c n k).1 = true := by
  rcases ac_cases o d s c n k with ⟨a, b, e⟩ | ⟨_, _, e⟩ | ⟨_, e⟩
  · rw [e] at h ⊢; exact co_okY a b h
  · rw [e] at h; exact absurd h (by decide)
  · rw [e] at h; exact absurd h (by decide)
theorem step_okY {l : List St} {zs : List Int} {x : Sn} (h : (stepS l zs x).2 = 0) : okYs (stepS l zs x).1 = true := by
  unfold stepS at h ⊢
  by_cases k : x.2.2 = true
  · rw [if_pos k] at h ⊢
    rcases ak_cases (l.getD x.1.toNat st0) (l.getD (zs.getD x.1.toNat 0).toNat st0) x.2.1 with ⟨_, _, e⟩ | ⟨_, y, e⟩ | ⟨y, e⟩
    · rw [e] at h ⊢; exact ac_okY h
    · rw [e] at h; simp only at h; rw [h] at y; exact absurd y (by decide)
    · rw [e] at h; simp only at h; rw [h] at y; exact absurd y (by decide)
  · rw [if_neg k] at h ⊢
    rcases hr_cases (l.getD x.1.toNat st0) (l.getD (zs.getD x.1.toNat 0).toNat st0) x.2.1 with ⟨_, e⟩ | ⟨y, e⟩
    · rw [e] at h ⊢; exact he_okY h
    · rw [e] at h; simp only at h; rw [h] at y; exact absurd y (by decide)
theorem allY_set {l : List St} (h : allY l) (N : Nat) (s : St) (hs : okYs s = true) : allY (l.set N s) := fun i hi => by
  rw [List.length_set] at hi
  by_cases e : N = i
  · subst e
    rw [List.getD_eq_getElem?_getD, List.getElem?_set_self hi]; exact hs
  · rw [List.getD_eq_getElem?_getD, List.getElem?_set_ne e, ← List.getD_eq_getElem?_getD]; exact h i hi
theorem runK_valid {n : Nat} {zs : List Int} {l : List St} {xs : List Sn} (hA : allY l) : ∀ (k : Nat) (l' : List St), runK n zs l xs k = .ok l' → allY l'
  | 0, l', h => by simp [runK] at h; rw [← h]; exact hA
  | k + 1, l', h => by
    unfold runK at h
    cases hk : runK n zs l xs k with
    | error e => rw [hk] at h; simp at h
    | ok l2 =>
      rw [hk] at h
      simp only at h
      have := runK_valid hA k l2 hk
      split at h
      · simp at h
      · split at h
        · rename_i h0
          simp at h; rw [← h]; exact allY_set this _ _ (step_okY h0)
        · simp at h
/-- The answers of the first k corrections and of the others. -/
theorem runU_two {l l2 : List St} {zs : List Int} {xs : List Sn} (ho : RunOk l zs xs) (h : runK zs.length zs l xs xs.length = .ok l2) (k : Nat) (hk : k ≤ xs.length) :
    ∃ l1, runU l zs (xs.take k) = (l1, -1, 0) ∧ l1.length = l.length ∧ runU l1 zs (xs.drop k) = (l2, -1, 0) := by
  obtain ⟨a, b, c, d⟩ := ho
  have h' : runK zs.length zs l xs (k + (xs.length - k)) = .ok l2 := by rw [show k + (xs.length - k) = xs.length by omega]; exact h
  obtain ⟨l1, h1⟩ := runK_prefix _ _ _ _ _ _ _ h'
  have e1 := runK_length k l1 h1
  have e2 := runK_drop _ _ _ _ _ _ h1 _ _ h'
  have v1 := runK_valid c k l1 h1
  refine ⟨l1, ?_, e1, ?_⟩
  · have o1 : RunOk l zs (xs.take k) := ⟨a, b, c, by rw [List.length_take]; omega⟩
    unfold runU
    rw [if_pos o1, show (xs.take k).length = k by rw [List.length_take]; omega, runK_take _ _ _ _ k k (Nat.le_refl k), h1]
  · have o2 : RunOk l1 zs (xs.drop k) := ⟨a, e1.trans b, v1, by rw [List.length_drop]; omega⟩
    unfold runU
    rw [if_pos o2, List.length_drop, e2]
end Go.Proofs.Ytffcoeadpicohaa
