/- The clocks of corrected states are valid; the two ways to correct are one. -/
import Derived.Test.YtffcoeadpicohaaStep2T
import Derived.Test.YtffcoeadpicohaaMeets
namespace Go.Proofs.Ytffcoeadpicohaa
open Go.RowKit

theorem ak2_same {c p : St} {n : Int} (hp : okC p.1 p.2.1 = true) : akS2 c p n = akS c p n := by
  unfold akS2 akS
  by_cases h : (sendS c.1 c.2.1 n).2 = 0
  · rw [if_pos h, if_pos h]
    obtain ⟨_, b⟩ := timesyncMeets.in_ok h
    obtain ⟨b1, b2, _⟩ := inS_bd c.1 c.2.1 n (cntR c.1 c.2.1 (n * 10000 + 2120) 1099511627777)
    have hm := timesyncMeets.me_ok (o := p.1) (d := p.2.1) (t := (sendS c.1 c.2.1 n).1) hp b ⟨b1, b2⟩
    rw [if_pos (by rw [hm])]
  · rw [if_neg h, if_neg h]
theorem step2_same {n : Nat} {l : List St} {zs : List Int} {x : Sn} (hb : nodeB n x = true) (hp : okC (l.getD (zs.getD x.1.toNat 0).toNat st0).1 (l.getD (zs.getD x.1.toNat 0).toNat st0).2.1 = true) : step2S n l zs x = stepS l zs x := by
  unfold step2S stepS
  rw [if_pos hb, ak2_same hp]
theorem co_ok {o d s c n k : Int} (h : (coS o d s c n k).2 = 0) : okC (coS o d s c n k).1.1 (coS o d s c n k).1.2.1 = true := by
  rcases timesyncMeets.co_two o d s c n k with (e | e | e | e) | ⟨_, y, e⟩
  · rw [e] at h; exact absurd h (by decide)
  · rw [e] at h; exact absurd h (by decide)
  · rw [e] at h; exact absurd h (by decide)
  · rw [e] at h; exact absurd h (by decide)
  · rw [e]; exact y
theorem he_ok {o d s c n t : Int} (h : (heS o d s c n t).2 = 0) : okC (heS o d s c n t).1.1 (heS o d s c n t).1.2.1 = true := by
  rcases he_cases o d s c n t with ⟨_, _, e⟩ | ⟨_, x, e⟩ | ⟨_, e⟩
  · rw [e] at h ⊢; exact co_ok h
  · rw [e] at h; simp only at h; rw [h] at x; exact absurd x (by decide)
  · rw [e] at h; exact absurd h (by decide)
theorem ac_ok {o d s c n k : Int} (h : (acS o d s c n k).2 = 0) : okC (acS o d s c n k).1.1 (acS o d s c n k).1.2.1 = true := by
  rcases ac_cases o d s c n k with ⟨_, _, e⟩ | ⟨_, _, e⟩ | ⟨_, e⟩
  · rw [e] at h ⊢; exact co_ok h
  · rw [e] at h; exact absurd h (by decide)
  · rw [e] at h; exact absurd h (by decide)
theorem step_ok {l : List St} {zs : List Int} {x : Sn} (h : (stepS l zs x).2 = 0) : okC (stepS l zs x).1.1 (stepS l zs x).1.2.1 = true := by
  unfold stepS at h ⊢
  by_cases k : x.2.2 = true
  · rw [if_pos k] at h ⊢
    rcases ak_cases (l.getD x.1.toNat st0) (l.getD (zs.getD x.1.toNat 0).toNat st0) x.2.1 with ⟨_, _, e⟩ | ⟨_, y, e⟩ | ⟨y, e⟩
    · rw [e] at h ⊢; exact ac_ok h
    · rw [e] at h; simp only at h; rw [h] at y; exact absurd y (by decide)
    · rw [e] at h; simp only at h; rw [h] at y; exact absurd y (by decide)
  · rw [if_neg k] at h ⊢
    rcases hr_cases (l.getD x.1.toNat st0) (l.getD (zs.getD x.1.toNat 0).toNat st0) x.2.1 with ⟨_, e⟩ | ⟨y, e⟩
    · rw [e] at h ⊢; exact he_ok h
    · rw [e] at h; simp only at h; rw [h] at y; exact absurd y (by decide)
/-- All clocks are valid. -/
def allC (l : List St) : Prop := ∀ i : Nat, i < l.length → okC (l.getD i st0).1 (l.getD i st0).2.1 = true
theorem allC_set {l : List St} (h : allC l) (N : Nat) (s : St) (hs : okC s.1 s.2.1 = true) : allC (l.set N s) := fun i hi => by
  rw [List.length_set] at hi
  by_cases e : N = i
  · subst e
    rw [List.getD_eq_getElem?_getD, List.getElem?_set_self hi]; exact hs
  · rw [List.getD_eq_getElem?_getD, List.getElem?_set_ne e, ← List.getD_eq_getElem?_getD]; exact h i hi
theorem runK_clocks {n : Nat} {zs : List Int} {l : List St} {xs : List Sn} (hA : allC l) : ∀ (k : Nat) (l' : List St), runK n zs l xs k = .ok l' → allC l'
  | 0, l', h => by simp [runK] at h; rw [← h]; exact hA
  | k + 1, l', h => by
    unfold runK at h
    cases hk : runK n zs l xs k with
    | error e => rw [hk] at h; simp at h
    | ok l2 =>
      rw [hk] at h
      simp only at h
      have := runK_clocks hA k l2 hk
      split at h
      · simp at h
      · split at h
        · rename_i h0
          simp at h; rw [← h]; exact allC_set this _ _ (step_ok h0)
        · simp at h
end Go.Proofs.Ytffcoeadpicohaa
