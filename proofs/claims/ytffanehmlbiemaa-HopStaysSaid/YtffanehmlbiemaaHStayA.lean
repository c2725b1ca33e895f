/- How many channels stay. -/
import Derived.Test.YtffanehmlbiemaaHArgs
namespace Go.Proofs.Ytffanehmlbiemaa
open Go.RowKit

theorem sublen : ∀ (l m : List Int), l.Nodup → (∀ x ∈ l, x ∈ m) → l.length ≤ m.length
  | [], _, _, _ => by simp
  | a :: l, m, hd, h => by
    have ha := h a (by simp)
    have hd' := List.nodup_cons.1 hd
    have ih := sublen l (m.erase a) hd'.2 (fun x hx => by
      have hne : x ≠ a := fun e => hd'.1 (e ▸ hx)
      exact (List.mem_erase_of_ne hne).2 (h x (by simp [hx])))
    rw [List.length_erase_of_mem ha] at ih
    have : 0 < m.length := List.length_pos_of_mem ha
    simp; omega
theorem filter_or (p q : Int → Bool) : ∀ l : List Int, (l.filter fun c => p c || q c).length = (l.filter p).length + (l.filter fun c => !p c && q c).length
  | [] => rfl
  | a :: l => by
    have ih := filter_or p q l
    simp only [List.filter_cons]
    cases hp : p a <;> cases hq : q a <;> simp [ih] <;> omega
structure Kept (ch bl : List Int) (gd : Nat) (least : Int) (k : Nat) (K : List Int) : Prop where
  nd : K.Nodup
  mem : ∀ x ∈ K, x ∈ ch ∧ x ∈ bl
  le : (gd : Int) + (K.length : Int) ≤ max (gd : Int) least
  all : (gd : Int) + (K.length : Int) < least → ∀ j, j < k → bl.getD j 0 ∈ ch → bl.getD j 0 ∈ K
theorem kept_inv (ch bl : List Int) (gd : Nat) (least : Int) : ∀ k, k ≤ bl.length → Kept ch bl gd least k (keptK ch bl gd least k)
  | 0, _ => ⟨by simp [keptK], by simp [keptK], by simp [keptK]; omega, fun _ j hj => absurd hj (Nat.not_lt_zero _)⟩
  | k + 1, h => by
    obtain ⟨a, b, c, d⟩ := kept_inv ch bl gd least k (by omega)
    rw [keptK_succ ch bl gd least k (by omega)]
    generalize keptK ch bl gd least k = K at *
    unfold keptS
    by_cases h1 : (((gd + K.length : Nat) : Int) < least)
    · by_cases h2 : bl.getD k 0 ∈ ch
      · by_cases h3 : bl.getD k 0 ∈ K
        · rw [if_neg (by rw [show hasB K (bl.getD k 0) = true from decide_eq_true h3]; simp)]
          refine ⟨a, b, c, fun hl j hj hc => ?_⟩
          by_cases e : j = k
          · subst e; exact h3
          · exact d hl j (by omega) hc
        · rw [if_pos (by rw [show hasB K (bl.getD k 0) = false from decide_eq_false h3, show hasB ch (bl.getD k 0) = true from decide_eq_true h2, show decide (((gd + K.length : Nat) : Int) < least) = true from decide_eq_true h1]; rfl)]
          refine ⟨?_, ?_, ?_, ?_⟩
          · rw [List.nodup_append]
            refine ⟨a, by simp, ?_⟩
            intro x hx y hy e
            simp at hy
            subst hy; subst e
            exact h3 hx
          · intro x hx
            rcases List.mem_append.1 hx with hx | hx
            · exact b x hx
            · simp at hx; subst hx; exact ⟨h2, getD_mem bl k (by omega)⟩
          · rw [List.length_append]; simp only [List.length_cons, List.length_nil]
            have : max (gd : Int) least = least ∨ max (gd : Int) least = gd := by omega
            omega
          · intro hl j hj hc
            rw [List.length_append] at hl
            simp only [List.length_cons, List.length_nil] at hl
            by_cases e : j = k
            · subst e; simp
            · exact List.mem_append.2 (.inl (d (by omega) j (by omega) hc))
      · rw [if_neg (by rw [show hasB ch (bl.getD k 0) = false from decide_eq_false h2]; simp)]
        refine ⟨a, b, c, fun hl j hj hc => ?_⟩
        by_cases e : j = k
        · subst e; exact absurd hc h2
        · exact d hl j (by omega) hc
    · rw [if_neg (by simp; omega)]
      refine ⟨a, b, c, fun hl j hj hc => ?_⟩
      exact absurd hl (by omega)
/-- As many stay as are good, or as have to. -/
theorem out_len {ch bl : List Int} {least : Int} (hd : diffB ch = true) (hl : least ≤ (ch.length : Int)) :
    ((outL ch bl (keptK ch bl (goodN ch bl) least bl.length)).length : Int) = max ((goodN ch bl : Nat) : Int) least := by
  have hnd : ch.Nodup := nodup_of fun k hk => (chOk_of hk (diffB_at hd k hk)).2
  obtain ⟨a, b, c, d⟩ := kept_inv ch bl (goodN ch bl) least bl.length (Nat.le_refl _)
  generalize keptK ch bl (goodN ch bl) least bl.length = K at *
  have h1 : (outL ch bl K).length = goodN ch bl + (ch.filter fun c => !(!hasB bl c) && hasB K c).length := filter_or (fun c => !hasB bl c) (fun c => hasB K c) ch
  have h2 : (ch.filter fun c => !(!hasB bl c) && hasB K c).length = K.length := by
    apply Nat.le_antisymm
    · refine sublen _ _ (hnd.filter _) fun x hx => ?_
      have := (List.mem_filter.1 hx).2
      unfold hasB at this
      simp at this
      exact this.2
    · refine sublen _ _ a fun x hx => List.mem_filter.2 ⟨(b x hx).1, ?_⟩
      unfold hasB; simp [(b x hx).2, hx]
  rw [h1, h2]
  by_cases hlt : ((goodN ch bl : Nat) : Int) + (K.length : Int) < least
  · have h3 : outL ch bl K = ch := by
      unfold outL
      rw [List.filter_eq_self]
      intro x hx
      by_cases hb : x ∈ bl
      · obtain ⟨j, hj, e⟩ := mem_getD hb
        have := d hlt j hj (e ▸ hx)
        rw [e] at this
        unfold hasB; simp [this]
      · unfold hasB; simp [hb]
    rw [h3] at h1
    omega
  · have : max ((goodN ch bl : Nat) : Int) least = least ∨ max ((goodN ch bl : Nat) : Int) least = ((goodN ch bl : Nat) : Int) := by omega
    omega
/-- The place of the next one that stays. -/
theorem out_at {ch bl K : List Int} (hd : diffB ch = true) (i : Nat) (hi : i < ch.length) :
    ((!hasB bl (ch.getD i 0) || hasB K (ch.getD i 0)) = true → (outL (ch.take i) bl K).length < (outL ch bl K).length ∧ (outL ch bl K).getD (outL (ch.take i) bl K).length 0 = ch.getD i 0) ∧
    ((!hasB bl (ch.getD i 0) || hasB K (ch.getD i 0)) = false → (outL (ch.take i) bl K).length < (outL ch bl K).length → ¬ (outL ch bl K).getD (outL (ch.take i) bl K).length 0 = ch.getD i 0) := by
  have hnd : ch.Nodup := nodup_of fun k hk => (chOk_of hk (diffB_at hd k hk)).2
  have e1 : ch = ch.take i ++ (ch.getD i 0 :: ch.drop (i + 1)) := by
    have := List.take_append_drop i ch
    rw [List.drop_eq_getElem_cons hi] at this
    rw [List.getD_eq_getElem?_getD, List.getElem?_eq_getElem hi]
    exact this.symm
  have e2 : outL ch bl K = outL (ch.take i) bl K ++ (if (!hasB bl (ch.getD i 0) || hasB K (ch.getD i 0)) = true then [ch.getD i 0] else []) ++ outL (ch.drop (i + 1)) bl K := by
    have h3 : ∀ a b : List Int, outL (a ++ b) bl K = outL a bl K ++ outL b bl K := fun a b => List.filter_append ..
    have h4 := h3 (ch.take i ++ [ch.getD i 0]) (ch.drop (i + 1))
    rw [outL_snoc] at h4
    rw [← h4]
    congr 1
    rw [List.append_assoc]
    exact e1
  constructor
  · intro h
    rw [e2, if_pos h]
    refine ⟨by simp, ?_⟩
    rw [List.getD_eq_getElem?_getD, List.append_assoc, List.getElem?_append_right (Nat.le_refl _)]
    simp
  · intro h hlt he
    rw [e2, if_neg (by rw [h]; decide), List.append_nil] at hlt he
    rw [List.length_append] at hlt
    rw [List.getD_eq_getElem?_getD, List.getElem?_append_right (Nat.le_refl _), Nat.sub_self] at he
    have hm : ch.getD i 0 ∈ outL (ch.drop (i + 1)) bl K := by
      cases hq : outL (ch.drop (i + 1)) bl K with
      | nil => rw [hq] at hlt; simp at hlt
      | cons x l => rw [hq] at he; rw [← he]; simp
    have hm2 : ch.getD i 0 ∈ ch.drop (i + 1) := (List.mem_filter.1 hm).1
    rw [e1] at hnd
    have := (List.nodup_append.1 hnd).2.1
    exact (List.nodup_cons.1 this).1 hm2
end Go.Proofs.Ytffanehmlbiemaa
