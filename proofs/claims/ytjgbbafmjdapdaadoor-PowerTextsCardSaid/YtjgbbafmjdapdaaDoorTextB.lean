/- Texts of powers: what a text means. -/
import Derived.Test.YtjgbbafmjdapdaaDoorLaid
import Derived.Lib.Strings
import Derived.Lib.SlTrimSet
import Derived.Lib.AtoiAll
namespace Go.Proofs.YtjgbbafmjdapdaaDoor
open Go.RowKit

def dig (c : UInt8) : Bool := decide (48 ≤ c.toNat) && decide (c.toNat ≤ 57)
def digs : List UInt8 := [48, 49, 50, 51, 52, 53, 54, 55, 56, 57]
theorem dig_mem : ∀ c : UInt8, digs.contains c = dig c := by
  intro c
  have h : ∀ n, n < 256 → digs.contains (UInt8.ofNat n) = dig (UInt8.ofNat n) := by decide +kernel
  have := h c.toNat c.toNat_lt
  rwa [UInt8.ofNat_toNat] at this
/-- The number that digits spell. -/
def val (a : Nat) (l : List UInt8) : Nat := l.foldl (fun a c => 10 * a + (c.toNat - 48)) a
def sat (a : Nat) (l : List UInt8) : Nat := l.foldl (fun a c => min (10 * a + (c.toNat - 48)) 1000) a
theorem val_ge (l : List UInt8) : ∀ a, a ≤ val a l := by
  induction l with
  | nil => intro a; exact Nat.le_refl _
  | cons c l ih => intro a; exact Nat.le_trans (by omega) (ih (10 * a + (c.toNat - 48)))
theorem sat_val (l : List UInt8) : ∀ a b, b = min a 1000 → sat b l = min (val a l) 1000 := by
  induction l with
  | nil => intro a b h; exact h
  | cons c l ih =>
    intro a b h
    exact ih (10 * a + (c.toNat - 48)) (min (10 * b + (c.toNat - 48)) 1000) (by omega)
theorem parse_val (l : List UInt8) (hd : ∀ c ∈ l, dig c = true) : ∀ a, a < 18446744073709551616 → Lib.parseUint10 a l = if val a l < 18446744073709551616 then .ok (val a l) else .range := by
  induction l with
  | nil => intro a ha; unfold Lib.parseUint10; rw [if_pos (show val a [] < _ from ha)]; rfl
  | cons c l ih =>
    intro a ha
    have hc := hd c (by simp)
    unfold dig at hc
    simp only [Bool.and_eq_true, decide_eq_true_eq] at hc
    have hv : val a (c :: l) = val (10 * a + (c.toNat - 48)) l := rfl
    have hge := val_ge l (10 * a + (c.toNat - 48))
    unfold Lib.parseUint10
    rw [if_pos hc]
    by_cases h1 : 1844674407370955162 ≤ a
    · rw [if_pos h1, if_neg (by omega)]
    · rw [if_neg h1]
      by_cases h2 : 18446744073709551616 ≤ a * 10 + (c.toNat - 48)
      · rw [if_pos h2, if_neg (by omega)]
      · rw [if_neg h2, show a * 10 + (c.toNat - 48) = 10 * a + (c.toNat - 48) by omega, ih (fun c hc => hd c (by simp [hc])) _ (by omega), hv]
theorem atoi_val (l : List UInt8) (hd : ∀ c ∈ l, dig c = true) (hn : l ≠ []) : Lib.atoiAll l = if val 0 l < 9223372036854775808 then .ok (val 0 l : Int) else .range := by
  match l, hn with
  | c :: r, _ =>
    have hc := hd c (by simp)
    unfold dig at hc
    simp only [Bool.and_eq_true, decide_eq_true_eq] at hc
    have h43 : ¬ (c.toNat = 43 ∨ c.toNat = 45) := by omega
    have h45 : ¬ c.toNat = 45 := by omega
    have hp : Lib.parseMag (c :: r) = if val 0 (c :: r) < 18446744073709551616 then .ok (val 0 (c :: r)) else .range := by
      unfold Lib.parseMag
      rw [if_neg (by simp)]
      exact parse_val (c :: r) hd 0 (by omega)
    unfold Lib.atoiAll
    simp only [if_neg h43, hp]
    by_cases h1 : val 0 (c :: r) < 18446744073709551616
    · simp only [if_pos h1]
      by_cases h2 : val 0 (c :: r) < 9223372036854775808
      · simp [h45, h2]
      · simp [h45, h2]
    · simp only [if_neg h1]
      rw [if_neg (by omega)]
theorem dw_nil {α : Type} (p : α → Bool) : ∀ l : List α, (∀ c ∈ l, p c = true) → l.dropWhile p = []
  | [], _ => rfl
  | c :: l, h => by rw [List.dropWhile_cons, if_pos (h c (by simp))]; exact dw_nil p l (fun c hc => h c (by simp [hc]))
theorem dw_all {α : Type} (p : α → Bool) : ∀ l : List α, l.dropWhile p = [] → ∀ c ∈ l, p c = true
  | [], _ => by simp
  | c :: l, h => by
    by_cases hc : p c = true
    · rw [List.dropWhile_cons, if_pos hc] at h
      intro x hx
      rcases List.mem_cons.1 hx with rfl | hx
      · exact hc
      · exact dw_all p l h x hx
    · rw [List.dropWhile_cons, if_neg hc] at h
      exact absurd h (by simp)
theorem dw_head {α : Type} (p : α → Bool) : ∀ (l : List α) (x : α) (r : List α), l.dropWhile p = x :: r → p x = false
  | [], x, r, h => by simp at h
  | c :: l, x, r, h => by
    by_cases hc : p c = true
    · rw [List.dropWhile_cons, if_pos hc] at h
      exact dw_head p l x r h
    · rw [List.dropWhile_cons, if_neg hc] at h
      obtain ⟨rfl, _⟩ := List.cons.inj h
      simpa using hc
theorem trim_nil (l : List UInt8) : Lib.trimS l digs = [] ↔ ∀ c ∈ l, dig c = true := by
  unfold Lib.trimS Lib.trimLeftS Lib.trimRightS
  constructor
  · intro h c hc
    have h1 := dw_all _ _ h
    have h2 : l.reverse.dropWhile (digs.contains ·) = [] := by
      cases e : l.reverse.dropWhile (digs.contains ·) with
      | nil => rfl
      | cons x r =>
        have h3 : digs.contains x = false := dw_head _ _ _ _ e
        have h4 : digs.contains x = true := h1 x (by rw [e]; simp)
        rw [h3] at h4
        exact absurd h4 (by decide)
    have h5 := dw_all _ _ h2 c (by simpa using hc)
    rw [← dig_mem]; exact h5
  · intro h
    have h1 : (l.reverse.dropWhile (digs.contains ·)) = [] := dw_nil _ _ (fun c hc => by
      simp only [dig_mem]; exact h c (by simpa using hc))
    rw [h1]; rfl

/-- What a text means: the power, or the error. -/
def numOk (l : List UInt8) : Bool := !l.isEmpty && l.all dig && (l == [48] || l.head? != some 48)
def parseS (l : List UInt8) : Int × Int := if Lib.hasSuffix l [32, 100, 66] = true ∧ numOk (l.take (l.length - 3)) = true then levS (min (val 0 (l.take (l.length - 3))) 1000 : Nat) else (0, 3)
theorem levS_min (n : Nat) : levS ((min n 1000 : Nat) : Int) = levS (n : Int) := by
  unfold levS
  by_cases h : n ≤ 108
  · rw [Nat.min_eq_left (by omega)]
  · rw [if_neg (by omega), if_neg (by omega)]
end Go.Proofs.YtjgbbafmjdapdaaDoor
