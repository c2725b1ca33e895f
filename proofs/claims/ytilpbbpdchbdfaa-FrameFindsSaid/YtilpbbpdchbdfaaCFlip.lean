
/- Wrong bits: what a bit that is turned does to the syndrome; bursts; parity. -/
import Derived.Test.YtilpbbpdchbdfaaCLinear
import Derived.Test.YtilpbbpdchbdfaaCProt
namespace Go.Proofs.Ytilpbbpdchbdfaa.Cr
open Go.RowKit
set_option maxRecDepth 100000
open Crc

/-- The residue of a string. -/
def V (s : Nat) (l : List UInt8) : Nat := l.foldl (fun s c => Ti 8 s ^^^ c.toNat) s
theorem V_cons (s : Nat) (c : UInt8) (l : List UInt8) : V s (c :: l) = V (Ti 8 s ^^^ c.toNat) l := rfl
theorem V_append (s : Nat) (a b : List UInt8) : V s (a ++ b) = V (V s a) b := List.foldl_append
theorem V_add (s t : Nat) (l : List UInt8) : V (s ^^^ t) l = V s l ^^^ Ti (8 * l.length) t := by
  induction l generalizing s t with
  | nil => rfl
  | cons c l ih =>
    rw [V_cons, V_cons, Ti_xor, Nat.xor_assoc, Nat.xor_comm (Ti 8 t), ← Nat.xor_assoc, ih, ← Ti_add]
    rfl
theorem byte_T (c : UInt8) : Ti 8 c.toNat = c.toNat * 256 := by
  have h := R_shift (a := c.toNat) (by have := c.toNat_lt; omega) 8 (by omega)
  rw [← h, R_small (by have := c.toNat_lt; omega)]
theorem U_V (s : Nat) (l : List UInt8) : U (Ti 16 s) l = Ti 16 (V s l) := by
  induction l generalizing s with
  | nil => rfl
  | cons c l ih =>
    rw [U_cons, V_cons, ← ih]
    congr 1
    rw [Ti_xor, ← byte_T, ← Ti_add, Ti_xor, ← Ti_add, ← Ti_add]
theorem syn_V (d : ByteArray) (h : 2 ≤ d.size) : syn d = V 0 d.data.toList := by
  obtain ⟨n, hn⟩ : ∃ n, n + 2 = d.size := ⟨d.size - 2, by omega⟩
  rw [syn_eq d n hn, split2 d n hn, V_append]
  have h0 : U 0 (d.data.toList.take n) = Ti 16 (V 0 (d.data.toList.take n)) := by rw [← U_V, Ti_zero]
  have hl : n = (d.data.toList.take n).length := by
    rw [List.length_take, Array.length_toList]
    have : d.data.size = d.size := rfl
    omega
  have ht : (List.take n d.data.toList ++ [d.data.toList.getD n 0, d.data.toList.getD (n + 1) 0]).take n = List.take n d.data.toList := by
    exact List.take_left' hl.symm
  have hg : ∀ (a : List UInt8) (x y : UInt8), n = a.length → (a ++ [x, y]).getD n 0 = x ∧ (a ++ [x, y]).getD (n + 1) 0 = y := by
    intro a x y h; subst h; simp [List.getD_eq_getElem?_getD]
  rw [ht, (hg _ _ _ hl).1, (hg _ _ _ hl).2, h0]
  rw [V_cons, V_cons, Ti_xor, byte_T, ← Ti_add]
  show _ = (_ ^^^ _) ^^^ _
  rw [Nat.xor_assoc, join_val _ _ (UInt8.toNat_lt _)]

theorem V_set (s : Nat) (l : List UInt8) (j : Nat) (hj : j < l.length) (c : UInt8) : V s (l.set j (l.getD j 0 ^^^ c)) = V s l ^^^ Ti (8 * (l.length - 1 - j)) c.toNat := by
  induction l generalizing s j with
  | nil => exact absurd hj (by simp)
  | cons x l ih =>
    cases j with
    | zero =>
      show V s ((x ^^^ c) :: l) = _
      rw [V_cons, V_cons, UInt8.toNat_xor, ← Nat.xor_assoc, V_add]
      rfl
    | succ j =>
      show V s (x :: l.set j (l.getD j 0 ^^^ c)) = _
      rw [V_cons, V_cons, ih _ j (by simpa using hj)]
      congr 3
      simp; omega

/-- The string with bit i turned, counted from the last one. -/
def flipL (l : List UInt8) (i : Nat) : List UInt8 := l.set (l.length - 1 - i / 8) (l.getD (l.length - 1 - i / 8) 0 ^^^ UInt8.ofNat (2 ^ (i % 8)))
theorem flipL_length (l : List UInt8) (i : Nat) : (flipL l i).length = l.length := List.length_set ..
theorem two_byte (i : Nat) (h : i < 8) : (UInt8.ofNat (2 ^ i)).toNat = X i := by
  rw [X_low i (by omega)]
  exact UInt8.toNat_ofNat_of_lt' (Nat.lt_of_lt_of_le (Nat.pow_lt_pow_right (by decide) h) (by decide))
theorem V_flip (s : Nat) (l : List UInt8) (i : Nat) (hi : i < 8 * l.length) : V s (flipL l i) = V s l ^^^ X i := by
  unfold flipL
  rw [V_set s l _ (by omega), two_byte _ (Nat.mod_lt _ (by decide))]
  congr 1
  rw [show l.length - 1 - (l.length - 1 - i / 8) = i / 8 by omega]
  show Ti _ (Ti _ 1) = Ti i 1
  rw [← Ti_add]; congr 1; omega
def flipB (d : ByteArray) (i : Nat) : ByteArray := ⟨(flipL d.data.toList i).toArray⟩
theorem flipB_size (d : ByteArray) (i : Nat) : (flipB d i).size = d.size := by
  show (flipL d.data.toList i).toArray.size = d.data.size
  rw [List.size_toArray, flipL_length, Array.length_toList]
theorem syn_flip (d : ByteArray) (h : 2 ≤ d.size) (i : Nat) (hi : i < 8 * d.size) : syn (flipB d i) = syn d ^^^ X i := by
  rw [syn_V _ (by rw [flipB_size]; exact h), syn_V _ h]
  exact V_flip 0 d.data.toList i (by rw [Array.length_toList]; exact hi)

/- A burst. -/
def hit (b i n k : Nat) : Bool := decide (b / 2 ^ k % 2 = 1) && decide (i + k < n)
def bw (p : ByteArray) (b i n : Nat) : Nat → ByteArray
  | 0 => p
  | k + 1 => if hit b i n k = true then flipB (bw p b i n k) (i + k) else bw p b i n k
def mk (b i n : Nat) : Nat → Nat
  | 0 => 0
  | k + 1 => if hit b i n k = true then mk b i n k ^^^ 2 ^ k else mk b i n k
theorem mk_lt (b i n k : Nat) : mk b i n k < 2 ^ k := by
  induction k with
  | zero => exact Nat.one_pos
  | succ k ih =>
    unfold mk
    have h1 : mk b i n k < 2 ^ (k + 1) := Nat.lt_of_lt_of_le ih (Nat.pow_le_pow_right (by decide) (by omega))
    split
    · exact Nat.xor_lt_two_pow h1 (Nat.pow_lt_pow_right (by decide) (by omega))
    · exact h1
theorem bw_size (p : ByteArray) (b i n k : Nat) : (bw p b i n k).size = p.size := by
  induction k with
  | zero => rfl
  | succ k ih => unfold bw; split; rw [flipB_size, ih]; exact ih
theorem syn_bw (p : ByteArray) (h2 : 2 ≤ p.size) (h0 : syn p = 0) (b i n : Nat) (hn : n = 8 * p.size) (k : Nat) (hk : k ≤ 16) : syn (bw p b i n k) = Ti i (mk b i n k) := by
  induction k with
  | zero => show syn p = Ti i 0; rw [h0, Ti_zero]
  | succ k ih =>
    unfold bw mk
    split
    case isTrue h =>
      unfold hit at h
      simp only [Bool.and_eq_true, decide_eq_true_eq] at h
      rw [syn_flip _ (by rw [bw_size]; exact h2) _ (by rw [bw_size]; omega), ih (by omega), Ti_xor, ← X_low k (by omega)]
      congr 1
      exact Ti_add i k 1
    case isFalse h => exact ih (by omega)
theorem bw_none (p : ByteArray) (b i n k : Nat) (h : mk b i n k = 0) : bw p b i n k = p := by
  induction k with
  | zero => rfl
  | succ k ih =>
    unfold mk at h
    unfold bw
    split at h
    case isTrue hh =>
      exfalso
      have h1 := (xor_zero_iff _ _).1 h
      have h2 := mk_lt b i n k
      omega
    case isFalse hh => rw [if_neg hh]; exact ih h
theorem burst (p : ByteArray) (h2 : 2 ≤ p.size) (h0 : syn p = 0) (b i n : Nat) (hn : n = 8 * p.size) : syn (bw p b i n 16) = 0 ↔ bw p b i n 16 = p := by
  constructor
  · intro h
    rw [syn_bw p h2 h0 b i n hn 16 (by omega)] at h
    have hm := mk_lt b i n 16
    apply bw_none
    exact Classical.byContradiction fun h3 => Ti_ne_zero hm h3 i h
  · intro h; rw [h]; exact h0

/- Parity. -/
def par (a : Nat) : Nat := lin (fun _ => 1) 16 a
theorem par_xor (a b : Nat) : par (a ^^^ b) = par a ^^^ par b := lin_xor _ _ _ _
theorem par_T {a : Nat} (h : a < 65536) : par (T a) = par a := by
  have := additive (fun a => par (T a)) (by decide) (fun a b => by rw [T_xor, par_xor]) (n := 16) h
  rw [this]
  exact lin_congr (f := fun i => par (T (2 ^ i))) (g := fun _ => 1) (by decide) a
theorem par_X (i : Nat) : par (X i) = 1 := by
  induction i with
  | zero => decide
  | succ i ih => rw [X_succ, par_T (X_lt i), ih]
/-- The sum of the bits at the places of a list. -/
def xs : List Nat → Nat
  | [] => 0
  | k :: l => xs l ^^^ X k
theorem par_xs (l : List Nat) : par (xs l) = l.length % 2 := by
  induction l with
  | nil => decide
  | cons k l ih =>
    show par (xs l ^^^ X k) = _
    rw [par_xor, ih, par_X, List.length_cons]
    rcases Nat.mod_two_eq_zero_or_one l.length with h | h <;> rw [h]
    · rw [Nat.add_mod, h]; rfl
    · rw [Nat.add_mod, h]; rfl
theorem xs_ne {l : List Nat} (hd : l.Nodup) (hl : ∀ k ∈ l, k < 32767) (h : l.length = 2 ∨ l.length % 2 = 1) : xs l ≠ 0 := by
  rcases h with h | h
  · match l, h with
    | [a, b], _ =>
      intro h0
      have h1 : (0 ^^^ X b) ^^^ X a = 0 := h0
      rw [Nat.zero_xor] at h1
      have h2 := X_inj (hl b (by simp)) (hl a (by simp)) ((xor_zero_iff _ _).1 h1)
      subst h2
      exact absurd hd (by simp)
  · intro h0
    have := par_xs l
    rw [h0, h] at this
    exact absurd this (by decide)
end Go.Proofs.Ytilpbbpdchbdfaa.Cr
