
/- Plain facts: bits that were written are read. -/
import Derived.Test.YtilpbbpdchbdfaaBReader3
namespace Go.Proofs.Ytilpbbpdchbdfaa.Bit
open Go.RowKit
set_option maxRecDepth 100000

theorem byteAt_bit {bs : List Nat} (h : Bits bs) (q r : Nat) (hr : r < 8) : byteAt bs q / 2 ^ (7 - r) % 2 = bs.getD (8 * q + r) 0 := by
  have h0 := h.getD (8 * q); have h1 := h.getD (8 * q + 1); have h2 := h.getD (8 * q + 2); have h3 := h.getD (8 * q + 3)
  have h4 := h.getD (8 * q + 4); have h5 := h.getD (8 * q + 5); have h6 := h.getD (8 * q + 6); have h7 := h.getD (8 * q + 7)
  unfold byteAt
  match r, hr with
  | 0, _ => show _ / 128 % 2 = bs.getD (8 * q) 0; omega
  | 1, _ => show _ / 64 % 2 = _; omega
  | 2, _ => show _ / 32 % 2 = _; omega
  | 3, _ => show _ / 16 % 2 = _; omega
  | 4, _ => show _ / 8 % 2 = _; omega
  | 5, _ => show _ / 4 % 2 = _; omega
  | 6, _ => show _ / 2 % 2 = _; omega
  | 7, _ => show _ / 1 % 2 = _; omega

theorem sbit_strB {bs : List Nat} (h : Bits bs) (i : Nat) (hi : i < 8 * nby bs.length) : sbit (strB (pack bs)) i = bs.getD i 0 := by
  have hq : i / 8 < nby bs.length := by omega
  have e : ((strB (pack bs)).data.toList.getD (i / 8) 0).toNat = byteAt bs (i / 8) := by
    have : (strB (pack bs)).data.toList = (pack bs).map UInt8.ofNat := by simp [strB]
    rw [this, List.getD_eq_getElem?_getD, List.getElem?_map, pack_get _ _ hq]
    simp only [Option.map_some, Option.getD_some]
    have := byteAt_lt h (i / 8)
    simp; omega
  unfold sbit
  rw [e, byteAt_bit h _ _ (Nat.mod_lt _ (by omega)), show 8 * (i / 8) + i % 8 = i by omega]

theorem sbits_strB {bs : List Nat} (h : Bits bs) (k n : Nat) (hk : k + n ≤ bs.length) : sbits (strB (pack bs)) k n = (bs.drop k).take n := by
  apply List.ext_getElem?
  intro i
  by_cases hi : i < n
  · rw [List.getElem?_take, if_pos hi, List.getElem?_drop]
    simp only [sbits, List.getElem?_map, List.getElem?_range hi, Option.map_some]
    rw [sbit_strB h _ (by unfold nby; omega), List.getD_eq_getElem?_getD, List.getElem?_eq_getElem (show k + i < bs.length by omega)]; rfl
  · rw [List.getElem?_eq_none (by rw [sbits_length]; omega), List.getElem?_eq_none (by simp; omega)]

theorem fold_acc : ∀ (l : List Nat) (a : Nat), l.foldl (fun n b => 2 * n + b) a = a * 2 ^ l.length + val l
  | [], a => by simp [val]
  | b :: l, a => by
    have e : val (b :: l) = b * 2 ^ l.length + val l := by
      have := fold_acc l b
      simpa [val] using this
    rw [List.foldl_cons, fold_acc l (2 * a + b), e, List.length_cons, Nat.pow_succ, Nat.add_mul, Nat.mul_comm 2 a, Nat.mul_assoc, Nat.mul_comm 2 (2 ^ l.length), Nat.add_assoc]
theorem val_cons (b : Nat) (l : List Nat) : val (b :: l) = b * 2 ^ l.length + val l := by
  have := fold_acc l b
  simpa [val] using this

theorem enc_cons (k : Nat) (x : Int) : enc (k + 1) x = bat x k :: enc k x := by
  unfold enc
  rw [List.range_succ_eq_map, List.map_cons, List.map_map]
  congr 1
  apply List.map_congr_left
  intro i hi
  simp only [Function.comp]
  congr 1; omega

theorem emod_split (x : Int) (k : Nat) : x % 2 ^ (k + 1) = x / 2 ^ k % 2 * 2 ^ k + x % 2 ^ k := by
  have hp : (0 : Int) < 2 ^ k := Int.pow_pos (by omega)
  rw [Int.pow_succ]
  generalize (2 : Int) ^ k = F at *
  have h1 := Int.mul_ediv_add_emod x F
  have h2 := Int.mul_ediv_add_emod (x / F) 2
  have h3 := Int.emod_nonneg x (show F ≠ 0 by omega)
  have h4 := Int.emod_lt_of_pos x hp
  have h5 : 0 ≤ x / F % 2 ∧ x / F % 2 < 2 := by omega
  have e : x = F * 2 * (x / F / 2) + (x / F % 2 * F + x % F) := by
    have e1 : x / F = 2 * (x / F / 2) + x / F % 2 := by omega
    have e2 : F * (x / F) = F * 2 * (x / F / 2) + x / F % 2 * F := by
      conv => lhs; rw [e1]
      rw [Int.mul_add, ← Int.mul_assoc, Int.mul_comm F (x / F % 2)]
    omega
  have hb : 0 ≤ x / F % 2 * F + x % F ∧ x / F % 2 * F + x % F < F * 2 := by
    rcases (show x / F % 2 = 0 ∨ x / F % 2 = 1 by omega) with h | h <;> rw [h] <;> constructor <;> omega
  generalize x / F % 2 * F + x % F = r at *
  rw [e, Int.add_comm, Int.add_mul_emod_self_left]
  exact Int.emod_eq_of_lt hb.1 hb.2

theorem val_enc (k : Nat) (x : Int) : (val (enc k x) : Int) = x % 2 ^ k := by
  induction k with
  | zero => simp [enc, val]
  | succ k ih =>
    rw [enc_cons, val_cons, enc_length, emod_split]
    have hb : ((bat x k : Nat) : Int) = x / 2 ^ k % 2 := by unfold bat; omega
    rw [← ih, ← hb]
    simp

theorem enc_mod (k : Nat) (x y : Int) (h : x % 2 ^ k = y % 2 ^ k) : enc k x = enc k y := by
  induction k with
  | zero => rfl
  | succ k ih =>
    have hp : (0 : Int) < 2 ^ k := Int.pow_pos (by omega)
    rw [emod_split, emod_split] at h
    have a1 := Int.emod_nonneg x (show (2 : Int) ^ k ≠ 0 by omega)
    have a2 := Int.emod_lt_of_pos x hp
    have b1 := Int.emod_nonneg y (show (2 : Int) ^ k ≠ 0 by omega)
    have b2 := Int.emod_lt_of_pos y hp
    have hx : x / 2 ^ k % 2 = y / 2 ^ k % 2 ∧ x % 2 ^ k = y % 2 ^ k := by
      generalize (2 : Int) ^ k = F at *
      rcases (show x / F % 2 = 0 ∨ x / F % 2 = 1 by omega) with h1 | h1 <;> rcases (show y / F % 2 = 0 ∨ y / F % 2 = 1 by omega) with h2 | h2 <;> rw [h1, h2] at h ⊢ <;> omega
    rw [enc_cons, enc_cons, ih hx.2]
    congr 1
    unfold bat; rw [hx.1]

theorem sgn_enc (k : Nat) (x : Int) (hk : 1 ≤ k) (h1 : -2 ^ (k - 1) ≤ x) (h2 : x < 2 ^ (k - 1)) : sgn k (val (enc k x)) = x := by
  have hv := val_enc k x
  obtain ⟨j, rfl⟩ : ∃ j, k = j + 1 := ⟨k - 1, by omega⟩
  rw [Nat.add_sub_cancel] at h1 h2
  have hp : (0 : Int) < 2 ^ j := Int.pow_pos (by omega)
  have ec : ((2 : Int) ^ j) = ((2 ^ j : Nat) : Int) := by simp
  unfold sgn
  rw [Nat.add_sub_cancel]
  rw [Int.pow_succ] at hv ⊢
  generalize val (enc (j + 1) x) = v at *
  rw [ec] at h1 h2 hv hp ⊢
  clear ec
  generalize 2 ^ j = F at *
  by_cases hx : 0 ≤ x
  · have : x % ((F : Int) * 2) = x := Int.emod_eq_of_lt hx (by omega)
    rw [if_pos (by omega)]; omega
  · have : x % ((F : Int) * 2) = x + F * 2 := by
      rw [← Int.add_emod_right]; exact Int.emod_eq_of_lt (by omega) (by omega)
    rw [if_neg (by omega)]; omega
end Go.Proofs.Ytilpbbpdchbdfaa.Bit
