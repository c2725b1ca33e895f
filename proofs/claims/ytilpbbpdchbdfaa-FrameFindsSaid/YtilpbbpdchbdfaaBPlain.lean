
/- Plain facts on bit strings: the bits of numbers, the bytes of bits, and bits read back. No program is named here. -/
import Derived.Laws.BitsAllLaws
namespace Go.Proofs.Ytilpbbpdchbdfaa.Bit

/-- Bit j of an integer (two's complement without end). -/
def bat (n : Int) (j : Nat) : Nat := (n / 2 ^ j % 2).toNat
/-- The bits of the width wd, the highest first. -/
def enc (wd : Nat) (n : Int) : List Nat := (List.range wd).map fun i => bat n (wd - 1 - i)
def nby (n : Nat) : Nat := (n + 7) / 8
def byteAt (bs : List Nat) (i : Nat) : Nat :=
  bs.getD (8 * i) 0 * 128 + bs.getD (8 * i + 1) 0 * 64 + bs.getD (8 * i + 2) 0 * 32 + bs.getD (8 * i + 3) 0 * 16 + bs.getD (8 * i + 4) 0 * 8 + bs.getD (8 * i + 5) 0 * 4 + bs.getD (8 * i + 6) 0 * 2 + bs.getD (8 * i + 7) 0
def pack (bs : List Nat) : List Nat := (List.range (nby bs.length)).map (byteAt bs)
def Bits (bs : List Nat) : Prop := ∀ b ∈ bs, b ≤ 1

theorem bat_le (n : Int) (j : Nat) : bat n j ≤ 1 := by unfold bat; omega
theorem enc_length (wd : Nat) (n : Int) : (enc wd n).length = wd := by simp [enc]
theorem enc_bits (wd : Nat) (n : Int) : Bits (enc wd n) := by
  intro b hb
  simp only [enc, List.mem_map] at hb
  obtain ⟨i, _, rfl⟩ := hb
  exact bat_le _ _
theorem Bits.append {a b : List Nat} (ha : Bits a) (hb : Bits b) : Bits (a ++ b) := by
  intro x hx
  rcases List.mem_append.1 hx with h | h
  · exact ha x h
  · exact hb x h
theorem Bits.take {a : List Nat} (ha : Bits a) (k : Nat) : Bits (a.take k) := fun x hx => ha x (List.mem_of_mem_take hx)
theorem Bits.nil : Bits [] := by intro b hb; cases hb
theorem Bits.getD {bs : List Nat} (h : Bits bs) (i : Nat) : bs.getD i 0 ≤ 1 := by
  rw [List.getD_eq_getElem?_getD]
  by_cases hi : i < bs.length
  · simp [hi]; exact h _ (List.getElem_mem hi)
  · simp [hi]
theorem getD_snoc (bs : List Nat) (b i : Nat) : (bs ++ [b]).getD i 0 = bs.getD i 0 + if i = bs.length then b else 0 := by
  simp only [List.getD_eq_getElem?_getD]
  by_cases hi : i < bs.length
  · simp [List.getElem?_append_left hi, show i ≠ bs.length by omega]
  · by_cases h2 : i = bs.length
    · subst h2; simp
    · rw [List.getElem?_append_right (by omega)]
      simp [show i ≠ bs.length by omega, show bs[i]? = none by simp; omega]
      have : i - bs.length ≥ 1 := by omega
      rw [List.getElem?_eq_none (by simpa using this)]; rfl
theorem getD_far (bs : List Nat) (i : Nat) (h : bs.length ≤ i) : bs.getD i 0 = 0 := by
  rw [List.getD_eq_getElem?_getD, List.getElem?_eq_none h]; rfl

theorem byteAt_snoc (bs : List Nat) (b i : Nat) : byteAt (bs ++ [b]) i = byteAt bs i + if i = bs.length / 8 then b * 2 ^ (7 - bs.length % 8) else 0 := by
  unfold byteAt
  simp only [getD_snoc]
  by_cases h : i = bs.length / 8
  · rw [if_pos h]
    have hn : bs.length = 8 * i + bs.length % 8 := by omega
    have hr : bs.length % 8 < 8 := Nat.mod_lt _ (by omega)
    generalize bs.length % 8 = r at *
    rw [hn]
    match r, hr with
    | 0, _ => simp; omega
    | 1, _ => simp; omega
    | 2, _ => simp; omega
    | 3, _ => simp; omega
    | 4, _ => simp; omega
    | 5, _ => simp; omega
    | 6, _ => simp; omega
    | 7, _ => simp; omega
  · rw [if_neg h, if_neg (by omega), if_neg (by omega), if_neg (by omega), if_neg (by omega), if_neg (by omega), if_neg (by omega), if_neg (by omega), if_neg (by omega)]
    simp

theorem byteAt_low (bs : List Nat) : byteAt bs (bs.length / 8) % 2 ^ (8 - bs.length % 8) = 0 := by
  have hr : bs.length % 8 < 8 := Nat.mod_lt _ (by omega)
  have hn : bs.length = 8 * (bs.length / 8) + bs.length % 8 := by omega
  generalize hq : bs.length / 8 = q at *
  generalize hrr : bs.length % 8 = r at *
  unfold byteAt
  match r, hr with
  | 0, _ => rw [getD_far _ _ (by omega), getD_far _ _ (by omega), getD_far _ _ (by omega), getD_far _ _ (by omega), getD_far _ _ (by omega), getD_far _ _ (by omega), getD_far _ _ (by omega), getD_far _ _ (by omega)]
  | 1, _ => rw [getD_far _ (8 * q + 1) (by omega), getD_far _ (8 * q + 2) (by omega), getD_far _ (8 * q + 3) (by omega), getD_far _ (8 * q + 4) (by omega), getD_far _ (8 * q + 5) (by omega), getD_far _ (8 * q + 6) (by omega), getD_far _ (8 * q + 7) (by omega)]; omega
  | 2, _ => rw [getD_far _ (8 * q + 2) (by omega), getD_far _ (8 * q + 3) (by omega), getD_far _ (8 * q + 4) (by omega), getD_far _ (8 * q + 5) (by omega), getD_far _ (8 * q + 6) (by omega), getD_far _ (8 * q + 7) (by omega)]; omega
  | 3, _ => rw [getD_far _ (8 * q + 3) (by omega), getD_far _ (8 * q + 4) (by omega), getD_far _ (8 * q + 5) (by omega), getD_far _ (8 * q + 6) (by omega), getD_far _ (8 * q + 7) (by omega)]; omega
  | 4, _ => rw [getD_far _ (8 * q + 4) (by omega), getD_far _ (8 * q + 5) (by omega), getD_far _ (8 * q + 6) (by omega), getD_far _ (8 * q + 7) (by omega)]; omega
  | 5, _ => rw [getD_far _ (8 * q + 5) (by omega), getD_far _ (8 * q + 6) (by omega), getD_far _ (8 * q + 7) (by omega)]; omega
  | 6, _ => rw [getD_far _ (8 * q + 6) (by omega), getD_far _ (8 * q + 7) (by omega)]; omega
  | 7, _ => rw [getD_far _ (8 * q + 7) (by omega)]; omega

theorem byteAt_lt {bs : List Nat} (h : Bits bs) (i : Nat) : byteAt bs i < 256 := by
  have h0 := h.getD (8 * i); have h1 := h.getD (8 * i + 1); have h2 := h.getD (8 * i + 2); have h3 := h.getD (8 * i + 3)
  have h4 := h.getD (8 * i + 4); have h5 := h.getD (8 * i + 5); have h6 := h.getD (8 * i + 6); have h7 := h.getD (8 * i + 7)
  unfold byteAt; omega

theorem pack_length (bs : List Nat) : (pack bs).length = nby bs.length := by simp [pack]
theorem pack_get (bs : List Nat) (i : Nat) (h : i < nby bs.length) : (pack bs)[i]? = some (byteAt bs i) := by simp [pack, h]

/-- A bit behind whole bytes: a byte more, 0, into which the bit is written. -/
theorem pack_new (bs : List Nat) (b : Nat) (h : bs.length % 8 = 0) : pack (bs ++ [b]) = (pack bs ++ [0]).set (bs.length / 8) (b * 2 ^ (7 - bs.length % 8)) := by
  have e1 : nby (bs ++ [b]).length = nby bs.length + 1 := by simp [nby]; omega
  have e2 : nby bs.length = bs.length / 8 := by unfold nby; omega
  apply List.ext_getElem?
  intro i
  by_cases hi : i < nby bs.length + 1
  · rw [pack_get _ _ (by omega), byteAt_snoc]
    by_cases hl : i = bs.length / 8
    · subst hl
      rw [List.getElem?_set_self (by simp [pack_length]; omega), if_pos rfl]
      have : byteAt bs (bs.length / 8) = 0 := by
        have := byteAt_low bs
        unfold byteAt
        rw [getD_far _ _ (by omega), getD_far _ _ (by omega), getD_far _ _ (by omega), getD_far _ _ (by omega), getD_far _ _ (by omega), getD_far _ _ (by omega), getD_far _ _ (by omega), getD_far _ _ (by omega)]
      rw [this]; simp
    · rw [List.getElem?_set_ne (by omega), if_neg hl, List.getElem?_append_left (by rw [pack_length]; omega), pack_get _ _ (by omega)]; simp
  · rw [List.getElem?_eq_none (by rw [pack_length]; omega), List.getElem?_eq_none (by simp [pack_length]; omega)]

/-- A bit within a byte that is begun. -/
theorem pack_more (bs : List Nat) (b : Nat) (h : bs.length % 8 ≠ 0) : pack (bs ++ [b]) = (pack bs).set (bs.length / 8) (byteAt bs (bs.length / 8) + b * 2 ^ (7 - bs.length % 8)) := by
  have e1 : nby (bs ++ [b]).length = nby bs.length := by simp [nby]; omega
  have e2 : bs.length / 8 < nby bs.length := by unfold nby; omega
  apply List.ext_getElem?
  intro i
  by_cases hi : i < nby bs.length
  · rw [pack_get _ _ (by omega), byteAt_snoc]
    by_cases hl : i = bs.length / 8
    · subst hl
      rw [List.getElem?_set_self (by rw [pack_length]; omega), if_pos rfl]
    · rw [List.getElem?_set_ne (by omega), if_neg hl, pack_get _ _ (by omega)]; simp
  · rw [List.getElem?_eq_none (by rw [pack_length]; omega), List.getElem?_eq_none (by simp [pack_length]; omega)]

/-- What the program computes for the byte. -/
theorem or_bit (c : Nat) (y : Int) (r : Nat) (hr : r < 8) (hc : c < 256) (hl : c % 2 ^ (8 - r) = 0) :
    bits .or .u8 (c : Int) (bits .and .u8 (y % 256) 1 * 2 ^ (7 - r) % 256) = ((c + (y % 2).toNat * 2 ^ (7 - r) : Nat) : Int) := by
  have e1 : bits .and .u8 (y % 256) 1 = ((y % 2).toNat : Int) := by
    rw [u8_and _ _ (by omega) (by omega) (by omega) (by omega)]
    rw [show (1 : Int).toNat = 1 from rfl, nat_mask1]
    omega
  rw [e1]
  have hb : (y % 2).toNat ≤ 1 := by omega
  generalize (y % 2).toNat = b at hb
  have e2 : ((b : Int) * 2 ^ (7 - r) % 256) = ((b * 2 ^ (7 - r) : Nat) : Int) := by
    have h2 : (2 : Nat) ^ (7 - r) ≤ 128 := by
      have := Nat.pow_le_pow_right (show 0 < 2 by omega) (show 7 - r ≤ 7 by omega); simpa using this
    have h3 : b * 2 ^ (7 - r) < 256 := by
      rcases (show b = 0 ∨ b = 1 by omega) with rfl | rfl <;> omega
    have h4 : ((b : Int) * 2 ^ (7 - r)) = ((b * 2 ^ (7 - r) : Nat) : Int) := by simp
    rw [h4]
    exact Int.emod_eq_of_lt (by omega) (by omega)
  rw [e2]
  have h2 : b * 2 ^ (7 - r) < 2 ^ (8 - r) := by
    rw [show 8 - r = (7 - r) + 1 by omega, Nat.pow_succ]
    have : 0 < 2 ^ (7 - r) := Nat.pow_pos (by omega)
    rcases (show b = 0 ∨ b = 1 by omega) with rfl | rfl <;> omega
  have h3 : (2 : Nat) ^ (8 - r) ≤ 256 := by
    have := Nat.pow_le_pow_right (show 0 < 2 by omega) (show 8 - r ≤ 8 by omega); simpa using this
  rw [u8_or_nat _ _ hc (by omega), nat_join (8 - r) _ _ hl h2]

theorem enc_snoc (wd j : Nat) (n : Int) (h : j < wd) : (enc wd n).take (j + 1) = (enc wd n).take j ++ [bat n (wd - 1 - j)] := by
  rw [List.take_succ_eq_append_getElem (by rw [enc_length]; exact h)]
  simp [enc]
end Go.Proofs.Ytilpbbpdchbdfaa.Bit
