
/- Plain facts on reading: the bits of a string, the number that bits stand for. -/
import Derived.Test.YtilpbbpdchbdfaaBPlain
import Derived.Laws.Entries
import Derived.IntWalk
import Derived.RowKit
namespace Go.Proofs.Ytilpbbpdchbdfaa.Bit
open Go.RowKit

/-- Bit k of a string. -/
def sbit (s : ByteArray) (k : Nat) : Nat := (s.data.toList.getD (k / 8) 0).toNat / 2 ^ (7 - k % 8) % 2
def val (l : List Nat) : Nat := l.foldl (fun n b => 2 * n + b) 0
/-- n bits of a string from bit k on. -/
def sbits (s : ByteArray) (k n : Nat) : List Nat := (List.range n).map fun i => sbit s (k + i)

theorem sbit_le (s : ByteArray) (k : Nat) : sbit s k ≤ 1 := by unfold sbit; omega
theorem sbits_length (s : ByteArray) (k n : Nat) : (sbits s k n).length = n := by simp [sbits]
theorem sbits_Bits (s : ByteArray) (k n : Nat) : Bits (sbits s k n) := by
  intro b hb
  simp only [sbits, List.mem_map] at hb
  obtain ⟨i, _, rfl⟩ := hb
  exact sbit_le _ _
theorem sbits_succ (s : ByteArray) (k n : Nat) : sbits s k (n + 1) = sbits s k n ++ [sbit s (k + n)] := by simp [sbits, List.range_succ]
theorem sbits_append (s : ByteArray) (k n m : Nat) : sbits s k (n + m) = sbits s k n ++ sbits s (k + n) m := by
  induction m with
  | zero => simp [sbits]
  | succ m ih => rw [← Nat.add_assoc, sbits_succ, ih, sbits_succ, List.append_assoc, Nat.add_assoc]
theorem val_snoc (l : List Nat) (b : Nat) : val (l ++ [b]) = 2 * val l + b := by simp [val]
theorem val_sbits_succ (s : ByteArray) (k n : Nat) : val (sbits s k (n + 1)) = 2 * val (sbits s k n) + sbit s (k + n) := by rw [sbits_succ, val_snoc]
theorem fold_lt : ∀ (l : List Nat) (a : Nat), Bits l → l.foldl (fun n b => 2 * n + b) a < (a + 1) * 2 ^ l.length
  | [], a, _ => by simp
  | b :: l, a, h => by
    have hb := h b (by simp)
    have ih := fold_lt l (2 * a + b) (fun x hx => h x (by simp [hx]))
    rw [List.foldl_cons, List.length_cons, Nat.pow_succ]
    refine Nat.lt_of_lt_of_le ih ?_
    rw [Nat.mul_comm (2 ^ l.length) 2, ← Nat.mul_assoc]
    exact Nat.mul_le_mul_right _ (by omega)
theorem val_lt {l : List Nat} (h : Bits l) : val l < 2 ^ l.length := by
  have := fold_lt l 0 h
  simpa [val] using this
theorem val_sbits_lt (s : ByteArray) (k n : Nat) : val (sbits s k n) < 2 ^ n := by
  have := val_lt (sbits_Bits s k n); rwa [sbits_length] at this

theorem ofInt_i64 (a : Nat) (ha : a < 9223372036854775808) : (BitVec.ofInt 64 (a : Int)).toNat = a := by
  rw [BitVec.ofInt_natCast, BitVec.toNat_ofNat]; exact Nat.mod_eq_of_lt (by omega)
/-- 'n<<1 | b' on ints. -/
theorem or_step (n b : Nat) (hn : n < 4611686018427387904) (hb : b ≤ 1) : bits .or .i64 (2 * (n : Int)) (b : Int) = ((2 * n + b : Nat) : Int) := by
  have e : (2 * (n : Int)) = ((2 * n : Nat) : Int) := by simp
  rw [e]
  show IntKind.i64.wrap ((BitVec.ofInt 64 ((2 * n : Nat) : Int) ||| BitVec.ofInt 64 (b : Int)).toNat : Int) = _
  rw [BitVec.toNat_or, ofInt_i64 _ (by omega), ofInt_i64 _ (by omega), nat_join 1 (2 * n) b (by omega) (by omega)]
  simp [IntKind.wrap, IntKind.bits, IntKind.signed]
  omega
/-- The bit of a byte. -/
theorem and_bit (c : Nat) (r : Nat) (hc : c < 256) : bits .and .u8 ((c : Int) / 2 ^ (7 - r)) 1 = ((c / 2 ^ (7 - r) % 2 : Nat) : Int) := by
  have e : ((c : Int) / 2 ^ (7 - r)) = ((c / 2 ^ (7 - r) : Nat) : Int) := by simp
  have : c / 2 ^ (7 - r) ≤ c := Nat.div_le_self _ _
  rw [e, show (1 : Int) = ((1 : Nat) : Int) from rfl, u8_and_nat _ _ (by omega) (by omega), nat_mask1]
theorem take_val (s : ByteArray) (v q : Nat) (hv : v < 4611686018427387904) (h : q / 8 < s.size) :
    bits .or .i64 ((v : Int) * 2) (wrap64 (bits .and .u8 (((s[q / 8]'h).toNat : Int) / 2 ^ (7 - q % 8)) 1)) = ((2 * v + sbit s q : Nat) : Int) := by
  have e : (s[q / 8]'h).toNat / 2 ^ (7 - q % 8) % 2 = sbit s q := by
    unfold sbit
    have : s.data.toList.getD (q / 8) 0 = s[q / 8]'h := by
      rw [List.getD_eq_getElem?_getD, List.getElem?_eq_getElem (by simpa using h)]; rfl
    rw [this]
  rw [and_bit _ _ (by have := (s[q / 8]'h).toNat_lt; omega), e]
  have hb := sbit_le s q
  rw [IntWalk.wrap64_in _ (by omega), Int.mul_comm, or_step v _ hv hb]
end Go.Proofs.Ytilpbbpdchbdfaa.Bit
