
/- The calls of package crc and of the reference that only compute: times x, remainders, products, powers. -/
import Derived.Test.YtilpbbpdchbdfaaCPlain
import Derived.Test.YtilpbbpdchbdfaaRows
import Derived.WalkKit
import Derived.WalkLawsBesides
import Derived.WalkSpells
import Derived.BigRegion
import Derived.BigQuiet
import Derived.Deep.QuietTactic
import Derived.Outline
import Derived.Handy
import Derived.Lib.Hide
namespace Go.Proofs.Ytilpbbpdchbdfaa.Cr
open Go.RowKit
open Crc

theorem bits_xor_u16 (a b : Nat) (ha : a < 65536) (hb : b < 65536) : bits .xor .u16 (a : Int) (b : Int) = ((a ^^^ b : Nat) : Int) := by
  have hx : a ^^^ b < 65536 := xor_lt ha hb
  have h1 : (BitVec.ofInt 16 (a : Int)).toNat = a := by
    rw [BitVec.ofInt_natCast, BitVec.toNat_ofNat]; exact Nat.mod_eq_of_lt (by omega)
  have h2 : (BitVec.ofInt 16 (b : Int)).toNat = b := by
    rw [BitVec.ofInt_natCast, BitVec.toNat_ofNat]; exact Nat.mod_eq_of_lt (by omega)
  show IntKind.u16.wrap ((BitVec.ofInt 16 (a : Int) ^^^ BitVec.ofInt 16 (b : Int)).toNat : Int) = _
  rw [BitVec.toNat_xor, h1, h2]
  exact IntWalk.u16_in _ (by omega)

theorem bits_xor_u32 (a b : Nat) (ha : a < 4294967296) (hb : b < 4294967296) : bits .xor .u32 (a : Int) (b : Int) = ((a ^^^ b : Nat) : Int) := by
  have hx : a ^^^ b < 2 ^ 32 := Nat.xor_lt_two_pow (by omega) (by omega)
  have h1 : (BitVec.ofInt 32 (a : Int)).toNat = a := by
    rw [BitVec.ofInt_natCast, BitVec.toNat_ofNat]; exact Nat.mod_eq_of_lt (by omega)
  have h2 : (BitVec.ofInt 32 (b : Int)).toNat = b := by
    rw [BitVec.ofInt_natCast, BitVec.toNat_ofNat]; exact Nat.mod_eq_of_lt (by omega)
  show IntKind.u32.wrap ((BitVec.ofInt 32 (a : Int) ^^^ BitVec.ofInt 32 (b : Int)).toNat : Int) = _
  rw [BitVec.toNat_xor, h1, h2]
  exact IntWalk.u32_in _ (by omega)
theorem and1_u16 (a : Nat) (ha : a < 65536) : bits .and .u16 (a : Int) 1 = ((a % 2 : Nat) : Int) := by
  have := bits_mask .u16 16 (by decide) (fun n h0 h1 => IntWalk.u16_in n (by omega)) 1 (by decide) (a : Int) (by omega) (by omega)
  rw [show ((2 : Int) ^ 1 - 1) = 1 by decide] at this
  rw [this]; omega
theorem and1_u32 (a : Nat) (ha : a < 4294967296) : bits .and .u32 (a : Int) 1 = ((a % 2 : Nat) : Int) := by
  have := bits_mask .u32 32 (by decide) (fun n h0 h1 => IntWalk.u32_in n (by omega)) 1 (by decide) (a : Int) (by omega) (by omega)
  rw [show ((2 : Int) ^ 1 - 1) = 1 by decide] at this
  rw [this]; omega
theorem wrap_u16 (n : Int) : IntKind.u16.wrap n = n % 65536 := by simp [IntKind.wrap, IntKind.bits, IntKind.signed]
theorem ret_u16 {a b : Int} (h : a = b) : Ending.returned (.int .u16 a) = .returned (.int .u16 b) := by rw [h]
theorem top_bit (a : Nat) (ha : a < 65536) : a.testBit 15 = decide (32768 ≤ a) := by
  rw [Nat.testBit_eq_decide_div_mod_eq]
  by_cases h : 32768 ≤ a
  · rw [show a / 2 ^ 15 = 1 by omega]; simp [h]
  · rw [show a / 2 ^ 15 = 0 by omega]; simp [h]
theorem T_hi (a : Nat) (ha : a < 65536) (h : 32768 ≤ a) : bits .xor .u16 (IntKind.u16.wrap ((a : Int) * 2)) 4129 = ((T a : Nat) : Int) := by
  unfold T
  rw [top_bit a ha, wrap_u16, show (a : Int) * 2 % 65536 = ((2 * a % 65536 : Nat) : Int) by omega, show (4129 : Int) = ((4129 : Nat) : Int) from rfl, bits_xor_u16 _ _ (Nat.mod_lt _ (by decide)) (by decide)]
  simp [h]
theorem T_lo (a : Nat) (ha : a < 65536) (h : ¬ 32768 ≤ a) : (a : Int) * 2 = ((T a : Nat) : Int) := by
  unfold T
  rw [top_bit a ha]
  simp [h]; omega

theorem shift_any (a : Nat) (ha : a < 65536) (w : World) : Calls Try.prog 120 #[.int .u16 (a : Int)] w fun e w' => e = .returned (.int .u16 (T a)) ∧ w' = w := by
  go_enter Try.func120, Try.ntmps120
  go_wp2
  go_ret
  refine ⟨ret_u16 ?_, rfl⟩
  by_cases h : 32768 ≤ a
  · rw [show (a : Int) / 32768 * 4129 = 4129 by omega]; exact T_hi a ha h
  · rw [show (a : Int) / 32768 * 4129 = ((0 : Nat) : Int) by omega, IntWalk.u16_in _ (by omega), show (a : Int) * 2 = ((2 * a : Nat) : Int) by omega, bits_xor_u16 _ _ (by omega) (by decide), Nat.xor_zero, ← T_lo a ha h]; omega
theorem times2_any (a : Nat) (ha : a < 65536) (w : World) : Calls Try.prog 119 #[.int .u16 (a : Int)] w fun e w' => e = .returned (.int .u16 (T a)) ∧ w' = w := by
  by_cases h : 32768 ≤ a
  · have hb : decide (32768 ≤ (a : Int)) = true := by simp; omega
    have HA := Lib.hid ha; clear ha
    go_enter Try.func119, Try.ntmps119
    go_wp2
    go_ret
    exact ⟨ret_u16 (T_hi a HA.out h), rfl⟩
  · have hb : decide (32768 ≤ (a : Int)) = false := by simp; omega
    have HA := Lib.hid ha; clear ha
    go_enter Try.func119, Try.ntmps119
    go_wp2
    go_ret
    exact ⟨ret_u16 (T_lo a HA.out h), rfl⟩

theorem drewN_of {w wr w' : World} {n : Nat} (h : ∃ n, wr = w.drewN n) (h2 : w' = wr.drewN n) : ∃ n, w' = w.drewN n := by
  obtain ⟨m, rfl⟩ := h; subst h2; exact ⟨_, World.drewN_drewN w m n⟩
theorem drewN_trans {w wr w' : World} (h : ∃ n, wr = w.drewN n) (h2 : ∃ n, w' = wr.drewN n) : ∃ n, w' = w.drewN n := by
  obtain ⟨n, rfl⟩ := h2; exact drewN_of h rfl
theorem rem_round (p k : Nat) (hp : p < 4294967296) (hk : k < 16) : R (p / 2 ^ (16 - (k + 1))) = T (R (p / 2 ^ (16 - k))) ^^^ p / 2 ^ (15 - k) % 2 := by
  have h1 : p / 2 ^ (15 - k) < 4294967296 := Nat.lt_of_le_of_lt (Nat.div_le_self _ _) hp
  have h2 := R_step h1
  rw [Nat.div_div_eq_div_mul, ← Nat.pow_succ, show (15 - k).succ = 16 - k by omega] at h2
  rw [show 16 - (k + 1) = 15 - k by omega]; exact h2
theorem cast_div (p k : Nat) : (p : Int) / 2 ^ k = ((p / 2 ^ k : Nat) : Int) := by rw [Int.natCast_ediv, Int.natCast_pow]; rfl
theorem rem_val (p k : Nat) (hp : p < 4294967296) (hk : k < 16) : bits .xor .u16 ((T (R (p / 2 ^ (16 - k))) : Nat) : Int) (IntKind.u16.wrap (bits .and .u32 ((p : Int) / 2 ^ (15 - k)) 1)) = ((R (p / 2 ^ (16 - (k + 1))) : Nat) : Int) := by
  have h1 : p / 2 ^ (15 - k) < 4294967296 := Nat.lt_of_le_of_lt (Nat.div_le_self _ _) hp
  rw [cast_div, and1_u32 _ h1, wrap_u16, show (((p / 2 ^ (15 - k) % 2 : Nat) : Int) % 65536) = ((p / 2 ^ (15 - k) % 2 : Nat) : Int) by omega, bits_xor_u16 _ _ (T_lt _) (by omega), rem_round p k hp hk]
/-- The remainder of a polynomial. -/
theorem remainder_any (p : Nat) (hp : p < 4294967296) (w : World) : Calls Try.prog 113 #[.int .u32 (p : Int)] w fun e w' => e = .returned (.int .u16 (R p)) ∧ ∃ n, w' = w.drewN n := by
  have h16 : (p : Int) / 65536 ≤ 65535 := by omega
  have e0 : ((p : Int) / 65536) = ((R (p / 65536) : Nat) : Int) := by rw [R_small (by omega)]; omega
  have E0 := Lib.hid e0; clear e0
  have HP := Lib.hid hp
  go_enter Try.func113, Try.ntmps113
  go_wp2
  go_loopw [3, 8] (fun r i wr => ∃ k : Nat, k ≤ 16 ∧ i = .int .i64 k ∧ r = .int .u16 (R (p / 2 ^ (16 - k)) : Nat) ∧ ∃ n, wr = w.drewN n) (fun _ i _ => 16 - (intOf i).toNat)
  case atStart => exact ⟨0, by omega, rfl, by simp [E0.out], 0, rfl⟩
  case round =>
    obtain ⟨k, hk, rfl, rfl, hw⟩ := hrel
    have HW := Lib.hid hw; clear hw
    by_cases hlt : k < 16
    · have hr := R_lt (p / 2 ^ (16 - k))
      go_wp2
      go_quiet ((go_at_call 120; exact Calls.quiet_of_same (shift_any _ hr _)))
      go_wp2
      go_roundw
      case rel => exact ⟨k + 1, by omega, by go_num, by rw [rem_val p k hp hlt], drewN_of HW.out rfl⟩
      case measure => simp [intOf]; omega
    · go_wp2
      go_ret
      obtain rfl : k = 16 := by omega
      exact ⟨ret_u16 (by rw [show 16 - 16 = 0 by rfl, Nat.pow_zero, Nat.div_one]), HW.out⟩

theorem bit_val (b k : Nat) (hb : b < 65536) : bits .and .u16 ((b : Int) / 2 ^ k) 1 = ((b / 2 ^ k % 2 : Nat) : Int) := by
  rw [cast_div, and1_u16 _ (Nat.lt_of_le_of_lt (Nat.div_le_self _ _) hb)]
theorem P_next (a b k : Nat) (ha : a < 65536) (hk : k < 16) (h : b / 2 ^ k % 2 = 1) : bits .xor .u32 ((P a b k : Nat) : Int) ((a : Int) % 4294967296 * 2 ^ k % 4294967296) = ((P a b (k + 1) : Nat) : Int) := by
  have hp : 2 ^ k ≤ 2 ^ 15 := Nat.pow_le_pow_right (by decide) (by omega)
  have hm : a * 2 ^ k ≤ 65535 * 2 ^ 15 := Nat.mul_le_mul (by omega) hp
  have e : ((a : Int) * 2 ^ k) = ((a * 2 ^ k : Nat) : Int) := by rw [Int.natCast_mul, Int.natCast_pow]; rfl
  rw [show (a : Int) % 4294967296 = a by omega, e, show ((a * 2 ^ k : Nat) : Int) % 4294967296 = ((a * 2 ^ k : Nat) : Int) by omega, bits_xor_u32 _ _ (P_lt ha b k (by omega)) (by omega)]
  unfold P; rw [lin, Nat.testBit_eq_decide_div_mod_eq]; simp [h]
theorem P_same (a b k : Nat) (h : b / 2 ^ k % 2 = 0) : P a b (k + 1) = P a b k := by
  unfold P; rw [lin, Nat.testBit_eq_decide_div_mod_eq]; simp [h]
theorem H_one (a b m : Nat) (ha : a < 65536) (hm : m ≤ 15) (h : b / 2 ^ m % 2 = 1) : bits .xor .u16 ((T (H a b (m + 1)) : Nat) : Int) (a : Int) = ((H a b m : Nat) : Int) := by
  rw [bits_xor_u16 _ _ (T_lt _) ha, H_step a b m (by omega), if_pos h]
theorem H_nil (a b m : Nat) (hm : m ≤ 15) (h : b / 2 ^ m % 2 = 0) : T (H a b (m + 1)) = H a b m := by
  rw [H_step a b m (by omega), if_neg (by omega), Nat.xor_zero]
def Down (a b : Nat) (out i : Value) : Prop := (i = .int .i64 (-1) ∧ out = .int .u16 (H a b 0 : Nat)) ∨ ∃ m : Nat, m ≤ 15 ∧ i = .int .i64 m ∧ out = .int .u16 (H a b (m + 1) : Nat)
theorem Down.next {a b m : Nat} {out : Value} (hm : m ≤ 15) (ho : out = .int .u16 (H a b m : Nat)) : Down a b out (.int .i64 ((m : Int) - 1)) := by
  cases m with
  | zero => exact .inl ⟨rfl, ho⟩
  | succ m => exact .inr ⟨m, by omega, by rw [show ((m + 1 : Nat) : Int) - 1 = m by omega], ho⟩
/-- A power of a power of x. -/
def Raised (c n0 : Nat) (power base n : Value) : Prop := ∃ p d m : Nat, p + d * m = c * n0 ∧ m ≤ n0 ∧ power = .int .u16 (X p : Nat) ∧ base = .int .u16 (X d : Nat) ∧ n = .int .i64 m
theorem Raised.next {c n0 p d m : Nat} (h : p + d * m = c * n0) (hm : m ≤ n0) (r : Nat) (hr : m % 2 = r) {v : Value} (hv : v = .int .u16 (X (p + d * r) : Nat)) : Raised c n0 v (.int .u16 (X (2 * d) : Nat)) (.int .i64 ((m : Int) / 2)) := by
  refine ⟨p + d * r, 2 * d, m / 2, ?_, by omega, hv, rfl, by rw [Int.natCast_ediv]; rfl⟩
  rw [← h, ← hr]
  have h3 : d * m = d * (m % 2) + d * (2 * (m / 2)) := by rw [← Nat.mul_add]; congr 1; omega
  rw [h3, Nat.mul_comm 2 d, Nat.mul_assoc]; omega
def powr (n : Int) : Nat := if n < 0 then 0 else X n.toNat
theorem powr_lt (n : Int) : powr n < 65536 := by unfold powr; split; decide; exact X_lt _
def comb (a b : Nat) (n : Int) : Nat := if n < 0 then b else C a b n.toNat
theorem comb_lt (a b : Nat) (n : Int) (ha : a < 65536) (hb : b < 65536) : comb a b n < 65536 := by
  unfold comb; split
  · exact hb
  · exact xor_lt (M_lt ha _) hb
end Go.Proofs.Ytilpbbpdchbdfaa.Cr
