
/- Protected strings: which strings have the syndrome 0; what Check returns. -/
import Derived.Test.YtilpbbpdchbdfaaCSynd
namespace Go.Proofs.Ytilpbbpdchbdfaa.Cr
open Go.RowKit
open Crc

theorem bytes_val (u : Nat) : (u / 256 * 256) ^^^ (u % 256) = u := by
  apply Nat.eq_of_testBit_eq; intro i
  have e1 : u / 256 * 256 = (u >>> 8) <<< 8 := by rw [Nat.shiftLeft_eq, Nat.shiftRight_eq_div_pow]
  have e2 : u % 256 = u % 2 ^ 8 := rfl
  rw [Nat.testBit_xor, e1, e2, Nat.testBit_shiftLeft, Nat.testBit_shiftRight, Nat.testBit_mod_two_pow]
  by_cases h : i < 8
  · simp [h, show ¬ 8 ≤ i by omega]
  · rw [show 8 + (i - 8) = i by omega]; simp [h]; intro h2; omega
theorem join_val (c e : Nat) (he : e < 256) : (c * 256) ^^^ e = c * 256 + e := by
  have := bytes_val (c * 256 + e)
  rw [show (c * 256 + e) / 256 = c by omega, show (c * 256 + e) % 256 = e by omega] at this; exact this
theorem xor_zero_iff (a b : Nat) : a ^^^ b = 0 ↔ a = b := by
  constructor
  · intro h; have := xor_cancel a b; rw [h, Nat.xor_zero] at this; exact this
  · intro h; rw [h, Nat.xor_self]
theorem bytes_eq {a b : ByteArray} (h : a.data.toList = b.data.toList) : a = b := by
  cases a; cases b; simp at h; simp [h]
theorem two_list (u : Nat) : (two u).data.toList = [UInt8.ofNat (u / 256), UInt8.ofNat (u % 256)] := by
  unfold two; rw [strOfNums_data]
  simp only [List.map_cons, List.map_nil, Int.toNat_natCast]
theorem prot_list (d : ByteArray) : (prot d).data.toList = d.data.toList ++ [UInt8.ofNat (U 0 d.data.toList / 256), UInt8.ofNat (U 0 d.data.toList % 256)] := by
  unfold prot; rw [ByteArray.data_append, Array.toList_append, two_list]
theorem front_list (d : ByteArray) (n : Nat) (_h : n ≤ d.size) : (d.extract 0 n).data.toList = d.data.toList.take n := by
  simp
/-- A string of at least two bytes: the front, and two bytes. -/
theorem split2 (d : ByteArray) (n : Nat) (h : n + 2 = d.size) : d.data.toList = d.data.toList.take n ++ [d.data.toList.getD n 0, d.data.toList.getD (n + 1) 0] := by
  have hl : d.data.toList.length = n + 2 := by rw [Array.length_toList]; exact h.symm
  generalize d.data.toList = l at hl
  have h1 : l.drop n = [l.getD n 0, l.getD (n + 1) 0] := by
    rw [List.drop_eq_getElem_cons (by omega), List.drop_eq_getElem_cons (by omega), List.drop_eq_nil_of_le (by omega)]
    simp [List.getD_eq_getElem?_getD, hl]
  rw [← h1, List.take_append_drop]
theorem syn_eq (d : ByteArray) (n : Nat) (h : n + 2 = d.size) : syn d = U 0 (d.data.toList.take n) ^^^ ((d.data.toList.getD n 0).toNat * 256 + (d.data.toList.getD (n + 1) 0).toNat) := by
  unfold syn
  rw [show d.size - 2 = n by omega, show d.size - 1 = n + 1 by omega, Nat.xor_assoc, join_val _ _ (d.data.toList.getD (n + 1) 0).toNat_lt]
theorem syn_zero (d : ByteArray) (n : Nat) (h : n + 2 = d.size) : syn d = 0 ↔ prot (d.extract 0 n) = d := by
  rw [syn_eq d n h, xor_zero_iff]
  have hu := U_lt (s := 0) (by decide) (d.data.toList.take n)
  have hp := prot_list (d.extract 0 n)
  rw [front_list d n (by omega)] at hp
  have hs := split2 d n h
  generalize U 0 (d.data.toList.take n) = u at *
  have hc := (d.data.toList.getD n 0).toNat_lt
  have he := (d.data.toList.getD (n + 1) 0).toNat_lt
  constructor
  · intro e
    apply bytes_eq
    rw [hp, hs, List.take_append_of_le_length (by simp; omega), List.take_take, Nat.min_self]
    congr 1
    have e1 : UInt8.ofNat (u / 256) = d.data.toList.getD n 0 := by
      rw [e, show ((d.data.toList.getD n 0).toNat * 256 + (d.data.toList.getD (n + 1) 0).toNat) / 256 = (d.data.toList.getD n 0).toNat by omega]; exact UInt8.ofNat_toNat
    have e2 : UInt8.ofNat (u % 256) = d.data.toList.getD (n + 1) 0 := by
      rw [e, show ((d.data.toList.getD n 0).toNat * 256 + (d.data.toList.getD (n + 1) 0).toNat) % 256 = (d.data.toList.getD (n + 1) 0).toNat by omega]; exact UInt8.ofNat_toNat
    rw [e1, e2]
  · intro e
    have e3 : (prot (d.extract 0 n)).data.toList = d.data.toList := by rw [e]
    rw [hp] at e3
    have e4 := e3.trans hs
    have e5 := List.append_cancel_left e4
    simp only [List.cons.injEq, and_true] at e5
    rw [← e5.1, ← e5.2]
    simp only [UInt8.toNat_ofNat']
    omega
theorem prot_front (d : ByteArray) : (prot d).extract 0 d.size = d := by
  apply bytes_eq
  rw [front_list _ _ (by rw [prot_size]; omega), prot_list, List.take_append_of_le_length (by simp)]
  rw [List.take_of_length_le (by simp)]
theorem syn_prot (d : ByteArray) : syn (prot d) = 0 := by
  rw [syn_zero (prot d) d.size (by rw [prot_size]), prot_front]

theorem check_short (data : ByteArray) (hd : data.size < 2) (w : World) : Calls Try.prog 42 #[.string data] w fun e w' => e = .returned (.tuple #[.string ⟨#[]⟩, .int .i64 9]) ∧ w' = w := by
  have HS := Lib.hid (fun w => syndrome_short data hd w)
  go_enter Try.func42, Try.ntmps42
  go_wp2_with (go_at_call 75; refine (HS.out _).mono ?_; rintro e w' ⟨rfl, rfl⟩)
  go_ret2
  exact ⟨rfl, rfl⟩
theorem check_bad (data : ByteArray) (hd : data.size ≤ maxLen) (h2 : 2 ≤ data.size) (h : syn data ≠ 0) (w : World) : Calls Try.prog 42 #[.string data] w fun e w' => e = .returned (.tuple #[.string ⟨#[]⟩, .int .i64 10]) ∧ Same w w' := by
  have hS := fun w => syndrome_any data hd h2 w
  have ht : (((syn data : Nat) : Int) != 0) = true := by simp; omega
  generalize syn data = s at hS ht
  have HS := Lib.hid hS; clear hS h
  go_enter Try.func42, Try.ntmps42
  go_wp2_with (go_at_call 75; refine (HS.out _).mono ?_; rintro e w' ⟨rfl, hw⟩; have HW := Lib.hid hw; clear hw)
  go_ret2
  exact ⟨rfl, HW.out⟩
theorem check_ok (data : ByteArray) (hd : data.size ≤ maxLen) (n : Nat) (h2 : n + 2 = data.size) (h : syn data = 0) (w : World) : Calls Try.prog 42 #[.string data] w fun e w' => e = .returned (.tuple #[.string (data.extract 0 n), .int .i64 0]) ∧ Same w w' := by
  have hS := fun w => syndrome_any data hd (by omega) w
  rw [h] at hS
  rw [show ((0 : Nat) : Int) = 0 from rfl] at hS
  have hs : ((data.size : Int) - 2) = (n : Int) := by omega
  have i0 : (0 : Int) ≤ (n : Int) := by omega
  have i6 : (n : Int) ≤ (data.size : Int) := by omega
  have i7 : n ≤ data.size := by omega
  unfold maxLen at hd
  have HS := Lib.hid hS; clear hS h h2
  go_enter Try.func42, Try.ntmps42
  go_wp2_with (go_at_call 75; refine (HS.out _).mono ?_; rintro e w' ⟨rfl, hw⟩; have HW := Lib.hid hw; clear hw)
  go_ret2
  exact ⟨rfl, HW.out⟩
end Go.Proofs.Ytilpbbpdchbdfaa.Cr
