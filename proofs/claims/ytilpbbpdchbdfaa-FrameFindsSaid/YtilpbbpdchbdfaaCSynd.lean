
/- Syndromes of package crc. -/
import Derived.Test.YtilpbbpdchbdfaaCSums
import Derived.Deep.RegionHeld3
namespace Go.Proofs.Ytilpbbpdchbdfaa.Cr
open Go.RowKit
open Crc

/-- The syndrome of a string of at least 2 bytes. -/
def syn (data : ByteArray) : Nat := (U 0 (data.data.toList.take (data.size - 2)) ^^^ (data.data.toList.getD (data.size - 2) 0).toNat * 256) ^^^ (data.data.toList.getD (data.size - 1) 0).toNat
theorem syndrome_short (data : ByteArray) (hd : data.size < 2) (w : World) : Calls Try.prog 75 #[.string data] w fun e w' => e = .returned (.tuple #[.int .u16 0, .int .i64 9]) ∧ w' = w := by
  go_enter Try.func75, Try.ntmps75
  go_wp2
  go_ret2
  exact ⟨rfl, rfl⟩
theorem ret_tup {a b : Int} (h : a = b) : Ending.returned (.tuple #[.int .u16 a, .int .i64 0]) = .returned (.tuple #[.int .u16 b, .int .i64 0]) := by rw [h]
theorem syn_val (data : ByteArray) (n : Nat) (hn : n + 2 = data.size) (i1 : n < data.size) (i2 : n + 1 < data.size) :
    bits .xor .u16 (bits .xor .u16 ((U 0 (data.data.toList.take n) : Nat) : Int) (IntKind.u16.wrap (IntKind.u16.wrap (data[n].toNat : Int) * 256))) (IntKind.u16.wrap (data[n + 1].toNat : Int)) = ((syn data : Nat) : Int) := by
  have h1 := data[n].toNat_lt
  have h2 := data[n + 1].toNat_lt
  have h3 := U_lt (s := 0) (by decide) (data.data.toList.take n)
  have h4 := xor_lt h3 (byte_lt data[n])
  unfold syn
  rw [show data.size - 2 = n by omega, show data.size - 1 = n + 1 by omega]
  have g1 : data.data.toList.getD n 0 = data[n] := by
    rw [List.getD_eq_getElem?_getD, List.getElem?_eq_getElem (by simpa using i1)]; rfl
  have g2 : data.data.toList.getD (n + 1) 0 = data[n + 1] := by
    rw [List.getD_eq_getElem?_getD, List.getElem?_eq_getElem (by simpa using i2)]; rfl
  rw [g1, g2, IntWalk.u16_in (data[n].toNat : Int) (by omega), IntWalk.u16_in ((data[n].toNat : Int) * 256) (by omega), IntWalk.u16_in (data[n + 1].toNat : Int) (by omega), byte_in _ _ h3 h1, bits_xor_u16 _ _ h4 (by omega)]
set_option maxHeartbeats 800000 in
theorem syndrome_any (data : ByteArray) (hd : data.size ≤ maxLen) (h2 : 2 ≤ data.size) (w : World) : Calls Try.prog 75 #[.string data] w fun e w' => e = .returned (.tuple #[.int .u16 (syn data : Nat), .int .i64 0]) ∧ Same w w' := by
  obtain ⟨n, hn⟩ : ∃ n, n + 2 = data.size := ⟨data.size - 2, by omega⟩
  unfold maxLen at hd
  have hs : ((data.size : Int) - 2) = (n : Int) := by omega
  have hS := fun w => sum_any (data.extract 0 n) (by unfold maxLen; simp; omega) w
  have HS := Lib.hid hS; clear hS
  have i1 : n < data.size := by omega
  have i2 : n + 1 < data.size := by omega
  have i4 : (n : Int) < data.size := by omega
  have i5 : (n : Int) + 1 < data.size := by omega
  have i0 : (0 : Int) ≤ (n : Int) := by omega
  have i6 : (n : Int) ≤ (data.size : Int) := by omega
  have i7 : n ≤ data.size := by omega
  have hv := syn_val data n hn i1 i2
  have HV := Lib.hid hv; clear hv
  have HN := Lib.hid hn; clear hn
  go_enter Try.func75, Try.ntmps75
  go_wp2
  have e1 : IntKind.i64.wrap ((n : Int) + 1) = (n : Int) + 1 := IntWalk.i64_in _ (by omega)
  have e2 : ((n : Int) + 1).toNat = n + 1 := by omega
  have e3 : 0 ≤ (n : Int) + 1 := by omega
  go_region_held3 (fun w' => Same w w') (first | exact (Same.refl w).drew | exact Same.trans (by assumption) (by assumption) | assumption) (first | (go_at_call 60; refine (HS.out _).mono ?_; rintro e w1 ⟨rfl, hw1⟩))
  all_goals (go_wp2; go_ret2)
  all_goals exact ⟨ret_tup HV.out, by first | assumption | exact Same.drew (by assumption)⟩
end Go.Proofs.Ytilpbbpdchbdfaa.Cr
