
/- The calls of package crc and of the reference that go over bits and bytes: Locate, the tables, check sums, syndromes, protected strings. -/
import Derived.Test.YtilpbbpdchbdfaaCCalls1
namespace Go.Proofs.Ytilpbbpdchbdfaa.Cr
open Go.RowKit
open Crc

theorem beq_u16 {a b : Nat} (h : a = b) : (((a : Nat) : Int) == (b : Int)) = true := by rw [beq_iff_eq, h]
theorem bne_u16 {a b : Nat} (h : a ≠ b) : (((a : Nat) : Int) == (b : Int)) = false := by rw [beq_eq_false_iff_ne]; omega
theorem U_snoc (s : Nat) (data : ByteArray) (k : Nat) (h : k < data.size) : U s (data.data.toList.take (k + 1)) = Ti 8 (U s (data.data.toList.take k) ^^^ data[k].toNat * 256) := by
  rw [List.take_succ_eq_append_getElem (by simpa using h), U_append]; rfl
theorem byte_in (u c : Nat) (hu : u < 65536) (hc : c < 256) : bits .xor .u16 (u : Int) ((c : Int) * 256) = ((u ^^^ c * 256 : Nat) : Int) := by
  rw [show (c : Int) * 256 = ((c * 256 : Nat) : Int) by omega, bits_xor_u16 _ _ hu (by omega)]
theorem update2_any (s : Nat) (hs : s < 65536) (data : ByteArray) (hd : data.size ≤ maxLen) (w : World) : Calls Try.prog 103 #[.int .u16 (s : Int), .string data] w fun e w' => e = .returned (.int .u16 (U s data.data.toList : Nat)) ∧ w' = w := by
  have HS := Lib.hid hs; clear hs
  have HT := Lib.hid (fun p hp w => times2_any p hp w)
  unfold maxLen at hd
  go_enter Try.func103, Try.ntmps103
  go_wp2
  go_loop [0, 5] (fun u i => ∃ k : Nat, k ≤ data.size ∧ i = .int .i64 k ∧ u = .int .u16 (U s (data.data.toList.take k) : Nat)) (fun _ i => data.size - (intOf i).toNat)
  case atStart => exact ⟨0, by omega, rfl, rfl⟩
  case round =>
    obtain ⟨k, hk, rfl, rfl⟩ := hrel
    by_cases hlt : k < data.size
    · have hsn := U_snoc s data k hlt
      have hin := byte_in _ _ (U_lt HS.out (data.data.toList.take k)) data[k].toNat_lt
      have hul := xor_lt (U_lt HS.out (data.data.toList.take k)) (byte_lt data[k])
      have HSN := Lib.hid hsn; clear hsn
      have HIN := Lib.hid hin; clear hin
      have HUL := Lib.hid hul; clear hul
      have hcl := data[k].toNat_lt
      go_wp2
      go_loop [0, 6] (fun u i => ∃ j : Nat, j ≤ 8 ∧ i = .int .i64 j ∧ u = .int .u16 (Ti j (U s (data.data.toList.take k) ^^^ data[k].toNat * 256) : Nat)) (fun _ i => 8 - (intOf i).toNat)
      case atStart => exact ⟨0, by omega, rfl, by rw [HIN.out]; rfl⟩
      case round =>
        obtain ⟨j, hj, rfl, rfl⟩ := hrel
        by_cases hlt8 : j < 8
        · have HTL := Lib.hid (Ti_lt j HUL.out)
          go_wp2_with (go_at_call 119; refine (HT.out _ HTL.out _).mono ?_; rintro e w' ⟨rfl, rfl⟩)
          go_round
          case rel => exact ⟨j + 1, by omega, by go_num, rfl⟩
          case measure => simp [intOf]; omega
        · obtain rfl : j = 8 := by omega
          go_wp2
          go_round
          case rel => exact ⟨k + 1, by omega, by go_num, by rw [HSN.out]⟩
          case measure => simp [intOf]; omega
    · go_wp2
      go_ret
      obtain rfl : k = data.size := by omega
      exact ⟨ret_u16 (by rw [List.take_of_length_le (by simp)]), rfl⟩

end Go.Proofs.Ytilpbbpdchbdfaa.Cr
