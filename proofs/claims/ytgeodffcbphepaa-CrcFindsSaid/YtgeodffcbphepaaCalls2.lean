/- The calls of package crc and of the reference that go over bits and bytes: Locate, the tables, check sums, syndromes, protected strings. -/
import Derived.Test.YtgeodffcbphepaaCalls1
namespace Go.Proofs.Ytgeodffcbphepaa
open Go.RowKit
open Crc

theorem beq_u16 {a b : Nat} (h : a = b) : (((a : Nat) : Int) == (b : Int)) = true := by rw [beq_iff_eq, h]
theorem bne_u16 {a b : Nat} (h : a ≠ b) : (((a : Nat) : Int) == (b : Int)) = false := by rw [beq_eq_false_iff_ne]; omega
theorem locate_yes (s : Nat) (bits : Int) (i : Nat) (hi : (i : Int) < bits) (hp : i < 32767) (hx : X i = s) (w : World) :
    Calls Try.prog 26 #[.int .u16 (s : Int), .int .i64 bits] w fun e w' => e = .returned (.tuple #[.int .i64 i, .bool true]) ∧ w' = w := by
  have HX := Lib.hid hx; clear hx
  have hS := fun p hp w => shift_any p hp w
  have HS := Lib.hid hS; clear hS
  have hN : ∃ N : Int, N = 32767 := ⟨_, rfl⟩
  have hc : (524288 < bits ∧ ¬ bits ≤ 524288) ∨ (¬ 524288 < bits ∧ 32767 < bits ∧ ¬ bits ≤ 32767) ∨ (¬ 524288 < bits ∧ ¬ 32767 < bits) := by omega
  rcases hc with ⟨h1, h2⟩ | ⟨h1, h2, h3⟩ | ⟨h1, h2⟩
  all_goals
    go_enter Try.func26, Try.ntmps26
    go_wp2
    obtain ⟨N, hN⟩ := hN
    try rw [← hN]
    have hiN : (i : Int) < N := by omega
    have hiL : (i : Int) ≤ 9223372036854775000 := by omega
    have HP := Lib.hid hp; clear hp
    have HN := Lib.hid hN; clear hN
    go_loop [6, 10] (fun x i' => ∃ k : Nat, k ≤ i ∧ i' = .int .i64 k ∧ x = .int .u16 (X k : Nat)) (fun _ i' => i - (intOf i').toNat)
    case atStart => exact ⟨0, by omega, rfl, rfl⟩
    case round =>
      obtain ⟨k, hk, rfl, rfl⟩ := hrel
      by_cases hki : k = i
      · have hb := beq_u16 (hki ▸ HX.out : X k = s)
        have HK := Lib.hid hki; clear hki
        go_wp2
        go_ret2
        exact ⟨by rw [HK.out]; rfl, rfl⟩
      · have hlt : k < i := by omega
        have hb := bne_u16 (fun e => hki (X_inj (by have := HP.out; omega) HP.out (e.trans HX.out.symm)) : X k ≠ s)
        have HL := Lib.hid (X_lt k)
        clear hki
        go_wp2_with (go_at_call 32; refine (HS.out _ HL.out _).mono ?_; rintro e w' ⟨rfl, rfl⟩)
        go_round
        case rel => exact ⟨k + 1, by omega, by go_num, rfl⟩
        case measure => simp [intOf]; omega
theorem locate_no (s : Nat) (bits : Int) (hx : ∀ j : Nat, (j : Int) < bits → j < 32767 → X j ≠ s) (w : World) :
    Calls Try.prog 26 #[.int .u16 (s : Int), .int .i64 bits] w fun e w' => e = .returned (.tuple #[.int .i64 0, .bool false]) ∧ w' = w := by
  have HX := Lib.hid hx; clear hx
  have hS := fun p hp w => shift_any p hp w
  have HS := Lib.hid hS; clear hS
  have hN : ∃ N : Int, N = 32767 := ⟨_, rfl⟩
  by_cases h0 : 0 < bits
  · have hc : (524288 < bits ∧ ¬ bits ≤ 524288 ∧ 32767 ≤ bits) ∨ (¬ 524288 < bits ∧ 32767 < bits ∧ ¬ bits ≤ 32767 ∧ 32767 ≤ bits) ∨ (¬ 524288 < bits ∧ ¬ 32767 < bits) := by omega
    rcases hc with ⟨h1, h2, h4⟩ | ⟨h1, h2, h3, h4⟩ | ⟨h1, h2⟩
    all_goals
      go_enter Try.func26, Try.ntmps26
      go_wp2
      obtain ⟨N, hN⟩ := hN
      try rw [← hN]
      have hNb : ∃ Q : Nat, (Q : Int) ≤ bits ∧ (Q : Int) ≤ N ∧ (Q = bits.toNat ∨ (Q : Int) = N) := ⟨(min bits N).toNat, by omega, by omega, by omega⟩
      obtain ⟨Q, hQ1, hQ2, hQ3⟩ := hNb
      have hQL : (Q : Int) ≤ 9223372036854775000 := by omega
      have HN := Lib.hid hN; clear hN
      have HQ := Lib.hid hQ3; clear hQ3
      go_loop [6, 10] (fun x i' => ∃ k : Nat, k ≤ Q ∧ i' = .int .i64 k ∧ x = .int .u16 (X k : Nat)) (fun _ i' => Q - (intOf i').toNat)
      case atStart => exact ⟨0, by omega, rfl, rfl⟩
      case round =>
        obtain ⟨k, hk, rfl, rfl⟩ := hrel
        by_cases hki : k < Q
        · have hb := bne_u16 (HX.out k (by omega) (by have := HN.out; omega))
          have HL := Lib.hid (X_lt k)
          go_wp2_with (go_at_call 32; refine (HS.out _ HL.out _).mono ?_; rintro e w' ⟨rfl, rfl⟩)
          go_round
          case rel => exact ⟨k + 1, by omega, by go_num, rfl⟩
          case measure => simp [intOf]; omega
        · first | (have hge : N ≤ (k : Int) := by (have := HQ.out; have := HN.out; omega)) | (have hge : bits ≤ (k : Int) := by (have := HQ.out; have := HN.out; omega))
          clear hki
          go_wp2
          go_ret2
          exact ⟨rfl, rfl⟩
  · have h1 : ¬ 524288 < bits := by omega
    have h2 : ¬ 32767 < bits := by omega
    go_enter Try.func26, Try.ntmps26
    go_wp2
    refine wp_loop_rounds 1 ?_
    rw [rounds_succ]
    go_wp2
    go_ret2
    exact ⟨rfl, rfl⟩

theorem U_snoc (s : Nat) (data : ByteArray) (k : Nat) (h : k < data.size) : U s (data.data.toList.take (k + 1)) = Ti 8 (U s (data.data.toList.take k) ^^^ data[k].toNat * 256) := by
  rw [List.take_succ_eq_append_getElem (by simpa using h), U_append]; rfl
theorem byte_in (u c : Nat) (hu : u < 65536) (hc : c < 256) : bits .xor .u16 (u : Int) ((c : Int) * 256) = ((u ^^^ c * 256 : Nat) : Int) := by
  rw [show (c : Int) * 256 = ((c * 256 : Nat) : Int) by omega, bits_xor_u16 _ _ hu (by omega)]
theorem update2_any (s : Nat) (hs : s < 65536) (data : ByteArray) (hd : data.size ≤ maxLen) (w : World) : Calls Try.prog 15 #[.int .u16 (s : Int), .string data] w fun e w' => e = .returned (.int .u16 (U s data.data.toList : Nat)) ∧ w' = w := by
  have HS := Lib.hid hs; clear hs
  have HT := Lib.hid (fun p hp w => times2_any p hp w)
  unfold maxLen at hd
  go_enter Try.func15, Try.ntmps15
  go_wp2
  go_loop [0, 5] (fun u i => ∃ k : Nat, k ≤ data.size ∧ i = .int .i64 k ∧ u = .int .u16 (U s (data.data.toList.take k) : Nat)) (fun _ i => data.size - (intOf i).toNat)
  case atStart => exact ⟨0, by omega, rfl, rfl⟩
  case round =>
    obtain ⟨k, hk, rfl, rfl⟩ := hrel
    by_cases hlt : k < data.size
    · have hsn := U_snoc s data k hlt
      have hin := byte_in _ _ (U_lt HS.out (data.data.toList.take k)) data[k].toNat_lt
      have hul := xor_lt (U_lt HS.out (data.data.toList.take k)) (byte_lt data[k])
      have HSN := Lib.hid hsn; clear hsn
      have HIN := Lib.hid hin; clear hin
      have HUL := Lib.hid hul; clear hul
      have hcl := data[k].toNat_lt
      go_wp2
      go_loop [0, 6] (fun u i => ∃ j : Nat, j ≤ 8 ∧ i = .int .i64 j ∧ u = .int .u16 (Ti j (U s (data.data.toList.take k) ^^^ data[k].toNat * 256) : Nat)) (fun _ i => 8 - (intOf i).toNat)
      case atStart => exact ⟨0, by omega, rfl, by rw [HIN.out]; rfl⟩
      case round =>
        obtain ⟨j, hj, rfl, rfl⟩ := hrel
        by_cases hlt8 : j < 8
        · have HTL := Lib.hid (Ti_lt j HUL.out)
          go_wp2_with (go_at_call 30; refine (HT.out _ HTL.out _).mono ?_; rintro e w' ⟨rfl, rfl⟩)
          go_round
          case rel => exact ⟨j + 1, by omega, by go_num, rfl⟩
          case measure => simp [intOf]; omega
        · obtain rfl : j = 8 := by omega
          go_wp2
          go_round
          case rel => exact ⟨k + 1, by omega, by go_num, by rw [HSN.out]⟩
          case measure => simp [intOf]; omega
    · go_wp2
      go_ret
      obtain rfl : k = data.size := by omega
      exact ⟨ret_u16 (by rw [List.take_of_length_le (by simp)]), rfl⟩

end Go.Proofs.Ytgeodffcbphepaa
