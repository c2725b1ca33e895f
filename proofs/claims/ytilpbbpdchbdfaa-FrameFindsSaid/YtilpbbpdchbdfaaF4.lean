/- Check sums: protected strings of both packages. -/
import Derived.Test.YtilpbbpdchbdfaaF1
import Derived.Test.YtilpbbpdchbdfaaCProt
namespace Go.Proofs.Ytilpbbpdchbdfaa
open Go.RowKit
open Crc

theorem Same.ofCr {w w' : World} (h : Cr.Same w w') : Same w w' := ⟨h.os, h.tape, h.output, h.size, h.block⟩
theorem protect_any (data : ByteArray) (hd : data.size ≤ 1000) (w : World) : Calls Try.prog 29 #[.string data] w fun e w' => e = .returned (.string (Cr.prot data)) ∧ Same w w' :=
  (Cr.protect_any data hd w).mono fun _ _ ⟨he, hs⟩ => ⟨he, Same.ofCr hs⟩
theorem protect2_any (data : ByteArray) (hd : data.size ≤ 1000) (w : World) : Calls Try.prog 37 #[.string data] w fun e w' => e = .returned (.string (Cr.prot data)) ∧ Same w w' := by
  have hS := fun w => Cr.sum2_any data (by unfold maxLen; omega) w
  have hu := U_lt (s := 0) (by decide) data.data.toList
  have hprot : data ++ strOfNums [((U 0 data.data.toList : Nat) : Int) / 256, ((U 0 data.data.toList : Nat) : Int) % 256] = Cr.prot data := by
    unfold Cr.prot Cr.two; rfl
  have HPR := Lib.hid hprot; clear hprot
  have hconv := Cr.conv_two
  have hsz : ∀ a b : Int, (strOfNums [a, b]).size = 2 := fun a b => strOfNums_size [a, b]
  generalize U 0 data.data.toList = u at hS hu HPR
  have h1 : (u : Int) / 256 ≤ 255 := by omega
  have h2 : (u : Int) ≤ 65535 := by omega
  have HS := Lib.hid hS; clear hS
  have HU := Lib.hid hu; clear hu
  go_enter Try.func37, Try.ntmps37
  go_wp2_with (go_at_call 74; refine (HS.out _).mono ?_; rintro e w' ⟨rfl, hw⟩; replace hw := hw.symm; subst hw)
  go_ret
  exact ⟨by rw [← HPR.out]; rfl, (Same.refl w).alloc _⟩
/-- What the check of a protected string returns. -/
def cut (data : ByteArray) : ByteArray × Int := if data.size < 2 then (⟨#[]⟩, 9) else if Cr.syn data ≠ 0 then (⟨#[]⟩, 10) else (data.extract 0 (data.size - 2), 0)
theorem cCheck_any (data : ByteArray) (hd : data.size ≤ maxLen) (w : World) : Calls Try.prog 42 #[.string data] w fun e w' => e = .returned (.tuple #[.string (cut data).1, .int .i64 (cut data).2]) ∧ Same w w' := by
  unfold cut
  by_cases h : data.size < 2
  · rw [if_pos h]
    exact (Cr.check_short data h w).mono fun _ _ ⟨he, hs⟩ => ⟨he, by rw [hs]; exact Same.refl w⟩
  · rw [if_neg h]
    by_cases h1 : Cr.syn data ≠ 0
    · rw [if_pos h1]
      exact (Cr.check_bad data hd (by omega) h1 w).mono fun _ _ ⟨he, hs⟩ => ⟨he, Same.ofCr hs⟩
    · rw [if_neg h1]
      exact (Cr.check_ok data hd (data.size - 2) (by omega) (by simpa using h1) w).mono fun _ _ ⟨he, hs⟩ => ⟨he, Same.ofCr hs⟩
theorem or_bytes (c d : Nat) (hc : c < 256) (hd : d < 256) : bits .or .u16 ((c : Int) * 256) (d : Int) = ((c * 256 + d : Nat) : Int) := by
  have h1 : (BitVec.ofInt 16 ((c : Int) * 256)).toNat = c * 256 := by
    rw [show (c : Int) * 256 = ((c * 256 : Nat) : Int) by omega, BitVec.ofInt_natCast, BitVec.toNat_ofNat]; exact Nat.mod_eq_of_lt (by omega)
  have h2 : (BitVec.ofInt 16 (d : Int)).toNat = d := by
    rw [BitVec.ofInt_natCast, BitVec.toNat_ofNat]; exact Nat.mod_eq_of_lt (by omega)
  show IntKind.u16.wrap ((BitVec.ofInt 16 ((c : Int) * 256) ||| BitVec.ofInt 16 (d : Int)).toNat : Int) = _
  rw [BitVec.toNat_or, h1, h2]
  have e : c * 256 ||| d = c * 256 + d := by
    have := Nat.shiftLeft_add_eq_or_of_lt (i := 8) (show d < 2 ^ 8 by omega) c
    rw [Nat.shiftLeft_eq] at this
    exact this.symm
  rw [e]
  exact IntWalk.u16_in _ (by omega)
theorem syn2_val (data : ByteArray) (n : Nat) (hn : n + 2 = data.size) (i1 : n < data.size) (i2 : n + 1 < data.size) :
    bits .xor .u16 ((U 0 (data.data.toList.take n) : Nat) : Int) (bits .or .u16 (IntKind.u16.wrap (IntKind.u16.wrap (data[n].toNat : Int) * 256)) (IntKind.u16.wrap (data[n + 1].toNat : Int))) = ((Cr.syn data : Nat) : Int) := by
  have h1 := data[n].toNat_lt
  have h2 := data[n + 1].toNat_lt
  have h3 := U_lt (s := 0) (by decide) (data.data.toList.take n)
  have g1 : data.data.toList.getD n 0 = data[n] := by
    rw [List.getD_eq_getElem?_getD, List.getElem?_eq_getElem (by simpa using i1)]; rfl
  have g2 : data.data.toList.getD (n + 1) 0 = data[n + 1] := by
    rw [List.getD_eq_getElem?_getD, List.getElem?_eq_getElem (by simpa using i2)]; rfl
  rw [Cr.syn_eq data n hn, g1, g2, IntWalk.u16_in (data[n].toNat : Int) (by omega), IntWalk.u16_in ((data[n].toNat : Int) * 256) (by omega), IntWalk.u16_in (data[n + 1].toNat : Int) (by omega), or_bytes _ _ h1 h2, Cr.bits_xor_u16 _ _ h3 (by omega)]
theorem syndrome2_short (data : ByteArray) (hd : data.size < 2) (w : World) : Calls Try.prog 84 #[.string data] w fun e w' => e = .returned (.tuple #[.int .u16 0, .int .i64 9]) ∧ w' = w := by
  go_enter Try.func84, Try.ntmps84
  go_wp2
  go_ret2
  exact ⟨rfl, rfl⟩
set_option maxHeartbeats 800000 in
theorem syndrome2_any (data : ByteArray) (hd : data.size ≤ maxLen) (h2 : 2 ≤ data.size) (w : World) : Calls Try.prog 84 #[.string data] w fun e w' => e = .returned (.tuple #[.int .u16 (Cr.syn data : Nat), .int .i64 0]) ∧ Same w w' := by
  obtain ⟨n, hn⟩ : ∃ n, n + 2 = data.size := ⟨data.size - 2, by omega⟩
  unfold maxLen at hd
  have hs : ((data.size : Int) - 2) = (n : Int) := by omega
  have hs1 : ((data.size : Int) - 1) = (n : Int) + 1 := by omega
  have hS := fun w => Cr.sum2_any (data.extract 0 n) (by unfold maxLen; simp; omega) w
  have HS := Lib.hid hS; clear hS
  have i1 : n < data.size := by omega
  have i2 : n + 1 < data.size := by omega
  have i4 : (n : Int) < data.size := by omega
  have i5 : (n : Int) + 1 < data.size := by omega
  have i0 : (0 : Int) ≤ (n : Int) := by omega
  have i6 : (n : Int) ≤ (data.size : Int) := by omega
  have i7 : n ≤ data.size := by omega
  have hv := syn2_val data n hn i1 i2
  have HV := Lib.hid hv; clear hv
  have HN := Lib.hid hn; clear hn
  go_enter Try.func84, Try.ntmps84
  go_wp2
  have e1 : IntKind.i64.wrap ((n : Int) + 1) = (n : Int) + 1 := IntWalk.i64_in _ (by omega)
  have e0 : IntKind.i64.wrap (n : Int) = (n : Int) := IntWalk.i64_in _ (by omega)
  have e2 : ((n : Int) + 1).toNat = n + 1 := by omega
  have e3 : 0 ≤ (n : Int) + 1 := by omega
  go_region_held3 (fun w' => Same w w') (first | exact (Same.refl w).drew | exact Same.trans (by assumption) (by assumption) | assumption) (first | (go_at_call 74; refine (HS.out _).mono ?_; rintro e w1 ⟨rfl, hw1⟩; replace hw1 := hw1.symm; subst hw1) | fail)
  all_goals (go_wp2; go_ret2)
  all_goals exact ⟨Cr.ret_tup HV.out, by first | assumption | exact Same.drew (by assumption) | exact Same.refl _ | exact (Same.refl _).drew⟩
theorem cCheck2_any (data : ByteArray) (hd : data.size ≤ maxLen) (w : World) : Calls Try.prog 44 #[.string data] w fun e w' => e = .returned (.tuple #[.string (cut data).1, .int .i64 (cut data).2]) ∧ Same w w' := by
  unfold cut
  by_cases h : data.size < 2
  · rw [if_pos h]
    have HS := Lib.hid (fun w => syndrome2_short data h w)
    clear h
    go_enter Try.func44, Try.ntmps44
    go_wp2_with (go_at_call 84; refine (HS.out _).mono ?_; rintro e w' ⟨rfl, hw⟩; replace hw := hw.symm; subst hw)
    go_ret2
    exact ⟨rfl, Same.refl w⟩
  · rw [if_neg h]
    by_cases h1 : Cr.syn data ≠ 0
    · rw [if_pos h1]
      have hS := fun w => syndrome2_any data hd (by omega) w
      have ht : (((Cr.syn data : Nat) : Int) != 0) = true := by simp; omega
      generalize Cr.syn data = s at hS ht
      have HS := Lib.hid hS; clear hS h h1
      go_enter Try.func44, Try.ntmps44
      go_wp2_with (go_at_call 84; refine (HS.out _).mono ?_; rintro e w' ⟨rfl, hw⟩; have HW := Lib.hid hw; clear hw)
      go_ret2
      exact ⟨rfl, HW.out⟩
    · rw [if_neg h1]
      have h0 : Cr.syn data = 0 := by simpa using h1
      have hS := fun w => syndrome2_any data hd (by omega) w
      rw [h0] at hS
      rw [show ((0 : Nat) : Int) = 0 from rfl] at hS
      obtain ⟨n, hn⟩ : ∃ n, n + 2 = data.size := ⟨data.size - 2, by omega⟩
      rw [show data.size - 2 = n by omega]
      have hs : ((data.size : Int) - 2) = (n : Int) := by omega
      have i0 : (0 : Int) ≤ (n : Int) := by omega
      have i6 : (n : Int) ≤ (data.size : Int) := by omega
      have i7 : n ≤ data.size := by omega
      unfold maxLen at hd
      have HS := Lib.hid hS; clear hS h h1 h0 hn
      go_enter Try.func44, Try.ntmps44
      go_wp2_with (go_at_call 84; refine (HS.out _).mono ?_; rintro e w' ⟨rfl, hw⟩; have HW := Lib.hid hw; clear hw)
      go_ret2
      exact ⟨rfl, HW.out⟩
end Go.Proofs.Ytilpbbpdchbdfaa
