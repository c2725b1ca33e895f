/- The law's flip turns one bit of a string. -/
import Derived.Test.YtgeodffcbphepaaFlip
namespace Go.Proofs.Ytgeodffcbphepaa
open Go.RowKit
open Crc

theorem pow_256 (k : Nat) (h : (2 ^ k : Nat) < 256) : ((2 : Int) ^ k) % 256 = ((2 ^ k : Nat) : Int) := by
  have e : ((2 : Int) ^ k) = ((2 ^ k : Nat) : Int) := (Int.natCast_pow 2 k).symm
  rw [e]
  generalize 2 ^ k = m at *
  omega
set_option maxHeartbeats 1600000 in
theorem flip_any (s : ByteArray) (hs : s.size ≤ maxLen) (i : Nat) (hi : i < 8 * s.size) (w : World) :
    Calls Try.prog 25 #[.string s, .int .i64 (i : Int)] w fun e w' => e = .returned (.string (flipB s i)) ∧ Same w w' := by
  obtain ⟨C, F, hrun, hrow, hcap⟩ := row_made s
  obtain ⟨k, hk⟩ : ∃ k, k + i / 8 + 1 = s.size := ⟨s.size - 1 - i / 8, by omega⟩
  have HROW := Lib.hid hrow; clear hrow
  have HCAP := Lib.hid hcap; clear hcap
  unfold maxLen at hs
  go_enter Try.func25, Try.ntmps25
  go_wp2
  clear hrun
  have hsz0 : 0 < s.size := by omega
  have hst := HROW.out w
  have hcap := HCAP.out w
  generalize F w = w2 at *
  generalize C w = cap at *
  have hkl : k < s.data.toList.length := by rw [Array.length_toList]; show k < s.size; omega
  obtain ⟨hc, hf⟩ := hst.1 k hkl
  have hid : (s.size : Int) - 1 - (i : Int) / 8 = (k : Int) := by omega
  have hks : (k : Int) < (s.size : Int) := by omega
  generalize hcv : s.data.toList.getD k 0 = c at *
  have HST := Lib.hid hst; clear hst
  have HKL := Lib.hid hkl; clear hkl
  have HCV := Lib.hid hcv; clear hcv
  have hv : bits .xor .u8 (c.toNat : Int) (2 ^ (i % 8) % 256) = ((c ^^^ UInt8.ofNat (2 ^ (i % 8))).toNat : Int) := by
    have h1 := two_byte (i % 8) (Nat.mod_lt _ (by decide))
    have h2 : (2 ^ (i % 8) : Nat) < 256 := Nat.lt_of_lt_of_le (Nat.pow_lt_pow_right (by decide) (Nat.mod_lt i (by decide : 0 < 8))) (by decide)
    have h3 := pow_256 (i % 8) h2
    rw [h3, bits_xor_u8 _ _ c.toNat_lt h2, UInt8.toNat_xor, UInt8.toNat_ofNat_of_lt' h2]
  have hrow2 := HST.out.1.store HKL.out (c ^^^ UInt8.ofNat (2 ^ (i % 8))) hv
  have hl2 : s.data.toList.length = s.size := by rw [Array.length_toList]; rfl
  have hkk : s.data.toList.length - 1 - i / 8 = k := by rw [hl2]; omega
  have hfl : s.data.toList.set k (c ^^^ UInt8.ofNat (2 ^ (i % 8))) = flipL s.data.toList i := by
    unfold flipL; rw [hkk, HCV.out]
  rw [hfl] at hrow2
  have hconv := Row.conv (cap := cap) (hrow2.same (w' := (w2.setCell ⟨w.heap.size, k, none⟩ (.int .u8 (bits .xor .u8 (c.toNat : Int) (2 ^ (i % 8) % 256)))).drew) rfl)
  rw [flipL_length, hl2] at hconv
  have HS := Lib.hid (HST.out.2.setCell (Nat.le_refl _) (p := ⟨w.heap.size, k, none⟩) (.int .u8 (bits .xor .u8 (c.toNat : Int) (2 ^ (i % 8) % 256))))
  clear hfl hkk hl2 hrow2 hv
  go_region
  all_goals go_wp2
  go_ret
  exact ⟨rfl, HS.out.drew⟩
end Go.Proofs.Ytgeodffcbphepaa
