
/- Check sums and protected strings of package crc. -/
import Derived.Test.YtilpbbpdchbdfaaCTable
import Derived.Laws.BytesArg
import Derived.Laws.Concat
namespace Go.Proofs.Ytilpbbpdchbdfaa.Cr
open Go.RowKit
open Crc

theorem sum_any (data : ByteArray) (hd : data.size ≤ maxLen) (w : World) : Calls Try.prog 60 #[.string data] w fun e w' => e = .returned (.int .u16 (U 0 data.data.toList : Nat)) ∧ Same w w' := by
  have hU := fun w => update_any 0 (by decide) data hd w
  rw [show ((0 : Nat) : Int) = 0 from rfl] at hU
  have HU := Lib.hid hU; clear hU
  go_enter Try.func60, Try.ntmps60
  go_wp2_with (go_at_call 93; refine (HU.out _).mono ?_; rintro e w' ⟨rfl, hw⟩; have HW := Lib.hid hw; clear hw)
  go_ret
  exact ⟨rfl, HW.out⟩
theorem sum2_any (data : ByteArray) (hd : data.size ≤ maxLen) (w : World) : Calls Try.prog 74 #[.string data] w fun e w' => e = .returned (.int .u16 (U 0 data.data.toList : Nat)) ∧ w' = w := by
  have hU := fun w => update2_any 0 (by decide) data hd w
  rw [show ((0 : Nat) : Int) = 0 from rfl] at hU
  have HU := Lib.hid hU; clear hU
  go_enter Try.func74, Try.ntmps74
  go_wp2_with (go_at_call 103; refine (HU.out _).mono ?_; rintro e w' ⟨rfl, rfl⟩)
  go_ret
  exact ⟨rfl, rfl⟩

/-- A number in two bytes, the higher one first. -/
def two (u : Nat) : ByteArray := strOfNums [((u / 256 : Nat) : Int), ((u % 256 : Nat) : Int)]
theorem conv_two (w : World) (a b : Int) : (convert 41 9 (.slice (some ⟨w.heap.size, 0, none⟩) 2 2)).run Try.prog (w.alloc (.cells #[.int .u8 a, .int .u8 b] 5)) = .ok (.string (strOfNums [a, b])) (w.alloc (.cells #[.int .u8 a, .int .u8 b] 5)) := by
  refine run_convert_bytes_arg (P := Try.prog) _ 41 5 Try.underlying41 Try.underlying5 w.heap.size 0 2 2 [a, b] rfl ?_ 9 Try.underlying9
  intro i hi
  rw [cell_of_row _ _ _ _ _ _ (heap_alloc_new w _)]
  match i, hi with
  | 0, _ => rfl
  | 1, _ => rfl
/-- A protected string. -/
def prot (data : ByteArray) : ByteArray := data ++ two (U 0 data.data.toList)
theorem protect_any (data : ByteArray) (hd : data.size ≤ 1000) (w : World) : Calls Try.prog 29 #[.string data] w fun e w' => e = .returned (.string (prot data)) ∧ Same w w' := by
  have hS := fun w => sum_any data (by unfold maxLen; omega) w
  have hu := U_lt (s := 0) (by decide) data.data.toList
  have hprot : data ++ strOfNums [((U 0 data.data.toList : Nat) : Int) / 256, ((U 0 data.data.toList : Nat) : Int) % 256] = prot data := by
    unfold prot two; rfl
  have HPR := Lib.hid hprot; clear hprot
  have hconv := conv_two
  have hsz : ∀ a b : Int, (strOfNums [a, b]).size = 2 := fun a b => strOfNums_size [a, b]
  generalize U 0 data.data.toList = u at hS hu HPR
  have h1 : (u : Int) / 256 ≤ 255 := by omega
  have h2 : (u : Int) ≤ 65535 := by omega
  have HS := Lib.hid hS; clear hS
  have HU := Lib.hid hu; clear hu
  go_enter Try.func29, Try.ntmps29
  go_wp2_with (go_at_call 60; refine (HS.out _).mono ?_; rintro e w' ⟨rfl, hw⟩; have HW := Lib.hid hw; clear hw)
  go_ret
  exact ⟨by rw [← HPR.out]; rfl, HW.out.alloc _⟩
theorem two_size (u : Nat) : (two u).size = 2 := strOfNums_size _
theorem prot_size (data : ByteArray) : (prot data).size = data.size + 2 := by unfold prot; rw [ByteArray.size_append, two_size]
end Go.Proofs.Ytilpbbpdchbdfaa.Cr
