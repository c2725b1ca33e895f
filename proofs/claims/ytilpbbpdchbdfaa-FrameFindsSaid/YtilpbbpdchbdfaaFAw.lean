/- The example of the chapter, which each statement checks first. -/
import Derived.Test.YtilpbbpdchbdfaaFE2
namespace Go.Proofs.Ytilpbbpdchbdfaa
open Go.RowKit

def fA : Fr := ⟨2, 2, 1, 3, 4, 0, 0, -1, 0, 0, 0, ⟨#[]⟩⟩
def fB : Fr := ⟨1, 0, 1, 0, 0, 0, 0, 0, 0, 0, 0, ⟨#[]⟩⟩
def bA : List Nat := [0, 1, 0, 0, 0, 0, 1, 0, 1, 0, 0, 0, 0, 1, 0, 0, 0, 0, 0, 0, 1, 1, 0, 0, 0, 0, 0, 1, 0, 0, 1, 1, 1, 1, 1, 1, 1, 1, 1, 1, 1, 1, 1, 1, 1, 1]
theorem fA_ok : okB fA = true := (okB_iff fA).2 (by unfold Ok fA; simp [ByteArray.size])
theorem fB_ok : okB fB = true := (okB_iff fB).2 (by unfold Ok fB; simp)
theorem fA_bits : wst fA = (bA, 0) := by decide +kernel
theorem fB_bits : (wst fB).2 = 0 ∧ (wst fB).1.length = 61 := by decide +kernel
theorem fA_bytes : Bit.wbytes (bA, 0) = ⟨#[66, 132, 12, 19, 255, 252]⟩ := by rfl
theorem fA_wr : wrR fA = (⟨#[66, 132, 12, 19, 255, 252]⟩, 46, 0) := by
  unfold wrR
  rw [fA_bits, fA_bytes]
  rfl
theorem fA_enc : encR fA = (Cr.prot ⟨#[66, 132, 12, 19, 255, 252]⟩, 0) := by
  unfold encR
  rw [if_pos fA_ok, fA_wr]
  rfl
theorem fA_time : timR fA = (832, 0) := by
  unfold timR
  rw [fA_enc]
  rfl
theorem fB_room : romR fB = (117, 0) := by
  unfold romR wrR
  rw [if_pos ⟨fB_ok, by decide⟩, if_neg (by rw [fB_bits.1, fB_bits.2]; simp)]
  simp only [fB_bits.2]
  rfl
set_option maxRecDepth 100000 in
theorem awake_any (w : World) : Calls Try.prog 11 #[] w fun e w' => e = .returned (.bool true) ∧ Same w w' := by
  have h1 := fun w1 => encode_any fA (by decide) w1
  have h2 := fun w1 => time_any fA (by decide) w1
  have h3 := fun w1 => room_any fB (by decide) w1
  have h4 := fun w1 => protect_any ⟨#[66, 132, 12, 19, 255, 252]⟩ (by decide) w1
  rw [fA_enc] at h1
  rw [fA_time] at h2
  rw [fB_room] at h3
  have hz : (Cr.prot ⟨#[66, 132, 12, 19, 255, 252]⟩).size = 8 := Cr.prot_size _
  dsimp only [fA, fB] at h1 h2 h3
  have HS := Lib.hid ((Same.refl w).alloc (.cells (frC fA) 23))
  have HB0 := Lib.hid (fun (w1 : World) (h : Same (w.alloc (.cells (frC ⟨2, 2, 1, 3, 4, 0, 0, -1, 0, 0, 0, ⟨#[]⟩⟩) 23)) w1) => fr_cells (fr_box h))
  generalize Cr.prot ⟨#[66, 132, 12, 19, 255, 252]⟩ = P at *
  have H1 := Lib.hid h1; have H2 := Lib.hid h2; have H3 := Lib.hid h3; have H4 := Lib.hid h4
  clear h1 h2 h3 h4
  go_enter Try.func11, Try.ntmps11
  go_wp2_with (first
    | (go_at_call 12; (with_reducible refine (H1.out _).mono ?_); rintro E1 w1 ⟨rfl, hw⟩; obtain ⟨c0, c1, c2, c3, c4, c5, c6, c7, c8, c9, c10, c11⟩ := HB0.out _ hw; have HW := Lib.hid (HS.out.trans hw); clear hw)
    | (go_at_call 14; (with_reducible refine (H2.out _).mono ?_); rintro E1 w2 ⟨rfl, hw⟩; have HW2 := Lib.hid (HW.out.trans hw); clear hw)
    | (go_at_call 16; (with_reducible refine (H3.out _).mono ?_); rintro E1 w3 ⟨rfl, hw⟩; have HW3 := Lib.hid (HW2.out.trans hw); clear hw)
    | (go_at_call 29; (with_reducible refine (H4.out _).mono ?_); rintro E1 w4 ⟨rfl, hw⟩; have HW4 := Lib.hid (HW3.out.trans hw); clear hw))
  go_ret
  exact ⟨rfl, HW4.out⟩
end Go.Proofs.Ytilpbbpdchbdfaa
