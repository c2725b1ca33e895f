
/- The reference writer: texts, and how many bits. -/
import Derived.Test.YtilpbbpdchbdfaaBRefW3
namespace Go.Proofs.Ytilpbbpdchbdfaa.Bit
open Go.RowKit
set_option maxRecDepth 100000

theorem newWriter2_any (w : World) : Calls Try.prog 31 #[] w fun e w' => e = .returned (.pointer (some ⟨w.heap.size, 0, none⟩)) ∧ Wr2 w' w.heap.size ([], 0) none ∧ Keeps (fun _ => False) w w' := by
  have hb : Wr2 (w.alloc (.cells #[.slice none 0 0, .int .i64 0] 88)) w.heap.size ([], 0) none := ⟨Bits.nil, by simp, _, heap_alloc_new w _, by exact World.ownsRow_nil _ _ _ _, rfl, by simp⟩
  have HB := Lib.hid hb; clear hb
  go_enter Try.func31, Try.ntmps31
  go_wp2
  go_ret
  exact ⟨rfl, HB.out, (Keeps.refl _ w).alloc _⟩
theorem text2w_bad (w : World) (a : Nat) (st : List Nat × Int) (d : Option Nat) (h : Wr2 w a st d) (h0 : st.2 ≠ 0) (most : Int) (s : ByteArray) :
    Calls Try.prog 35 #[.pointer (some ⟨a, 0, none⟩), .int .i64 most, .string s] w fun e w' => e = .returned (.tuple #[]) ∧ w = w' := by
  obtain ⟨v, h1, h2⟩ := h.cells
  obtain ⟨k0, k1, f0, f1⟩ := block2_cell h1
  have H0 := (show (st.2 != 0) = true by simpa using h0)
  clear h h1 h2 h0
  go_enter Try.func35, Try.ntmps35
  go_wp2
  refine bodyPost_ret (results_none rfl _ _ _) rfl ?_
  exact ⟨rfl, rfl⟩
theorem text2w_arg (w : World) (a : Nat) (bs : List Nat) (d : Option Nat) (h : Wr2 w a (bs, 0) d) (most : Int) (s : ByteArray) (hw : most < 1 ∨ 4095 < most) :
    Calls Try.prog 35 #[.pointer (some ⟨a, 0, none⟩), .int .i64 most, .string s] w fun e w' => e = .returned (.tuple #[]) ∧ WrTo2 w a d (bs, 1) w' := by
  obtain ⟨v, h1, h2⟩ := h.cells
  obtain ⟨k0, k1, f0, f1⟩ := block2_cell h1
  have HF := Lib.hid (h.fell 1)
  clear h h1 h2
  rcases hw with hw | hw
  all_goals
    go_enter Try.func35, Try.ntmps35
    go_wp2
    refine bodyPost_ret (results_none rfl _ _ _) rfl ?_
    exact ⟨rfl, HF.out⟩
theorem text2w_long (w : World) (a : Nat) (bs : List Nat) (d : Option Nat) (h : Wr2 w a (bs, 0) d) (most : Int) (h1m : 1 ≤ most) (h2m : most ≤ 4095) (s : ByteArray) (hw : most < s.size) :
    Calls Try.prog 35 #[.pointer (some ⟨a, 0, none⟩), .int .i64 most, .string s] w fun e w' => e = .returned (.tuple #[]) ∧ WrTo2 w a d (bs, 8) w' := by
  obtain ⟨v, h1, h2⟩ := h.cells
  obtain ⟨k0, k1, f0, f1⟩ := block2_cell h1
  have HF := Lib.hid (h.fell 8)
  clear h h1 h2
  go_enter Try.func35, Try.ntmps35
  go_wp2
  refine bodyPost_ret (results_none rfl _ _ _) rfl ?_
  exact ⟨rfl, HF.out⟩
theorem text2w_full (w : World) (a : Nat) (bs : List Nat) (d : Option Nat) (h : Wr2 w a (bs, 0) d) (most : Int) (h1m : 1 ≤ most) (h2m : most ≤ 4095) (s : ByteArray) (hw : (s.size : Int) ≤ most) (hroom : 524288 < bs.length + (wid most + 8 * s.size)) :
    Calls Try.prog 35 #[.pointer (some ⟨a, 0, none⟩), .int .i64 most, .string s] w fun e w' => e = .returned (.tuple #[]) ∧ WrTo2 w a d (bs, 8) w' := by
  have hwd := (wid_text most h1m h2m).2.1
  have HR := Lib.hid (room2_full w a bs d h (wid most + 8 * s.size) hroom (by omega))
  have HWC := Lib.hid (width2_any w most (by omega))
  obtain ⟨v, h1, h2⟩ := h.cells
  obtain ⟨k0, k1, f0, f1⟩ := block2_cell h1
  generalize wid most = wd at *
  clear h h1 h2 hroom
  go_enter Try.func35, Try.ntmps35
  go_wp2_with (first | (go_at_call 73; refine (HWC.out).mono ?_; rintro e w1 ⟨rfl, rfl⟩) | (go_at_call 71; refine (HR.out).mono ?_; rintro e w1 ⟨rfl, hw⟩))
  refine bodyPost_ret (results_none rfl _ _ _) rfl ?_
  exact ⟨rfl, hw⟩
def DivAt2 (w : World) (a : Nat) (d : Option Nat) (bs : List Nat) (s : ByteArray) (i : Value) (wr : World) : Prop :=
  ∃ k : Nat, k ≤ s.size ∧ i = .int .i64 k ∧ WrTo2 w a d (bs ++ textBits (s.data.toList.take k), 0) wr
theorem text2w_ok (w : World) (a : Nat) (bs : List Nat) (d : Option Nat) (h : Wr2 w a (bs, 0) d) (most : Int) (h1m : 1 ≤ most) (h2m : most ≤ 4095) (s : ByteArray) (hw : (s.size : Int) ≤ most) (hroom : bs.length + (wid most + 8 * s.size) ≤ 524288) :
    Calls Try.prog 35 #[.pointer (some ⟨a, 0, none⟩), .int .i64 most, .string s] w fun e w' => e = .returned (.tuple #[]) ∧ WrTo2 w a d (bs ++ enc (wid most) s.size ++ textBits s.data.toList, 0) w' := by
  have hwd := (wid_text most h1m h2m).2.1
  have HR := Lib.hid (room2_ok w a bs d h (wid most + 8 * s.size) hroom)
  have HWC := Lib.hid (fun w1 => width2_any w1 most (by omega))
  have HP := Lib.hid (put2_any w a bs d h (wid most) s.size (by omega) (by omega))
  obtain ⟨v, h1, h2⟩ := h.cells
  obtain ⟨k0, k1, f0, f1⟩ := block2_cell h1
  generalize wid most = wd at *
  have HROOM := Lib.hid hroom
  have hs : s.size ≤ 4095 := by omega
  clear h h1 h2 hroom
  go_enter Try.func35, Try.ntmps35
  go_wp2_with (first | (go_at_call 73; refine (HWC.out _).mono ?_; rintro e w1 ⟨rfl, rfl⟩) | (go_at_call 71; refine (HR.out).mono ?_; rintro e w1 ⟨rfl, rfl⟩) | (go_at_call 72; refine (HP.out).mono ?_; rintro e w1 ⟨rfl, hw1⟩; have HW1 := Lib.hid hw1; clear hw1))
  clear k0 k1 f0 f1
  go_loopw [6] (fun i wr => DivAt2 w a d (bs ++ enc wd s.size) s i wr) (fun i wr => s.size - (intOf i).toNat)
  case atStart => exact ⟨0, Nat.zero_le _, rfl, (by rw [List.take_zero]; show WrTo2 w a d ((bs ++ enc wd s.size) ++ [], 0) _; rw [List.append_nil]; exact HW1.out)⟩
  case round =>
    obtain ⟨k, hk, rfl, hw2⟩ := hrel
    by_cases hlt : k < s.size
    · have hsn := textBits_snoc s k hlt
      have hl := textBits_le s k (by omega)
      have hl2 : (bs ++ enc wd s.size ++ textBits (s.data.toList.take k)).length + 8 ≤ 524288 := by
        have := HROOM.out
        rw [List.length_append, List.length_append, enc_length, hl]; omega
      have HS := Lib.hid hsn; clear hsn
      have HW := Lib.hid hw2; clear hw2
      have HL := Lib.hid hl2; clear hl2 hl
      have hp : ∀ x, ∃ d1, Wr2 wr a (bs ++ enc wd s.size ++ textBits (s.data.toList.take k), 0) d1 ∧ Keeps (fun k => k = a ∨ d = some k) w wr ∧ (∀ g, d1 = some g → d = some g ∨ w.heap.size ≤ g) ∧ Calls Try.prog 72 #[.pointer (some ⟨a, 0, none⟩), .int .i64 8, .int .i64 x] wr fun e w' => e = .returned (.tuple #[]) ∧ WrTo2 wr a d1 (bs ++ enc wd s.size ++ textBits (s.data.toList.take k) ++ enc 8 x, 0) w' := by
        intro x
        obtain ⟨d1, g1, g2, g3⟩ := HW.out
        exact ⟨d1, g1, g2, g3, put2_any wr a _ d1 g1 8 x (by omega) HL.out⟩
      obtain ⟨d1, g1, g2, g3, g4⟩ := hp (s[k].toNat : Int)
      have G2 := Lib.hid g2
      have G3 := Lib.hid g3
      have G4 := Lib.hid g4
      have hb8 : wrap64 (s[k].toNat : Int) = s[k].toNat := IntWalk.wrap64_in _ (by have := s[k].toNat_lt; omega)
      clear g1 g2 g3 g4 hp
      go_wp2_with (go_at_call 72; rw [hb8]; refine (G4.out).mono ?_; rintro e w' ⟨rfl, hf⟩)
      go_roundw
      case rel =>
        refine ⟨k + 1, by omega, by go_num, ?_⟩
        rw [HS.out, ← List.append_assoc]
        exact WrTo2.step G2.out G3.out hf
      case measure => simp [intOf]; omega
    · have hkn : s.data.toList.take k = s.data.toList := List.take_of_length_le (by rw [data_len]; omega)
      rw [hkn] at hw2
      have HW := Lib.hid hw2; clear hw2 hkn
      go_wp2
      go_end0
      exact ⟨rfl, HW.out⟩
/-- A text. -/
theorem text2w_any (w : World) (a : Nat) (st : List Nat × Int) (d : Option Nat) (h : Wr2 w a st d) (most : Int) (s : ByteArray) :
    Calls Try.prog 35 #[.pointer (some ⟨a, 0, none⟩), .int .i64 most, .string s] w fun e w' => e = .returned (.tuple #[]) ∧ WrTo2 w a d (wtext most s st) w' := by
  unfold wtext
  by_cases h0 : st.2 ≠ 0
  · rw [if_pos h0]
    refine (text2w_bad w a st d h h0 most s).mono ?_
    rintro e w' ⟨rfl, rfl⟩
    exact ⟨rfl, h.stays⟩
  rw [if_neg h0]
  obtain ⟨bs, er⟩ := st
  obtain rfl : er = 0 := by simpa using h0
  by_cases h1 : most < 1 ∨ 4095 < most
  · rw [if_pos h1]; exact text2w_arg w a bs d h most s h1
  rw [if_neg h1]
  dsimp only
  by_cases h2 : most < s.size
  · rw [if_pos (Or.inl h2)]; exact text2w_long w a bs d h most (by omega) (by omega) s h2
  by_cases h3 : 524288 < bs.length + wid most + 8 * s.size
  · rw [if_pos (Or.inr h3)]; exact text2w_full w a bs d h most (by omega) (by omega) s (by omega) (by omega)
  · rw [if_neg (by omega)]; exact text2w_ok w a bs d h most (by omega) (by omega) s (by omega) (by omega)
end Go.Proofs.Ytilpbbpdchbdfaa.Bit
