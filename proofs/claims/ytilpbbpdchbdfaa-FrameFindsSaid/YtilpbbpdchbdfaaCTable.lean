
/- The table of remainders of package crc, made by a closure, and check sums by it. -/
import Derived.Test.YtilpbbpdchbdfaaCCalls2
namespace Go.Proofs.Ytilpbbpdchbdfaa.Cr
open Go.RowKit
open Crc

/-- All blocks that were there are as they were. -/
structure Same (w w' : World) : Prop where
  os : w'.os = w.os
  tape : w'.tape = w.tape
  output : w'.output = w.output
  size : w.heap.size ≤ w'.heap.size
  block : ∀ k, k < w.heap.size → w'.heap[k]? = w.heap[k]?
theorem Same.refl (w : World) : Same w w := ⟨rfl, rfl, rfl, Nat.le_refl _, fun _ _ => rfl⟩
theorem Same.trans {a b c : World} (h : Same a b) (k : Same b c) : Same a c :=
  ⟨k.os.trans h.os, k.tape.trans h.tape, k.output.trans h.output, Nat.le_trans h.size k.size, fun i hi => (k.block i (Nat.lt_of_lt_of_le hi h.size)).trans (h.block i hi)⟩
theorem Same.drewN {a w : World} (h : Same a w) (n : Nat) : Same a (w.drewN n) := ⟨h.os, h.tape, h.output, h.size, h.block⟩
theorem Same.drew {a w : World} (h : Same a w) : Same a w.drew := ⟨h.os, h.tape, h.output, h.size, h.block⟩
theorem Same.ofDrewN {w w' : World} (h : ∃ n, w' = w.drewN n) : Same w w' := by obtain ⟨n, rfl⟩ := h; exact (Same.refl w).drewN n
theorem Same.alloc {a w : World} (h : Same a w) (o : Obj) : Same a (w.alloc o) :=
  ⟨h.os, h.tape, h.output, Nat.le_trans h.size (by simp), fun k hk => (Below.heap_alloc _ _ _ (Nat.lt_of_lt_of_le hk h.size)).trans (h.block k hk)⟩
theorem Same.setCell {a w : World} (h : Same a w) {p : Addr} (hp : a.heap.size ≤ p.block) (u : Value) : Same a (w.setCell p u) :=
  ⟨h.os, h.tape, h.output, Nat.le_trans h.size (by simp [World.setCell]), fun k hk => (Below.heap_setCell _ _ _ _ (by omega)).trans (h.block k hk)⟩
theorem Same.setRow {a w : World} (h : Same a w) {g : Nat} (hg : a.heap.size ≤ g) (cs : Array Value) : Same a (w.setRow g cs) :=
  ⟨h.os, h.tape, h.output, Nat.le_trans h.size (by simp), fun k hk => (setRow_other w g k cs (by omega)).trans (h.block k hk)⟩
theorem Same.toBelow {w w' : World} (h : Same w w') : Below w.heap.size w w' := ⟨h.os, h.tape, h.output, h.size, fun k hk => h.block k hk⟩

def tb (i : Nat) : Nat := R (i * 65536)
theorem tb_lt (i : Nat) : tb i < 65536 := R_lt _
theorem closure_any (i : Nat) (hi : i < 16) (w : World) : Calls Try.prog 112 #[.int .u32 (i : Int)] w fun e w' => e = .returned (.int .u16 (tb i : Nat)) ∧ ∃ n, w' = w.drewN n := by
  have hr := fun w => remainder_any (i * 65536) (by omega) w
  rw [show ((i * 65536 : Nat) : Int) = (i : Int) * 65536 by omega] at hr
  have HR := Lib.hid hr; clear hr
  go_enter Try.func112, Try.ntmps112
  go_wp2_with (go_at_call 113; refine (HR.out _).mono ?_; rintro e w' ⟨rfl, hw⟩; have HW := Lib.hid hw; clear hw)
  go_ret
  exact ⟨rfl, HW.out⟩

def cellOf (k i : Nat) : Value := if i < k then .int .u16 (tb i : Nat) else .int .u16 0
def arr (k : Nat) : Array Value := #[cellOf k 0, cellOf k 1, cellOf k 2, cellOf k 3, cellOf k 4, cellOf k 5, cellOf k 6, cellOf k 7, cellOf k 8, cellOf k 9, cellOf k 10, cellOf k 11, cellOf k 12, cellOf k 13, cellOf k 14, cellOf k 15]
theorem arr_get (k i : Nat) (hi : i < 16) : (arr k)[i]? = some (cellOf k i) := by
  unfold arr
  match i, hi with
  | 0, _ => rfl
  | 1, _ => rfl
  | 2, _ => rfl
  | 3, _ => rfl
  | 4, _ => rfl
  | 5, _ => rfl
  | 6, _ => rfl
  | 7, _ => rfl
  | 8, _ => rfl
  | 9, _ => rfl
  | 10, _ => rfl
  | 11, _ => rfl
  | 12, _ => rfl
  | 13, _ => rfl
  | 14, _ => rfl
  | 15, _ => rfl
  | n + 16, h => exact absurd h (by omega)
theorem arr_size (k : Nat) : (arr k).size = 16 := rfl
theorem cellOf_one (k i : Nat) : (cellOf k i).oneCell' = true := by unfold cellOf; split <;> rfl
theorem arr_one (k : Nat) : (arr k).all (·.oneCell') = true := by simp [arr, cellOf_one]
theorem arr_next (k : Nat) (hk : k < 16) : (arr k).setIfInBounds k (.int .u16 (tb k : Nat)) = arr (k + 1) := by
  apply Array.ext
  · simp [arr_size]
  · intro i h1 h2
    have hi : i < 16 := by simpa [arr_size] using h2
    apply Option.some.inj
    rw [← Array.getElem?_eq_getElem, ← Array.getElem?_eq_getElem, Array.getElem?_setIfInBounds, arr_get _ _ hi, arr_get _ _ hi, arr_size]
    by_cases e : k = i
    · subst e; simp [hk, cellOf]
    · have : (i < k + 1) = (i < k) := by apply propext; omega
      simp [e, cellOf, this]
theorem arr_zero : arr 0 = #[.int .u16 0, .int .u16 0, .int .u16 0, .int .u16 0, .int .u16 0, .int .u16 0, .int .u16 0, .int .u16 0, .int .u16 0, .int .u16 0, .int .u16 0, .int .u16 0, .int .u16 0, .int .u16 0, .int .u16 0, .int .u16 0] := rfl

/-- In the loop of tabulate: k places of the table are filled. -/
def Filling (w : World) (k : Nat) (wr : World) : Prop :=
  wr.heap[w.heap.size]? = some (.cells (arr 0) 119 (0, 0)) ∧ wr.heap[w.heap.size + 1]? = some (.cells (arr k) 119 (0, 0)) ∧ Same w wr
theorem Filling.next {w wr : World} {k : Nat} (h : Filling w k wr) (hk : k < 16) : Filling w (k + 1) (wr.setCell ⟨w.heap.size + 1, k, none⟩ (.int .u16 (tb k : Nat))) := by
  obtain ⟨h1, h2, h3⟩ := h
  refine ⟨by rw [Below.heap_setCell _ _ _ _ (by simp)]; exact h1, ?_, h3.setCell (by simp) _⟩
  have := heap_setCell_same wr (w.heap.size + 1) k _ 119 (.int .u16 (tb k : Nat)) h2
  rw [arr_next k hk] at this; exact this
theorem Filling.drewN {w wr : World} {k : Nat} (h : Filling w k wr) (n : Nat) : Filling w k (wr.drewN n) := ⟨h.1, h.2.1, h.2.2.drewN n⟩
theorem Filling.drew {w wr : World} {k : Nat} (h : Filling w k wr) : Filling w k wr.drew := ⟨h.1, h.2.1, h.2.2.drew⟩
theorem Filling.cell {w wr : World} {k i : Nat} (h : Filling w k wr) (hi : i < 16) : wr.cell? ⟨w.heap.size + 1, i, none⟩ = some (cellOf k i) ∧ wr.frozen? ⟨w.heap.size + 1, i, none⟩ = false := by
  obtain ⟨_, h2, _⟩ := h
  exact ⟨by rw [cell_of_row wr _ i _ _ _ h2]; exact arr_get k i hi, frozen_of_row wr _ i _ _ h2⟩

theorem Try.size16 : (Try.prog.info? 119).map (·.size) = some 16 := by kernel_rfl
theorem Filling.start (w : World) : Filling w 0 ((w.alloc (.cells (arr 0) 119)).alloc (.cells (arr 0) 119)) :=
  ⟨heap_alloc2_old w _ _, heap_alloc2_new w _ _, ((Same.refl w).alloc _).alloc _⟩
set_option maxHeartbeats 800000 in
theorem tabulate_any (w : World) : Calls Try.prog 111 #[.func (.func 112) #[] #[]] w fun e w' => e = .returned (.agg (arr 16)) ∧ Same w w' := by
  have hst := Filling.start w
  rw [arr_zero] at hst
  have HST := Lib.hid hst; clear hst
  have hC := fun i hi w => closure_any i hi w
  have HC := Lib.hid hC; clear hC
  go_enter Try.func111, Try.ntmps111
  go_wp2
  go_loopw [5] (fun i wr => ∃ k : Nat, k ≤ 16 ∧ i = .int .i64 k ∧ Filling w k wr) (fun i _ => 16 - (intOf i).toNat)
  case atStart => exact ⟨0, by omega, rfl, HST.out⟩
  case round =>
    obtain ⟨k, hk, rfl, hf⟩ := hrel
    by_cases hlt : k < 16
    · obtain ⟨hc, hfz⟩ := hf.cell hlt
      have HF := Lib.hid hf; clear hf
      go_wp2_with (go_at_call 112; refine (HC.out k hlt _).mono ?_; rintro e w' ⟨rfl, n, rfl⟩)
      go_roundw
      case rel => exact ⟨k + 1, by omega, by go_num, (HF.out.drewN n).next hlt⟩
      case measure => simp [intOf]; omega
    · obtain rfl : k = 16 := by omega
      obtain ⟨h1, h2, h3⟩ := hf
      have H1 := Lib.hid h1; clear h1
      have H3 := Lib.hid h3; clear h3
      have H2 := Lib.hid h2; clear h2
      go_wp2_with (first | (refine wpList_load_row rfl 119 _ rfl _ rfl 119 _ (0, 0) _ H2.out Try.underlying119 rfl Try.size16 ?_) | (refine wpList_store_row rfl 119 _ _ rfl _ (arr 16) rfl rfl 119 _ H1.out Try.size16 rfl (arr_one 16) ?_))
      refine bodyPost_ret (v := .agg (arr 16)) ?_ rfl ⟨rfl, H3.out.setRow (Nat.le_refl _) _⟩
      exact results_cell_row Try.results111 _ _ _ 119 _ (0, 0) _ rfl (setRow_heap wr _ _ _ _ _ H1.out) Try.underlying119 rfl Try.size16
theorem halves (u : Nat) : (u / 4096 * 4096) ^^^ (u % 4096) = u := by
  apply Nat.eq_of_testBit_eq; intro i
  have e1 : u / 4096 * 4096 = (u >>> 12) <<< 12 := by rw [Nat.shiftLeft_eq, Nat.shiftRight_eq_div_pow]
  have e2 : u % 4096 = u % 2 ^ 12 := rfl
  rw [Nat.testBit_xor, e1, e2, Nat.testBit_shiftLeft, Nat.testBit_shiftRight, Nat.testBit_mod_two_pow]
  by_cases h : i < 12
  · simp [h, show ¬ 12 ≤ i by omega]
  · rw [show 12 + (i - 12) = i by omega]; simp [h]; intro h2; omega
/-- The value of the table at an index. -/
theorem tb_step (u : Nat) (hu : u < 65536) : bits .xor .u16 ((u : Int) * 16 % 65536) ((tb (u / 4096) : Nat) : Int) = ((Ti 4 u : Nat) : Int) := by
  have h1 : Ti 4 (u % 4096) = u % 4096 * 16 := by
    rw [← R_shift (a := u % 4096) (by omega) 4 (by decide)]; exact R_small (by omega)
  have h2 : Ti 4 (u / 4096 * 4096) = tb (u / 4096) := by
    rw [← R_shift (a := u / 4096 * 4096) (by omega) 4 (by decide)]; unfold tb; congr 1; omega
  rw [show (u : Int) * 16 % 65536 = ((u % 4096 * 16 : Nat) : Int) by omega, bits_xor_u16 _ _ (by omega) (tb_lt _), ← h1, ← h2, Nat.xor_comm, ← Ti_xor, halves]
theorem tab_cell {w : World} {B : Nat} (h : w.heap[B]? = some (.cells (arr 16) 119 (0, 0))) (i : Nat) (hi : i < 16) : w.cell? ⟨B, i, none⟩ = some (.int .u16 (tb i : Nat)) := by
  rw [cell_of_row w _ i _ _ _ h, arr_get 16 i hi]; unfold cellOf; rw [if_pos hi]
set_option maxHeartbeats 800000 in
theorem update_any (s : Nat) (hs : s < 65536) (data : ByteArray) (hd : data.size ≤ maxLen) (w : World) : Calls Try.prog 93 #[.int .u16 (s : Int), .string data] w fun e w' => e = .returned (.int .u16 (U s data.data.toList : Nat)) ∧ Same w w' := by
  have HS := Lib.hid hs; clear hs
  have HT := Lib.hid (fun w => tabulate_any w)
  unfold maxLen at hd
  go_enter Try.func93, Try.ntmps93
  go_wp2_with (first | (go_at_call 111; refine (HT.out _).mono ?_; rintro e w1 ⟨rfl, hsm⟩; have HSM := Lib.hid hsm; clear hsm) | (refine wpList_store_row rfl 119 _ _ rfl _ (arr 16) rfl rfl 119 _ (heap_alloc_new _ _) Try.size16 rfl (arr_one 16) ?_))
  have hsame := (HSM.out.alloc (.cells (arr 0) 119)).setRow (g := w1.heap.size) HSM.out.size (arr 16)
  have hrow := setRow_heap (w1.alloc (.cells (arr 0) 119)) w1.heap.size _ (arr 16) 119 (0, 0) (heap_alloc_new w1 (.cells (arr 0) 119))
  rw [arr_zero] at hsame hrow
  revert hsame hrow
  generalize World.setRow _ w1.heap.size (arr 16) = w2
  generalize w1.heap.size = B
  intro hsame hrow
  have HSM2 := Lib.hid hsame; clear hsame HSM
  have htab := fun i hi => tab_cell hrow i hi
  have HTAB := Lib.hid htab; clear htab hrow
  go_loop [0, 10] (fun u i => ∃ k : Nat, k ≤ data.size ∧ i = .int .i64 k ∧ u = .int .u16 (U s (data.data.toList.take k) : Nat)) (fun _ i => data.size - (intOf i).toNat)
  case atStart => exact ⟨0, by omega, rfl, rfl⟩
  case round =>
    obtain ⟨k, hk, rfl, rfl⟩ := hrel
    by_cases hlt : k < data.size
    · have hsn := U_snoc s data k hlt
      have hin := byte_in _ _ (U_lt HS.out (data.data.toList.take k)) data[k].toNat_lt
      have hul := xor_lt (U_lt HS.out (data.data.toList.take k)) (byte_lt data[k])
      have HSN := Lib.hid hsn; clear hsn
      have HIN := Lib.hid hin; clear hin
      have HUL := Lib.hid hul; clear hul
      have hcl := data[k].toNat_lt
      go_wp2
      go_loop [0, 20] (fun u i => ∃ j : Nat, j ≤ 2 ∧ i = .int .i64 j ∧ u = .int .u16 (Ti (4 * j) (U s (data.data.toList.take k) ^^^ data[k].toNat * 256) : Nat)) (fun _ i => 2 - (intOf i).toNat)
      case atStart => exact ⟨0, by omega, rfl, by rw [HIN.out]; rfl⟩
      case round =>
        obtain ⟨j, hj, rfl, rfl⟩ := hrel
        by_cases hlt2 : j < 2
        · have htl := Ti_lt (4 * j) HUL.out
          have hnx : Ti (4 * (j + 1)) (U s (data.data.toList.take k) ^^^ data[k].toNat * 256) = Ti 4 (Ti (4 * j) (U s (data.data.toList.take k) ^^^ data[k].toNat * 256)) := by rw [← Ti_add]; congr 1; omega
          have HNX := Lib.hid hnx; clear hnx
          generalize Ti (4 * j) (U s (data.data.toList.take k) ^^^ data[k].toNat * 256) = u at htl HNX ⊢
          have hc := HTAB.out (u / 4096) (by omega)
          have hi16 : u / 4096 < 16 := by omega
          have HTL := Lib.hid htl; clear htl
          go_wp2
          go_round
          case rel =>
            exact ⟨j + 1, by omega, by go_num, by rw [HNX.out, wrap_u16, tb_step u HTL.out]⟩
          case measure => simp [intOf]; omega
        · obtain rfl : j = 2 := by omega
          go_wp2
          go_round
          case rel => exact ⟨k + 1, by omega, by go_num, by rw [HSN.out]⟩
          case measure => simp [intOf]; omega
    · go_wp2
      go_ret
      obtain rfl : k = data.size := by omega
      exact ⟨ret_u16 (by rw [List.take_of_length_le (by simp)]), HSM2.out⟩
end Go.Proofs.Ytilpbbpdchbdfaa.Cr
