
/- The reference writer: signed numbers and flags. -/
import Derived.Test.YtilpbbpdchbdfaaBRefW2
namespace Go.Proofs.Ytilpbbpdchbdfaa.Bit
open Go.RowKit
set_option maxRecDepth 100000

theorem signed2w_bad (w : World) (a : Nat) (st : List Nat × Int) (d : Option Nat) (h : Wr2 w a st d) (h0 : st.2 ≠ 0) (wd x : Int) :
    Calls Try.prog 34 #[.pointer (some ⟨a, 0, none⟩), .int .i64 wd, .int .i64 x] w fun e w' => e = .returned (.tuple #[]) ∧ w = w' := by
  obtain ⟨v, h1, h2⟩ := h.cells
  obtain ⟨k0, k1, f0, f1⟩ := block2_cell h1
  have H0 := (show (st.2 != 0) = true by simpa using h0)
  clear h h1 h2 h0
  go_enter Try.func34, Try.ntmps34
  go_wp2
  refine bodyPost_ret (results_none rfl _ _ _) rfl ?_
  exact ⟨rfl, rfl⟩
theorem signed2w_arg (w : World) (a : Nat) (bs : List Nat) (d : Option Nat) (h : Wr2 w a (bs, 0) d) (wd x : Int) (hw : wd < 2 ∨ 63 < wd) :
    Calls Try.prog 34 #[.pointer (some ⟨a, 0, none⟩), .int .i64 wd, .int .i64 x] w fun e w' => e = .returned (.tuple #[]) ∧ WrTo2 w a d (bs, 1) w' := by
  obtain ⟨v, h1, h2⟩ := h.cells
  obtain ⟨k0, k1, f0, f1⟩ := block2_cell h1
  have HF := Lib.hid (h.fell 1)
  clear h h1 h2
  rcases hw with hw | hw
  all_goals
    go_enter Try.func34, Try.ntmps34
    go_wp2
    refine bodyPost_ret (results_none rfl _ _ _) rfl ?_
    exact ⟨rfl, HF.out⟩
theorem signed2w_ok (w : World) (a : Nat) (bs : List Nat) (d : Option Nat) (h : Wr2 w a (bs, 0) d) (n : Nat) (x : Int) (h1n : 2 ≤ n) (h2n : n ≤ 63) (hx0 : -2 ^ (n - 1) ≤ x) (hx : x < 2 ^ (n - 1)) (hroom : bs.length + n ≤ 524288) :
    Calls Try.prog 34 #[.pointer (some ⟨a, 0, none⟩), .int .i64 n, .int .i64 x] w fun e w' => e = .returned (.tuple #[]) ∧ WrTo2 w a d (bs ++ enc n x, 0) w' := by
  have HR := Lib.hid (room2_ok w a bs d h n hroom)
  have HP := Lib.hid (put2_any w a bs d h n x h2n hroom)
  obtain ⟨v, h1, h2⟩ := h.cells
  obtain ⟨k0, k1, f0, f1⟩ := block2_cell h1
  dsimp only at k1
  clear h h1 h2 hroom
  obtain ⟨P, hP, hP1, hP2, hP3, hP4⟩ := half_facts n (by omega) (by omega)
  rw [show ((2 : Int) ^ (n - 1)) = ((2 ^ (n - 1) : Nat) : Int) by simp, hP] at hx hx0
  clear hP hP2
  have hx' : x ≤ (P : Int) - 1 := by omega
  clear hx
  go_enter Try.func34, Try.ntmps34
  go_wp2_with (first | (go_at_call 71; refine (HR.out).mono ?_; rintro e w1 ⟨rfl, rfl⟩) | (go_at_call 72; refine (HP.out).mono ?_; rintro e w1 ⟨rfl, hw⟩))
  go_end0
  exact ⟨rfl, hw⟩
theorem signed2w_full (w : World) (a : Nat) (bs : List Nat) (d : Option Nat) (h : Wr2 w a (bs, 0) d) (n : Nat) (x : Int) (h1n : 2 ≤ n) (h2n : n ≤ 63) (hx0 : -2 ^ (n - 1) ≤ x) (hx : x < 2 ^ (n - 1)) (hroom : 524288 < bs.length + n) :
    Calls Try.prog 34 #[.pointer (some ⟨a, 0, none⟩), .int .i64 n, .int .i64 x] w fun e w' => e = .returned (.tuple #[]) ∧ WrTo2 w a d (bs, 8) w' := by
  have HR := Lib.hid (room2_full w a bs d h n hroom (by omega))
  obtain ⟨v, h1, h2⟩ := h.cells
  obtain ⟨k0, k1, f0, f1⟩ := block2_cell h1
  dsimp only at k1
  clear h h1 h2 hroom
  obtain ⟨P, hP, hP1, hP2, hP3, hP4⟩ := half_facts n (by omega) (by omega)
  rw [show ((2 : Int) ^ (n - 1)) = ((2 ^ (n - 1) : Nat) : Int) by simp, hP] at hx hx0
  clear hP hP2
  have hx' : x ≤ (P : Int) - 1 := by omega
  clear hx
  go_enter Try.func34, Try.ntmps34
  go_wp2_with (go_at_call 71; refine (HR.out).mono ?_; rintro e w1 ⟨rfl, hw⟩)
  go_end0
  exact ⟨rfl, hw⟩
theorem signed2w_range (w : World) (a : Nat) (bs : List Nat) (d : Option Nat) (h : Wr2 w a (bs, 0) d) (n : Nat) (x : Int) (h1n : 2 ≤ n) (h2n : n ≤ 63) (hx : x < -2 ^ (n - 1) ∨ 2 ^ (n - 1) ≤ x) :
    Calls Try.prog 34 #[.pointer (some ⟨a, 0, none⟩), .int .i64 n, .int .i64 x] w fun e w' => e = .returned (.tuple #[]) ∧ WrTo2 w a d (bs, 2) w' := by
  have HF := Lib.hid (h.fell 2)
  obtain ⟨v, h1, h2⟩ := h.cells
  obtain ⟨k0, k1, f0, f1⟩ := block2_cell h1
  dsimp only at k1
  clear h h1 h2
  obtain ⟨P, hP, hP1, hP2, hP3, hP4⟩ := half_facts n (by omega) (by omega)
  rw [show ((2 : Int) ^ (n - 1)) = ((2 ^ (n - 1) : Nat) : Int) by simp, hP] at hx
  clear hP hP2
  rcases hx with hx | hx
  · go_enter Try.func34, Try.ntmps34
    go_wp2
    refine bodyPost_ret (results_none rfl _ _ _) rfl ?_
    exact ⟨rfl, HF.out⟩
  · have hx' : (P : Int) - 1 < x := by omega
    clear hx
    go_enter Try.func34, Try.ntmps34
    go_wp2
    refine bodyPost_ret (results_none rfl _ _ _) rfl ?_
    exact ⟨rfl, HF.out⟩
/-- A signed field. -/
theorem signed2w_any (w : World) (a : Nat) (st : List Nat × Int) (d : Option Nat) (h : Wr2 w a st d) (wd x : Int) :
    Calls Try.prog 34 #[.pointer (some ⟨a, 0, none⟩), .int .i64 wd, .int .i64 x] w fun e w' => e = .returned (.tuple #[]) ∧ WrTo2 w a d (wsig wd x st) w' := by
  unfold wsig
  by_cases h0 : st.2 ≠ 0
  · rw [if_pos h0]
    refine (signed2w_bad w a st d h h0 wd x).mono ?_
    rintro e w' ⟨rfl, rfl⟩
    exact ⟨rfl, h.stays⟩
  rw [if_neg h0]
  obtain ⟨bs, er⟩ := st
  obtain rfl : er = 0 := by simpa using h0
  by_cases h1 : wd < 2 ∨ 63 < wd
  · rw [if_pos h1]; exact signed2w_arg w a bs d h wd x h1
  rw [if_neg h1]
  obtain ⟨n, rfl⟩ := Int.eq_ofNat_of_zero_le (show 0 ≤ wd by omega)
  rw [Int.toNat_natCast]
  by_cases h2 : x < -2 ^ (n - 1) ∨ 2 ^ (n - 1) ≤ x
  · rw [if_pos h2]; exact signed2w_range w a bs d h n x (by omega) (by omega) h2
  rw [if_neg h2]
  dsimp only
  by_cases h3 : 524288 < (bs.length : Int) + n
  · rw [if_pos h3]; exact signed2w_full w a bs d h n x (by omega) (by omega) (by omega) (by omega) (by omega)
  · rw [if_neg h3]; exact signed2w_ok w a bs d h n x (by omega) (by omega) (by omega) (by omega) (by omega)
theorem flag2w_ok (w : World) (a : Nat) (bs : List Nat) (d : Option Nat) (h : Wr2 w a (bs, 0) d) (b : Bool) (hroom : bs.length + 1 ≤ 524288) :
    Calls Try.prog 33 #[.pointer (some ⟨a, 0, none⟩), .bool b] w fun e w' => e = .returned (.tuple #[]) ∧ WrTo2 w a d (bs ++ [if b then 1 else 0], 0) w' := by
  obtain ⟨i0, hi, hz0, hz1, hz2⟩ := info_parts Try.infoU8
  have HR := Lib.hid (room2_ok w a bs d h 1 hroom)
  obtain ⟨hb, hl, v, h1, h2, h3, h4⟩ := h
  obtain ⟨k0, k1, f0, f1⟩ := block2_cell h1
  dsimp only at hb hl h1 h2 k1
  have halt := lt_of_block h1
  have H1 := Lib.hid h1; clear h1
  have H3 := Lib.hid h3; clear h3
  have H4 := Lib.hid h4; clear h4
  cases b
  · go_enter Try.func33, Try.ntmps33
    go_wp2_with (first
      | (go_at_call 71; refine (HR.out).mono ?_; rintro e w1 ⟨rfl, rfl⟩)
      | (at_builtin; refine wpList_append_row _ rfl _ _ 41 rfl 5 i0 (.int .u8 0) 1 Try.underlying41 hi hz0 hz1 hz2 rfl _ _ _ rfl (h2.alloc _) ⟨w.heap.size, 0, none⟩ 1 (.int .u8 0) rfl ?c1 rfl ?c3 ?c4 ?_))
    case c1 => simp [Addr.add]
    case c3 => unfold maxLen; omega
    case c4 => omega
    · intro g cap w1 hown hgrow hgd
      have ha1 : w1.heap[a]? = some (.cells #[v, .int .i64 0] 88 (0, 0)) := by
        rw [hgrow.block a (by simp; omega) (by rw [H3.out]; exact fun e => H4.out e.symm)]
        exact (Below.heap_alloc _ _ _ halt).trans H1.out
      obtain ⟨q0, q1, r0, r1⟩ := block2_cell ha1
      have HM := Lib.hid (more_bit2 (b := 0) hb (by omega) (by omega) H1.out H3.out H4.out hgrow (by exact hown) (by
        rcases hgd with hh | hh
        · exact Or.inl (H3.out ▸ hh)
        · exact Or.inr (by have : w.heap.size + 1 ≤ g := by simpa using hh
                           omega)))
      clear hown hgrow hgd ha1 k0 k1 f0 f1
      go_wp2
      go_end0
      exact ⟨rfl, HM.out⟩
  · go_enter Try.func33, Try.ntmps33
    go_wp2_with (first
      | (go_at_call 71; refine (HR.out).mono ?_; rintro e w1 ⟨rfl, rfl⟩)
      | (at_builtin; refine wpList_append_row _ rfl _ _ 41 rfl 5 i0 (.int .u8 0) 1 Try.underlying41 hi hz0 hz1 hz2 rfl _ _ _ rfl (h2.alloc _) ⟨w.heap.size, 0, none⟩ 1 (.int .u8 1) rfl ?c1 rfl ?c3 ?c4 ?_))
    case c1 => simp [Addr.add]
    case c3 => unfold maxLen; omega
    case c4 => omega
    · intro g cap w1 hown hgrow hgd
      have ha1 : w1.heap[a]? = some (.cells #[v, .int .i64 0] 88 (0, 0)) := by
        rw [hgrow.block a (by simp; omega) (by rw [H3.out]; exact fun e => H4.out e.symm)]
        exact (Below.heap_alloc _ _ _ halt).trans H1.out
      obtain ⟨q0, q1, r0, r1⟩ := block2_cell ha1
      have HM := Lib.hid (more_bit2 (b := 1) hb (by omega) (by omega) H1.out H3.out H4.out hgrow (by exact hown) (by
        rcases hgd with hh | hh
        · exact Or.inl (H3.out ▸ hh)
        · exact Or.inr (by have : w.heap.size + 1 ≤ g := by simpa using hh
                           omega)))
      clear hown hgrow hgd ha1 k0 k1 f0 f1
      go_wp2
      go_end0
      exact ⟨rfl, HM.out⟩
theorem flag2w_not (w : World) (a : Nat) (st2 : List Nat × Int) (d : Option Nat) (b : Bool)
    (hr : Calls Try.prog 71 #[.pointer (some ⟨a, 0, none⟩), .int .i64 1] w fun e w' => e = .returned (.bool false) ∧ WrTo2 w a d st2 w') :
    Calls Try.prog 33 #[.pointer (some ⟨a, 0, none⟩), .bool b] w fun e w' => e = .returned (.tuple #[]) ∧ WrTo2 w a d st2 w' := by
  have HR := Lib.hid hr; clear hr
  go_enter Try.func33, Try.ntmps33
  go_wp2_with (go_at_call 71; refine (HR.out).mono ?_; rintro e w1 ⟨rfl, hw⟩)
  refine bodyPost_ret (results_none rfl _ _ _) rfl ?_
  exact ⟨rfl, hw⟩
/-- A flag. -/
theorem flag2w_any (w : World) (a : Nat) (st : List Nat × Int) (d : Option Nat) (h : Wr2 w a st d) (b : Bool) :
    Calls Try.prog 33 #[.pointer (some ⟨a, 0, none⟩), .bool b] w fun e w' => e = .returned (.tuple #[]) ∧ WrTo2 w a d (wflag b st) w' := by
  unfold wflag wuns
  by_cases h0 : st.2 ≠ 0
  · rw [if_pos h0]
    refine flag2w_not w a st d b ((room2_bad w a st d h h0 1).mono ?_)
    rintro e w' ⟨rfl, rfl⟩
    exact ⟨rfl, h.stays⟩
  rw [if_neg h0]
  obtain ⟨bs, er⟩ := st
  obtain rfl : er = 0 := by simpa using h0
  rw [if_neg (by omega), if_neg (by cases b <;> decide)]
  dsimp only
  by_cases h3 : 524288 < (bs.length : Int) + 1
  · rw [if_pos h3]
    exact flag2w_not w a (bs, 8) d b (room2_full w a bs d h 1 (by omega) (by omega))
  · rw [if_neg h3]
    have e : enc (Int.toNat 1) (if b then 1 else 0) = [if b then 1 else 0] := by cases b <;> decide
    rw [e]
    exact flag2w_ok w a bs d h b (by omega)
end Go.Proofs.Ytilpbbpdchbdfaa.Bit
