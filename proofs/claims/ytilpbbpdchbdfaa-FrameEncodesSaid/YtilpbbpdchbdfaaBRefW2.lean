
/- The reference writer: room, numbers and flags. -/
import Derived.Test.YtilpbbpdchbdfaaBRefW1
namespace Go.Proofs.Ytilpbbpdchbdfaa.Bit
open Go.RowKit
set_option maxRecDepth 100000

theorem Wr2.cells {w : World} {a : Nat} {st : List Nat × Int} {d : Option Nat} (h : Wr2 w a st d) : ∃ v, w.heap[a]? = some (.cells #[v, .int .i64 st.2] 88 (0, 0)) ∧ w.ownsRow 0 5 1 v st.1.length (u8s st.1) := by
  obtain ⟨_, _, v, h1, h2, _⟩ := h
  exact ⟨v, h1, h2⟩
/-- What a call leaves that stores an error. -/
theorem Wr2.fell {w : World} {a : Nat} {st : List Nat × Int} {d : Option Nat} (h : Wr2 w a st d) (er : Int) : WrTo2 w a d (st.1, er) (w.setCell ⟨a, 1, none⟩ (.int .i64 er)) := by
  obtain ⟨hb, hl, v, h1, h2, h3, h4⟩ := h
  refine ⟨d, ⟨hb, hl, v, (block2_set h1).2, ?_, h3, h4⟩, (Keeps.refl _ w).setCell (p := ⟨a, 1, none⟩) (fun _ => Or.inl rfl) _, fun _ h => Or.inl h⟩
  exact ownsRow_setCell_other h2 (a := ⟨a, 1, none⟩) (by rw [h3]; exact h4) _
theorem Wr2.stays {w : World} {a : Nat} {st : List Nat × Int} {d : Option Nat} (h : Wr2 w a st d) : WrTo2 w a d st w := ⟨d, h, Keeps.refl _ w, fun _ h => Or.inl h⟩

theorem unsigned2w_bad (w : World) (a : Nat) (st : List Nat × Int) (d : Option Nat) (h : Wr2 w a st d) (h0 : st.2 ≠ 0) (wd x : Int) :
    Calls Try.prog 32 #[.pointer (some ⟨a, 0, none⟩), .int .i64 wd, .int .i64 x] w fun e w' => e = .returned (.tuple #[]) ∧ w = w' := by
  obtain ⟨v, h1, h2⟩ := h.cells
  obtain ⟨k0, k1, f0, f1⟩ := block2_cell h1
  have H0 := (show (st.2 != 0) = true by simpa using h0)
  clear h h1 h2 h0
  go_enter Try.func32, Try.ntmps32
  go_wp2
  refine bodyPost_ret (results_none rfl _ _ _) rfl ?_
  exact ⟨rfl, rfl⟩
theorem unsigned2w_arg (w : World) (a : Nat) (bs : List Nat) (d : Option Nat) (h : Wr2 w a (bs, 0) d) (wd x : Int) (hw : wd < 1 ∨ 63 < wd) :
    Calls Try.prog 32 #[.pointer (some ⟨a, 0, none⟩), .int .i64 wd, .int .i64 x] w fun e w' => e = .returned (.tuple #[]) ∧ WrTo2 w a d (bs, 1) w' := by
  obtain ⟨v, h1, h2⟩ := h.cells
  obtain ⟨k0, k1, f0, f1⟩ := block2_cell h1
  have HF := Lib.hid (h.fell 1)
  clear h h1 h2
  rcases hw with hw | hw
  all_goals
    go_enter Try.func32, Try.ntmps32
    go_wp2
    refine bodyPost_ret (results_none rfl _ _ _) rfl ?_
    exact ⟨rfl, HF.out⟩
theorem room2_bad (w : World) (a : Nat) (st : List Nat × Int) (d : Option Nat) (h : Wr2 w a st d) (h0 : st.2 ≠ 0) (n : Int) :
    Calls Try.prog 71 #[.pointer (some ⟨a, 0, none⟩), .int .i64 n] w fun e w' => e = .returned (.bool false) ∧ w = w' := by
  obtain ⟨v, h1, h2⟩ := h.cells
  obtain ⟨k0, k1, f0, f1⟩ := block2_cell h1
  have H0 := (show (st.2 == 0) = false by simpa using h0)
  clear h h1 h2 h0
  go_enter Try.func71, Try.ntmps71
  go_wp2
  go_ret
  exact ⟨rfl, rfl⟩
theorem row_slice {w : World} {v : Value} {n : Nat} {xs : List Value} (h : w.ownsRow 0 5 1 v n xs) : ∃ ao cap, v = .slice ao n cap := by
  rcases h.2 with ⟨h0, h⟩ | ⟨g, cap', _, h, _⟩
  · subst h; exact ⟨none, 0, h0⟩
  · exact ⟨_, cap', h⟩
theorem room2_ok (w : World) (a : Nat) (bs : List Nat) (d : Option Nat) (h : Wr2 w a (bs, 0) d) (n : Nat) (hn : bs.length + n ≤ 524288) :
    Calls Try.prog 71 #[.pointer (some ⟨a, 0, none⟩), .int .i64 n] w fun e w' => e = .returned (.bool true) ∧ w = w' := by
  obtain ⟨v, h1, h2⟩ := h.cells
  obtain ⟨k0, k1, f0, f1⟩ := block2_cell h1
  obtain ⟨ao, cap, rfl⟩ := row_slice h2
  dsimp only at k0 k1
  clear h h1 h2
  generalize bs.length = l at *
  go_enter Try.func71, Try.ntmps71
  go_wp2
  go_ret
  exact ⟨rfl, rfl⟩
theorem room2_full (w : World) (a : Nat) (bs : List Nat) (d : Option Nat) (h : Wr2 w a (bs, 0) d) (n : Nat) (hn : 524288 < bs.length + n) (hn2 : n ≤ 4611686018427387904) :
    Calls Try.prog 71 #[.pointer (some ⟨a, 0, none⟩), .int .i64 n] w fun e w' => e = .returned (.bool false) ∧ WrTo2 w a d (bs, 8) w' := by
  obtain ⟨v, h1, h2⟩ := h.cells
  obtain ⟨k0, k1, f0, f1⟩ := block2_cell h1
  obtain ⟨ao, cap, rfl⟩ := row_slice h2
  have HF := Lib.hid (h.fell 8)
  have hl := h.2.1
  dsimp only at k0 k1 hl
  clear h h1 h2
  generalize bs.length = l at *
  go_enter Try.func71, Try.ntmps71
  go_wp2
  go_ret
  exact ⟨rfl, HF.out⟩
theorem unsigned2w_ok (w : World) (a : Nat) (bs : List Nat) (d : Option Nat) (h : Wr2 w a (bs, 0) d) (n : Nat) (x : Int) (h1n : 1 ≤ n) (h2n : n ≤ 63) (hx0 : 0 ≤ x) (hx : x < 2 ^ n) (hroom : bs.length + n ≤ 524288) :
    Calls Try.prog 32 #[.pointer (some ⟨a, 0, none⟩), .int .i64 n, .int .i64 x] w fun e w' => e = .returned (.tuple #[]) ∧ WrTo2 w a d (bs ++ enc n x, 0) w' := by
  have HR := Lib.hid (room2_ok w a bs d h n hroom)
  have HP := Lib.hid (put2_any w a bs d h n x h2n hroom)
  obtain ⟨v, h1, h2⟩ := h.cells
  obtain ⟨k0, k1, f0, f1⟩ := block2_cell h1
  dsimp only at k1
  clear h h1 h2 hroom
  by_cases h63 : n = 63
  · subst h63
    clear hx
    go_enter Try.func32, Try.ntmps32
    go_wp2_with (first | (go_at_call 71; refine (HR.out).mono ?_; rintro e w1 ⟨rfl, rfl⟩) | (go_at_call 72; refine (HP.out).mono ?_; rintro e w1 ⟨rfl, hw⟩))
    go_end0
    exact ⟨rfl, hw⟩
  · have hlt : n < 63 := by omega
    obtain ⟨P, hP, hP1, hP2, hP3, hP4⟩ := half_facts (n + 1) (by omega) (by omega)
    rw [show n + 1 - 1 = n by omega] at hP hP1
    rw [show ((2 : Int) ^ n) = ((2 ^ n : Nat) : Int) by simp, hP] at hx
    clear hP hP2
    go_enter Try.func32, Try.ntmps32
    go_wp2_with (first | (go_at_call 71; refine (HR.out).mono ?_; rintro e w1 ⟨rfl, rfl⟩) | (go_at_call 72; refine (HP.out).mono ?_; rintro e w1 ⟨rfl, hw⟩))
    go_end0
    exact ⟨rfl, hw⟩
theorem unsigned2w_full (w : World) (a : Nat) (bs : List Nat) (d : Option Nat) (h : Wr2 w a (bs, 0) d) (n : Nat) (x : Int) (h1n : 1 ≤ n) (h2n : n ≤ 63) (hx0 : 0 ≤ x) (hx : x < 2 ^ n) (hroom : 524288 < bs.length + n) :
    Calls Try.prog 32 #[.pointer (some ⟨a, 0, none⟩), .int .i64 n, .int .i64 x] w fun e w' => e = .returned (.tuple #[]) ∧ WrTo2 w a d (bs, 8) w' := by
  have HR := Lib.hid (room2_full w a bs d h n hroom (by omega))
  obtain ⟨v, h1, h2⟩ := h.cells
  obtain ⟨k0, k1, f0, f1⟩ := block2_cell h1
  dsimp only at k1
  clear h h1 h2 hroom
  by_cases h63 : n = 63
  · subst h63
    clear hx
    go_enter Try.func32, Try.ntmps32
    go_wp2_with (go_at_call 71; refine (HR.out).mono ?_; rintro e w1 ⟨rfl, hw⟩)
    go_end0
    exact ⟨rfl, hw⟩
  · have hlt : n < 63 := by omega
    obtain ⟨P, hP, hP1, hP2, hP3, hP4⟩ := half_facts (n + 1) (by omega) (by omega)
    rw [show n + 1 - 1 = n by omega] at hP hP1
    rw [show ((2 : Int) ^ n) = ((2 ^ n : Nat) : Int) by simp, hP] at hx
    clear hP hP2
    go_enter Try.func32, Try.ntmps32
    go_wp2_with (go_at_call 71; refine (HR.out).mono ?_; rintro e w1 ⟨rfl, hw⟩)
    go_end0
    exact ⟨rfl, hw⟩
theorem unsigned2w_range (w : World) (a : Nat) (bs : List Nat) (d : Option Nat) (h : Wr2 w a (bs, 0) d) (n : Nat) (x : Int) (h1n : 1 ≤ n) (h2n : n ≤ 63) (hxm : x ≤ 9223372036854775807) (hx : x < 0 ∨ 2 ^ n ≤ x) :
    Calls Try.prog 32 #[.pointer (some ⟨a, 0, none⟩), .int .i64 n, .int .i64 x] w fun e w' => e = .returned (.tuple #[]) ∧ WrTo2 w a d (bs, 2) w' := by
  have HF := Lib.hid (h.fell 2)
  obtain ⟨v, h1, h2⟩ := h.cells
  obtain ⟨k0, k1, f0, f1⟩ := block2_cell h1
  dsimp only at k1
  clear h h1 h2
  rcases hx with hx | hx
  · go_enter Try.func32, Try.ntmps32
    go_wp2
    refine bodyPost_ret (results_none rfl _ _ _) rfl ?_
    exact ⟨rfl, HF.out⟩
  · by_cases h63 : n = 63
    · subst h63; omega
    · have hlt : n < 63 := by omega
      obtain ⟨P, hP, hP1, hP2, hP3, hP4⟩ := half_facts (n + 1) (by omega) (by omega)
      rw [show n + 1 - 1 = n by omega] at hP hP1
      rw [show ((2 : Int) ^ n) = ((2 ^ n : Nat) : Int) by simp, hP] at hx
      clear hP hP2
      go_enter Try.func32, Try.ntmps32
      go_wp2
      refine bodyPost_ret (results_none rfl _ _ _) rfl ?_
      exact ⟨rfl, HF.out⟩
/-- An unsigned field. -/
theorem unsigned2w_any (w : World) (a : Nat) (st : List Nat × Int) (d : Option Nat) (h : Wr2 w a st d) (wd x : Int) (hxm : x ≤ 9223372036854775807) :
    Calls Try.prog 32 #[.pointer (some ⟨a, 0, none⟩), .int .i64 wd, .int .i64 x] w fun e w' => e = .returned (.tuple #[]) ∧ WrTo2 w a d (wuns wd x st) w' := by
  unfold wuns
  by_cases h0 : st.2 ≠ 0
  · rw [if_pos h0]
    refine (unsigned2w_bad w a st d h h0 wd x).mono ?_
    rintro e w' ⟨rfl, rfl⟩
    exact ⟨rfl, h.stays⟩
  rw [if_neg h0]
  obtain ⟨bs, er⟩ := st
  obtain rfl : er = 0 := by simpa using h0
  by_cases h1 : wd < 1 ∨ 63 < wd
  · rw [if_pos h1]; exact unsigned2w_arg w a bs d h wd x h1
  rw [if_neg h1]
  obtain ⟨n, rfl⟩ := Int.eq_ofNat_of_zero_le (show 0 ≤ wd by omega)
  rw [Int.toNat_natCast]
  by_cases h2 : x < 0 ∨ 2 ^ n ≤ x
  · rw [if_pos h2]; exact unsigned2w_range w a bs d h n x (by omega) (by omega) hxm h2
  rw [if_neg h2]
  dsimp only
  by_cases h3 : 524288 < (bs.length : Int) + n
  · rw [if_pos h3]; exact unsigned2w_full w a bs d h n x (by omega) (by omega) (by omega) (by omega) (by omega)
  · rw [if_neg h3]; exact unsigned2w_ok w a bs d h n x (by omega) (by omega) (by omega) (by omega) (by omega)
end Go.Proofs.Ytilpbbpdchbdfaa.Bit
