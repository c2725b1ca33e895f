
/- The writer's calls: what each leaves, in each case. -/
import Derived.Test.YtilpbbpdchbdfaaBPut
namespace Go.Proofs.Ytilpbbpdchbdfaa.Bit
open Go.RowKit

/-- What a call leaves that fails: the error er, as many bits as before. -/
def WrFell (w : World) (a k : Nat) (er : Int) (w' : World) : Prop := WrBad w' a k er ∧ Keeps (fun i => i = a) w w'
/-- What a call leaves that does nothing. -/
def WrSame (w w' : World) : Prop := Keeps (fun _ => False) w w'

theorem WrGrew.from {w w1 w2 : World} {a : Nat} {d : Option Nat} {bs : List Nat} (h : Keeps (fun _ => False) w w1) (h2 : WrGrew w1 a d bs w2) : WrGrew w a d bs w2 := by
  obtain ⟨d2, h', k2, hd2⟩ := h2
  refine ⟨d2, h', h.trans k2 (fun _ h => h.elim) (fun _ _ h => h), ?_⟩
  intro g hg
  rcases hd2 g hg with h' | h'
  · exact Or.inl h'
  · have := h.size; exact Or.inr (by omega)
theorem WrFell.from {w w1 w2 : World} {a k : Nat} {er : Int} (h : Keeps (fun _ => False) w w1) (h2 : WrFell w1 a k er w2) : WrFell w a k er w2 :=
  ⟨h2.1, h.trans h2.2 (fun _ h => h.elim) (fun _ _ h => h)⟩

theorem fail_any (w : World) (a : Nat) (v : Value) (k : Nat) (e0 er : Int) (h : w.heap[a]? = some (.cells #[v, .int .i64 k, .int .i64 e0] 105 (0, 0))) :
    Calls Try.prog 98 #[.pointer (some ⟨a, 0, none⟩), .int .i64 er] w fun e w' => e = .returned (.tuple #[]) ∧ WrFell w a k er w' := by
  obtain ⟨k0, k1, k2, f0, f1, f2⟩ := block3_cell h
  have hb : ((w.setCell ⟨a, 2, none⟩ (.int .i64 er)).setCell ⟨a, 0, none⟩ (.slice none 0 0)).heap[a]? = some (.cells #[.slice none 0 0, .int .i64 k, .int .i64 er] 105 (0, 0)) :=
    (block3_set (block3_set h).2.2).1
  have HB := Lib.hid hb; clear hb h
  go_enter Try.func98, Try.ntmps98
  go_wp2
  go_end0
  have hk : Keeps (fun i => i = a) w ((w.setCell ⟨a, 2, none⟩ (.int .i64 er)).setCell ⟨a, 0, none⟩ (.slice none 0 0)) := ((Keeps.refl (fun i => i = a) w).setCell (p := ⟨a, 2, none⟩) (fun _ => rfl) _).setCell (p := ⟨a, 0, none⟩) (fun _ => rfl) _
  exact ⟨rfl, HB.out, hk⟩

/-- A writer in an error: nothing is written. -/
theorem unsigned_bad (w : World) (a k : Nat) (er : Int) (h : WrBad w a k er) (her : (er != 0) = true) (wd x : Int) :
    Calls Try.prog 63 #[.pointer (some ⟨a, 0, none⟩), .int .i64 wd, .int .i64 x] w fun e w' => e = .returned (.tuple #[]) ∧ WrSame w w' := by
  have halt := lt_of_block h
  obtain ⟨k0, k1, k2, f0, f1, f2⟩ := block3_cell h
  clear h
  go_enter Try.func63, Try.ntmps63
  go_wp2
  go_end0
  exact ⟨rfl, ((Keeps.refl _ w).alloc _).alloc _⟩

theorem two_boxes {w : World} {a : Nat} {o : Obj} (h : w.heap[a]? = some o) (o1 o2 : Obj) : ((w.alloc o1).alloc o2).heap[a]? = some o := by
  have := lt_of_block h
  rw [Below.heap_alloc _ _ _ (by simp; omega), Below.heap_alloc _ _ _ this]; exact h
theorem same_two (w : World) (o1 o2 : Obj) : WrSame w ((w.alloc o1).alloc o2) := ((Keeps.refl _ w).alloc _).alloc _

theorem unsigned_arg (w : World) (a : Nat) (bs : List Nat) (d : Option Nat) (h : WrOk w a bs d) (wd x : Int) (hw : wd < 1 ∨ 63 < wd) :
    Calls Try.prog 63 #[.pointer (some ⟨a, 0, none⟩), .int .i64 wd, .int .i64 x] w fun e w' => e = .returned (.tuple #[]) ∧ WrFell w a bs.length 1 w' := by
  obtain ⟨_, v, h1, _⟩ := h
  have halt := lt_of_block h1
  obtain ⟨k0, k1, k2, f0, f1, f2⟩ := block3_cell h1
  have H2 := Lib.hid (two_boxes h1)
  clear h1
  rcases hw with hw | hw
  all_goals
    go_enter Try.func63, Try.ntmps63
    go_wp2_with (first | (go_at_call 98; refine (fail_any _ a v bs.length 0 1 (H2.out _ _)).mono ?_; rintro e w' ⟨rfl, hf⟩) | go_in)
    go_end0
    exact ⟨rfl, WrFell.from (same_two _ _ _) hf⟩

theorem unsigned_range (w : World) (a : Nat) (bs : List Nat) (d : Option Nat) (h : WrOk w a bs d) (wd : Nat) (x : Int) (hw : 1 ≤ wd) (hw2 : wd ≤ 63) (hx : x < 0 ∨ 2 ^ wd ≤ x) :
    Calls Try.prog 63 #[.pointer (some ⟨a, 0, none⟩), .int .i64 wd, .int .i64 x] w fun e w' => e = .returned (.tuple #[]) ∧ WrFell w a bs.length 2 w' := by
  obtain ⟨_, v, h1, _⟩ := h
  have halt := lt_of_block h1
  obtain ⟨k0, k1, k2, f0, f1, f2⟩ := block3_cell h1
  have H2 := Lib.hid (two_boxes h1)
  clear h1
  rcases hx with hx | hx
  · go_enter Try.func63, Try.ntmps63
    go_wp2_with (first | (go_at_call 98; refine (fail_any _ a v bs.length 0 2 (H2.out _ _)).mono ?_; rintro e w' ⟨rfl, hf⟩) | go_in)
    go_end0
    exact ⟨rfl, WrFell.from (same_two _ _ _) hf⟩
  · have hp : (0 : Int) < 2 ^ wd := Int.pow_pos (by omega)
    have h1x : 1 ≤ x / 2 ^ wd := by rw [Int.le_ediv_iff_mul_le hp]; omega
    have h0x : 0 ≤ x := by omega
    have hq : (x / 2 ^ wd == 0) = false := by simp; omega
    clear hx hp h1x
    go_enter Try.func63, Try.ntmps63
    go_wp2_with (first | (go_at_call 98; refine (fail_any _ a v bs.length 0 2 (H2.out _ _)).mono ?_; rintro e w' ⟨rfl, hf⟩) | go_in)
    go_end0
    exact ⟨rfl, WrFell.from (same_two _ _ _) hf⟩

theorem unsigned_full (w : World) (a : Nat) (bs : List Nat) (d : Option Nat) (h : WrOk w a bs d) (wd : Nat) (x : Int) (hw : 1 ≤ wd) (hw2 : wd ≤ 63) (hx0 : 0 ≤ x) (hx : x < 2 ^ wd) (hroom : 524288 < bs.length + wd) (hlen : bs.length ≤ 524288) :
    Calls Try.prog 63 #[.pointer (some ⟨a, 0, none⟩), .int .i64 wd, .int .i64 x] w fun e w' => e = .returned (.tuple #[]) ∧ WrFell w a bs.length 8 w' := by
  obtain ⟨_, v, h1, _⟩ := h
  have halt := lt_of_block h1
  obtain ⟨k0, k1, k2, f0, f1, f2⟩ := block3_cell h1
  have H2 := Lib.hid (two_boxes h1)
  have hq : (x / 2 ^ wd == 0) = true := by rw [beq_iff_eq]; exact Int.ediv_eq_zero_of_lt hx0 hx
  clear h1 hx
  go_enter Try.func63, Try.ntmps63
  go_wp2_with (first | (go_at_call 98; refine (fail_any _ a v bs.length 0 8 (H2.out _ _)).mono ?_; rintro e w' ⟨rfl, hf⟩) | go_in)
  go_end0
  exact ⟨rfl, WrFell.from (same_two _ _ _) hf⟩

theorem WrOk.two {w : World} {a : Nat} {bs : List Nat} {d : Option Nat} (h : WrOk w a bs d) (o1 o2 : Obj) : WrOk ((w.alloc o1).alloc o2) a bs d := h.keep (same_two w o1 o2) (fun h => h) (fun _ _ h => h)

theorem unsigned_ok (w : World) (a : Nat) (bs : List Nat) (d : Option Nat) (h : WrOk w a bs d) (wd : Nat) (x : Int) (hw : 1 ≤ wd) (hw2 : wd ≤ 63) (hx0 : 0 ≤ x) (hx : x < 2 ^ wd) (hroom : bs.length + wd ≤ 524288) :
    Calls Try.prog 63 #[.pointer (some ⟨a, 0, none⟩), .int .i64 wd, .int .i64 x] w fun e w' => e = .returned (.tuple #[]) ∧ WrGrew w a d (bs ++ enc wd x) w' := by
  have H3 := Lib.hid h.two
  obtain ⟨_, v, h1, _⟩ := h
  have halt := lt_of_block h1
  obtain ⟨k0, k1, k2, f0, f1, f2⟩ := block3_cell h1
  have hq : (x / 2 ^ wd == 0) = true := by rw [beq_iff_eq]; exact Int.ediv_eq_zero_of_lt hx0 hx
  clear h1 hx
  go_enter Try.func63, Try.ntmps63
  go_wp2_with (first | (go_at_call 99; refine (put_any _ a bs d (H3.out _ _) wd x hw2 hroom).mono ?_; rintro e w' ⟨rfl, hf⟩) | go_in)
  go_end0
  exact ⟨rfl, WrGrew.from (same_two _ _ _) hf⟩

/-- The same for a signed field. -/
theorem signed_bad (w : World) (a k : Nat) (er : Int) (h : WrBad w a k er) (her : (er != 0) = true) (wd x : Int) :
    Calls Try.prog 65 #[.pointer (some ⟨a, 0, none⟩), .int .i64 wd, .int .i64 x] w fun e w' => e = .returned (.tuple #[]) ∧ WrSame w w' := by
  have halt := lt_of_block h
  obtain ⟨k0, k1, k2, f0, f1, f2⟩ := block3_cell h
  clear h
  go_enter Try.func65, Try.ntmps65
  go_wp2
  go_end0
  exact ⟨rfl, ((Keeps.refl _ w).alloc _).alloc _⟩
theorem signed_arg (w : World) (a : Nat) (bs : List Nat) (d : Option Nat) (h : WrOk w a bs d) (wd x : Int) (hw : wd < 2 ∨ 63 < wd) :
    Calls Try.prog 65 #[.pointer (some ⟨a, 0, none⟩), .int .i64 wd, .int .i64 x] w fun e w' => e = .returned (.tuple #[]) ∧ WrFell w a bs.length 1 w' := by
  obtain ⟨_, v, h1, _⟩ := h
  have halt := lt_of_block h1
  obtain ⟨k0, k1, k2, f0, f1, f2⟩ := block3_cell h1
  have H2 := Lib.hid (two_boxes h1)
  clear h1
  rcases hw with hw | hw
  all_goals
    go_enter Try.func65, Try.ntmps65
    go_wp2_with (first | (go_at_call 98; refine (fail_any _ a v bs.length 0 1 (H2.out _ _)).mono ?_; rintro e w' ⟨rfl, hf⟩) | go_in)
    go_end0
    exact ⟨rfl, WrFell.from (same_two _ _ _) hf⟩
theorem signed_range (w : World) (a : Nat) (bs : List Nat) (d : Option Nat) (h : WrOk w a bs d) (wd : Nat) (x : Int) (hw : 2 ≤ wd) (hw2 : wd ≤ 63) (hx : x < -2 ^ (wd - 1) ∨ 2 ^ (wd - 1) ≤ x) :
    Calls Try.prog 65 #[.pointer (some ⟨a, 0, none⟩), .int .i64 wd, .int .i64 x] w fun e w' => e = .returned (.tuple #[]) ∧ WrFell w a bs.length 2 w' := by
  obtain ⟨_, v, h1, _⟩ := h
  have halt := lt_of_block h1
  obtain ⟨k0, k1, k2, f0, f1, f2⟩ := block3_cell h1
  have H2 := Lib.hid (two_boxes h1)
  clear h1
  have hp : (0 : Int) < 2 ^ (wd - 1) := Int.pow_pos (by omega)
  have hq : (x / 2 ^ (wd - 1) == 0) = false ∧ (x / 2 ^ (wd - 1) == -1) = false := by
    rcases hx with hx | hx
    · have : x / 2 ^ (wd - 1) < -1 := by rw [Int.ediv_lt_iff_lt_mul hp]; omega
      simp; omega
    · have : 1 ≤ x / 2 ^ (wd - 1) := by rw [Int.le_ediv_iff_mul_le hp]; omega
      simp; omega
  obtain ⟨hq1, hq2⟩ := hq
  clear hx hp
  go_enter Try.func65, Try.ntmps65
  go_wp2_with (first | (go_at_call 98; refine (fail_any _ a v bs.length 0 2 (H2.out _ _)).mono ?_; rintro e w' ⟨rfl, hf⟩) | go_in)
  go_end0
  exact ⟨rfl, WrFell.from (same_two _ _ _) hf⟩
theorem signed_full (w : World) (a : Nat) (bs : List Nat) (d : Option Nat) (h : WrOk w a bs d) (wd : Nat) (x : Int) (hw : 2 ≤ wd) (hw2 : wd ≤ 63) (hx0 : -2 ^ (wd - 1) ≤ x) (hx : x < 2 ^ (wd - 1)) (hroom : 524288 < bs.length + wd) (hlen : bs.length ≤ 524288) :
    Calls Try.prog 65 #[.pointer (some ⟨a, 0, none⟩), .int .i64 wd, .int .i64 x] w fun e w' => e = .returned (.tuple #[]) ∧ WrFell w a bs.length 8 w' := by
  obtain ⟨_, v, h1, _⟩ := h
  have halt := lt_of_block h1
  obtain ⟨k0, k1, k2, f0, f1, f2⟩ := block3_cell h1
  have H2 := Lib.hid (two_boxes h1)
  have hp : (0 : Int) < 2 ^ (wd - 1) := Int.pow_pos (by omega)
  have hq : ((x / 2 ^ (wd - 1) == 0) = true) ∨ ((x / 2 ^ (wd - 1) == 0) = false ∧ (x / 2 ^ (wd - 1) == -1) = true) := by
    by_cases h0 : 0 ≤ x
    · left; rw [beq_iff_eq]; exact Int.ediv_eq_zero_of_lt h0 hx
    · right
      have : x / 2 ^ (wd - 1) = -1 := by
        have h1 : x / 2 ^ (wd - 1) < 0 := by rw [Int.ediv_lt_iff_lt_mul hp]; omega
        have h2 : -1 ≤ x / 2 ^ (wd - 1) := by rw [Int.le_ediv_iff_mul_le hp]; omega
        omega
      rw [this]; decide
  clear hx hx0 hp h1
  rcases hq with hq | ⟨hq, hq2⟩
  all_goals
    go_enter Try.func65, Try.ntmps65
    go_wp2_with (first | (go_at_call 98; refine (fail_any _ a v bs.length 0 8 (H2.out _ _)).mono ?_; rintro e w' ⟨rfl, hf⟩) | go_in)
    go_end0
    exact ⟨rfl, WrFell.from (same_two _ _ _) hf⟩
theorem signed_ok (w : World) (a : Nat) (bs : List Nat) (d : Option Nat) (h : WrOk w a bs d) (wd : Nat) (x : Int) (hw : 2 ≤ wd) (hw2 : wd ≤ 63) (hx0 : -2 ^ (wd - 1) ≤ x) (hx : x < 2 ^ (wd - 1)) (hroom : bs.length + wd ≤ 524288) :
    Calls Try.prog 65 #[.pointer (some ⟨a, 0, none⟩), .int .i64 wd, .int .i64 x] w fun e w' => e = .returned (.tuple #[]) ∧ WrGrew w a d (bs ++ enc wd x) w' := by
  have H3 := Lib.hid h.two
  obtain ⟨_, v, h1, _⟩ := h
  have halt := lt_of_block h1
  obtain ⟨k0, k1, k2, f0, f1, f2⟩ := block3_cell h1
  have hp : (0 : Int) < 2 ^ (wd - 1) := Int.pow_pos (by omega)
  have hq : ((x / 2 ^ (wd - 1) == 0) = true) ∨ ((x / 2 ^ (wd - 1) == 0) = false ∧ (x / 2 ^ (wd - 1) == -1) = true) := by
    by_cases h0 : 0 ≤ x
    · left; rw [beq_iff_eq]; exact Int.ediv_eq_zero_of_lt h0 hx
    · right
      have : x / 2 ^ (wd - 1) = -1 := by
        have h1 : x / 2 ^ (wd - 1) < 0 := by rw [Int.ediv_lt_iff_lt_mul hp]; omega
        have h2 : -1 ≤ x / 2 ^ (wd - 1) := by rw [Int.le_ediv_iff_mul_le hp]; omega
        omega
      rw [this]; decide
  clear hx hx0 hp h1
  rcases hq with hq | ⟨hq, hq2⟩
  all_goals
    go_enter Try.func65, Try.ntmps65
    go_wp2_with (first | (go_at_call 99; refine (put_any _ a bs d (H3.out _ _) wd x hw2 hroom).mono ?_; rintro e w' ⟨rfl, hf⟩) | go_in)
    go_end0
    exact ⟨rfl, WrGrew.from (same_two _ _ _) hf⟩
end Go.Proofs.Ytilpbbpdchbdfaa.Bit
