
/- The reference reader: its inner calls. -/
import Derived.Test.YtilpbbpdchbdfaaBStay
namespace Go.Proofs.Ytilpbbpdchbdfaa.Bit
open Go.RowKit
set_option maxRecDepth 100000

def W2At (m : Int) (c n : Value) : Prop := ∃ q k : Nat, c = .int .i64 q ∧ n = .int .i64 k ∧ q ≤ 9223372036854775807 ∧ k + max 1 (Lib.bitLen q) = wid m + 1 ∧ k ≤ 64
theorem bitLen_pos {q : Nat} (h : 1 ≤ q) (h2 : q ≤ 9223372036854775807) : 1 ≤ Lib.bitLen q := by
  have hb := bitLen_spec 64 q (by omega)
  change q < 2 ^ Lib.bitLen q ∧ _ at hb
  rcases Nat.eq_zero_or_pos (Lib.bitLen q) with h0 | h0
  · rw [h0] at hb; have := hb.1; simp at this; omega
  · exact h0
theorem width2_any (w : World) (m : Int) (h1 : m ≤ 9223372036854775807) :
    Calls Try.prog 73 #[.int .i64 m] w fun e w' => e = .returned (.int .i64 (wid m)) ∧ w = w' := by
  by_cases hm : m < 0
  · have e : wid m = 0 := by unfold wid; rw [if_pos hm]
    rw [e]
    go_enter Try.func73, Try.ntmps73
    go_wp2
    go_ret
    exact ⟨rfl, rfl⟩
  · obtain ⟨q0, rfl⟩ := Int.eq_ofNat_of_zero_le (show 0 ≤ m by omega)
    have e : wid (q0 : Int) = max 1 (Lib.bitLen q0) := by unfold wid; rw [if_neg hm, Int.toNat_natCast]
    have HE := Lib.hid e
    clear hm e
    go_enter Try.func73, Try.ntmps73
    go_wp2
    go_loop [0, 3] (fun c n => W2At q0 c n) (fun c _ => (intOf c).toNat)
    case atStart => exact ⟨q0, 1, rfl, rfl, by omega, by rw [HE.out]; omega, by omega⟩
    case round =>
      obtain ⟨q, k, rfl, rfl, hq, hk, hk64⟩ := hrel
      have HK := Lib.hid hk; clear hk
      by_cases h2 : 2 ≤ q
      · go_wp2
        go_round
        case rel =>
          have hh := Lib.bitLen_half q (by omega) (by omega)
          have hp := bitLen_pos (q := q / 2) (by omega) (by omega)
          have hw := HK.out
          have hw2 := (wid_spec (q0 : Int) (by omega) h1).2.1
          exact ⟨q / 2, k + 1, by go_num, by go_num, by omega, by omega, by omega⟩
        case measure => simp [intOf]; omega
      · have hle : Lib.bitLen q ≤ 1 := by
          rcases (show q = 0 ∨ q = 1 by omega) with rfl | rfl
          · decide
          · decide
        have hkk : k = wid (q0 : Int) := by have := HK.out; omega
        have HKK := Lib.hid hkk
        clear hkk hle
        go_wp2
        go_ret
        exact ⟨by rw [← HKK.out]; rfl, rfl⟩

def Re2 (w : World) (a : Nat) (s : ByteArray) (st : Nat × Int) : Prop :=
  (st.2 = 0 ∧ st.1 ≤ 8 * s.size ∧ s.size ≤ 65536 ∧ w.heap[a]? = some (.cells #[.string s, .int .i64 st.1, .int .i64 0] 94 (0, 0))) ∨
  (st.2 ≠ 0 ∧ w.heap[a]? = some (.cells #[.string ⟨#[]⟩, .int .i64 0, .int .i64 st.2] 94 (0, 0)))
def ReTo2 (w : World) (a : Nat) (s : ByteArray) (st : Nat × Int) (w' : World) : Prop := Re2 w' a s st ∧ Keeps (fun i => i = a) w w'
theorem Re2.keep {S : Nat → Prop} {w w' : World} {a : Nat} {s : ByteArray} {st : Nat × Int} (h : Re2 w a s st) (hk : Keeps S w w') (ha : ¬ S a) : Re2 w' a s st := by
  rcases h with ⟨h0, h1, h2, h⟩ | ⟨h0, h⟩
  · exact .inl ⟨h0, h1, h2, hk.at h ha⟩
  · exact .inr ⟨h0, hk.at h ha⟩
theorem Re2.cells {w : World} {a : Nat} {s : ByteArray} {st : Nat × Int} (h : Re2 w a s st) : ∃ (S : ByteArray) (k : Nat), w.heap[a]? = some (.cells #[.string S, .int .i64 k, .int .i64 st.2] 94 (0, 0)) ∧ k ≤ 8 * S.size ∧ S.size ≤ 65536 ∧ 8 * S.size - k = rleft s st ∧ (st.2 = 0 → S = s ∧ k = st.1) := by
  rcases h with ⟨h0, h1, h2, h⟩ | ⟨h0, h⟩
  · exact ⟨s, st.1, by rw [h0]; exact h, h1, h2, by unfold rleft; rw [if_pos h0], fun _ => ⟨rfl, rfl⟩⟩
  · exact ⟨⟨#[]⟩, 0, h, Nat.zero_le _, Nat.zero_le _, by unfold rleft; rw [if_neg h0]; rfl, fun h => absurd h h0⟩

theorem newReader2_any (w : World) (s : ByteArray) (hs : s.size ≤ 300) :
    Calls Try.prog 45 #[.string s] w fun e w' => e = .returned (.pointer (some ⟨w.heap.size, 0, none⟩)) ∧ Re2 w' w.heap.size s (0, 0) ∧ Keeps (fun _ => False) w w' := by
  have hb : Re2 (w.alloc (.cells #[.string s, .int .i64 0, .int .i64 0] 94)) w.heap.size s (0, 0) := .inl ⟨rfl, Nat.zero_le _, by omega, heap_alloc_new w _⟩
  have HB := Lib.hid hb; clear hb
  go_enter Try.func45, Try.ntmps45
  go_wp2
  go_ret
  exact ⟨rfl, HB.out, (Keeps.refl _ w).alloc _⟩

theorem left2_any (w : World) (a : Nat) (s : ByteArray) (st : Nat × Int) (h : Re2 w a s st) :
    Calls Try.prog 87 #[.pointer (some ⟨a, 0, none⟩)] w fun e w' => e = .returned (.int .i64 (rleft s st)) ∧ w' = w.drew := by
  obtain ⟨S, k, hc, h1, h2, h3, _⟩ := h.cells
  obtain ⟨k0, k1, k2, f0, f1, f2⟩ := block3_cell hc
  have e : (rleft s st : Int) = 8 * (S.size : Int) - k := by omega
  rw [e]
  clear e h hc h3
  go_enter Try.func87, Try.ntmps87
  go_wp2
  go_region
  all_goals go_wp2
  all_goals go_ret
  all_goals exact ⟨rfl, rfl⟩
theorem fail2_any (w : World) (a : Nat) (s : ByteArray) (st : Nat × Int) (h : Re2 w a s st) (er : Int) (her : er ≠ 0) :
    Calls Try.prog 85 #[.pointer (some ⟨a, 0, none⟩), .int .i64 er] w fun e w' => e = .returned (.tuple #[]) ∧ ReTo2 w a s (0, er) w' := by
  obtain ⟨S, k, hc, _⟩ := h.cells
  obtain ⟨k0, k1, k2, f0, f1, f2⟩ := block3_cell hc
  have hb := (block3_set (u := .int .i64 0) (block3_set (u := .string ⟨#[]⟩) (block3_set (u := .int .i64 er) hc).2.2).1).2.1
  have HB := Lib.hid hb
  have HER := Lib.hid her
  clear h hc hb her
  go_enter Try.func85, Try.ntmps85
  go_wp2
  go_end0
  have hk : Keeps (fun i => i = a) w (((w.setCell ⟨a, 2, none⟩ (.int .i64 er)).setCell ⟨a, 0, none⟩ (.string ⟨#[]⟩)).setCell ⟨a, 1, none⟩ (.int .i64 0)) :=
    (((Keeps.refl (fun i => i = a) w).setCell (p := ⟨a, 2, none⟩) (fun _ => rfl) _).setCell (p := ⟨a, 0, none⟩) (fun _ => rfl) _).setCell (p := ⟨a, 1, none⟩) (fun _ => rfl) _
  exact ⟨rfl, .inr ⟨HER.out, HB.out⟩, hk⟩

def GetAt (w : World) (a : Nat) (s : ByteArray) (k n : Nat) (v i : Value) (wr : World) : Prop :=
  ∃ j : Nat, j ≤ n ∧ i = .int .i64 j ∧ v = .int .i64 (val (sbits s k j)) ∧ k + j ≤ 8 * s.size ∧ s.size ≤ 65536 ∧ wr.heap[a]? = some (.cells #[.string s, .int .i64 ((k + j : Nat) : Int), .int .i64 0] 94 (0, 0)) ∧ Keeps (fun i => i = a) w wr

/-- What get does: the bits of a field of a width of at most 63, or the error. -/
def rget (s : ByteArray) (wd : Nat) (st : Nat × Int) : (Nat × Int) × Nat :=
  if st.2 ≠ 0 then (st, 0) else if 8 * s.size - st.1 < wd then ((0, 9), 0) else ((st.1 + wd, 0), val (sbits s st.1 wd))

theorem and_bit64 (c : Nat) (r : Nat) (hc : c < 256) : bits .and .i64 ((c : Int) / 2 ^ (7 - r)) 1 = ((c / 2 ^ (7 - r) % 2 : Nat) : Int) := by
  have e : ((c : Int) / 2 ^ (7 - r)) = ((c / 2 ^ (7 - r) : Nat) : Int) := by simp
  have h1 : c / 2 ^ (7 - r) ≤ c := Nat.div_le_self _ _
  rw [e]
  generalize c / 2 ^ (7 - r) = d at *
  show IntKind.i64.wrap ((BitVec.ofInt 64 ((d : Nat) : Int) &&& BitVec.ofInt 64 ((1 : Nat) : Int)).toNat : Int) = _
  rw [BitVec.toNat_and, ofInt_i64 _ (by omega), ofInt_i64 _ (by omega), nat_mask1]
  simp [IntKind.wrap, IntKind.bits, IntKind.signed]
  omega
theorem get_val (s : ByteArray) (v q : Nat) (hv : v < 4611686018427387904) (h : q / 8 < s.size) :
    bits .or .i64 ((v : Int) * 2) (bits .and .i64 (wrap64 ((s[q / 8]'h).toNat : Int) / 2 ^ (7 - q % 8)) 1) = ((2 * v + sbit s q : Nat) : Int) := by
  have e : (s[q / 8]'h).toNat / 2 ^ (7 - q % 8) % 2 = sbit s q := by
    unfold sbit
    have : s.data.toList.getD (q / 8) 0 = s[q / 8]'h := by
      rw [List.getD_eq_getElem?_getD, List.getElem?_eq_getElem (by simpa using h)]; rfl
    rw [this]
  have hb8 := (s[q / 8]'h).toNat_lt
  rw [IntWalk.wrap64_in _ (by omega), and_bit64 _ _ (by omega), e]
  have hb := sbit_le s q
  rw [Int.mul_comm, or_step v _ hv hb]

theorem get2_ok (w : World) (a : Nat) (s : ByteArray) (k n : Nat) (h : Re2 w a s (k, 0)) (hn : n ≤ 63) (hk : k + n ≤ 8 * s.size) :
    Calls Try.prog 86 #[.pointer (some ⟨a, 0, none⟩), .int .i64 n] w fun e w' => e = .returned (.int .i64 (val (sbits s k n))) ∧ ReTo2 w a s (k + n, 0) w' := by
  have hl := left2_any w a s (k, 0) h
  have hre : rleft s (k, 0) = 8 * s.size - k := by unfold rleft; rw [if_pos rfl]
  rw [hre] at hl
  rcases h with ⟨_, h1, h2, hc⟩ | ⟨h0, _⟩
  · obtain ⟨k0, k1, k2, f0, f1, f2⟩ := block3_cell hc
    obtain ⟨m, hm⟩ : ∃ m, m = 8 * s.size - k := ⟨_, rfl⟩
    rw [← hm] at hl
    have hmn : n ≤ m := by omega
    have HL := Lib.hid hl
    have HC := Lib.hid hc
    have HM := Lib.hid hm
    dsimp only at h1
    clear hl hc hm hre
    go_enter Try.func86, Try.ntmps86
    go_wp2_with (go_at_call 87; refine (HL.out).mono ?_; rintro e w1 ⟨rfl, rfl⟩)
    go_loopw [5, 6] (fun v i wr => GetAt w.drew a s k n v i wr) (fun _ i wr => n - (intOf i).toNat)
    case atStart => exact ⟨0, Nat.zero_le _, rfl, rfl, by omega, h2, HC.out, Keeps.refl _ _⟩
    case round =>
      obtain ⟨j, hj, rfl, rfl, h1', h2', h3, hk1⟩ := hrel
      obtain ⟨k0', k1', k2', f0', f1', f2'⟩ := block3_cell h3
      clear k0 k1 k2 f0 f1 f2 h1
      by_cases hlt : j < n
      · have hb3 := (block3_set (u := .int .i64 ((k + j : Nat) + 1 : Int)) h3).2.1
        have HB := Lib.hid hb3; clear hb3 h3
        have hvl := val_sbits_lt s k j
        have hpow : 2 ^ j ≤ 4611686018427387904 := by
          have := Nat.pow_le_pow_right (show 0 < 2 by omega) (show j ≤ 62 by omega); simpa using this
        have hvs := val_sbits_succ s k j
        generalize hv : val (sbits s k j) = v at *
        have HV := Lib.hid hv; clear hv
        have hv2 : v < 4611686018427387904 := by omega
        have HVS := Lib.hid hvs; clear hvs
        clear hvl hpow
        have HK := Lib.hid hk1; clear hk1
        have hq8 : k + j < 8 * s.size := by omega
        generalize hq : k + j = q at *
        have HQ := Lib.hid hq; clear hq
        have hidx : q / 8 < s.size := by omega
        have hidx1 : (q : Int) / 8 < s.size := by omega
        have hidx0 : 0 ≤ (q : Int) / 8 := by omega
        have hq9 : q ≤ 524288 := by omega
        have hq7 : (q : Int) % 8 ≤ 7 := by omega
        have H2s := Lib.hid h2
        clear h1' h2 h2' hq8 hk hmn
        go_wp2
        go_region
        all_goals go_wp2
        all_goals
          refine ⟨⟨j + 1, by omega, by go_num, ?_, ?_, H2s.out, ?_, (HK.out.setCell (p := ⟨a, 1, none⟩) (fun _ => rfl) _).drew⟩, by simp [intOf]; omega⟩
          · rw [get_val s v q hv2 hidx, ← HVS.out]
          · have := HQ.out; omega
          · have := HB.out
            rw [show k + (j + 1) = q + 1 by have := HQ.out; omega, show (((q + 1 : Nat)) : Int) = (q : Int) + 1 by simp]
            exact this
      · have hjn : j = n := by omega
        subst hjn
        have HK := Lib.hid hk1; clear hk1
        have H3 := Lib.hid h3; clear h3
        go_wp2
        go_ret
        exact ⟨rfl, .inl ⟨rfl, h1', h2', H3.out⟩, ((Keeps.refl _ w).drew).trans HK.out (fun _ h => h) (fun _ _ h => h)⟩
  · exact absurd rfl h0
theorem get2_bad (w : World) (a : Nat) (s : ByteArray) (st : Nat × Int) (h : Re2 w a s st) (h0 : st.2 ≠ 0) (wd : Int) :
    Calls Try.prog 86 #[.pointer (some ⟨a, 0, none⟩), .int .i64 wd] w fun e w' => e = .returned (.int .i64 0) ∧ w = w' := by
  obtain ⟨S, k, hc, _⟩ := h.cells
  obtain ⟨k0, k1, k2, f0, f1, f2⟩ := block3_cell hc
  clear h hc
  go_enter Try.func86, Try.ntmps86
  go_wp2
  go_ret
  exact ⟨rfl, rfl⟩
theorem get2_short (w : World) (a : Nat) (s : ByteArray) (k n : Nat) (h : Re2 w a s (k, 0)) (hk : 8 * s.size - k < n) :
    Calls Try.prog 86 #[.pointer (some ⟨a, 0, none⟩), .int .i64 n] w fun e w' => e = .returned (.int .i64 0) ∧ ReTo2 w a s (0, 9) w' := by
  have hl := left2_any w a s (k, 0) h
  have hre : rleft s (k, 0) = 8 * s.size - k := by unfold rleft; rw [if_pos rfl]
  rw [hre] at hl
  obtain ⟨S, k', hc, _⟩ := h.cells
  obtain ⟨k0, k1, k2, f0, f1, f2⟩ := block3_cell hc
  have hf : Calls Try.prog 85 #[.pointer (some ⟨a, 0, none⟩), .int .i64 9] w.drew fun e w' => e = .returned (.tuple #[]) ∧ ReTo2 w.drew a s (0, 9) w' := fail2_any w.drew a s (k, 0) h 9 (by decide)
  have HF := Lib.hid hf
  generalize 8 * s.size - k = m at *
  have HL := Lib.hid hl
  clear hl hc hre hf h
  go_enter Try.func86, Try.ntmps86
  go_wp2_with (first | (go_at_call 87; refine (HL.out).mono ?_; rintro e w1 ⟨rfl, rfl⟩) | (go_at_call 85; refine (HF.out).mono ?_; rintro e w' ⟨rfl, hf⟩))
  go_ret
  exact ⟨rfl, hf.1, ((Keeps.refl _ w).drew).trans hf.2 (fun _ h => h) (fun _ _ h => h)⟩
/-- get with a width that a reader takes. -/
theorem get2_any (w : World) (a : Nat) (s : ByteArray) (st : Nat × Int) (h : Re2 w a s st) (n : Nat) (hn : n ≤ 63) :
    Calls Try.prog 86 #[.pointer (some ⟨a, 0, none⟩), .int .i64 n] w fun e w' => e = .returned (.int .i64 (rget s n st).2) ∧ ReTo2 w a s (rget s n st).1 w' := by
  unfold rget
  by_cases h0 : st.2 ≠ 0
  · rw [if_pos h0]
    refine (get2_bad w a s st h h0 n).mono ?_
    rintro e w' ⟨rfl, rfl⟩
    exact ⟨rfl, h, Keeps.refl _ _⟩
  · rw [if_neg h0]
    obtain ⟨k, er⟩ := st
    obtain rfl : er = 0 := by simpa using h0
    by_cases h1 : 8 * s.size - k < n
    · rw [if_pos h1]
      exact get2_short w a s k n h h1
    · rw [if_neg h1]
      have hk : k ≤ 8 * s.size := by
        rcases h with ⟨_, h, _⟩ | ⟨h, _⟩
        · exact h
        · exact absurd rfl h
      exact get2_ok w a s k n h hn (by omega)
theorem rget_rnum {s : ByteArray} {least n : Nat} {st : Nat × Int} (h1 : least ≤ n) (h2 : n ≤ 63) : rnum s least n st = rget s n st := by
  unfold rnum rget
  by_cases h0 : st.2 ≠ 0
  · rw [if_pos h0, if_pos h0]
  · rw [if_neg h0, if_neg h0, if_neg (by omega)]
    by_cases h3 : 8 * s.size - st.1 < n
    · rw [if_pos h3, if_pos (by omega)]
    · rw [if_neg h3, if_neg (by omega)]; simp

theorem Re2.block {w : World} {a : Nat} {s : ByteArray} {st : Nat × Int} (h : Re2 w a s st) : ∃ x y, w.heap[a]? = some (.cells #[x, y, .int .i64 st.2] 94 (0, 0)) := by
  obtain ⟨S, k, hc, _⟩ := h.cells
  exact ⟨_, _, hc⟩

/-- What the calls of a number do at first: the error of the width, and then get. -/
theorem unsigned2_any (w : World) (a : Nat) (s : ByteArray) (st : Nat × Int) (h : Re2 w a s st) (wd : Int) :
    Calls Try.prog 46 #[.pointer (some ⟨a, 0, none⟩), .int .i64 wd] w fun e w' => e = .returned (.int .i64 (rnum s 1 wd st).2) ∧ ReTo2 w a s (rnum s 1 wd st).1 w' := by
  obtain ⟨x, y, hc⟩ := h.block
  obtain ⟨k0, k1, k2, f0, f1, f2⟩ := block3_cell hc
  clear hc
  by_cases h0 : st.2 ≠ 0
  · have e : rnum s 1 wd st = (st, 0) := by unfold rnum; rw [if_pos h0]
    rw [e]
    have HG := Lib.hid (get2_bad w a s st h h0 wd)
    have HH := Lib.hid h
    have H0 := Lib.hid (show (st.2 == 0) = false by simpa using h0)
    clear h e h0
    have H0' := H0.out
    go_enter Try.func46, Try.ntmps46
    go_wp2_with (first | (go_at_call 86; refine (HG.out).mono ?_; rintro e w' ⟨rfl, rfl⟩))
    go_ret
    exact ⟨rfl, HH.out, Keeps.refl _ _⟩
  · obtain ⟨k, er⟩ := st
    obtain rfl : er = 0 := by simpa using h0
    clear h0
    by_cases hw : wd < 1 ∨ 63 < wd
    · have e : rnum s 1 wd (k, 0) = ((0, 1), 0) := by unfold rnum; rw [if_neg (by simp), if_pos hw]
      rw [e]
      have HF := Lib.hid (fail2_any w a s (k, 0) h 1 (by decide))
      clear h e
      rcases hw with hw | hw
      all_goals
        go_enter Try.func46, Try.ntmps46
        go_wp2_with (first | (go_at_call 85; refine (HF.out).mono ?_; rintro e w1 ⟨rfl, hf⟩; have HR := Lib.hid hf; clear hf) | (go_at_call 86; refine (get2_bad _ a s (0, 1) HR.out.1 (by decide) wd).mono ?_; rintro e w' ⟨rfl, rfl⟩))
        go_ret
        exact ⟨rfl, HR.out⟩
    · obtain ⟨n, rfl⟩ := Int.eq_ofNat_of_zero_le (show 0 ≤ wd by omega)
      have e : rnum s 1 n (k, 0) = rget s n (k, 0) := rget_rnum (least := 1) (by omega) (by omega)
      rw [e]
      have hg := get2_any w a s (k, 0) h n (by omega)
      generalize rget s n (k, 0) = r at *
      have HG := Lib.hid hg
      have hw1 : 1 ≤ (n : Int) := by omega
      have hw2 : (n : Int) ≤ 63 := by omega
      clear hg h e hw
      go_enter Try.func46, Try.ntmps46
      go_wp2_with (first | (go_at_call 86; refine (HG.out).mono ?_; rintro e w' ⟨rfl, hr⟩))
      go_ret
      exact ⟨rfl, hr⟩
theorem flag2_any (w : World) (a : Nat) (s : ByteArray) (st : Nat × Int) (h : Re2 w a s st) :
    Calls Try.prog 47 #[.pointer (some ⟨a, 0, none⟩)] w fun e w' => e = .returned (.bool (rflag s st).2) ∧ ReTo2 w a s (rflag s st).1 w' := by
  have hg := get2_any w a s st h 1 (by omega)
  have e : rnum s 1 1 st = rget s 1 st := rget_rnum (least := 1) (n := 1) (by omega) (by omega)
  unfold rflag
  rw [e]
  generalize rget s 1 st = r at *
  have HG := Lib.hid hg
  clear hg h e
  go_enter Try.func47, Try.ntmps47
  go_wp2_with (go_at_call 86; refine (HG.out).mono ?_; rintro e w1 ⟨rfl, hr⟩)
  go_ret
  refine ⟨?_, hr⟩
  have : ((r.2 : Int) == 1) = (r.2 == 1) := by rw [Bool.eq_iff_iff]; simp; omega
  rw [← this]; rfl
end Go.Proofs.Ytilpbbpdchbdfaa.Bit
