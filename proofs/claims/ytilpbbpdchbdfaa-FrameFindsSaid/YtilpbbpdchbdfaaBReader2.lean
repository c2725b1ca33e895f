
/- The reader's calls, each by one function from state to state: a state is how many bits are read, and the error. -/
import Derived.Test.YtilpbbpdchbdfaaBReader
namespace Go.Proofs.Ytilpbbpdchbdfaa.Bit
open Go.RowKit

def Re (w : World) (a : Nat) (s : ByteArray) (st : Nat × Int) : Prop := (st.2 = 0 ∧ ReOk w a s st.1) ∨ (st.2 ≠ 0 ∧ ReBad w a st.2)
def ReTo (w : World) (a : Nat) (s : ByteArray) (st : Nat × Int) (w' : World) : Prop := Re w' a s st ∧ Keeps (fun i => i = a) w w'
theorem Re.keep {S : Nat → Prop} {w w' : World} {a : Nat} {s : ByteArray} {st : Nat × Int} (h : Re w a s st) (hk : Keeps S w w') (ha : ¬ S a) : Re w' a s st := by
  rcases h with ⟨h0, h⟩ | ⟨h0, h⟩
  · exact .inl ⟨h0, h.keep hk ha⟩
  · exact .inr ⟨h0, h.keep hk ha⟩
theorem ReTo.trans {w w1 w2 : World} {a : Nat} {s : ByteArray} {st st2 : Nat × Int} (h : ReTo w a s st w1) (h2 : ReTo w1 a s st2 w2) : ReTo w a s st2 w2 := ⟨h2.1, h.2.trans h2.2 (fun _ h => h) (fun _ _ h => h)⟩
theorem ReTo.after {w w1 w2 : World} {a : Nat} {s : ByteArray} {st : Nat × Int} (h : Keeps (fun _ => False) w w1) (h2 : ReTo w1 a s st w2) : ReTo w a s st w2 := ⟨h2.1, h.trans h2.2 (fun _ h => h.elim) (fun _ _ h => h)⟩

/-- A number is read. -/
def rnum (s : ByteArray) (least wd : Int) (st : Nat × Int) : (Nat × Int) × Nat :=
  if st.2 ≠ 0 then (st, 0) else if wd < least ∨ 63 < wd then ((0, 1), 0) else if ((8 * s.size - st.1 : Nat) : Int) < wd then ((0, 9), 0) else ((st.1 + wd.toNat, 0), val (sbits s st.1 wd.toNat))

theorem number_any (w : World) (a : Nat) (s : ByteArray) (st : Nat × Int) (h : Re w a s st) (least wd : Int) (hl1 : 1 ≤ least) (hl2 : least ≤ 2) :
    Calls Try.prog 104 #[.pointer (some ⟨a, 0, none⟩), .int .i64 least, .int .i64 wd] w fun e w' => e = .returned (.int .i64 (rnum s least wd st).2) ∧ ReTo w a s (rnum s least wd st).1 w' := by
  rcases h with ⟨h0, h⟩ | ⟨h0, h⟩
  · obtain ⟨k, er⟩ := st
    simp only at h0 h
    subst h0
    by_cases hw : wd < least ∨ 63 < wd
    · have e : rnum s least wd (k, 0) = ((0, 1), 0) := by unfold rnum; rw [if_neg (by simp), if_pos hw]
      rw [e]
      have H := Lib.hid h; clear h e
      rcases hw with hw | hw
      all_goals
        go_enter Try.func104, Try.ntmps104
        go_wp2_with (first | (go_at_call 105; refine (rfail_ok _ a s k 1 H.out).mono ?_; rintro e w' ⟨rfl, hf⟩))
        go_ret
        exact ⟨rfl, .inr ⟨by simp, hf.1⟩, hf.2⟩
    · have hw1 : least ≤ wd := by omega
      have hw2 : wd ≤ 63 := by omega
      by_cases hs : ((8 * s.size - k : Nat) : Int) < wd
      · have e : rnum s least wd (k, 0) = ((0, 9), 0) := by unfold rnum; rw [if_neg (by simp), if_neg hw, if_pos hs]
        rw [e]
        have hl := left_any w a s k 0 h.1 h.2.1 h.2.2
        generalize hn : 8 * s.size - k = m at *
        have HN := Lib.hid hn; clear hn
        have HL := Lib.hid hl; clear hl
        have H := Lib.hid h; clear h e hw
        have hf : Calls Try.prog 105 #[.pointer (some ⟨a, 0, none⟩), .int .i64 9] w.drew fun e w' => e = .returned (.tuple #[]) ∧ ReFell w.drew a 9 w' := rfail_ok _ a s k 9 H.out
        have HF := Lib.hid hf; clear hf
        go_enter Try.func104, Try.ntmps104
        go_wp2_with (first | (go_at_call 106; refine (HL.out).mono ?_; rintro e w1 ⟨rfl, rfl⟩) | (go_at_call 105; refine (HF.out).mono ?_; rintro e w' ⟨rfl, hf⟩))
        go_ret
        exact ⟨rfl, .inr ⟨by simp, hf.1⟩, ((Keeps.refl _ w).drew).trans hf.2 (fun _ h => h) (fun _ _ h => h)⟩
      · obtain ⟨n, rfl⟩ := Int.eq_ofNat_of_zero_le (show 0 ≤ wd by omega)
        have e : rnum s least n (k, 0) = ((k + n, 0), val (sbits s k n)) := by unfold rnum; rw [if_neg (by simp), if_neg hw, if_neg hs]; simp
        rw [e]
        have hl := left_any w a s k 0 h.1 h.2.1 h.2.2
        have ht : Calls Try.prog 108 #[.pointer (some ⟨a, 0, none⟩), .int .i64 n] w.drew fun e w' => e = .returned (.int .i64 (val (sbits s k n))) ∧ TakeEnd w.drew a s k n w' := take_any _ a s k n h (by omega) (by omega)
        generalize hn : 8 * s.size - k = m at *
        have HN := Lib.hid hn; clear hn
        have HL := Lib.hid hl; clear hl
        have HT := Lib.hid ht; clear ht
        clear h e hw
        go_enter Try.func104, Try.ntmps104
        go_wp2_with (first | (go_at_call 106; refine (HL.out).mono ?_; rintro e w1 ⟨rfl, rfl⟩) | (go_at_call 108; refine (HT.out).mono ?_; rintro e w' ⟨rfl, hf⟩))
        go_ret
        exact ⟨rfl, .inl ⟨rfl, hf.1⟩, ((Keeps.refl _ w).drew).trans hf.2 (fun _ h => h) (fun _ _ h => h)⟩
  · have e : rnum s least wd st = (st, 0) := by unfold rnum; rw [if_pos h0]
    rw [e]
    obtain ⟨k, er⟩ := st
    simp only at h0 h
    have h0' : (er == 0) = false := by simpa using h0
    have H := Lib.hid h; clear h e
    have H0 := Lib.hid h0; clear h0
    have hl : Calls Try.prog 106 #[.pointer (some ⟨a, 0, none⟩)] w fun e w' => e = .returned (.int .i64 0) ∧ w' = w.drew := by
      have := left_any w a ⟨#[]⟩ 0 er (by simp) (by simp [ByteArray.size]) H.out
      have e0 : ((8 * (⟨#[]⟩ : ByteArray).size - 0 : Nat) : Int) = 0 := rfl
      rw [e0] at this; exact this
    have hf1 : Calls Try.prog 105 #[.pointer (some ⟨a, 0, none⟩), .int .i64 1] w fun e w' => e = .returned (.tuple #[]) ∧ w = w' := rfail_bad w a er 1 H.out h0'
    have hf9 : Calls Try.prog 105 #[.pointer (some ⟨a, 0, none⟩), .int .i64 9] w.drew fun e w' => e = .returned (.tuple #[]) ∧ w.drew = w' := rfail_bad w.drew a er 9 H.out h0'
    have HL := Lib.hid hl; clear hl
    have HF1 := Lib.hid hf1; clear hf1
    have HF9 := Lib.hid hf9; clear hf9
    by_cases hw : wd < least ∨ 63 < wd
    · rcases hw with hw | hw
      all_goals
        go_enter Try.func104, Try.ntmps104
        go_wp2_with (first | (go_at_call 105; refine (HF1.out).mono ?_; rintro e w' ⟨rfl, rfl⟩))
        go_ret
        exact ⟨rfl, .inr ⟨H0.out, H.out⟩, Keeps.refl _ w⟩
    · have hw1 : least ≤ wd := by omega
      have hw2 : wd ≤ 63 := by omega
      clear hw
      go_enter Try.func104, Try.ntmps104
      go_wp2_with (first | (go_at_call 106; refine (HL.out).mono ?_; rintro e w1 ⟨rfl, rfl⟩) | (go_at_call 105; refine (HF9.out).mono ?_; rintro e w' ⟨rfl, rfl⟩))
      go_ret
      exact ⟨rfl, .inr ⟨H0.out, H.out⟩, (Keeps.refl _ w).drew⟩

theorem runsigned_any (w : World) (a : Nat) (s : ByteArray) (st : Nat × Int) (h : Re w a s st) (wd : Int) :
    Calls Try.prog 78 #[.pointer (some ⟨a, 0, none⟩), .int .i64 wd] w fun e w' => e = .returned (.int .i64 (rnum s 1 wd st).2) ∧ ReTo w a s (rnum s 1 wd st).1 w' := by
  have hn := number_any w a s st h 1 wd (by omega) (by omega)
  generalize rnum s 1 wd st = r at *
  have HN := Lib.hid hn; clear hn
  go_enter Try.func78, Try.ntmps78
  go_wp2_with (go_at_call 104; refine (HN.out).mono ?_; rintro e w1 ⟨rfl, hr⟩)
  go_ret
  exact ⟨rfl, hr⟩
/-- The signed number that a field of the width wd with the unsigned number n is. -/
def sgn (wd : Nat) (n : Nat) : Int := if n < 2 ^ (wd - 1) then n else (n : Int) - 2 ^ wd
theorem sgn_walk (wd n : Nat) (h2 : 2 ≤ wd) (h63 : wd ≤ 63) (hn : n < 2 ^ wd) : wrap64 ((n : Int) * 2 ^ (64 - wd)) / 2 ^ (64 - wd) = sgn wd n := by
  have hp : 2 ^ wd * 2 ^ (64 - wd) = (18446744073709551616 : Nat) := by rw [← Nat.pow_add, show wd + (64 - wd) = 64 by omega]
  have hq : 2 ^ (wd - 1) * 2 ^ (64 - wd) = (9223372036854775808 : Nat) := by rw [← Nat.pow_add, show wd - 1 + (64 - wd) = 63 by omega]
  have hm : 0 < 2 ^ (64 - wd) := Nat.pow_pos (by omega)
  have ec : ∀ k : Nat, ((2 : Int) ^ k) = ((2 ^ k : Nat) : Int) := by intro k; simp
  unfold sgn
  rw [ec (64 - wd), ec wd]
  generalize 2 ^ (64 - wd) = m at *
  generalize 2 ^ (wd - 1) = H at *
  generalize 2 ^ wd = F at *
  by_cases hc : n < H
  · rw [if_pos hc]
    have h1 : n * m < H * m := Nat.mul_lt_mul_of_pos_right hc hm
    have h2 : ((n : Int) * (m : Int)) = ((n * m : Nat) : Int) := by simp
    rw [h2, IntWalk.wrap64_in _ (by omega), ← h2, Int.mul_ediv_cancel _ (by omega)]
  · rw [if_neg hc]
    have h1 : n * m < F * m := Nat.mul_lt_mul_of_pos_right hn hm
    have h1' : H * m ≤ n * m := Nat.mul_le_mul_right _ (by omega)
    have h2 : ((n : Int) * (m : Int)) = ((n * m : Nat) : Int) := by simp
    have h3 : wrap64 ((n : Int) * (m : Int)) = ((n : Int) - (F : Int)) * (m : Int) := by
      have h4 : ((F : Int) * (m : Int)) = 18446744073709551616 := by have : ((F * m : Nat) : Int) = 18446744073709551616 := by rw [hp]; rfl
                                                                     simpa using this
      rw [Int.sub_mul, h4, h2]
      unfold wrap64
      omega
    rw [h3, Int.mul_ediv_cancel _ (by omega)]

def rsig (s : ByteArray) (wd : Int) (st : Nat × Int) : (Nat × Int) × Int :=
  let r := rnum s 2 wd st
  (r.1, if r.1.2 ≠ 0 then 0 else sgn wd.toNat r.2)
theorem rnum_ok {s : ByteArray} {least wd : Int} {st : Nat × Int} (h : (rnum s least wd st).1.2 = 0) : st.2 = 0 ∧ least ≤ wd ∧ wd ≤ 63 ∧ st.1 + wd.toNat ≤ max st.1 (8 * s.size) ∧ rnum s least wd st = ((st.1 + wd.toNat, 0), val (sbits s st.1 wd.toNat)) := by
  unfold rnum at h ⊢
  by_cases h1 : st.2 ≠ 0
  · rw [if_pos h1] at h; exact absurd h h1
  · rw [if_neg h1] at h ⊢
    by_cases h2 : wd < least ∨ 63 < wd
    · rw [if_pos h2] at h; simp at h
    · rw [if_neg h2] at h ⊢
      by_cases h3 : ((8 * s.size - st.1 : Nat) : Int) < wd
      · rw [if_pos h3] at h; simp at h
      · rw [if_neg h3]
        exact ⟨by simpa using h1, by omega, by omega, by omega, rfl⟩
theorem Re.err {w : World} {a : Nat} {s : ByteArray} {st : Nat × Int} (h : Re w a s st) : ∃ x y, w.heap[a]? = some (.cells #[x, y, .int .i64 st.2] 113 (0, 0)) := by
  rcases h with ⟨h0, h⟩ | ⟨h0, h⟩
  · exact ⟨_, _, h0 ▸ h.2.2⟩
  · exact ⟨_, _, h⟩
theorem rsigned_any (w : World) (a : Nat) (s : ByteArray) (st : Nat × Int) (h : Re w a s st) (wd : Int) :
    Calls Try.prog 80 #[.pointer (some ⟨a, 0, none⟩), .int .i64 wd] w fun e w' => e = .returned (.int .i64 (rsig s wd st).2) ∧ ReTo w a s (rsig s wd st).1 w' := by
  have hn := number_any w a s st h 2 wd (by omega) (by omega)
  by_cases hok : (rnum s 2 wd st).1.2 = 0
  · obtain ⟨_, hw1, hw2, _, he⟩ := rnum_ok hok
    obtain ⟨n, rfl⟩ := Int.eq_ofNat_of_zero_le (show 0 ≤ wd by omega)
    have es : rsig s n st = ((st.1 + n, 0), sgn n (val (sbits s st.1 n))) := by
      unfold rsig; simp only [he, Int.toNat_natCast]; rw [if_neg (by simp)]
    rw [es]
    rw [he, Int.toNat_natCast] at hn
    have hv := val_sbits_lt s st.1 n
    have hs := sgn_walk n (val (sbits s st.1 n)) (by omega) (by omega) hv
    generalize val (sbits s st.1 n) = v at *
    have HN := Lib.hid hn; clear hn
    have HS := Lib.hid hs; clear hs hv es he hok
    go_enter Try.func80, Try.ntmps80
    go_wp2_with (go_at_call 104; refine (HN.out).mono ?_; rintro e w1 ⟨rfl, hr⟩; obtain ⟨x, y, hre⟩ := hr.1.err; obtain ⟨k0, k1, k2, f0, f1, f2⟩ := block3_cell hre; clear hre; have HR := Lib.hid hr; clear hr)
    go_ret
    exact ⟨by rw [← HS.out]; rfl, HR.out⟩
  · have es : rsig s wd st = ((rnum s 2 wd st).1, 0) := by unfold rsig; simp only []; rw [if_pos hok]
    rw [es]
    generalize rnum s 2 wd st = r at *
    have hok' : (r.1.2 != 0) = true := by simpa using hok
    have HN := Lib.hid hn; clear hn es hok
    go_enter Try.func80, Try.ntmps80
    go_wp2_with (go_at_call 104; refine (HN.out).mono ?_; rintro e w1 ⟨rfl, hr⟩; obtain ⟨x, y, hre⟩ := hr.1.err; obtain ⟨k0, k1, k2, f0, f1, f2⟩ := block3_cell hre; clear hre; have HR := Lib.hid hr; clear hr)
    go_ret
    exact ⟨rfl, HR.out⟩

def rflag (s : ByteArray) (st : Nat × Int) : (Nat × Int) × Bool := ((rnum s 1 1 st).1, (rnum s 1 1 st).2 == 1)
theorem newReader_any (w : World) (s : ByteArray) (hs : s.size ≤ 9223372036854775807) :
    Calls Try.prog 76 #[.string s] w fun e w' => e = .returned (.pointer (some ⟨w.heap.size, 0, none⟩)) ∧ Re w' w.heap.size s (if s.size ≤ 65536 then (0, 0) else (0, 8)) ∧ Keeps (fun _ => False) w w' := by
  by_cases h : s.size ≤ 65536
  · rw [if_pos h]
    have hb : Re (w.alloc (.cells #[.string s, .int .i64 0, .int .i64 0] 113)) w.heap.size s (0, 0) := .inl ⟨rfl, by omega, h, heap_alloc_new w _⟩
    have HB := Lib.hid hb; clear hb
    go_enter Try.func76, Try.ntmps76
    go_wp2
    go_ret
    exact ⟨rfl, HB.out, (Keeps.refl _ w).alloc _⟩
  · rw [if_neg h]
    have hb : Re (w.alloc (.cells #[.string ⟨#[]⟩, .int .i64 0, .int .i64 8] 113)) w.heap.size s (0, 8) := .inr ⟨by simp, heap_alloc_new w _⟩
    have HB := Lib.hid hb; clear hb
    go_enter Try.func76, Try.ntmps76
    go_wp2
    go_ret
    exact ⟨rfl, HB.out, (Keeps.refl _ w).alloc _⟩
end Go.Proofs.Ytilpbbpdchbdfaa.Bit
