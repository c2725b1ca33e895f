
/- The writer's calls, each by one function from state to state: a state is the bits that are written, and the error. -/
import Derived.Test.YtilpbbpdchbdfaaBWriter2
namespace Go.Proofs.Ytilpbbpdchbdfaa.Bit
open Go.RowKit

def Wr (w : World) (a : Nat) (st : List Nat × Int) (d : Option Nat) : Prop :=
  st.1.length ≤ 524288 ∧ ((st.2 = 0 ∧ WrOk w a st.1 d) ∨ (st.2 ≠ 0 ∧ d = none ∧ WrBad w a st.1.length st.2))
def WrTo (w : World) (a : Nat) (d : Option Nat) (st : List Nat × Int) (w' : World) : Prop :=
  ∃ d', Wr w' a st d' ∧ Keeps (fun k => k = a ∨ d = some k) w w' ∧ ∀ g, d' = some g → d = some g ∨ w.heap.size ≤ g
theorem Wr.keep {S : Nat → Prop} {w w' : World} {a : Nat} {st : List Nat × Int} {d : Option Nat} (h : Wr w a st d) (k : Keeps S w w') (ha : ¬ S a) (hd : ∀ g, d = some g → ¬ S g) : Wr w' a st d := by
  obtain ⟨hl, ⟨h0, h⟩ | ⟨h0, h1, h⟩⟩ := h
  · exact ⟨hl, .inl ⟨h0, h.keep k ha hd⟩⟩
  · exact ⟨hl, .inr ⟨h0, h1, h.keep k ha⟩⟩
theorem Wr.new (w : World) : Wr (w.alloc (.cells #[.slice none 0 0, .int .i64 0, .int .i64 0] 105)) w.heap.size ([], 0) none := ⟨by simp, .inl ⟨rfl, WrOk.new w⟩⟩
theorem Wr.lt {w : World} {a : Nat} {st : List Nat × Int} {d : Option Nat} (h : Wr w a st d) : a < w.heap.size := by
  obtain ⟨_, ⟨_, h⟩ | ⟨_, _, h⟩⟩ := h
  · exact h.lt
  · exact lt_of_block h
theorem Wr.dlt {w : World} {a : Nat} {st : List Nat × Int} {d : Option Nat} (h : Wr w a st d) : ∀ g, d = some g → g < w.heap.size ∧ g ≠ a := by
  obtain ⟨_, ⟨_, h⟩ | ⟨_, h, _⟩⟩ := h
  · intro g hg
    refine ⟨h.dlt g hg, ?_⟩
    obtain ⟨_, v, _, _, _, h4⟩ := h
    rintro rfl; exact h4 hg
  · intro g hg; rw [h] at hg; cases hg
theorem Wr.bits {w : World} {a : Nat} {st : List Nat × Int} {d : Option Nat} (h : Wr w a st d) (h0 : st.2 = 0) : Bits st.1 := by
  obtain ⟨_, ⟨_, h⟩ | ⟨h1, _, _⟩⟩ := h
  · exact h.1
  · exact absurd h0 h1
theorem WrTo.same {w w' : World} {a : Nat} {d : Option Nat} {st : List Nat × Int} (h : Wr w a st d) (k : Keeps (fun _ => False) w w') : WrTo w a d st w' :=
  ⟨d, h.keep k (fun h => h) (fun _ _ h => h), k.mono (fun _ _ h => h.elim), fun _ h => .inl h⟩
theorem WrTo.fell {w w' : World} {a : Nat} {d : Option Nat} {bs : List Nat} {er : Int} (hl : bs.length ≤ 524288) (he : er ≠ 0) (h : WrFell w a bs.length er w') : WrTo w a d (bs, er) w' :=
  ⟨none, ⟨hl, .inr ⟨he, rfl, h.1⟩⟩, h.2.mono (fun _ _ h => .inl h), fun _ h => by cases h⟩
theorem WrTo.grew {w w' : World} {a : Nat} {d : Option Nat} {bs : List Nat} (hl : bs.length ≤ 524288) (h : WrGrew w a d bs w') : WrTo w a d (bs, 0) w' := by
  obtain ⟨d', h1, h2, h3⟩ := h
  exact ⟨d', ⟨hl, .inl ⟨rfl, h1⟩⟩, h2, h3⟩
theorem WrTo.trans {w w1 w2 : World} {a : Nat} {d : Option Nat} {st2 : List Nat × Int} {d1 : Option Nat} (hk : Keeps (fun k => k = a ∨ d = some k) w w1) (hd : ∀ g, d1 = some g → d = some g ∨ w.heap.size ≤ g) (h2 : WrTo w1 a d1 st2 w2) : WrTo w a d st2 w2 := by
  obtain ⟨d2, h, k2, hd2⟩ := h2
  refine ⟨d2, h, hk.trans k2 (fun _ h => h) ?_, ?_⟩
  · rintro i hi (rfl | h)
    · exact Or.inl rfl
    · rcases hd i h with h' | h'
      · exact Or.inr h'
      · omega
  · intro g hg
    rcases hd2 g hg with h' | h'
    · exact hd g h'
    · have := hk.size; exact Or.inr (by omega)

def wuns (wd x : Int) (st : List Nat × Int) : List Nat × Int :=
  if st.2 ≠ 0 then st else if wd < 1 ∨ 63 < wd then (st.1, 1) else if x < 0 ∨ 2 ^ wd.toNat ≤ x then (st.1, 2) else if 524288 < st.1.length + wd then (st.1, 8) else (st.1 ++ enc wd.toNat x, 0)
def wsig (wd x : Int) (st : List Nat × Int) : List Nat × Int :=
  if st.2 ≠ 0 then st else if wd < 2 ∨ 63 < wd then (st.1, 1) else if x < -2 ^ (wd.toNat - 1) ∨ 2 ^ (wd.toNat - 1) ≤ x then (st.1, 2) else if 524288 < st.1.length + wd then (st.1, 8) else (st.1 ++ enc wd.toNat x, 0)
def wflag (b : Bool) (st : List Nat × Int) : List Nat × Int := wuns 1 (if b then 1 else 0) st
def wtext (most : Int) (s : ByteArray) (st : List Nat × Int) : List Nat × Int :=
  if st.2 ≠ 0 then st else if most < 1 ∨ 4095 < most then (st.1, 1) else if most < s.size ∨ 524288 < st.1.length + wid most + 8 * s.size then (st.1, 8) else (st.1 ++ enc (wid most) s.size ++ textBits s.data.toList, 0)
def wbytes (st : List Nat × Int) : ByteArray := if st.2 ≠ 0 then ⟨#[]⟩ else strB (pack st.1)

theorem wunsigned_any (w : World) (a : Nat) (st : List Nat × Int) (d : Option Nat) (h : Wr w a st d) (wd x : Int) :
    Calls Try.prog 63 #[.pointer (some ⟨a, 0, none⟩), .int .i64 wd, .int .i64 x] w fun e w' => e = .returned (.tuple #[]) ∧ WrTo w a d (wuns wd x st) w' := by
  have hh := h
  obtain ⟨hl, ⟨h0, h⟩ | ⟨h0, hn, h⟩⟩ := h
  · obtain ⟨bs, er⟩ := st
    simp only at h0 h hl
    subst h0
    unfold wuns
    rw [if_neg (by simp)]
    dsimp only
    by_cases hw : wd < 1 ∨ 63 < wd
    · rw [if_pos hw]
      exact (unsigned_arg w a bs d h wd x hw).mono fun e w' ⟨he, hf⟩ => ⟨he, WrTo.fell hl (by decide) hf⟩
    · rw [if_neg hw]
      obtain ⟨n, rfl⟩ := Int.eq_ofNat_of_zero_le (show 0 ≤ wd by omega)
      rw [Int.toNat_natCast]
      by_cases hx : x < 0 ∨ 2 ^ n ≤ x
      · rw [if_pos hx]
        exact (unsigned_range w a bs d h n x (by omega) (by omega) hx).mono fun e w' ⟨he, hf⟩ => ⟨he, WrTo.fell hl (by decide) hf⟩
      · rw [if_neg hx]
        have hx0 : 0 ≤ x := by omega
        have hx1 : x < 2 ^ n := by omega
        by_cases hr : (524288 : Int) < (bs.length : Int) + n
        · rw [if_pos hr]
          exact (unsigned_full w a bs d h n x (by omega) (by omega) hx0 hx1 (by omega) hl).mono fun e w' ⟨he, hf⟩ => ⟨he, WrTo.fell hl (by decide) hf⟩
        · rw [if_neg hr]
          exact (unsigned_ok w a bs d h n x (by omega) (by omega) hx0 hx1 (by omega)).mono fun e w' ⟨he, hf⟩ => ⟨he, WrTo.grew (by rw [List.length_append, enc_length]; omega) hf⟩
  · have e : wuns wd x st = st := by unfold wuns; rw [if_pos h0]
    rw [e]
    exact (unsigned_bad w a st.1.length st.2 h (by simpa using h0) wd x).mono fun e w' ⟨he, hf⟩ => ⟨he, WrTo.same hh hf⟩

theorem wsigned_any (w : World) (a : Nat) (st : List Nat × Int) (d : Option Nat) (h : Wr w a st d) (wd x : Int) :
    Calls Try.prog 65 #[.pointer (some ⟨a, 0, none⟩), .int .i64 wd, .int .i64 x] w fun e w' => e = .returned (.tuple #[]) ∧ WrTo w a d (wsig wd x st) w' := by
  have hh := h
  obtain ⟨hl, ⟨h0, h⟩ | ⟨h0, hn, h⟩⟩ := h
  · obtain ⟨bs, er⟩ := st
    simp only at h0 h hl
    subst h0
    unfold wsig
    rw [if_neg (by simp)]
    dsimp only
    by_cases hw : wd < 2 ∨ 63 < wd
    · rw [if_pos hw]
      exact (signed_arg w a bs d h wd x hw).mono fun e w' ⟨he, hf⟩ => ⟨he, WrTo.fell hl (by decide) hf⟩
    · rw [if_neg hw]
      obtain ⟨n, rfl⟩ := Int.eq_ofNat_of_zero_le (show 0 ≤ wd by omega)
      rw [Int.toNat_natCast]
      by_cases hx : x < -2 ^ (n - 1) ∨ 2 ^ (n - 1) ≤ x
      · rw [if_pos hx]
        exact (signed_range w a bs d h n x (by omega) (by omega) hx).mono fun e w' ⟨he, hf⟩ => ⟨he, WrTo.fell hl (by decide) hf⟩
      · rw [if_neg hx]
        have hx0 : -2 ^ (n - 1) ≤ x := by omega
        have hx1 : x < 2 ^ (n - 1) := by omega
        by_cases hr : (524288 : Int) < (bs.length : Int) + n
        · rw [if_pos hr]
          exact (signed_full w a bs d h n x (by omega) (by omega) hx0 hx1 (by omega) hl).mono fun e w' ⟨he, hf⟩ => ⟨he, WrTo.fell hl (by decide) hf⟩
        · rw [if_neg hr]
          exact (signed_ok w a bs d h n x (by omega) (by omega) hx0 hx1 (by omega)).mono fun e w' ⟨he, hf⟩ => ⟨he, WrTo.grew (by rw [List.length_append, enc_length]; omega) hf⟩
  · have e : wsig wd x st = st := by unfold wsig; rw [if_pos h0]
    rw [e]
    exact (signed_bad w a st.1.length st.2 h (by simpa using h0) wd x).mono fun e w' ⟨he, hf⟩ => ⟨he, WrTo.same hh hf⟩

theorem wtext_any (w : World) (a : Nat) (st : List Nat × Int) (d : Option Nat) (h : Wr w a st d) (most : Int) (hm : most ≤ 9223372036854775807) (s : ByteArray) (hs : s.size ≤ 9223372036854775807) :
    Calls Try.prog 67 #[.pointer (some ⟨a, 0, none⟩), .int .i64 most, .string s] w fun e w' => e = .returned (.tuple #[]) ∧ WrTo w a d (wtext most s st) w' := by
  have hh := h
  obtain ⟨hl, ⟨h0, h⟩ | ⟨h0, hn, h⟩⟩ := h
  · obtain ⟨bs, er⟩ := st
    simp only at h0 h hl
    subst h0
    unfold wtext
    rw [if_neg (by simp)]
    dsimp only
    by_cases hw : most < 1 ∨ 4095 < most
    · rw [if_pos hw]
      exact (text_arg w a bs d h most hm s hw).mono fun e w' ⟨he, hf⟩ => ⟨he, WrTo.fell hl (by decide) hf⟩
    · rw [if_neg hw]
      by_cases hx : most < s.size ∨ 524288 < bs.length + wid most + 8 * s.size
      · rw [if_pos hx]
        exact (text_large w a bs d h most (by omega) (by omega) s hs (by omega) hl).mono fun e w' ⟨he, hf⟩ => ⟨he, WrTo.fell hl (by decide) hf⟩
      · rw [if_neg hx]
        exact (text_ok w a bs d h most (by omega) (by omega) s (by omega) (by omega)).mono fun e w' ⟨he, hf⟩ =>
          ⟨he, WrTo.grew (by rw [List.length_append, List.length_append, enc_length, textBits_length, data_len]; omega) hf⟩
  · have e : wtext most s st = st := by unfold wtext; rw [if_pos h0]
    rw [e]
    exact (text_bad w a st.1.length st.2 h (by simpa using h0) most hm s).mono fun e w' ⟨he, hf⟩ => ⟨he, WrTo.same hh hf⟩

theorem wbits_any (w : World) (a : Nat) (st : List Nat × Int) (d : Option Nat) (h : Wr w a st d) :
    Calls Try.prog 70 #[.pointer (some ⟨a, 0, none⟩)] w fun e w' => e = .returned (.int .i64 st.1.length) ∧ w = w' := by
  obtain ⟨_, ⟨_, _, v, h, _⟩ | ⟨_, _, h⟩⟩ := h
  · exact bitsW_any w a st.1.length v 0 h
  · exact bitsW_any w a st.1.length _ st.2 h

theorem wbytes_any (w : World) (a : Nat) (st : List Nat × Int) (d : Option Nat) (h : Wr w a st d) :
    Calls Try.prog 69 #[.pointer (some ⟨a, 0, none⟩)] w fun e w' => e = .returned (.tuple #[.string (wbytes st), .int .i64 st.2]) ∧ WrSame w w' := by
  obtain ⟨_, ⟨h0, h⟩ | ⟨h0, _, h⟩⟩ := h
  · unfold wbytes; rw [if_neg (by simpa using h0), h0]; exact bytes_ok w a st.1 d h
  · unfold wbytes; rw [if_pos h0]; exact bytes_bad w a st.1.length st.2 h
end Go.Proofs.Ytilpbbpdchbdfaa.Bit
