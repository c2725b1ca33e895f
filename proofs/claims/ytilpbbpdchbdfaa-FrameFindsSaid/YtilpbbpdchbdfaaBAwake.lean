
/- The example of the chapter, which each statement checks first. -/
import Derived.Test.YtilpbbpdchbdfaaBUniform
import Derived.Test.YtilpbbpdchbdfaaBClose
namespace Go.Proofs.Ytilpbbpdchbdfaa.Bit
open Go.RowKit
set_option maxRecDepth 100000

/-- A writer that the call itself has made: all that was there is kept. -/
def NewWr (w : World) (a : Nat) (st : List Nat × Int) (w' : World) : Prop :=
  ∃ d, Wr w' a st d ∧ Keeps (fun _ => False) w w' ∧ w.heap.size ≤ a ∧ ∀ g, d = some g → w.heap.size ≤ g
def NewRe (w : World) (b : Nat) (s : ByteArray) (st : Nat × Int) (w' : World) : Prop := Re w' b s st ∧ Keeps (fun _ => False) w w' ∧ w.heap.size ≤ b

theorem NewWr.call {w w1 : World} {a : Nat} {st st2 : List Nat × Int} {f : FuncId} {args : Array Value} {v : Ending} (h : NewWr w a st w1)
    (hc : ∀ d, Wr w1 a st d → Calls Try.prog f args w1 fun e w' => e = v ∧ WrTo w1 a d st2 w') : Calls Try.prog f args w1 fun e w' => e = v ∧ NewWr w a st2 w' := by
  obtain ⟨d, h1, h2, h3, h4⟩ := h
  refine (hc d h1).mono fun e w' ⟨he, d2, g1, g2, g3⟩ => ⟨he, d2, g1, ?_, h3, ?_⟩
  · refine h2.trans g2 (fun _ h => h) ?_
    rintro i hi (rfl | hd)
    · omega
    · have := h4 i hd; omega
  · intro g hg
    rcases g3 g hg with h | h
    · exact h4 g h
    · have := h2.size; omega
theorem NewRe.call {w w1 : World} {b : Nat} {s : ByteArray} {st st2 : Nat × Int} {f : FuncId} {args : Array Value} {v : Ending} (h : NewRe w b s st w1)
    (hc : Calls Try.prog f args w1 fun e w' => e = v ∧ ReTo w1 b s st2 w') : Calls Try.prog f args w1 fun e w' => e = v ∧ NewRe w b s st2 w' := by
  obtain ⟨h1, h2, h3⟩ := h
  refine hc.mono fun e w' ⟨he, g1, g2⟩ => ⟨he, g1, h2.trans g2 (fun _ h => h) ?_, h3⟩
  rintro i hi rfl; omega
theorem NewRe.same {w w1 w2 : World} {b : Nat} {s : ByteArray} {st : Nat × Int} (h : NewRe w b s st w1) (k : Keeps (fun _ => False) w1 w2) : NewRe w b s st w2 :=
  ⟨h.1.keep k (fun h => h), h.2.1.trans k (fun _ h => h) (fun _ _ h => h), h.2.2⟩
theorem NewWr.same {w w1 w2 : World} {a : Nat} {st : List Nat × Int} (h : NewWr w a st w1) (k : Keeps (fun _ => False) w1 w2) : NewWr w a st w2 := by
  obtain ⟨d, h1, h2, h3, h4⟩ := h
  exact ⟨d, h1.keep k (fun h => h) (fun _ _ h => h), h2.trans k (fun _ h => h) (fun _ _ h => h), h3, h4⟩

theorem newW_any (w : World) : Calls Try.prog 61 #[] w fun e w' => e = .returned (.pointer (some ⟨w.heap.size, 0, none⟩)) ∧ NewWr w w.heap.size ([], 0) w' :=
  (newWriter_any w).mono fun e w' ⟨he, hw⟩ => ⟨he, by subst hw; exact ⟨none, Wr.new w, (Keeps.refl _ w).alloc _, Nat.le_refl _, fun _ h => by cases h⟩⟩

def s0 : ByteArray := ⟨#[191, 80, 64]⟩
def st4 : List Nat × Int := ([1, 0, 1, 1, 1, 1, 1, 1, 0, 1, 0, 1, 0, 0, 0, 0, 0, 1], 0)
theorem e1 : wuns 3 5 ([], 0) = ([1, 0, 1], 0) := by decide +kernel
theorem e2 : wsig 4 (-1) ([1, 0, 1], 0) = ([1, 0, 1, 1, 1, 1, 1], 0) := by decide +kernel
theorem e3 : wflag true ([1, 0, 1, 1, 1, 1, 1], 0) = ([1, 0, 1, 1, 1, 1, 1, 1], 0) := by decide +kernel
theorem e4 : wtext 3 ⟨#[65]⟩ ([1, 0, 1, 1, 1, 1, 1, 1], 0) = st4 := by decide +kernel
theorem e5 : wbytes st4 = s0 := by rfl
theorem r1 : rnum s0 1 3 (0, 0) = ((3, 0), 5) := by decide +kernel
theorem r2 : rsig s0 4 (3, 0) = ((7, 0), -1) := by decide +kernel
theorem r3 : rflag s0 (7, 0) = ((8, 0), true) := by decide +kernel
theorem r4 : rtext s0 3 (8, 0) = ((18, 0), ⟨#[65]⟩) := by rfl
theorem r5 : rleft s0 (18, 0) = 6 := by decide +kernel
theorem r6 : rclose s0 (18, 0) = 0 := by decide +kernel
theorem r7 : wid 3 = 2 := by decide +kernel

theorem c1 (w w1 : World) (a : Nat) (h : NewWr w a ([], 0) w1) : Calls Try.prog 63 #[.pointer (some ⟨a, 0, none⟩), .int .i64 3, .int .i64 5] w1 fun e w' => e = .returned (.tuple #[]) ∧ NewWr w a ([1, 0, 1], 0) w' := by
  have := h.call (fun d hd => wunsigned_any w1 a _ d hd 3 5); rw [e1] at this; exact this
theorem c2 (w w1 : World) (a : Nat) (h : NewWr w a ([1, 0, 1], 0) w1) : Calls Try.prog 65 #[.pointer (some ⟨a, 0, none⟩), .int .i64 4, .int .i64 (-1)] w1 fun e w' => e = .returned (.tuple #[]) ∧ NewWr w a ([1, 0, 1, 1, 1, 1, 1], 0) w' := by
  have := h.call (fun d hd => wsigned_any w1 a _ d hd 4 (-1)); rw [e2] at this; exact this
theorem c4 (w w1 : World) (a : Nat) (h : NewWr w a ([1, 0, 1, 1, 1, 1, 1, 1], 0) w1) : Calls Try.prog 67 #[.pointer (some ⟨a, 0, none⟩), .int .i64 3, .string ⟨#[65]⟩] w1 fun e w' => e = .returned (.tuple #[]) ∧ NewWr w a st4 w' := by
  have := h.call (fun d hd => wtext_any w1 a _ d hd 3 (by omega) ⟨#[65]⟩ (by decide)); rw [e4] at this; exact this
theorem c5 (w w1 : World) (a : Nat) (h : NewWr w a st4 w1) : Calls Try.prog 69 #[.pointer (some ⟨a, 0, none⟩)] w1 fun e w' => e = .returned (.tuple #[.string ⟨#[191, 80, 64]⟩, .int .i64 0]) ∧ NewWr w a st4 w' := by
  obtain ⟨d, hd, _⟩ := id h
  have := wbytes_any w1 a _ d hd; rw [e5] at this
  exact this.mono fun e w' ⟨he, hk⟩ => ⟨he, h.same hk⟩
def Both (w : World) (a b : Nat) (w' : World) : Prop := NewWr w a st4 w' ∧ NewRe w b s0 (0, 0) w'
theorem c6 (w w1 : World) (a : Nat) (h : NewWr w a st4 w1) : Calls Try.prog 76 #[.string ⟨#[191, 80, 64]⟩] w1 fun e w' => e = .returned (.pointer (some ⟨w1.heap.size, 0, none⟩)) ∧ Both w a w1.heap.size w' := by
  refine (newReader_any w1 s0 (by decide)).mono fun e w' ⟨he, hr, hk⟩ => ⟨he, h.same hk, ?_⟩
  obtain ⟨d, _, h2, _⟩ := h
  exact ⟨hr, h2.trans hk (fun _ h => h) (fun _ _ h => h), h2.size⟩
theorem c7 (w w1 : World) (a b : Nat) (h : Both w a b w1) : Calls Try.prog 70 #[.pointer (some ⟨a, 0, none⟩)] w1 fun e w' => e = .returned (.int .i64 18) ∧ NewRe w b s0 (0, 0) w' := by
  obtain ⟨⟨d, hd, _⟩, hr⟩ := h
  exact (wbits_any w1 a _ d hd).mono fun e w' ⟨he, hk⟩ => ⟨he, hk ▸ hr⟩
theorem c8 (w w1 : World) (b : Nat) (h : NewRe w b s0 (0, 0) w1) : Calls Try.prog 78 #[.pointer (some ⟨b, 0, none⟩), .int .i64 3] w1 fun e w' => e = .returned (.int .i64 5) ∧ NewRe w b s0 (3, 0) w' := by
  have := runsigned_any w1 b s0 _ h.1 3; rw [r1] at this; exact h.call this
theorem c9 (w w1 : World) (b : Nat) (h : NewRe w b s0 (3, 0) w1) : Calls Try.prog 80 #[.pointer (some ⟨b, 0, none⟩), .int .i64 4] w1 fun e w' => e = .returned (.int .i64 (-1)) ∧ NewRe w b s0 (7, 0) w' := by
  have := rsigned_any w1 b s0 _ h.1 4; rw [r2] at this; exact h.call this
theorem c11 (w w1 : World) (b : Nat) (h : NewRe w b s0 (8, 0) w1) : Calls Try.prog 82 #[.pointer (some ⟨b, 0, none⟩), .int .i64 3] w1 fun e w' => e = .returned (.string ⟨#[65]⟩) ∧ NewRe w b s0 (18, 0) w' := by
  have := rtext_any w1 b s0 _ h.1 3 (by omega); rw [r4] at this; exact h.call this
theorem c12 (w w1 : World) (b : Nat) (h : NewRe w b s0 (18, 0) w1) : Calls Try.prog 106 #[.pointer (some ⟨b, 0, none⟩)] w1 fun e w' => e = .returned (.int .i64 6) ∧ NewRe w b s0 (18, 0) w' := by
  have := rleft_any w1 b s0 _ h.1; rw [r5] at this
  exact this.mono fun e w' ⟨he, hk⟩ => ⟨he, by subst hk; exact h.same (Keeps.refl _ w1).drew⟩
theorem c13 (w w1 : World) (b : Nat) (h : NewRe w b s0 (18, 0) w1) : Calls Try.prog 83 #[.pointer (some ⟨b, 0, none⟩)] w1 fun e w' => e = .returned (.int .i64 0) ∧ NewRe w b s0 (18, 0) w' := by
  have := rclose_any w1 b s0 _ h.1; rw [r6] at this
  exact this.mono fun e w' ⟨he, hk⟩ => ⟨he, h.same hk⟩
theorem c14 (w : World) : Calls Try.prog 97 #[.int .i64 3] w fun e w' => e = .returned (.int .i64 2) ∧ w = w' := by
  have := width_any w 3 (by omega); rw [r7] at this; exact this

end Go.Proofs.Ytilpbbpdchbdfaa.Bit
