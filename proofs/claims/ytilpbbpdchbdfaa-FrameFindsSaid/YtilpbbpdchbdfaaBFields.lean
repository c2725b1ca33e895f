
/- Lists of fields as arguments, and the law's own functions few, write and read. -/
import Derived.Test.YtilpbbpdchbdfaaBAwake
import Derived.Test.YtilpbbpdchbdfaaBPlainB
namespace Go.Proofs.Ytilpbbpdchbdfaa.Bit
open Go.RowKit
set_option maxRecDepth 100000

theorem readerN (w w1 : World) (s : ByteArray) (hs : s.size ≤ 65536) (h : WrSame w w1) : Calls Try.prog 76 #[.string s] w1 fun e w' => e = .returned (.pointer (some ⟨w1.heap.size, 0, none⟩)) ∧ NewRe w w1.heap.size s (0, 0) w' := by
  have := newReader_any w1 s (by omega)
  rw [if_pos hs] at this
  exact this.mono fun e w' ⟨he, hr, hk⟩ => ⟨he, hr, h.trans hk (fun _ h => h) (fun _ _ h => h), h.size⟩

structure Fld where
  kind : Int
  width : Int
  n : Int
  s : ByteArray

def fldV (f : Fld) : Value := .agg #[.int .i64 f.kind, .int .i64 f.width, .int .i64 f.n, .string f.s]
def inI64 (x : Int) : Prop := -9223372036854775808 ≤ x ∧ x ≤ 9223372036854775807
def Fld.ok (f : Fld) : Prop := inI64 f.kind ∧ inI64 f.width ∧ inI64 f.n ∧ f.s.size ≤ 9223372036854775807
/-- The four cells of each field. -/
def FldsAt (w : World) (b off : Nat) (fs : List Fld) : Prop :=
  ∀ i f, fs[i]? = some f → f.ok ∧ w.cell? ⟨b, off + i * 4, none⟩ = some (.int .i64 f.kind) ∧ w.cell? ⟨b, off + i * 4 + 1, none⟩ = some (.int .i64 f.width) ∧ w.cell? ⟨b, off + i * 4 + 2, none⟩ = some (.int .i64 f.n) ∧ w.cell? ⟨b, off + i * 4 + 3, none⟩ = some (.string f.s)
/-- The argument: nil, or a slice over the fields' cells. -/
def Arg (w : World) (v : Value) (fs : List Fld) : Prop :=
  fs.length ≤ 9223372036854775807 ∧ ((v = .slice none 0 0 ∧ fs = []) ∨ ∃ ao cap, v = .slice (some ao) fs.length cap ∧ (fs = [] ∨ ∃ b off, ao = ⟨b, off, none⟩ ∧ b < w.heap.size ∧ FldsAt w b off fs))

def fewB (fs : List Fld) : Bool := decide (fs.length ≤ 40) && fs.all fun f => decide (f.s.size ≤ 200)

theorem FldsAt.keep {w w' : World} {b off : Nat} {fs : List Fld} (h : FldsAt w b off fs) (k : Below w.heap.size w w') (hb : b < w.heap.size) : FldsAt w' b off fs := by
  intro i f hf
  obtain ⟨h0, h1, h2, h3, h4⟩ := h i f hf
  exact ⟨h0, (k.cell (p := ⟨b, _, none⟩) hb).trans h1, (k.cell (p := ⟨b, _, none⟩) hb).trans h2, (k.cell (p := ⟨b, _, none⟩) hb).trans h3, (k.cell (p := ⟨b, _, none⟩) hb).trans h4⟩

def FewAt (w : World) (i : Value) (fs : List Fld) (wr : World) : Prop := ∃ j : Nat, j ≤ fs.length ∧ i = .int .i64 j ∧ (fs.take j).all (fun f => decide (f.s.size ≤ 200)) = true ∧ Keeps (fun _ => False) w wr

/-- A field is read. -/
def rdSt (s : ByteArray) (f : Fld) (st : Nat × Int) : Nat × Int :=
  if f.kind = 0 then (rnum s 1 f.width st).1 else if f.kind = 1 then (rsig s f.width st).1 else if f.kind = 2 then (rflag s st).1 else if f.kind = 3 then (rtext s f.width st).1 else st
def rdF (s : ByteArray) (f : Fld) (st : Nat × Int) : Fld :=
  if f.kind = 0 then { f with n := (rnum s 1 f.width st).2, s := ⟨#[]⟩ } else if f.kind = 1 then { f with n := (rsig s f.width st).2, s := ⟨#[]⟩ }
  else if f.kind = 2 then { f with n := if (rflag s st).2 then 1 else 0, s := ⟨#[]⟩, width := 0 } else if f.kind = 3 then { f with n := 0, s := (rtext s f.width st).2 } else f

end Go.Proofs.Ytilpbbpdchbdfaa.Bit
