/- Lists of fields as arguments, and the law's own functions few, write and read. -/
import Derived.Test.YtficlefifjhecaaWidths
import Derived.Test.YtficlefifjhecaaPlainB
namespace Go.Proofs.Ytficlefifjhecaa
open Go.RowKit

theorem readerN (w w1 : World) (s : ByteArray) (hs : s.size ≤ 65536) (h : WrSame w w1) : Calls Try.prog 21 #[.string s] w1 fun e w' => e = .returned (.pointer (some ⟨w1.heap.size, 0, none⟩)) ∧ NewRe w w1.heap.size s (0, 0) w' := by
  have := newReader_any w1 s (by omega)
  rw [if_pos hs] at this
  exact this.mono fun e w' ⟨he, hr, hk⟩ => ⟨he, hr, h.trans hk (fun _ h => h) (fun _ _ h => h), h.size⟩

structure Fld where
  kind : Int
  width : Int
  n : Int
  s : ByteArray

def fldV (f : Fld) : Value := .agg #[.int .i64 f.kind, .int .i64 f.width, .int .i64 f.n, .string f.s]
def inI64 (x : Int) : Prop := -9223372036854775808 ≤ x ∧ x ≤ 9223372036854775807
def Fld.ok (f : Fld) : Prop := inI64 f.kind ∧ inI64 f.width ∧ inI64 f.n ∧ f.s.size ≤ 9223372036854775807
/-- The four cells of each field. -/
def FldsAt (w : World) (b off : Nat) (fs : List Fld) : Prop :=
  ∀ i f, fs[i]? = some f → f.ok ∧ w.cell? ⟨b, off + i * 4, none⟩ = some (.int .i64 f.kind) ∧ w.cell? ⟨b, off + i * 4 + 1, none⟩ = some (.int .i64 f.width) ∧ w.cell? ⟨b, off + i * 4 + 2, none⟩ = some (.int .i64 f.n) ∧ w.cell? ⟨b, off + i * 4 + 3, none⟩ = some (.string f.s)
/-- The argument: nil, or a slice over the fields' cells. -/
def Arg (w : World) (v : Value) (fs : List Fld) : Prop :=
  fs.length ≤ 9223372036854775807 ∧ ((v = .slice none 0 0 ∧ fs = []) ∨ ∃ ao cap, v = .slice (some ao) fs.length cap ∧ (fs = [] ∨ ∃ b off, ao = ⟨b, off, none⟩ ∧ b < w.heap.size ∧ FldsAt w b off fs))

def fewB (fs : List Fld) : Bool := decide (fs.length ≤ 40) && fs.all fun f => decide (f.s.size ≤ 200)

theorem FldsAt.keep {w w' : World} {b off : Nat} {fs : List Fld} (h : FldsAt w b off fs) (k : Below w.heap.size w w') (hb : b < w.heap.size) : FldsAt w' b off fs := by
  intro i f hf
  obtain ⟨h0, h1, h2, h3, h4⟩ := h i f hf
  exact ⟨h0, (k.cell (p := ⟨b, _, none⟩) hb).trans h1, (k.cell (p := ⟨b, _, none⟩) hb).trans h2, (k.cell (p := ⟨b, _, none⟩) hb).trans h3, (k.cell (p := ⟨b, _, none⟩) hb).trans h4⟩

def FewAt (w : World) (i : Value) (fs : List Fld) (wr : World) : Prop := ∃ j : Nat, j ≤ fs.length ∧ i = .int .i64 j ∧ (fs.take j).all (fun f => decide (f.s.size ≤ 200)) = true ∧ Keeps (fun _ => False) w wr

theorem few_try (w : World) (b off cap : Nat) (fs : List Fld) (hl : fs.length ≤ 40) (hb : b < w.heap.size) (h : FldsAt w b off fs) :
    Calls Try.prog 12 #[.slice (some ⟨b, off, none⟩) fs.length cap] w fun e w' => e = .returned (.bool (fs.all fun f => decide (f.s.size ≤ 200))) ∧ WrSame w w' := by
  have H := Lib.hid h; clear h
  have hlen : fs.length ≤ 9223372036854775807 := by omega
  go_enter Try.func12, Try.ntmps12
  go_wp2
  go_loopw [10] (fun i wr => FewAt w i fs wr) (fun i _ => fs.length - (intOf i).toNat)
  case atStart => exact ⟨0, Nat.zero_le _, rfl, by simp, Keeps.refl _ _⟩
  case round =>
    obtain ⟨j, hj, rfl, hall, hk⟩ := hrel
    by_cases hlt : j < fs.length
    · obtain ⟨f, hf⟩ : ∃ f, fs[j]? = some f := ⟨_, List.getElem?_eq_getElem hlt⟩
      obtain ⟨⟨_, _, _, hs⟩, c0, c1, c2, c3⟩ := (H.out.keep hk.toBelow hb) j f hf
      have HF := Lib.hid hf; clear hf
      have HA := Lib.hid hall; clear hall
      have HK := Lib.hid hk; clear hk
      by_cases hsz : f.s.size ≤ 200
      · have hsz2 : (f.s.size : Int) ≤ 200 := by omega
        clear hsz
        go_wp2
        go_roundw
        case rel =>
          refine ⟨j + 1, by omega, by go_num, ?_, HK.out.alloc _⟩
          rw [List.take_add_one, HF.out]
          simp only [Option.toList_some, List.all_append, HA.out, List.all_cons, List.all_nil, Bool.and_true, Bool.true_and, decide_eq_true_eq]
          omega
        case measure => simp [intOf]; omega
      · have hsz2 : 200 < (f.s.size : Int) := by omega
        have e : (fs.all fun f => decide (f.s.size ≤ 200)) = false := by
          rw [List.all_eq_false]
          exact ⟨f, List.mem_of_getElem? HF.out, by simpa using hsz⟩
        have E := Lib.hid e
        clear hsz e
        go_wp2
        go_ret
        exact ⟨by rw [E.out]; rfl, HK.out.alloc _⟩
    · have hjl : j = fs.length := by omega
      have e : (fs.all fun f => decide (f.s.size ≤ 200)) = true := by
        rw [hjl, List.take_length] at hall; exact hall
      have E := Lib.hid e
      have HK := Lib.hid hk
      clear hall hk e
      go_wp2
      go_ret
      exact ⟨by rw [E.out]; rfl, HK.out⟩

theorem few_empty (w : World) (ao : Option Addr) (cap : Nat) : Calls Try.prog 12 #[.slice ao 0 cap] w fun e w' => e = .returned (.bool true) ∧ WrSame w w' := by
  go_enter Try.func12, Try.ntmps12
  go_wp2
  go_loop [10] (fun i => i = .int .i64 0) (fun _ => 0)
  case atStart => rfl
  case round =>
    subst hrel
    go_wp2
    go_ret
    exact ⟨rfl, Keeps.refl _ _⟩
theorem few_many (w : World) (ao : Option Addr) (n cap : Nat) (hn : 40 < n) (hn2 : n ≤ 9223372036854775807) : Calls Try.prog 12 #[.slice ao n cap] w fun e w' => e = .returned (.bool false) ∧ WrSame w w' := by
  go_enter Try.func12, Try.ntmps12
  go_wp2
  go_ret
  exact ⟨rfl, Keeps.refl _ _⟩
theorem few_any (w w1 : World) (hw : WrSame w w1) (v : Value) (fs : List Fld) (h : Arg w v fs) : Calls Try.prog 12 #[v] w1 fun e w' => e = .returned (.bool (fewB fs)) ∧ WrSame w w' := by
  obtain ⟨hl, h⟩ := h
  have post : ∀ {e : Ending} {w' : World} {b : Bool}, (e = .returned (.bool b) ∧ WrSame w1 w') → b = fewB fs → e = .returned (.bool (fewB fs)) ∧ WrSame w w' := by
    rintro e w' b ⟨he, hk⟩ hb
    exact ⟨hb ▸ he, hw.trans hk (fun _ h => h) (fun _ _ h => h)⟩
  by_cases h40 : fs.length ≤ 40
  · have hall : fewB fs = fs.all fun f => decide (f.s.size ≤ 200) := by unfold fewB; rw [decide_eq_true h40, Bool.true_and]
    rcases h with ⟨rfl, rfl⟩ | ⟨ao, cap, rfl, rfl | ⟨b, off, rfl, hb, hf⟩⟩
    · exact (few_empty w1 none 0).mono fun e w' h => post h rfl
    · exact (few_empty w1 (some ao) cap).mono fun e w' h => post h rfl
    · exact (few_try w1 b off cap fs h40 (Nat.lt_of_lt_of_le hb hw.size) (hf.keep hw.toBelow hb)).mono fun e w' h => post h hall.symm
  · have hall : fewB fs = false := by unfold fewB; rw [decide_eq_false h40, Bool.false_and]
    rcases h with ⟨rfl, rfl⟩ | ⟨ao, cap, rfl, _⟩
    · simp at h40
    · exact (few_many w1 (some ao) fs.length cap (by omega) hl).mono fun e w' h => post h hall.symm

/-- A field is read. -/
def rdSt (s : ByteArray) (f : Fld) (st : Nat × Int) : Nat × Int :=
  if f.kind = 0 then (rnum s 1 f.width st).1 else if f.kind = 1 then (rsig s f.width st).1 else if f.kind = 2 then (rflag s st).1 else if f.kind = 3 then (rtext s f.width st).1 else st
def rdF (s : ByteArray) (f : Fld) (st : Nat × Int) : Fld :=
  if f.kind = 0 then { f with n := (rnum s 1 f.width st).2, s := ⟨#[]⟩ } else if f.kind = 1 then { f with n := (rsig s f.width st).2, s := ⟨#[]⟩ }
  else if f.kind = 2 then { f with n := if (rflag s st).2 then 1 else 0, s := ⟨#[]⟩, width := 0 } else if f.kind = 3 then { f with n := 0, s := (rtext s f.width st).2 } else f

end Go.Proofs.Ytficlefifjhecaa
