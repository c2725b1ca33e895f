/- How the laws' arguments are read: clocks, pairs of ints; the box of a law's clock. -/
import Derived.Test.YtjjphmmnmdplgaaAwake
import Derived.ProofKit
import Derived.OpenShut
import Derived.Lib.SmallJoins
namespace Go.Proofs.Ytjjphmmnmdplgaa
open Go.RowKit Go.ChangeShapes Go.WideShapes

theorem Try.laidOut : laidOutB Try.prog = true := by kernel_rfl
def i64 (x : Int) : Prop := -9223372036854775808 ≤ x ∧ x ≤ 9223372036854775807
theorem two_of {α : Type} {l : List α} (h : l.length = 2) : ∃ a b, l = [a, b] := by match l, h with | [a, b], _ => exact ⟨a, b, rfl⟩
theorem arr_of {cs : Array Value} {l : List Value} (h : cs.toList = l) : cs = l.toArray := by rw [← h]
theorem okWide_array {P : Program} {w : World} {r : Reach} {base n : Nat} {t e : TypeId} {v : Value} (ht : P.underlying t = some (.array n e)) (h : Value.okWide P w r base t v) : ∃ cs, v = .agg cs ∧ cs.size = P.cellsOf t := by
  simp only [Value.okWide, ht] at h
  obtain ⟨cs, h1, h2, _⟩ := h
  exact ⟨cs, h1, h2⟩
section
variable {H : Type} {enc : TypeId × Value → H} {W : World} {b0 : Nat} {v : Value} {d : DataW H} {p : List MemPlace}
theorem open_clock (hv : Value.okWide Try.prog W .any b0 23 v) (h : DataW.Trod enc Try.prog W 0 (fun _ => true) true 23 v d p) : ∃ x y : Int, v = .agg #[.int .i64 x, .int .i64 y] ∧ i64 x ∧ i64 y := by
  obtain ⟨cs, rfl, hsz⟩ := okWide_struct Try.underlying23 hv
  obtain ⟨fuel, hf⟩ := h
  obtain ⟨ys, n', _, _, hlen, hyl, hg⟩ := DataW.trod_struct Try.underlying23 hf
  rw [show Try.prog.cellsOf 23 = 2 by kernel_rfl] at hlen
  obtain ⟨v0, v1, hcs⟩ := two_of hlen
  rw [hcs] at hg
  obtain ⟨y0, y1, rfl⟩ := two_of hyl
  have g0 := hg 0 _ rfl
  have g1 := hg 1 _ rfl
  have hone : Try.prog.cellsOf 3 = 1 := by kernel_rfl
  simp [hone] at g0 g1
  obtain ⟨a, e0, _, w0⟩ := DataW.trod_int Try.underlying3 g0
  obtain ⟨b, e1, _, w1⟩ := DataW.trod_int Try.underlying3 g1
  simp at e0 e1
  subst e0 e1
  exact ⟨a, b, congrArg Value.agg (arr_of hcs), bounds_i64 w0, bounds_i64 w1⟩
theorem open_a2 (hv : Value.okWide Try.prog W .any b0 33 v) (h : DataW.Trod enc Try.prog W 0 (fun _ => true) true 33 v d p) : ∃ x y : Int, v = .agg #[.int .i64 x, .int .i64 y] ∧ i64 x ∧ i64 y := by
  obtain ⟨cs, rfl, hsz⟩ := okWide_array Try.underlying33 hv
  obtain ⟨fuel, hf⟩ := h
  obtain ⟨xs, m, _, _, hl, hxl, hel⟩ := DataW.trod_array Try.underlying33 hf
  rw [show Try.prog.cellsOf 33 = 2 by kernel_rfl] at hl
  obtain ⟨v0, v1, hcs⟩ := two_of hl
  rw [hcs] at hel
  obtain ⟨y0, y1, rfl⟩ := two_of hxl
  have g0 := hel 0 (by decide)
  have g1 := hel 1 (by decide)
  have hone : Try.prog.cellsOf 3 = 1 := by kernel_rfl
  simp [hone] at g0 g1
  obtain ⟨a, e0, _, w0⟩ := DataW.trod_int Try.underlying3 g0
  obtain ⟨b, e1, _, w1⟩ := DataW.trod_int Try.underlying3 g1
  simp at e0 e1
  subst e0 e1
  exact ⟨a, b, congrArg Value.agg (arr_of hcs), bounds_i64 w0, bounds_i64 w1⟩
end
/-- A law's clock in its box. -/
def Cx (w : World) (o d : Int) (w' : World) : Prop := w'.cell? ⟨w.heap.size, 0, none⟩ = some (.int .i64 o) ∧ w'.cell? ⟨w.heap.size, 1, none⟩ = some (.int .i64 d) ∧ Same w w'
theorem Cx.keep {w w1 w2 : World} {o d : Int} (h : Cx w o d w1) (k : Same w1 w2) : Cx w o d w2 := ⟨k.cell h.1, k.cell h.2.1, h.2.2.trans k⟩
theorem Cx.new (w : World) (o d : Int) (t : TypeId) : Cx w o d (w.alloc (.cells #[.int .i64 o, .int .i64 d] t)) := ⟨by go_simp, by go_simp, (Same.refl w).alloc _⟩
end Go.Proofs.Ytjjphmmnmdplgaa
