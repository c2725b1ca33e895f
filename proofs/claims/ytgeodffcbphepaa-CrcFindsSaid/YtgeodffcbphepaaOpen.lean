/- How an array of three residues, and a struct of two residues and an int, are read as arguments. -/
import Derived.Test.YtgeodffcbphepaaAwake
import Derived.ProofKit
import Derived.OpenShut
import Derived.Lib.SmallJoins
namespace Go.Proofs.Ytgeodffcbphepaa
open Go.RowKit
open Go.ChangeShapes Go.WideShapes

theorem Try.laidOut : laidOutB Try.prog = true := by kernel_rfl
theorem okWide_array {P : Program} {w : World} {r : Reach} {base n : Nat} {t e : TypeId} {v : Value} (ht : P.underlying t = some (.array n e)) (h : Value.okWide P w r base t v) : ∃ cs, v = .agg cs ∧ cs.size = P.cellsOf t := by
  simp only [Value.okWide, ht] at h
  obtain ⟨cs, h1, h2, _⟩ := h
  exact ⟨cs, h1, h2⟩
theorem three_cells {cs : Array Value} (h : cs.size = 3) : ∃ a b c, cs = #[a, b, c] := by
  obtain ⟨l⟩ := cs
  match l, h with
  | [a, b, c], _ => exact ⟨a, b, c, rfl⟩
section
variable {H : Type} {enc : TypeId × Value → H} {W : World} {base b0 : Nat} {v : Value} {d : DataW H} {p : List MemPlace}
theorem open_u16s (hv : Value.okWide Try.prog W .any b0 33 v) (h : DataW.Trod enc Try.prog W base (fun _ => true) true 33 v d p) :
    ∃ x y z : Int, v = .agg #[.int .u16 x, .int .u16 y, .int .u16 z] ∧ (0 ≤ x ∧ x ≤ 65535) ∧ (0 ≤ y ∧ y ≤ 65535) ∧ (0 ≤ z ∧ z ≤ 65535) := by
  obtain ⟨cs, rfl, hsz⟩ := okWide_array Try.underlying33 hv
  rw [show Try.prog.cellsOf 33 = 3 by kernel_rfl] at hsz
  obtain ⟨a, b, c, rfl⟩ := three_cells hsz
  obtain ⟨fuel, hf⟩ := h
  obtain ⟨xs, m, _, _, _, hl, hel⟩ := DataW.trod_array Try.underlying33 hf
  have hone : Try.prog.cellsOf 22 = 1 := by kernel_rfl
  have hget : ∀ i, i < 3 → ∃ y, xs[i]? = some y := fun i hi => ⟨xs[i], List.getElem?_eq_getElem (by omega)⟩
  obtain ⟨y0, g0⟩ := hget 0 (by decide)
  obtain ⟨y1, g1⟩ := hget 1 (by decide)
  obtain ⟨y2, g2⟩ := hget 2 (by decide)
  have e0 := (hel 0 (by decide)).trans g0
  have e1 := (hel 1 (by decide)).trans g1
  have e2 := (hel 2 (by decide)).trans g2
  rw [hone] at e0 e1 e2
  obtain ⟨x, q0, _, w0⟩ := DataW.trod_int Try.underlying22 e0
  obtain ⟨y, q1, _, w1⟩ := DataW.trod_int Try.underlying22 e1
  obtain ⟨z, q2, _, w2⟩ := DataW.trod_int Try.underlying22 e2
  have r0 : a = .int .u16 x := by simpa [Value.cells] using q0
  have r1 : b = .int .u16 y := by simpa [Value.cells] using q1
  have r2 : c = .int .u16 z := by simpa [Value.cells] using q2
  exact ⟨x, y, z, by rw [r0, r1, r2], bounds_u16 w0, bounds_u16 w1, bounds_u16 w2⟩
theorem open_sums (hv : Value.okWide Try.prog W .any b0 24 v) (h : DataW.Trod enc Try.prog W base (fun _ => true) true 24 v d p) :
    ∃ x y z : Int, v = .agg #[.int .u16 x, .int .u16 y, .int .i64 z] ∧ (0 ≤ x ∧ x ≤ 65535) ∧ (0 ≤ y ∧ y ≤ 65535) ∧ (-9223372036854775808 ≤ z ∧ z ≤ 9223372036854775807) := by
  obtain ⟨v0, v1, v2, y0, y1, y2, n, rfl, _, _, t0, t1, t2⟩ := Joins.open_agg3 Try.underlying24 (by kernel_rfl) (by kernel_rfl) hv h
  obtain ⟨x, q0, _, w0⟩ := DataW.trod_int Try.underlying22 t0
  obtain ⟨y, q1, _, w1⟩ := DataW.trod_int Try.underlying22 t1
  obtain ⟨z, q2, _, w2⟩ := DataW.trod_int Try.underlying3 t2
  exact ⟨x, y, z, by simp at q0 q1 q2; rw [q0, q1, q2], bounds_u16 w0, bounds_u16 w1, bounds_i64 w2⟩
end
end Go.Proofs.Ytgeodffcbphepaa
