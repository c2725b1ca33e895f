
/- The law's own read and write. -/
import Derived.Test.YtilpbbpdchbdfaaBFields
namespace Go.Proofs.Ytilpbbpdchbdfaa.Bit
open Go.RowKit
set_option maxRecDepth 100000

theorem block4_cell {w : World} {b : Nat} {x y z u : Value} {t : TypeId} (h : w.heap[b]? = some (.cells #[x, y, z, u] t (0, 0))) :
    w.cell? ⟨b, 0, none⟩ = some x ∧ w.cell? ⟨b, 1, none⟩ = some y ∧ w.cell? ⟨b, 2, none⟩ = some z ∧ w.cell? ⟨b, 3, none⟩ = some u ∧ w.frozen? ⟨b, 0, none⟩ = false ∧ w.frozen? ⟨b, 1, none⟩ = false ∧ w.frozen? ⟨b, 2, none⟩ = false ∧ w.frozen? ⟨b, 3, none⟩ = false := by
  simp [World.cell?, World.frozen?, h]

theorem set4 {w : World} {g : Nat} {x0 y0 z0 u0 : Value} {t : TypeId} (x y z u : Value) (h : w.heap[g]? = some (.cells #[x0, y0, z0, u0] t (0, 0))) :
    ((((w.setCell ⟨g, 0, none⟩ x).setCell ⟨g, 1, none⟩ y).setCell ⟨g, 2, none⟩ z).setCell ⟨g, 3, none⟩ u).heap[g]? = some (.cells #[x, y, z, u] t (0, 0)) :=
  heap_setCell_same _ g 3 _ t u (heap_setCell_same _ g 2 _ t z (heap_setCell_same _ g 1 _ t y (heap_setCell_same _ g 0 _ t x h)))
theorem set_other {w : World} {g b o : Nat} {x : Obj} (v : Value) (h : w.heap[g]? = some x) (hb : g ≠ b) : (w.setCell ⟨b, o, none⟩ v).heap[g]? = some x := by
  rw [Below.heap_setCell _ _ _ _ hb]; exact h
theorem Re.lt {w : World} {a : Nat} {s : ByteArray} {st : Nat × Int} (h : Re w a s st) : a < w.heap.size := by
  obtain ⟨x, y, h⟩ := h.err
  exact lt_of_block h
end Go.Proofs.Ytilpbbpdchbdfaa.Bit
