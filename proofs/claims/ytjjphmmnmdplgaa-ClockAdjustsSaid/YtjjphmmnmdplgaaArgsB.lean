/- The boxes of a law's two clocks and pair. -/
import Derived.Test.YtjjphmmnmdplgaaArgs
namespace Go.Proofs.Ytjjphmmnmdplgaa
open Go.RowKit

def Dx (w : World) (o d o' d' k t : Int) (w' : World) : Prop :=
  w'.cell? ⟨w.heap.size, 0, none⟩ = some (.int .i64 o) ∧ w'.cell? ⟨w.heap.size, 1, none⟩ = some (.int .i64 d) ∧ w'.cell? ⟨w.heap.size + 1, 0, none⟩ = some (.int .i64 o') ∧ w'.cell? ⟨w.heap.size + 1, 1, none⟩ = some (.int .i64 d') ∧
  w'.cell? ⟨w.heap.size + 1 + 1, 0, none⟩ = some (.int .i64 k) ∧ w'.cell? ⟨w.heap.size + 1 + 1, 1, none⟩ = some (.int .i64 t) ∧ Same w w'
theorem Dx.keep {w w1 w2 : World} {o d o' d' k t : Int} (h : Dx w o d o' d' k t w1) (s : Same w1 w2) : Dx w o d o' d' k t w2 := by
  obtain ⟨h0, h1, h2, h3, h4, h5, h6⟩ := h
  exact ⟨s.cell h0, s.cell h1, s.cell h2, s.cell h3, s.cell h4, s.cell h5, h6.trans s⟩
abbrev wD (w : World) (o d o' d' k t : Int) : World := ((w.alloc (.cells #[.int .i64 o, .int .i64 d] 23)).alloc (.cells #[.int .i64 o', .int .i64 d'] 23)).alloc (.cells #[.int .i64 k, .int .i64 t] 33)
theorem Dx.new (w : World) (o d o' d' k t : Int) : Dx w o d o' d' k t (wD w o d o' d' k t) :=
  ⟨by go_simp, by go_simp, by go_simp, by go_simp, by go_simp, by go_simp, (((Same.refl w).alloc _).alloc _).alloc _⟩
theorem Dx.under {w w1 : World} {o d o' d' k t : Int} (h : Dx w o d o' d' k t w1) (x y : Int) : Dx w o d o' d' k t (w1.alloc (.cells #[.int .i64 x, .int .i64 y] 23)) := h.keep ((Same.refl _).alloc _)
theorem box_new {w1 w2 : World} {x y : Int} (h : Same (w1.alloc (.cells #[.int .i64 x, .int .i64 y] 23)) w2) : w2.cell? ⟨w1.heap.size, 0, none⟩ = some (.int .i64 x) ∧ w2.cell? ⟨w1.heap.size, 1, none⟩ = some (.int .i64 y) :=
  ⟨h.cell (by go_simp), h.cell (by go_simp)⟩
theorem lt_of_cell {w : World} {b o : Nat} {v : Value} (h : w.cell? ⟨b, o, none⟩ = some v) : b < w.heap.size := World.block_lt_of_cell? w _ h
end Go.Proofs.Ytjjphmmnmdplgaa
