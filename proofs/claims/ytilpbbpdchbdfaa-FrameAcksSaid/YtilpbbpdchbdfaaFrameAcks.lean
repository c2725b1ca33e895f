/- FrameAcks: for all frames and numbers the law returns true: acknowledgements, answers and those who are meant are what the reference says. No condition on the input. -/
import Derived.Test.YtilpbbpdchbdfaaFA4
import Derived.Test.YtilpbbpdchbdfaaFAw
import Derived.Test.YtilpbbpdchbdfaaFArg
namespace Go.Proofs.Ytilpbbpdchbdfaa
open Go.RowKit

namespace frameAcks
/-- The boxes of the law. -/
structure Five (b A B : Nat) (f g a : Fr) (x y z : Int) (w : World) : Prop where
  hf : w.heap[b]? = some (.cells (frC f) 23 (0, 0))
  hg : w.heap[b + 1]? = some (.cells (frC g) 23 (0, 0))
  hz : w.heap[b + 2]? = some (.cells #[.int .i64 x, .int .i64 y, .int .i64 z] 35 (0, 0))
  ha : w.heap[A]? = some (.cells (frC a) 23 (0, 0))
  hb : w.heap[B]? = some (.cells (frC a) 23 (0, 0))
theorem Five.same {b A B : Nat} {f g a : Fr} {x y z : Int} {w w' : World} (h : Five b A B f g a x y z w) (k : Same w w') : Five b A B f g a x y z w' :=
  ⟨k.at h.hf, k.at h.hg, k.at h.hz, k.at h.ha, k.at h.hb⟩
theorem three_cells {w : World} {b : Nat} {x y z : Int} (h : w.heap[b]? = some (.cells #[.int .i64 x, .int .i64 y, .int .i64 z] 35 (0, 0))) :
    w.cell? ⟨b, 0, none⟩ = some (.int .i64 x) ∧ w.cell? ⟨b, 1, none⟩ = some (.int .i64 y) ∧ w.cell? ⟨b, 2, none⟩ = some (.int .i64 z) := by
  simp [World.cell?, h]
theorem Five.cells {b A B : Nat} {f g a : Fr} {x y z : Int} {x0 w : World} (h : Five b A B f g a x y z w) (k : Same x0 w) :
    w.cell? ⟨b, 0, none⟩ = some (.int .i64 f.k) ∧ w.cell? ⟨b, 1, none⟩ = some (.int .i64 f.s) ∧ w.cell? ⟨b, 2, none⟩ = some (.int .i64 f.t) ∧ w.cell? ⟨b, 3, none⟩ = some (.int .i64 f.l) ∧ w.cell? ⟨b, 4, none⟩ = some (.int .i64 f.q) ∧ w.cell? ⟨b, 5, none⟩ = some (.int .i64 f.fl) ∧ w.cell? ⟨b, 6, none⟩ = some (.int .i64 f.n) ∧ w.cell? ⟨b, 7, none⟩ = some (.int .i64 f.e) ∧ w.cell? ⟨b, 8, none⟩ = some (.int .i64 f.sl) ∧ w.cell? ⟨b, 9, none⟩ = some (.int .i64 f.r) ∧ w.cell? ⟨b, 10, none⟩ = some (.int .i64 f.ep) ∧ w.cell? ⟨b, 11, none⟩ = some (.string f.d) ∧ w.cell? ⟨b + 1, 0, none⟩ = some (.int .i64 g.k) ∧ w.cell? ⟨b + 1, 1, none⟩ = some (.int .i64 g.s) ∧ w.cell? ⟨b + 1, 2, none⟩ = some (.int .i64 g.t) ∧ w.cell? ⟨b + 1, 3, none⟩ = some (.int .i64 g.l) ∧ w.cell? ⟨b + 1, 4, none⟩ = some (.int .i64 g.q) ∧ w.cell? ⟨b + 1, 5, none⟩ = some (.int .i64 g.fl) ∧ w.cell? ⟨b + 1, 6, none⟩ = some (.int .i64 g.n) ∧ w.cell? ⟨b + 1, 7, none⟩ = some (.int .i64 g.e) ∧ w.cell? ⟨b + 1, 8, none⟩ = some (.int .i64 g.sl) ∧ w.cell? ⟨b + 1, 9, none⟩ = some (.int .i64 g.r) ∧ w.cell? ⟨b + 1, 10, none⟩ = some (.int .i64 g.ep) ∧ w.cell? ⟨b + 1, 11, none⟩ = some (.string g.d) ∧ w.cell? ⟨b + 2, 2, none⟩ = some (.int .i64 z) ∧ w.cell? ⟨A, 0, none⟩ = some (.int .i64 a.k) ∧ w.cell? ⟨A, 1, none⟩ = some (.int .i64 a.s) ∧ w.cell? ⟨A, 2, none⟩ = some (.int .i64 a.t) ∧ w.cell? ⟨A, 3, none⟩ = some (.int .i64 a.l) ∧ w.cell? ⟨A, 4, none⟩ = some (.int .i64 a.q) ∧ w.cell? ⟨A, 5, none⟩ = some (.int .i64 a.fl) ∧ w.cell? ⟨A, 6, none⟩ = some (.int .i64 a.n) ∧ w.cell? ⟨A, 7, none⟩ = some (.int .i64 a.e) ∧ w.cell? ⟨A, 8, none⟩ = some (.int .i64 a.sl) ∧ w.cell? ⟨A, 9, none⟩ = some (.int .i64 a.r) ∧ w.cell? ⟨A, 10, none⟩ = some (.int .i64 a.ep) ∧ w.cell? ⟨A, 11, none⟩ = some (.string a.d) ∧ w.cell? ⟨B, 0, none⟩ = some (.int .i64 a.k) ∧ w.cell? ⟨B, 1, none⟩ = some (.int .i64 a.s) ∧ w.cell? ⟨B, 2, none⟩ = some (.int .i64 a.t) ∧ w.cell? ⟨B, 3, none⟩ = some (.int .i64 a.l) ∧ w.cell? ⟨B, 4, none⟩ = some (.int .i64 a.q) ∧ w.cell? ⟨B, 5, none⟩ = some (.int .i64 a.fl) ∧ w.cell? ⟨B, 6, none⟩ = some (.int .i64 a.n) ∧ w.cell? ⟨B, 7, none⟩ = some (.int .i64 a.e) ∧ w.cell? ⟨B, 8, none⟩ = some (.int .i64 a.sl) ∧ w.cell? ⟨B, 9, none⟩ = some (.int .i64 a.r) ∧ w.cell? ⟨B, 10, none⟩ = some (.int .i64 a.ep) ∧ w.cell? ⟨B, 11, none⟩ = some (.string a.d) ∧ Same x0 w := by
  obtain ⟨c0, c1, c2, c3, c4, c5, c6, c7, c8, c9, c10, c11⟩ := fr_cells h.hf
  obtain ⟨d0, d1, d2, d3, d4, d5, d6, d7, d8, d9, d10, d11⟩ := fr_cells h.hg
  obtain ⟨e0, e1, e2, e3, e4, e5, e6, e7, e8, e9, e10, e11⟩ := fr_cells h.ha
  obtain ⟨g0, g1, g2, g3, g4, g5, g6, g7, g8, g9, g10, g11⟩ := fr_cells h.hb
  exact ⟨c0, c1, c2, c3, c4, c5, c6, c7, c8, c9, c10, c11, d0, d1, d2, d3, d4, d5, d6, d7, d8, d9, d10, d11, (three_cells h.hz).2.2, e0, e1, e2, e3, e4, e5, e6, e7, e8, e9, e10, e11, g0, g1, g2, g3, g4, g5, g6, g7, g8, g9, g10, g11, k⟩
theorem keepS {b A B : Nat} {f g a : Fr} {x y z : Int} {x0 w1 w2 : World} (h : Five b A B f g a x y z x0) (h1 : w1.cell? ⟨b, 0, none⟩ = some (.int .i64 f.k) ∧ w1.cell? ⟨b, 1, none⟩ = some (.int .i64 f.s) ∧ w1.cell? ⟨b, 2, none⟩ = some (.int .i64 f.t) ∧ w1.cell? ⟨b, 3, none⟩ = some (.int .i64 f.l) ∧ w1.cell? ⟨b, 4, none⟩ = some (.int .i64 f.q) ∧ w1.cell? ⟨b, 5, none⟩ = some (.int .i64 f.fl) ∧ w1.cell? ⟨b, 6, none⟩ = some (.int .i64 f.n) ∧ w1.cell? ⟨b, 7, none⟩ = some (.int .i64 f.e) ∧ w1.cell? ⟨b, 8, none⟩ = some (.int .i64 f.sl) ∧ w1.cell? ⟨b, 9, none⟩ = some (.int .i64 f.r) ∧ w1.cell? ⟨b, 10, none⟩ = some (.int .i64 f.ep) ∧ w1.cell? ⟨b, 11, none⟩ = some (.string f.d) ∧ w1.cell? ⟨b + 1, 0, none⟩ = some (.int .i64 g.k) ∧ w1.cell? ⟨b + 1, 1, none⟩ = some (.int .i64 g.s) ∧ w1.cell? ⟨b + 1, 2, none⟩ = some (.int .i64 g.t) ∧ w1.cell? ⟨b + 1, 3, none⟩ = some (.int .i64 g.l) ∧ w1.cell? ⟨b + 1, 4, none⟩ = some (.int .i64 g.q) ∧ w1.cell? ⟨b + 1, 5, none⟩ = some (.int .i64 g.fl) ∧ w1.cell? ⟨b + 1, 6, none⟩ = some (.int .i64 g.n) ∧ w1.cell? ⟨b + 1, 7, none⟩ = some (.int .i64 g.e) ∧ w1.cell? ⟨b + 1, 8, none⟩ = some (.int .i64 g.sl) ∧ w1.cell? ⟨b + 1, 9, none⟩ = some (.int .i64 g.r) ∧ w1.cell? ⟨b + 1, 10, none⟩ = some (.int .i64 g.ep) ∧ w1.cell? ⟨b + 1, 11, none⟩ = some (.string g.d) ∧ w1.cell? ⟨b + 2, 2, none⟩ = some (.int .i64 z) ∧ w1.cell? ⟨A, 0, none⟩ = some (.int .i64 a.k) ∧ w1.cell? ⟨A, 1, none⟩ = some (.int .i64 a.s) ∧ w1.cell? ⟨A, 2, none⟩ = some (.int .i64 a.t) ∧ w1.cell? ⟨A, 3, none⟩ = some (.int .i64 a.l) ∧ w1.cell? ⟨A, 4, none⟩ = some (.int .i64 a.q) ∧ w1.cell? ⟨A, 5, none⟩ = some (.int .i64 a.fl) ∧ w1.cell? ⟨A, 6, none⟩ = some (.int .i64 a.n) ∧ w1.cell? ⟨A, 7, none⟩ = some (.int .i64 a.e) ∧ w1.cell? ⟨A, 8, none⟩ = some (.int .i64 a.sl) ∧ w1.cell? ⟨A, 9, none⟩ = some (.int .i64 a.r) ∧ w1.cell? ⟨A, 10, none⟩ = some (.int .i64 a.ep) ∧ w1.cell? ⟨A, 11, none⟩ = some (.string a.d) ∧ w1.cell? ⟨B, 0, none⟩ = some (.int .i64 a.k) ∧ w1.cell? ⟨B, 1, none⟩ = some (.int .i64 a.s) ∧ w1.cell? ⟨B, 2, none⟩ = some (.int .i64 a.t) ∧ w1.cell? ⟨B, 3, none⟩ = some (.int .i64 a.l) ∧ w1.cell? ⟨B, 4, none⟩ = some (.int .i64 a.q) ∧ w1.cell? ⟨B, 5, none⟩ = some (.int .i64 a.fl) ∧ w1.cell? ⟨B, 6, none⟩ = some (.int .i64 a.n) ∧ w1.cell? ⟨B, 7, none⟩ = some (.int .i64 a.e) ∧ w1.cell? ⟨B, 8, none⟩ = some (.int .i64 a.sl) ∧ w1.cell? ⟨B, 9, none⟩ = some (.int .i64 a.r) ∧ w1.cell? ⟨B, 10, none⟩ = some (.int .i64 a.ep) ∧ w1.cell? ⟨B, 11, none⟩ = some (.string a.d) ∧ Same x0 w1) (k : Same w1 w2) : w2.cell? ⟨b, 0, none⟩ = some (.int .i64 f.k) ∧ w2.cell? ⟨b, 1, none⟩ = some (.int .i64 f.s) ∧ w2.cell? ⟨b, 2, none⟩ = some (.int .i64 f.t) ∧ w2.cell? ⟨b, 3, none⟩ = some (.int .i64 f.l) ∧ w2.cell? ⟨b, 4, none⟩ = some (.int .i64 f.q) ∧ w2.cell? ⟨b, 5, none⟩ = some (.int .i64 f.fl) ∧ w2.cell? ⟨b, 6, none⟩ = some (.int .i64 f.n) ∧ w2.cell? ⟨b, 7, none⟩ = some (.int .i64 f.e) ∧ w2.cell? ⟨b, 8, none⟩ = some (.int .i64 f.sl) ∧ w2.cell? ⟨b, 9, none⟩ = some (.int .i64 f.r) ∧ w2.cell? ⟨b, 10, none⟩ = some (.int .i64 f.ep) ∧ w2.cell? ⟨b, 11, none⟩ = some (.string f.d) ∧ w2.cell? ⟨b + 1, 0, none⟩ = some (.int .i64 g.k) ∧ w2.cell? ⟨b + 1, 1, none⟩ = some (.int .i64 g.s) ∧ w2.cell? ⟨b + 1, 2, none⟩ = some (.int .i64 g.t) ∧ w2.cell? ⟨b + 1, 3, none⟩ = some (.int .i64 g.l) ∧ w2.cell? ⟨b + 1, 4, none⟩ = some (.int .i64 g.q) ∧ w2.cell? ⟨b + 1, 5, none⟩ = some (.int .i64 g.fl) ∧ w2.cell? ⟨b + 1, 6, none⟩ = some (.int .i64 g.n) ∧ w2.cell? ⟨b + 1, 7, none⟩ = some (.int .i64 g.e) ∧ w2.cell? ⟨b + 1, 8, none⟩ = some (.int .i64 g.sl) ∧ w2.cell? ⟨b + 1, 9, none⟩ = some (.int .i64 g.r) ∧ w2.cell? ⟨b + 1, 10, none⟩ = some (.int .i64 g.ep) ∧ w2.cell? ⟨b + 1, 11, none⟩ = some (.string g.d) ∧ w2.cell? ⟨b + 2, 2, none⟩ = some (.int .i64 z) ∧ w2.cell? ⟨A, 0, none⟩ = some (.int .i64 a.k) ∧ w2.cell? ⟨A, 1, none⟩ = some (.int .i64 a.s) ∧ w2.cell? ⟨A, 2, none⟩ = some (.int .i64 a.t) ∧ w2.cell? ⟨A, 3, none⟩ = some (.int .i64 a.l) ∧ w2.cell? ⟨A, 4, none⟩ = some (.int .i64 a.q) ∧ w2.cell? ⟨A, 5, none⟩ = some (.int .i64 a.fl) ∧ w2.cell? ⟨A, 6, none⟩ = some (.int .i64 a.n) ∧ w2.cell? ⟨A, 7, none⟩ = some (.int .i64 a.e) ∧ w2.cell? ⟨A, 8, none⟩ = some (.int .i64 a.sl) ∧ w2.cell? ⟨A, 9, none⟩ = some (.int .i64 a.r) ∧ w2.cell? ⟨A, 10, none⟩ = some (.int .i64 a.ep) ∧ w2.cell? ⟨A, 11, none⟩ = some (.string a.d) ∧ w2.cell? ⟨B, 0, none⟩ = some (.int .i64 a.k) ∧ w2.cell? ⟨B, 1, none⟩ = some (.int .i64 a.s) ∧ w2.cell? ⟨B, 2, none⟩ = some (.int .i64 a.t) ∧ w2.cell? ⟨B, 3, none⟩ = some (.int .i64 a.l) ∧ w2.cell? ⟨B, 4, none⟩ = some (.int .i64 a.q) ∧ w2.cell? ⟨B, 5, none⟩ = some (.int .i64 a.fl) ∧ w2.cell? ⟨B, 6, none⟩ = some (.int .i64 a.n) ∧ w2.cell? ⟨B, 7, none⟩ = some (.int .i64 a.e) ∧ w2.cell? ⟨B, 8, none⟩ = some (.int .i64 a.sl) ∧ w2.cell? ⟨B, 9, none⟩ = some (.int .i64 a.r) ∧ w2.cell? ⟨B, 10, none⟩ = some (.int .i64 a.ep) ∧ w2.cell? ⟨B, 11, none⟩ = some (.string a.d) ∧ Same x0 w2 := by
  obtain ⟨_, _, _, _, _, _, _, _, _, _, _, _, _, _, _, _, _, _, _, _, _, _, _, _, _, _, _, _, _, _, _, _, _, _, _, _, _, _, _, _, _, _, _, _, _, _, _, _, _, hs⟩ := h1
  exact (h.same (hs.trans k)).cells (hs.trans k)
theorem three_boxes {w w1 : World} {f g : Fr} {x y z : Int} (h : Same (((w.alloc (.cells (frC f) 23)).alloc (.cells (frC g) 23)).alloc (.cells #[.int .i64 x, .int .i64 y, .int .i64 z] 35)) w1) :
    w1.heap[w.heap.size]? = some (.cells (frC f) 23 (0, 0)) ∧ w1.heap[w.heap.size + 1]? = some (.cells (frC g) 23 (0, 0)) ∧ w1.heap[w.heap.size + 2]? = some (.cells #[.int .i64 x, .int .i64 y, .int .i64 z] 35 (0, 0)) := by
  refine ⟨h.at ?_, h.at ?_, h.at ?_⟩
  · rw [Below.heap_alloc _ _ _ (by simp; omega), Below.heap_alloc _ _ _ (by simp)]; exact heap_alloc_new w _
  · rw [Below.heap_alloc _ _ _ (by simp)]
    have := heap_alloc_new (w.alloc (.cells (frC f) 23)) (.cells (frC g) 23)
    simpa using this
  · have := heap_alloc_new ((w.alloc (.cells (frC f) 23)).alloc (.cells (frC g) 23)) (.cells #[.int .i64 x, .int .i64 y, .int .i64 z] 35)
    simpa using this
theorem start {w w1 : World} {f g : Fr} {x y z : Int} (h : Same (((w.alloc (.cells (frC f) 23)).alloc (.cells (frC g) 23)).alloc (.cells #[.int .i64 x, .int .i64 y, .int .i64 z] 35)) w1) :
    (w1.cell? ⟨w.heap.size, 0, none⟩ = some (.int .i64 f.k) ∧ w1.cell? ⟨w.heap.size, 1, none⟩ = some (.int .i64 f.s) ∧ w1.cell? ⟨w.heap.size, 2, none⟩ = some (.int .i64 f.t) ∧ w1.cell? ⟨w.heap.size, 3, none⟩ = some (.int .i64 f.l) ∧ w1.cell? ⟨w.heap.size, 4, none⟩ = some (.int .i64 f.q) ∧ w1.cell? ⟨w.heap.size, 5, none⟩ = some (.int .i64 f.fl) ∧ w1.cell? ⟨w.heap.size, 6, none⟩ = some (.int .i64 f.n) ∧ w1.cell? ⟨w.heap.size, 7, none⟩ = some (.int .i64 f.e) ∧ w1.cell? ⟨w.heap.size, 8, none⟩ = some (.int .i64 f.sl) ∧ w1.cell? ⟨w.heap.size, 9, none⟩ = some (.int .i64 f.r) ∧ w1.cell? ⟨w.heap.size, 10, none⟩ = some (.int .i64 f.ep) ∧ w1.cell? ⟨w.heap.size, 11, none⟩ = some (.string f.d)) ∧ (w1.cell? ⟨w.heap.size + 1, 0, none⟩ = some (.int .i64 g.k) ∧ w1.cell? ⟨w.heap.size + 1, 1, none⟩ = some (.int .i64 g.s) ∧ w1.cell? ⟨w.heap.size + 1, 2, none⟩ = some (.int .i64 g.t) ∧ w1.cell? ⟨w.heap.size + 1, 3, none⟩ = some (.int .i64 g.l) ∧ w1.cell? ⟨w.heap.size + 1, 4, none⟩ = some (.int .i64 g.q) ∧ w1.cell? ⟨w.heap.size + 1, 5, none⟩ = some (.int .i64 g.fl) ∧ w1.cell? ⟨w.heap.size + 1, 6, none⟩ = some (.int .i64 g.n) ∧ w1.cell? ⟨w.heap.size + 1, 7, none⟩ = some (.int .i64 g.e) ∧ w1.cell? ⟨w.heap.size + 1, 8, none⟩ = some (.int .i64 g.sl) ∧ w1.cell? ⟨w.heap.size + 1, 9, none⟩ = some (.int .i64 g.r) ∧ w1.cell? ⟨w.heap.size + 1, 10, none⟩ = some (.int .i64 g.ep) ∧ w1.cell? ⟨w.heap.size + 1, 11, none⟩ = some (.string g.d)) ∧ (w1.cell? ⟨w.heap.size + 2, 0, none⟩ = some (.int .i64 x) ∧ w1.cell? ⟨w.heap.size + 2, 1, none⟩ = some (.int .i64 y) ∧ w1.cell? ⟨w.heap.size + 2, 2, none⟩ = some (.int .i64 z)) :=
  ⟨fr_cells (three_boxes h).1, fr_cells (three_boxes h).2.1, three_cells (three_boxes h).2.2⟩
set_option maxRecDepth 100000 in
theorem long (f g : Fr) (x y z : Int) (u v : Bool) (hu : decide ((300 : Int) < (f.d.size : Int)) = u) (hv : decide ((300 : Int) < (g.d.size : Int)) = v) (h : (u || v) = true) (w : World) :
    Calls Try.prog 5 #[frV f, frV g, .agg #[.int .i64 x, .int .i64 y, .int .i64 z]] w fun e w' => e = .returned (.bool true) ∧ Same w w' := by
  have HS := Lib.hid ((((Same.refl w).alloc (.cells (frC f) 23)).alloc (.cells (frC g) 23)).alloc (.cells #[.int .i64 x, .int .i64 y, .int .i64 z] 35))
  have HB := Lib.hid (fun (w1 : World) (h : Same (((w.alloc (.cells (frC f) 23)).alloc (.cells (frC g) 23)).alloc (.cells #[.int .i64 x, .int .i64 y, .int .i64 z] 35)) w1) => start h)
  cases u <;> cases v
  case false.false => exact absurd h (by decide)
  all_goals
    clear h
    go_enter Try.func5, Try.ntmps5
    go_wp2_with (go_at_call 11; (with_reducible refine (awake_any _).mono ?_); rintro E1 w1 ⟨rfl, hw⟩; obtain ⟨⟨c0, c1, c2, c3, c4, c5, c6, c7, c8, c9, c10, c11⟩, ⟨d0, d1, d2, d3, d4, d5, d6, d7, d8, d9, d10, d11⟩, ⟨z0, z1, z2⟩⟩ := HB.out _ hw; have HX := Lib.hid hw; clear hw)
    go_ret
    exact ⟨rfl, HS.out.trans HX.out⟩
set_option maxRecDepth 100000 in
set_option maxHeartbeats 6400000 in
theorem main (f g : Fr) (x y z : Int) (hu : decide ((300 : Int) < (f.d.size : Int)) = false) (hv : decide ((300 : Int) < (g.d.size : Int)) = false) (w : World) :
    Calls Try.prog 5 #[frV f, frV g, .agg #[.int .i64 x, .int .i64 y, .int .i64 z]] w fun e w' => e = .returned (.bool true) ∧ Same w w' := by
  have k1 := fun w1 => ack_any f x y w1
  have k2 := fun w1 => ack2_any f x y w1
  have k3 := fun w1 => answers_any f g w1
  have k4 := fun w1 => answers2_any f g w1
  have k5 := fun w1 => answers_any f (ackR f x y).1 w1
  have k6 := fun w1 => answers2_any f (ackR f x y).1 w1
  have k7 := fun w1 => for_any f z w1
  have k8 := fun w1 => for2_any f z w1
  generalize ansR f g = u1 at *
  generalize ansR f (ackR f x y).1 = u2 at *
  generalize forR f z = u3 at *
  generalize ackR f x y = R at *
  obtain ⟨a, E⟩ := R
  dsimp only at k1 k2 k5 k6
  have b1 : (u1 == u1) = true := by simp
  have b2 : (u2 == u2) = true := by simp
  have b3 : (u3 == u3) = true := by simp
  have b4 : (E == E) = true := by simp
  have K1 := Lib.hid k1; have K2 := Lib.hid k2; have K3 := Lib.hid k3; have K4 := Lib.hid k4
  have K5 := Lib.hid k5; have K6 := Lib.hid k6; have K7 := Lib.hid k7; have K8 := Lib.hid k8
  clear k1 k2 k3 k4 k5 k6 k7 k8
  have HS := Lib.hid ((((Same.refl w).alloc (.cells (frC f) 23)).alloc (.cells (frC g) 23)).alloc (.cells #[.int .i64 x, .int .i64 y, .int .i64 z] 35))
  have HB := Lib.hid (fun (w1 : World) (h : Same (((w.alloc (.cells (frC f) 23)).alloc (.cells (frC g) 23)).alloc (.cells #[.int .i64 x, .int .i64 y, .int .i64 z] 35)) w1) => start h)
  go_enter Try.func5, Try.ntmps5
  go_wp2_with (first
    | (go_at_call 11; (with_reducible refine (awake_any _).mono ?_); rintro E1 w1 ⟨rfl, hw⟩; obtain ⟨⟨c0, c1, c2, c3, c4, c5, c6, c7, c8, c9, c10, c11⟩, ⟨d0, d1, d2, d3, d4, d5, d6, d7, d8, d9, d10, d11⟩, ⟨z0, z1, z2⟩⟩ := HB.out _ hw; have HX := Lib.hid hw; clear hw)
    | (go_at_call 22; (with_reducible refine (K1.out _).mono ?_); rintro E1 w2 ⟨rfl, hw⟩; have hx := (HX.out.trans hw).alloc (.cells (frC a) 23); clear hw; try clear c0 c1 c2 c3 c4 c5 c6 c7 c8 c9 c10 c11 d0 d1 d2 d3 d4 d5 d6 d7 d8 d9 d10 d11 z0 z1 z2; obtain ⟨⟨c0, c1, c2, c3, c4, c5, c6, c7, c8, c9, c10, c11⟩, ⟨d0, d1, d2, d3, d4, d5, d6, d7, d8, d9, d10, d11⟩, ⟨z0, z1, z2⟩⟩ := HB.out _ hx; have HY := Lib.hid hx; clear hx)
    | (go_at_call 23; (with_reducible refine (K2.out _).mono ?_); rintro E1 w3 ⟨rfl, hw⟩; have HZ := Lib.hid hw; clear hw; try clear c0 c1 c2 c3 c4 c5 c6 c7 c8 c9 c10 c11 d0 d1 d2 d3 d4 d5 d6 d7 d8 d9 d10 d11 z0 z1 z2))
  have h5 : Five w.heap.size w2.heap.size w3.heap.size f g a x y z (w3.alloc (.cells (frC a) 23)) := by
    have q := three_boxes (HY.out.trans (HZ.out.alloc (.cells (frC a) 23)))
    exact ⟨q.1, q.2.1, q.2.2, (HZ.out.alloc (.cells (frC a) 23)).at (heap_alloc_new w2 _), heap_alloc_new w3 _⟩
  have hfin := HS.out.trans (HY.out.trans (HZ.out.alloc (.cells (frC a) 23)))
  generalize w3.alloc (.cells (frC a) 23) = x0 at *
  generalize w3.heap.size = B at *
  generalize w2.heap.size = A at *
  generalize w.heap.size = b at *
  have hd := (h5.same (Same.refl x0).drew).cells (Same.refl x0).drew
  have HF := Lib.hid (And.intro h5 hfin)
  have HC := Lib.hid (fun (w1 w2 : World) (h1 : w1.cell? ⟨b, 0, none⟩ = some (.int .i64 f.k) ∧ w1.cell? ⟨b, 1, none⟩ = some (.int .i64 f.s) ∧ w1.cell? ⟨b, 2, none⟩ = some (.int .i64 f.t) ∧ w1.cell? ⟨b, 3, none⟩ = some (.int .i64 f.l) ∧ w1.cell? ⟨b, 4, none⟩ = some (.int .i64 f.q) ∧ w1.cell? ⟨b, 5, none⟩ = some (.int .i64 f.fl) ∧ w1.cell? ⟨b, 6, none⟩ = some (.int .i64 f.n) ∧ w1.cell? ⟨b, 7, none⟩ = some (.int .i64 f.e) ∧ w1.cell? ⟨b, 8, none⟩ = some (.int .i64 f.sl) ∧ w1.cell? ⟨b, 9, none⟩ = some (.int .i64 f.r) ∧ w1.cell? ⟨b, 10, none⟩ = some (.int .i64 f.ep) ∧ w1.cell? ⟨b, 11, none⟩ = some (.string f.d) ∧ w1.cell? ⟨b + 1, 0, none⟩ = some (.int .i64 g.k) ∧ w1.cell? ⟨b + 1, 1, none⟩ = some (.int .i64 g.s) ∧ w1.cell? ⟨b + 1, 2, none⟩ = some (.int .i64 g.t) ∧ w1.cell? ⟨b + 1, 3, none⟩ = some (.int .i64 g.l) ∧ w1.cell? ⟨b + 1, 4, none⟩ = some (.int .i64 g.q) ∧ w1.cell? ⟨b + 1, 5, none⟩ = some (.int .i64 g.fl) ∧ w1.cell? ⟨b + 1, 6, none⟩ = some (.int .i64 g.n) ∧ w1.cell? ⟨b + 1, 7, none⟩ = some (.int .i64 g.e) ∧ w1.cell? ⟨b + 1, 8, none⟩ = some (.int .i64 g.sl) ∧ w1.cell? ⟨b + 1, 9, none⟩ = some (.int .i64 g.r) ∧ w1.cell? ⟨b + 1, 10, none⟩ = some (.int .i64 g.ep) ∧ w1.cell? ⟨b + 1, 11, none⟩ = some (.string g.d) ∧ w1.cell? ⟨b + 2, 2, none⟩ = some (.int .i64 z) ∧ w1.cell? ⟨A, 0, none⟩ = some (.int .i64 a.k) ∧ w1.cell? ⟨A, 1, none⟩ = some (.int .i64 a.s) ∧ w1.cell? ⟨A, 2, none⟩ = some (.int .i64 a.t) ∧ w1.cell? ⟨A, 3, none⟩ = some (.int .i64 a.l) ∧ w1.cell? ⟨A, 4, none⟩ = some (.int .i64 a.q) ∧ w1.cell? ⟨A, 5, none⟩ = some (.int .i64 a.fl) ∧ w1.cell? ⟨A, 6, none⟩ = some (.int .i64 a.n) ∧ w1.cell? ⟨A, 7, none⟩ = some (.int .i64 a.e) ∧ w1.cell? ⟨A, 8, none⟩ = some (.int .i64 a.sl) ∧ w1.cell? ⟨A, 9, none⟩ = some (.int .i64 a.r) ∧ w1.cell? ⟨A, 10, none⟩ = some (.int .i64 a.ep) ∧ w1.cell? ⟨A, 11, none⟩ = some (.string a.d) ∧ w1.cell? ⟨B, 0, none⟩ = some (.int .i64 a.k) ∧ w1.cell? ⟨B, 1, none⟩ = some (.int .i64 a.s) ∧ w1.cell? ⟨B, 2, none⟩ = some (.int .i64 a.t) ∧ w1.cell? ⟨B, 3, none⟩ = some (.int .i64 a.l) ∧ w1.cell? ⟨B, 4, none⟩ = some (.int .i64 a.q) ∧ w1.cell? ⟨B, 5, none⟩ = some (.int .i64 a.fl) ∧ w1.cell? ⟨B, 6, none⟩ = some (.int .i64 a.n) ∧ w1.cell? ⟨B, 7, none⟩ = some (.int .i64 a.e) ∧ w1.cell? ⟨B, 8, none⟩ = some (.int .i64 a.sl) ∧ w1.cell? ⟨B, 9, none⟩ = some (.int .i64 a.r) ∧ w1.cell? ⟨B, 10, none⟩ = some (.int .i64 a.ep) ∧ w1.cell? ⟨B, 11, none⟩ = some (.string a.d) ∧ Same x0 w1) (k : Same w1 w2) => keepS HF.out.1 h1 k)
  clear h5 hfin HX HY HZ HB K1 K2
  go_region_held3 (fun w' => w'.cell? ⟨b, 0, none⟩ = some (.int .i64 f.k) ∧ w'.cell? ⟨b, 1, none⟩ = some (.int .i64 f.s) ∧ w'.cell? ⟨b, 2, none⟩ = some (.int .i64 f.t) ∧ w'.cell? ⟨b, 3, none⟩ = some (.int .i64 f.l) ∧ w'.cell? ⟨b, 4, none⟩ = some (.int .i64 f.q) ∧ w'.cell? ⟨b, 5, none⟩ = some (.int .i64 f.fl) ∧ w'.cell? ⟨b, 6, none⟩ = some (.int .i64 f.n) ∧ w'.cell? ⟨b, 7, none⟩ = some (.int .i64 f.e) ∧ w'.cell? ⟨b, 8, none⟩ = some (.int .i64 f.sl) ∧ w'.cell? ⟨b, 9, none⟩ = some (.int .i64 f.r) ∧ w'.cell? ⟨b, 10, none⟩ = some (.int .i64 f.ep) ∧ w'.cell? ⟨b, 11, none⟩ = some (.string f.d) ∧ w'.cell? ⟨b + 1, 0, none⟩ = some (.int .i64 g.k) ∧ w'.cell? ⟨b + 1, 1, none⟩ = some (.int .i64 g.s) ∧ w'.cell? ⟨b + 1, 2, none⟩ = some (.int .i64 g.t) ∧ w'.cell? ⟨b + 1, 3, none⟩ = some (.int .i64 g.l) ∧ w'.cell? ⟨b + 1, 4, none⟩ = some (.int .i64 g.q) ∧ w'.cell? ⟨b + 1, 5, none⟩ = some (.int .i64 g.fl) ∧ w'.cell? ⟨b + 1, 6, none⟩ = some (.int .i64 g.n) ∧ w'.cell? ⟨b + 1, 7, none⟩ = some (.int .i64 g.e) ∧ w'.cell? ⟨b + 1, 8, none⟩ = some (.int .i64 g.sl) ∧ w'.cell? ⟨b + 1, 9, none⟩ = some (.int .i64 g.r) ∧ w'.cell? ⟨b + 1, 10, none⟩ = some (.int .i64 g.ep) ∧ w'.cell? ⟨b + 1, 11, none⟩ = some (.string g.d) ∧ w'.cell? ⟨b + 2, 2, none⟩ = some (.int .i64 z) ∧ w'.cell? ⟨A, 0, none⟩ = some (.int .i64 a.k) ∧ w'.cell? ⟨A, 1, none⟩ = some (.int .i64 a.s) ∧ w'.cell? ⟨A, 2, none⟩ = some (.int .i64 a.t) ∧ w'.cell? ⟨A, 3, none⟩ = some (.int .i64 a.l) ∧ w'.cell? ⟨A, 4, none⟩ = some (.int .i64 a.q) ∧ w'.cell? ⟨A, 5, none⟩ = some (.int .i64 a.fl) ∧ w'.cell? ⟨A, 6, none⟩ = some (.int .i64 a.n) ∧ w'.cell? ⟨A, 7, none⟩ = some (.int .i64 a.e) ∧ w'.cell? ⟨A, 8, none⟩ = some (.int .i64 a.sl) ∧ w'.cell? ⟨A, 9, none⟩ = some (.int .i64 a.r) ∧ w'.cell? ⟨A, 10, none⟩ = some (.int .i64 a.ep) ∧ w'.cell? ⟨A, 11, none⟩ = some (.string a.d) ∧ w'.cell? ⟨B, 0, none⟩ = some (.int .i64 a.k) ∧ w'.cell? ⟨B, 1, none⟩ = some (.int .i64 a.s) ∧ w'.cell? ⟨B, 2, none⟩ = some (.int .i64 a.t) ∧ w'.cell? ⟨B, 3, none⟩ = some (.int .i64 a.l) ∧ w'.cell? ⟨B, 4, none⟩ = some (.int .i64 a.q) ∧ w'.cell? ⟨B, 5, none⟩ = some (.int .i64 a.fl) ∧ w'.cell? ⟨B, 6, none⟩ = some (.int .i64 a.n) ∧ w'.cell? ⟨B, 7, none⟩ = some (.int .i64 a.e) ∧ w'.cell? ⟨B, 8, none⟩ = some (.int .i64 a.sl) ∧ w'.cell? ⟨B, 9, none⟩ = some (.int .i64 a.r) ∧ w'.cell? ⟨B, 10, none⟩ = some (.int .i64 a.ep) ∧ w'.cell? ⟨B, 11, none⟩ = some (.string a.d) ∧ Same x0 w')
    (first | exact hd | exact HC.out _ _ hd hw3 | exact HC.out _ _ (by assumption) hw3 | assumption)
    (first
      | (go_at_call 24; (with_reducible refine (K3.out _).mono ?_); rintro E1 w3 ⟨rfl, hw3⟩)
      | (go_at_call 25; (with_reducible refine (K4.out _).mono ?_); rintro E1 w3 ⟨rfl, hw3⟩)
      | (go_at_call 24; (with_reducible refine (K5.out _).mono ?_); rintro E1 w3 ⟨rfl, hw3⟩)
      | (go_at_call 25; (with_reducible refine (K6.out _).mono ?_); rintro E1 w3 ⟨rfl, hw3⟩)
      | (go_at_call 26; (with_reducible refine (K7.out _).mono ?_); rintro E1 w3 ⟨rfl, hw3⟩)
      | (go_at_call 27; (with_reducible refine (K8.out _).mono ?_); rintro E1 w3 ⟨rfl, hw3⟩)
      | fail)
  obtain ⟨_, _, _, _, _, _, _, _, _, _, _, _, _, _, _, _, _, _, _, _, _, _, _, _, _, _, _, _, _, _, _, _, _, _, _, _, _, _, _, _, _, _, _, _, _, _, _, _, _, hs⟩ := (by assumption : w3.cell? ⟨b, 0, none⟩ = some (.int .i64 f.k) ∧ w3.cell? ⟨b, 1, none⟩ = some (.int .i64 f.s) ∧ w3.cell? ⟨b, 2, none⟩ = some (.int .i64 f.t) ∧ w3.cell? ⟨b, 3, none⟩ = some (.int .i64 f.l) ∧ w3.cell? ⟨b, 4, none⟩ = some (.int .i64 f.q) ∧ w3.cell? ⟨b, 5, none⟩ = some (.int .i64 f.fl) ∧ w3.cell? ⟨b, 6, none⟩ = some (.int .i64 f.n) ∧ w3.cell? ⟨b, 7, none⟩ = some (.int .i64 f.e) ∧ w3.cell? ⟨b, 8, none⟩ = some (.int .i64 f.sl) ∧ w3.cell? ⟨b, 9, none⟩ = some (.int .i64 f.r) ∧ w3.cell? ⟨b, 10, none⟩ = some (.int .i64 f.ep) ∧ w3.cell? ⟨b, 11, none⟩ = some (.string f.d) ∧ w3.cell? ⟨b + 1, 0, none⟩ = some (.int .i64 g.k) ∧ w3.cell? ⟨b + 1, 1, none⟩ = some (.int .i64 g.s) ∧ w3.cell? ⟨b + 1, 2, none⟩ = some (.int .i64 g.t) ∧ w3.cell? ⟨b + 1, 3, none⟩ = some (.int .i64 g.l) ∧ w3.cell? ⟨b + 1, 4, none⟩ = some (.int .i64 g.q) ∧ w3.cell? ⟨b + 1, 5, none⟩ = some (.int .i64 g.fl) ∧ w3.cell? ⟨b + 1, 6, none⟩ = some (.int .i64 g.n) ∧ w3.cell? ⟨b + 1, 7, none⟩ = some (.int .i64 g.e) ∧ w3.cell? ⟨b + 1, 8, none⟩ = some (.int .i64 g.sl) ∧ w3.cell? ⟨b + 1, 9, none⟩ = some (.int .i64 g.r) ∧ w3.cell? ⟨b + 1, 10, none⟩ = some (.int .i64 g.ep) ∧ w3.cell? ⟨b + 1, 11, none⟩ = some (.string g.d) ∧ w3.cell? ⟨b + 2, 2, none⟩ = some (.int .i64 z) ∧ w3.cell? ⟨A, 0, none⟩ = some (.int .i64 a.k) ∧ w3.cell? ⟨A, 1, none⟩ = some (.int .i64 a.s) ∧ w3.cell? ⟨A, 2, none⟩ = some (.int .i64 a.t) ∧ w3.cell? ⟨A, 3, none⟩ = some (.int .i64 a.l) ∧ w3.cell? ⟨A, 4, none⟩ = some (.int .i64 a.q) ∧ w3.cell? ⟨A, 5, none⟩ = some (.int .i64 a.fl) ∧ w3.cell? ⟨A, 6, none⟩ = some (.int .i64 a.n) ∧ w3.cell? ⟨A, 7, none⟩ = some (.int .i64 a.e) ∧ w3.cell? ⟨A, 8, none⟩ = some (.int .i64 a.sl) ∧ w3.cell? ⟨A, 9, none⟩ = some (.int .i64 a.r) ∧ w3.cell? ⟨A, 10, none⟩ = some (.int .i64 a.ep) ∧ w3.cell? ⟨A, 11, none⟩ = some (.string a.d) ∧ w3.cell? ⟨B, 0, none⟩ = some (.int .i64 a.k) ∧ w3.cell? ⟨B, 1, none⟩ = some (.int .i64 a.s) ∧ w3.cell? ⟨B, 2, none⟩ = some (.int .i64 a.t) ∧ w3.cell? ⟨B, 3, none⟩ = some (.int .i64 a.l) ∧ w3.cell? ⟨B, 4, none⟩ = some (.int .i64 a.q) ∧ w3.cell? ⟨B, 5, none⟩ = some (.int .i64 a.fl) ∧ w3.cell? ⟨B, 6, none⟩ = some (.int .i64 a.n) ∧ w3.cell? ⟨B, 7, none⟩ = some (.int .i64 a.e) ∧ w3.cell? ⟨B, 8, none⟩ = some (.int .i64 a.sl) ∧ w3.cell? ⟨B, 9, none⟩ = some (.int .i64 a.r) ∧ w3.cell? ⟨B, 10, none⟩ = some (.int .i64 a.ep) ∧ w3.cell? ⟨B, 11, none⟩ = some (.string a.d) ∧ Same x0 w3)
  have HE := Lib.hid (HF.out.2.trans hs)
  clear hs
  go_wp2
  go_ret
  exact ⟨rfl, HE.out⟩
theorem walk (f : Fr) (_hf : f.d.size ≤ 9223372036854775807) (g : Fr) (_hg : g.d.size ≤ 9223372036854775807) (x y z : Int) (w : World) :
    Calls Try.prog 5 #[frV f, frV g, .agg #[.int .i64 x, .int .i64 y, .int .i64 z]] w fun e w' => e = .returned (.bool true) ∧ Same w w' := by
  cases hu : decide ((300 : Int) < (f.d.size : Int)) with
  | true => exact long f g x y z _ _ hu rfl rfl w
  | false =>
    cases hv : decide ((300 : Int) < (g.d.size : Int)) with
    | true => exact long f g x y z _ _ hu hv rfl w
    | false => exact main f g x y z hu hv w

open Go.ChangeShapes Go.WideShapes Go.ChangeAt
theorem own : ownKnob Try.prog.godebug = none := by kernel_rfl

set_option maxRecDepth 100000 in
theorem lifted (os : Os) (started : os.Started) (H : Type) (enc : TypeId × Value → H) :
    ReturnsInHanded {} Try.checked os 5 .any (Rows.frameAcksSpec.pre6 enc Try.prog Try.f5 Rows.frameAcksRow.domain false) (Rows.frameAcksSpec.post enc Try.prog Try.f5 false true false false) := by
  refine returnsInHanded_of_change (C := Try.checked) own started (by kernel_rfl) Try.func5
    (ChangeSpec.witness6 (enc := enc) (C := Try.checked) false ⟨#[], #[.agg #[.int .i64 0, .int .i64 0, .int .i64 0, .int .i64 0, .int .i64 0, .int .i64 0, .int .i64 0, .int .i64 0, .int .i64 0, .int .i64 0, .int .i64 0, .string ⟨#[]⟩], .agg #[.int .i64 0, .int .i64 0, .int .i64 0, .int .i64 0, .int .i64 0, .int .i64 0, .int .i64 0, .int .i64 0, .int .i64 0, .int .i64 0, .int .i64 0, .string ⟨#[]⟩], .agg #[.int .i64 0, .int .i64 0, .int .i64 0]], []⟩ 8 (by kernel_rfl) (by kernel_rfl) (by kernel_rfl) (by kernel_rfl)) ?_
  intro W base args ds gs before hval0 hW hcnd _
  have hval : ∀ (j : Nat) t v, Try.f5.params[j]? = some t → args[j]? = some v → Value.okWide Try.prog W .any base t v := hval0
  have hW' := hW
  obtain ⟨p, q, hA0, hV, rfl, hfz, hnd⟩ := hW
  have hA : DataW.TrodAll enc Try.prog W 0 (fun _ => true) true Try.f5.params.toList args.toList ds p := hA0
  rw [Try.params5] at hA hval
  obtain ⟨v0, vs0, d0, ds0, p0, q0, hargs, rfl, rfl, h0, r0⟩ := trodAll_cons hA
  obtain ⟨v1, vs1, d1, ds1, p1, q1, rfl, rfl, rfl, h1, r1⟩ := trodAll_cons r0
  obtain ⟨v2, vs2, d2, ds2, p2, q2, rfl, rfl, rfl, h2, r2⟩ := trodAll_cons r1
  obtain ⟨rfl, rfl, rfl⟩ := trodAll_nil r2
  obtain rfl : args = #[v0, v1, v2] := by cases args; simp_all
  obtain ⟨rfl, rfl⟩ := trodVars_none hV
  obtain ⟨f0, rfl, fz0, fe0, fl0⟩ := open_frame (hval 0 23 v0 rfl rfl) h0
  obtain ⟨f1, rfl, fz1, fe1, fl1⟩ := open_frame (hval 1 23 v1 rfl rfl) h1
  obtain ⟨x2, y2, z2, rfl, bx2, be2, bz2⟩ := open_a3 (hval 2 35 v2 rfl rfl) h2
  clear hA0 hval0
  try simp only [List.append_nil] at hW'
  try simp only [List.nil_append] at hW'
  have hlt : ∀ x ∈ p0 ++ p1 ++ p2, x.block < W.heap.size := fun x hx => by
    have := hW'.lt x (by simpa using hx)
    simpa using this
  refine (walk f0 fz0 f1 fz1 x2 y2 z2 W).mono fun e W' ⟨he, hg⟩ => ?_
  subst he
  exact ⟨_, rfl, _, _, _, [], _, [], hW', trodAll_cons_mk (shut_bool Try.underlying4 _) trodAll_mk0, trodAll_cons_mk (Below.trod Try.laidOut (by kernel_rfl) (of_decide_eq_true (by kernel_rfl)) h0 (Same.toBelow hg) (fun x hx => hlt x (by simp [hx]))) (trodAll_cons_mk (Below.trod Try.laidOut (by kernel_rfl) (of_decide_eq_true (by kernel_rfl)) h1 (Same.toBelow hg) (fun x hx => hlt x (by simp [hx]))) (trodAll_cons_mk (Below.trod Try.laidOut (by kernel_rfl) (of_decide_eq_true (by kernel_rfl)) h2 (Same.toBelow hg) (fun x hx => hlt x (by simp [hx]))) trodAll_mk0)), rfl, (Same.toBelow hg).frame _, fun h => by cases h⟩

theorem over : Rows.frameAcksRow.holds Try.pinned (OpenSpec.ofChange Rows.frameAcksSpec) :=
  OpenClaim.holds_of_wide 5 Try.f5 rfl rfl rfl rfl rfl rfl rfl ⟨rfl, rfl, rfl, rfl, rfl⟩ rfl rfl rfl rfl rfl (by kernel_rfl) Try.func5 (by kernel_rfl)
    (of_decide_eq_true (by kernel_rfl)) (by unfold Func.isWrapper; first | (rw [if_pos (by decide +kernel)]; kernel_rfl) | (rw [if_neg (by decide +kernel)]; exact ⟨rfl, rfl⟩))
    (fun os started H enc _ => lifted os started H enc)

theorem proved : Rows.FrameAcksSaid :=
  over
end frameAcks
end Go.Proofs.Ytilpbbpdchbdfaa
