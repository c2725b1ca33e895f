/- GeometryDistances: the boxes, and the walk, given what At and Square return. -/
import Derived.Test.YtohekjbcnkfmjaaFew
namespace Go.Proofs.Ytohekjbcnkfmjaa
open Go.RowKit

namespace geometryDistances
abbrev bx (w : World) (v1 v2 v3 : Value) (e n t f1 f2 t1 t2 pw qa qb g1 g2 m : Int) : World :=
  ((w.alloc (.cells #[v1, v2, v3, .int .i64 e, .int .i64 n, .int .i64 t] 34)).alloc (.cells #[.int .i64 f1, .int .i64 f2, .int .i64 t1, .int .i64 t2, .int .i64 pw, .int .i64 qa, .int .i64 qb] 36)).alloc (.cells #[.int .i64 g1, .int .i64 g2, .int .i64 m] 60)
/-- The boxes of the law. -/
abbrev FD (w : World) (pf : Nat) (v1 v2 v3 : Value) (e n t f1 f2 t1 t2 pw g1 g2 : Int) (w1 : World) : Prop :=
  w1.cell? ⟨w.heap.size, 0, none⟩ = some v1 ∧ w1.cell? ⟨w.heap.size, 1, none⟩ = some v2 ∧ w1.cell? ⟨w.heap.size, 2, none⟩ = some v3 ∧ w1.cell? ⟨w.heap.size, 3, none⟩ = some (.int .i64 e) ∧ w1.cell? ⟨w.heap.size, 4, none⟩ = some (.int .i64 n) ∧ w1.cell? ⟨w.heap.size, 5, none⟩ = some (.int .i64 t) ∧
  w1.cell? ⟨w.heap.size + 1, 0, none⟩ = some (.int .i64 f1) ∧ w1.cell? ⟨w.heap.size + 1, 1, none⟩ = some (.int .i64 f2) ∧ w1.cell? ⟨w.heap.size + 1, 2, none⟩ = some (.int .i64 t1) ∧ w1.cell? ⟨w.heap.size + 1, 3, none⟩ = some (.int .i64 t2) ∧ w1.cell? ⟨w.heap.size + 1, 4, none⟩ = some (.int .i64 pw) ∧
  w1.cell? ⟨pf, 0, none⟩ = some (.int .i64 g1) ∧ w1.cell? ⟨pf, 1, none⟩ = some (.int .i64 g2) ∧ Same w w1
theorem keepD {w w1 w2 : World} {pf : Nat} {v1 v2 v3 : Value} {e n t f1 f2 t1 t2 pw g1 g2 : Int} (h : FD w pf v1 v2 v3 e n t f1 f2 t1 t2 pw g1 g2 w1) (s : Same w1 w2) : FD w pf v1 v2 v3 e n t f1 f2 t1 t2 pw g1 g2 w2 := by
  obtain ⟨h0, h1, h2, h3, h4, h5, h6, h7, h8, h9, h10, h11, h12, hs⟩ := h
  exact ⟨s.cell h0, s.cell h1, s.cell h2, s.cell h3, s.cell h4, s.cell h5, s.cell h6, s.cell h7, s.cell h8, s.cell h9, s.cell h10, s.cell h11, s.cell h12, hs.trans s⟩
theorem bx_at {w w1 : World} {v1 v2 v3 : Value} {e n t f1 f2 t1 t2 pw qa qb g1 g2 m : Int} (h : Same (bx w v1 v2 v3 e n t f1 f2 t1 t2 pw qa qb g1 g2 m) w1) :
    w1.cell? ⟨w.heap.size, 0, none⟩ = some v1 ∧ w1.cell? ⟨w.heap.size, 1, none⟩ = some v2 ∧ w1.cell? ⟨w.heap.size, 2, none⟩ = some v3 ∧ w1.cell? ⟨w.heap.size, 3, none⟩ = some (.int .i64 e) ∧ w1.cell? ⟨w.heap.size, 4, none⟩ = some (.int .i64 n) ∧ w1.cell? ⟨w.heap.size, 5, none⟩ = some (.int .i64 t) ∧
    w1.cell? ⟨w.heap.size + 1, 0, none⟩ = some (.int .i64 f1) ∧ w1.cell? ⟨w.heap.size + 1, 1, none⟩ = some (.int .i64 f2) ∧ w1.cell? ⟨w.heap.size + 1, 2, none⟩ = some (.int .i64 t1) ∧ w1.cell? ⟨w.heap.size + 1, 3, none⟩ = some (.int .i64 t2) ∧ w1.cell? ⟨w.heap.size + 1, 4, none⟩ = some (.int .i64 pw) ∧
    w1.cell? ⟨w.heap.size + 1 + 1, 0, none⟩ = some (.int .i64 g1) ∧ w1.cell? ⟨w.heap.size + 1 + 1, 1, none⟩ = some (.int .i64 g2) ∧ w1.cell? ⟨w.heap.size + 1 + 1, 2, none⟩ = some (.int .i64 m) ∧ Same w w1 := by
  refine ⟨h.cell ?_, h.cell ?_, h.cell ?_, h.cell ?_, h.cell ?_, h.cell ?_, h.cell ?_, h.cell ?_, h.cell ?_, h.cell ?_, h.cell ?_, h.cell ?_, h.cell ?_, h.cell ?_, Same.trans ?_ h⟩
  all_goals first | (go_simp; done) | (repeat' (first | exact Same.refl _ | apply Same.alloc))
theorem startD {w w1 w3 : World} {v1 v2 v3 : Value} {e n t f1 f2 t1 t2 pw qa qb g1 g2 m : Int} (h : Same (bx w v1 v2 v3 e n t f1 f2 t1 t2 pw qa qb g1 g2 m) w1) (hw : Same ((w1.alloc (.cells #[.int .i64 g1, .int .i64 g2] 23)).drew) w3) :
    w3.cell? ⟨w.heap.size, 2, none⟩ = some v3 ∧ w3.frozen? ⟨w.heap.size, 2, none⟩ = false ∧ FD w w1.heap.size v1 v2 (.slice none 0 0) e n t f1 f2 t1 t2 pw g1 g2 (w3.setCell ⟨w.heap.size, 2, none⟩ (.slice none 0 0)) := by
  have h13 : Same w1 w3 := (((Same.refl w1).alloc _).drew).trans hw
  obtain ⟨k0, k1, k2, k3, k4, k5, k6, k7, k8, k9, k10, _, _, _, hs⟩ := bx_at (h.trans h13)
  have hf : w3.frozen? ⟨w.heap.size, 2, none⟩ = false := (h.trans h13).frozen (by simp; omega) (by go_simp)
  have hlt : w.heap.size < w1.heap.size := World.block_lt_of_cell? w1 _ (bx_at h).1
  have hp0 : w3.cell? ⟨w1.heap.size, 0, none⟩ = some (.int .i64 g1) := hw.cell (by go_simp)
  have hp1 : w3.cell? ⟨w1.heap.size, 1, none⟩ = some (.int .i64 g2) := hw.cell (by go_simp)
  have far : ∀ {a : Addr} {v : Value}, a.block ≠ w.heap.size → w3.cell? a = some v → (w3.setCell ⟨w.heap.size, 2, none⟩ (.slice none 0 0)).cell? a = some v := fun hb hc => by
    rw [World.cell?_setCell_far _ _ _ _ (fun e => hb e.symm)]; exact hc
  have off : ∀ {o : Nat} {v : Value}, o ≠ 2 → w3.cell? ⟨w.heap.size, o, none⟩ = some v → (w3.setCell ⟨w.heap.size, 2, none⟩ (.slice none 0 0)).cell? ⟨w.heap.size, o, none⟩ = some v := fun hb hc => by
    rw [World.cell?_setCell_other _ _ _ _ (by simp <;> omega)]; exact hc
  exact ⟨k2, hf, off (by decide) k0, off (by decide) k1, World.cell?_setCell_same' _ _ _ (by rw [k2]; rfl), off (by decide) k3, off (by decide) k4, off (by decide) k5, far (by simp) k6, far (by simp) k7, far (by simp) k8, far (by simp) k9, far (by simp) k10, far (by simp; omega) hp0, far (by simp; omega) hp1, hs.setCell (Nat.le_refl _) _⟩
theorem site_at {w w1 : World} {v1 v2 : Value} {s : Site} (h1 : Pts w v1 s.ps) (h2 : Ints w v2 s.zs) (h : Same w w1) : SiteAt w1 (.agg #[v1, v2, .slice none 0 0, .int .i64 s.e, .int .i64 s.n, .int .i64 s.t]) { s with ws := [] } :=
  ⟨⟨_, _, _, rfl, h1.same h, h2.same h, .inr ⟨_, _, rfl, rfl⟩⟩⟩
end geometryDistances
end Go.Proofs.Ytohekjbcnkfmjaa
