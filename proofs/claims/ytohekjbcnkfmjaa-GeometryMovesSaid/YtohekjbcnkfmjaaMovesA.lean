/- GeometryMoves: its three function values. -/
import Derived.Test.YtohekjbcnkfmjaaArrives2
namespace Go.Proofs.Ytohekjbcnkfmjaa
open Go.RowKit

namespace geometryMoves
theorem retA {w5 : World} {g : Nat} {x y : Value} {act : Act} {Q : Ending → World → Prop} (h3 : act.tmps[3]?.getD undef = .pointer (some ⟨g, 0, none⟩)) (hd : act.defers = []) (c0 : w5.cell? ⟨g, 0, none⟩ = some x) (c1 : w5.cell? ⟨g, 1, none⟩ = some y)
    (hQ : Q (.returned (.agg #[x, y])) w5) : bodyPost Try.prog Try.f32 Q Exit.ret act w5 :=
  bodyPost_ret (v := .agg #[x, y]) (by simp [results, Try.results32, go_sem, h3, c0, c1]) hd hQ
theorem retB {w5 : World} {g : Nat} {x y : Value} {act : Act} {Q : Ending → World → Prop} (h3 : act.tmps[2]?.getD undef = .pointer (some ⟨g, 0, none⟩)) (hd : act.defers = []) (c0 : w5.cell? ⟨g, 0, none⟩ = some x) (c1 : w5.cell? ⟨g, 1, none⟩ = some y)
    (hQ : Q (.returned (.agg #[x, y])) w5) : bodyPost Try.prog Try.f33 Q Exit.ret act w5 :=
  bodyPost_ret (v := .agg #[x, y]) (by simp [results, Try.results33, go_sem, h3, c0, c1]) hd hQ
theorem retC {w5 : World} {g : Nat} {x y z u v : Value} {act : Act} {Q : Ending → World → Prop} (h3 : act.tmps[5]?.getD undef = .pointer (some ⟨g, 0, none⟩)) (hd : act.defers = []) (c0 : w5.cell? ⟨g, 0, none⟩ = some x) (c1 : w5.cell? ⟨g, 1, none⟩ = some y) (c2 : w5.cell? ⟨g, 2, none⟩ = some z) (c3 : w5.cell? ⟨g, 3, none⟩ = some u) (c4 : w5.cell? ⟨g, 4, none⟩ = some v)
    (hQ : Q (.returned (.agg #[x, y, z, u, v])) w5) : bodyPost Try.prog Try.f34 Q Exit.ret act w5 :=
  bodyPost_ret (v := .agg #[x, y, z, u, v]) (by simp [results, Try.results34, go_sem, h3, c0, c1, c2, c3, c4]) hd hQ
theorem cell_under2 {w : World} {o o' : Obj} {a : Addr} {v : Value} (h : w.cell? a = some v) : ((w.alloc o).alloc o').cell? a = some v := (((Same.refl w).alloc o).alloc o').cell h
theorem moved_any (p1 p2 s1 s2 : Int) (b : Nat) (hp1 : 0 ≤ p1 ∧ p1 ≤ 10000) (hp2 : 0 ≤ p2 ∧ p2 ≤ 10000) (hs1 : 0 ≤ s1 ∧ s1 ≤ 10000) (hs2 : 0 ≤ s2 ∧ s2 ≤ 10000) (w : World) (c0 : w.cell? ⟨b, 0, none⟩ = some (.int .i64 s1)) (c1 : w.cell? ⟨b, 1, none⟩ = some (.int .i64 s2)) :
    Calls Try.prog 32 #[.agg #[.int .i64 p1, .int .i64 p2], .pointer (some ⟨b, 0, none⟩)] w fun e w' => e = .returned (.agg #[.int .i64 (p1 - s1), .int .i64 (p2 + s2)]) ∧ Same w w' := by
  have y0 := fun x y x' y' => cell_under2 (o := .cells #[x, y] 23) (o' := .cells #[x', y'] 23) c0
  have y1 := fun x y x' y' => cell_under2 (o := .cells #[x, y] 23) (o' := .cells #[x', y'] 23) c1
  obtain ⟨i1, i2⟩ := hp1; obtain ⟨i3, i4⟩ := hp2; obtain ⟨i5, i6⟩ := hs1; obtain ⟨i7, i8⟩ := hs2
  clear c0 c1
  go_enter Try.func32, Try.ntmps32
  go_wp2
  refine retA rfl rfl ?_ ?_ ⟨rfl, ?_⟩
  · go_simp
  · go_simp
  · repeat' (first | exact Same.refl _ | apply Same.alloc)
theorem turned_any (p1 p2 : Int) (w : World) :
    Calls Try.prog 33 #[.agg #[.int .i64 p1, .int .i64 p2]] w fun e w' => e = .returned (.agg #[.int .i64 p2, .int .i64 p1]) ∧ Same w w' := by
  go_enter Try.func33, Try.ntmps33
  go_wp2
  refine retB rfl rfl ?_ ?_ ⟨rfl, ?_⟩
  · go_simp
  · go_simp
  · repeat' (first | exact Same.refl _ | apply Same.alloc)
theorem wall_any (a1 a2 b1 b2 f : Int) (b : Nat) (w : World) (c4 : w.cell? ⟨b, 4, none⟩ = some (.int .i64 f)) :
    Calls Try.prog 34 #[.agg #[.int .i64 a1, .int .i64 a2], .agg #[.int .i64 b1, .int .i64 b2], .pointer (some ⟨b, 0, none⟩)] w fun e w' => e = .returned (.agg #[.int .i64 a1, .int .i64 a2, .int .i64 b1, .int .i64 b2, .int .i64 f]) ∧ Same w w' := by
  have y4 := fun x y x' y' a b c d e => (cell_under (o := .cells #[a, b, c, d, e] 25) (cell_under2 (o := .cells #[x, y] 23) (o' := .cells #[x', y'] 23) c4))
  clear c4
  go_enter Try.func34, Try.ntmps34
  go_wp2
  refine retC rfl rfl ?_ ?_ ?_ ?_ ?_ ⟨rfl, ?_⟩
  · go_simp
  · go_simp
  · go_simp
  · go_simp
  · go_simp
  · repeat' (first | exact Same.refl _ | apply Same.alloc)
end geometryMoves
end Go.Proofs.Ytohekjbcnkfmjaa
