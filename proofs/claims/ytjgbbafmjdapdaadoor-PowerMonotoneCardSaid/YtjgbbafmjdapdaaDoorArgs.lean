/- How the laws' arguments are read: a pair of ints, and a case: three ints and a slice of ints. -/
import Derived.Test.YtjgbbafmjdapdaaDoorLaid
import Derived.Test.YtjgbbafmjdapdaaDoorRecv
import Derived.Lib.SmallJoins
namespace Go.Proofs.YtjgbbafmjdapdaaDoor
open Go.RowKit
open Go.ChangeShapes Go.WideShapes

theorem Tryd.laidOut : laidOutB Tryd.prog = true := by kernel_rfl
theorem okWide_array {P : Program} {w : World} {r : Reach} {base n : Nat} {t e : TypeId} {v : Value} (ht : P.underlying t = some (.array n e)) (h : Value.okWide P w r base t v) : ∃ cs, v = .agg cs ∧ cs.size = P.cellsOf t := by
  simp only [Value.okWide, ht] at h
  obtain ⟨cs, h1, h2, _⟩ := h
  exact ⟨cs, h1, h2⟩
theorem two_cells {cs : Array Value} (h : cs.size = 2) : ∃ a b, cs = #[a, b] := by
  obtain ⟨l⟩ := cs
  match l, h with
  | [a, b], _ => exact ⟨a, b, rfl⟩
theorem spot_none {w : World} {a : Addr} {v : Value} (h : w.cell? a = some v) : a.spot = none := by
  unfold World.cell? at h
  split at h
  · cases hs : a.spot with
    | none => rfl
    | some x => simp [hs] at h
  · cases h
section
variable {H : Type} {enc : TypeId × Value → H} {W : World} {b0 : Nat} {v : Value} {d : DataW H} {p : List MemPlace}
set_option maxRecDepth 100000 in
theorem open_a2 (hv : Value.okWide Tryd.prog W .any b0 45 v) (h : DataW.Trod enc Tryd.prog W 0 (fun _ => true) true 45 v d p) :
    ∃ x y : Int, v = .agg #[.int .i64 x, .int .i64 y] ∧ (-9223372036854775808 ≤ x ∧ x ≤ 9223372036854775807) ∧ (-9223372036854775808 ≤ y ∧ y ≤ 9223372036854775807) := by
  obtain ⟨cs, rfl, hsz⟩ := okWide_array Tryd.underlying45 hv
  rw [show Tryd.prog.cellsOf 45 = 2 by kernel_rfl] at hsz
  obtain ⟨a, b, rfl⟩ := two_cells hsz
  obtain ⟨fuel, hf⟩ := h
  obtain ⟨xs, m, _, _, _, hl, hel⟩ := DataW.trod_array Tryd.underlying45 hf
  have hone : Tryd.prog.cellsOf 3 = 1 := by kernel_rfl
  have hget : ∀ i, i < 2 → ∃ y, xs[i]? = some y := fun i hi => ⟨xs[i], List.getElem?_eq_getElem (by omega)⟩
  obtain ⟨y0, g0⟩ := hget 0 (by decide)
  obtain ⟨y1, g1⟩ := hget 1 (by decide)
  have e0 := (hel 0 (by decide)).trans g0
  have e1 := (hel 1 (by decide)).trans g1
  rw [hone] at e0 e1
  obtain ⟨x, q0, _, w0⟩ := DataW.trod_int Tryd.underlying3 e0
  obtain ⟨y, q1, _, w1⟩ := DataW.trod_int Tryd.underlying3 e1
  have r0 : a = .int .i64 x := by simpa [Value.cells] using q0
  have r1 : b = .int .i64 y := by simpa [Value.cells] using q1
  exact ⟨x, y, by rw [r0, r1], bounds_i64 w0, bounds_i64 w1⟩
theorem ints_of {n : Nat} {v : Value} {y : DataW H × List MemPlace} (h : DataW.trod enc Tryd.prog W 0 (fun _ => true) true n 28 [v] = some y) : ∃ zs, Ints W v zs := by
  rcases open_ints Tryd.underlying28 Tryd.underlying3 (by kernel_rfl) h with ⟨h0, _⟩ | ⟨a, len, cap, zs, hcs, _, hl, hm, hz, _, hc, _⟩
  · simp at h0
    exact ⟨[], .inr ⟨none, 0, h0, rfl⟩⟩
  · simp at hcs hz
    by_cases h0 : len = 0
    · subst h0; exact ⟨[], .inr ⟨some a, cap, hcs, rfl⟩⟩
    · have h00 := hc 0 (by omega)
      rw [show a.add 0 = a from rfl] at h00
      have hs := spot_none h00
      obtain ⟨b, off, sp⟩ := a
      simp at hs
      subst hs
      refine ⟨zs.take len, .inl ⟨b, off, cap, by rw [hcs]; simp; omega, by simp; omega, fun i hi => ?_⟩⟩
      have hi' : i < len := by simp at hi; omega
      have := hc i (by omega)
      have e : (⟨b, off, none⟩ : Addr).add i = ⟨b, off + i, none⟩ := by unfold Addr.add; split <;> simp_all
      rw [e] at this
      rw [this]
      simp [List.getD_eq_getElem?_getD, hi']
set_option maxRecDepth 100000 in
theorem open_case (hv : Value.okWide Tryd.prog W .any b0 30 v) (h : DataW.Trod enc Tryd.prog W 0 (fun _ => true) true 30 v d p) :
    ∃ (x y z : Int) (sl : Value) (zs : List Int), v = .agg #[.int .i64 x, .int .i64 y, .int .i64 z, sl] ∧ (-9223372036854775808 ≤ x ∧ x ≤ 9223372036854775807) ∧ (-9223372036854775808 ≤ y ∧ y ≤ 9223372036854775807) ∧ (-9223372036854775808 ≤ z ∧ z ≤ 9223372036854775807) ∧ Ints W sl zs := by
  obtain ⟨v0, v1, v2, v3, y0, y1, y2, y3, n, rfl, _, _, t0, t1, t2, t3⟩ := Joins.open_agg4 Tryd.underlying30 (by kernel_rfl) (by kernel_rfl) hv h
  obtain ⟨x, q0, _, w0⟩ := DataW.trod_int Tryd.underlying3 t0
  obtain ⟨y, q1, _, w1⟩ := DataW.trod_int Tryd.underlying3 t1
  obtain ⟨z, q2, _, w2⟩ := DataW.trod_int Tryd.underlying3 t2
  obtain ⟨zs, hz⟩ := ints_of t3
  exact ⟨x, y, z, v3, zs, by simp at q0 q1 q2; rw [q0, q1, q2], bounds_i64 w0, bounds_i64 w1, bounds_i64 w2, hz⟩
end
end Go.Proofs.YtjgbbafmjdapdaaDoor
