/- How a list of hopping lists is read. -/
import Derived.Test.YtffanehmlbiemaaHFew
import Derived.OpenShut
namespace Go.Proofs.Ytffanehmlbiemaa
open Go.RowKit Go.ChangeShapes Go.WideShapes Go.Deep

section
variable {H : Type} {enc : TypeId × Value → H} {W : World} {b0 : Nat} {v : Value} {d : DataW H} {p : List MemPlace} {spare : Nat → Bool} {held : Bool}
def HRaw (W : World) (a : Addr) (i : Nat) (x : Hp) : Prop := ∃ ao cap, W.cell? (a.add (i * 4)) = some (.int .i64 x.1) ∧ W.cell? ((a.add (i * 4)).add 1) = some (.int .i64 x.2.1) ∧ W.cell? ((a.add (i * 4)).add 2) = some (.int .i64 x.2.2.1) ∧ W.cell? ((a.add (i * 4)).add 3) = some (.slice ao x.2.2.2.length cap) ∧ IL W (.slice ao x.2.2.2.length cap) x.2.2.2
theorem hops_of {n : Nat} {v : Value} {y : DataW H × List MemPlace} (h : DataW.trod enc Try.prog W 0 spare held n 34 [v] = some y) : ∃ hs : List Hp, HL W v hs := by
  rcases open_slice Try.underlying34 h with ⟨h0, _⟩ | ⟨a, len, cap, m, n, D, Pl, hcs, _, hl, hm, hmm, _, hi⟩
  · simp at h0; exact ⟨[], .inr ⟨none, 0, h0, rfl⟩⟩
  · simp at hcs
    subst hcs
    have hlen : len ≤ m := by rw [hmm]; split <;> omega
    have hall : ∀ i, i < len → ∃ x : Hp, HRaw W a i x := fun i hil => by
      obtain ⟨cs', hc, ht⟩ := hi i (by omega)
      rw [Try.cellsH] at hc
      obtain ⟨_, hcl, hat⟩ := World.cells?_some hc
      obtain ⟨xv, xf, xu, s, zs, rfl, _, _, _, hz⟩ := hop_cells ht
      have g0 := hat 0 (by decide)
      have g1 := hat 1 (by decide)
      have g2 := hat 2 (by decide)
      have g3 := hat 3 (by decide)
      obtain ⟨ao, c, rfl⟩ := hz.shape
      exact ⟨(xv, xf, xu, zs), ao, c, by simpa [add_zero] using g0, by simpa using g1, by simpa using g2, by simpa using g3, hz⟩
    obtain ⟨hs, hfl, hfs⟩ := list_of _ len hall
    subst hfl
    by_cases he : hs = []
    · subst he; exact ⟨[], .inr ⟨_, _, rfl, rfl⟩⟩
    · have hpos : 0 < hs.length := List.length_pos_iff.2 he
      obtain ⟨_, _, h0, _⟩ := hfs 0 _ (List.getElem?_eq_getElem hpos)
      rw [Nat.zero_mul, add_zero] at h0
      have hsp := spot_none h0
      obtain ⟨b, off, sp⟩ := a
      simp only at hsp
      subst hsp
      refine ⟨hs, .inl ⟨b, off, cap, rfl, hpos, fun j hj => ?_⟩⟩
      obtain ⟨ao, c, q0, q1, q2, q3, q4⟩ := hfs j _ (List.getElem?_eq_getElem hj)
      rw [addr_add] at q0 q1 q2 q3
      rw [addr_add] at q1 q2 q3
      rw [List.getD_eq_getElem?_getD, List.getElem?_eq_getElem hj]
      exact ⟨ao, c, q0, q1, q2, q3, q4⟩
theorem open_hops (hv : Value.okWide Try.prog W .any b0 34 v) (h : DataW.Trod enc Try.prog W 0 (fun _ => true) true 34 v d p) : ∃ hs : List Hp, HL W v hs := by
  obtain ⟨fuel, hf⟩ := h
  obtain ⟨ao, len, cap, rfl⟩ := okWide_slice Try.underlying34 hv
  exact hops_of (by simpa [Value.cells] using hf)
end
end Go.Proofs.Ytffanehmlbiemaa
