/- How a tree of states and a list of steps are read in the laws of layer 10. -/
import Derived.Test.YtffcoeadpicohaaDepthsL
import Derived.Test.YtffcoeadpicohaaSames
namespace Go.Proofs.Ytffcoeadpicohaa
open Go.RowKit Go.ChangeShapes Go.WideShapes Go.Deep

theorem Try.cellsX : Try.prog.cellsOf 49 = 3 := by kernel_rfl
theorem Try.cellsT : Try.prog.cellsOf 39 = 2 := by kernel_rfl
theorem Try.cellsL1 : Try.prog.cellsOf 36 = 1 := by kernel_rfl
theorem Try.cellsL2 : Try.prog.cellsOf 37 = 1 := by kernel_rfl
/-- A row of cells, out of the cells of each state. -/
theorem ycells_all {P : Nat → Value → Prop} {l : List St} (h : ∀ i x, l[i]? = some x → P (i * 4) (.int .i64 x.1) ∧ P (i * 4 + 1) (.int .i64 x.2.1) ∧ P (i * 4 + 2) (.int .i64 x.2.2.1) ∧ P (i * 4 + 3) (.int .i64 x.2.2.2)) (j : Nat) (u : Value) (hj : (ycells l)[j]? = some u) : P j u := by
  have hlt : j < l.length * 4 := by rw [← ycells_length]; exact (List.getElem?_eq_some_iff.1 hj).1
  have hi : j / 4 < l.length := by omega
  have hg := h (j / 4) _ (List.getElem?_eq_getElem hi)
  have hc := ycells_get l (j / 4) hi
  rw [List.getD_eq_getElem?_getD, List.getElem?_eq_getElem hi, Option.getD_some] at hc
  obtain ⟨c0, c1, c2, c3⟩ := hc
  obtain ⟨p0, p1, p2, p3⟩ := hg
  have hr : j = j / 4 * 4 ∨ j = j / 4 * 4 + 1 ∨ j = j / 4 * 4 + 2 ∨ j = j / 4 * 4 + 3 := by omega
  rcases hr with e | e | e | e
  · rw [← e] at c0 p0; rw [c0] at hj; injection hj with hj; rw [← hj]; exact p0
  · rw [← e] at c1 p1; rw [c1] at hj; injection hj with hj; rw [← hj]; exact p1
  · rw [← e] at c2 p2; rw [c2] at hj; injection hj with hj; rw [← hj]; exact p2
  · rw [← e] at c3 p3; rw [c3] at hj; injection hj with hj; rw [← hj]; exact p3
theorem xcells_all {P : Nat → Value → Prop} {l : List Sn} (h : ∀ i x, l[i]? = some x → P (i * 3) (.int .i64 x.1) ∧ P (i * 3 + 1) (.int .i64 x.2.1) ∧ P (i * 3 + 2) (.bool x.2.2)) (j : Nat) (u : Value) (hj : (xcells l)[j]? = some u) : P j u := by
  have hlt : j < l.length * 3 := by rw [← xcells_length]; exact (List.getElem?_eq_some_iff.1 hj).1
  have hi : j / 3 < l.length := by omega
  have hg := h (j / 3) _ (List.getElem?_eq_getElem hi)
  have hc := xcells_get l (j / 3) hi
  rw [List.getD_eq_getElem?_getD, List.getElem?_eq_getElem hi, Option.getD_some] at hc
  obtain ⟨c0, c1, c2⟩ := hc
  obtain ⟨p0, p1, p2⟩ := hg
  have hr : j = j / 3 * 3 ∨ j = j / 3 * 3 + 1 ∨ j = j / 3 * 3 + 2 := by omega
  rcases hr with e | e | e
  · rw [← e] at c0 p0; rw [c0] at hj; injection hj with hj; rw [← hj]; exact p0
  · rw [← e] at c1 p1; rw [c1] at hj; injection hj with hj; rw [← hj]; exact p1
  · rw [← e] at c2 p2; rw [c2] at hj; injection hj with hj; rw [← hj]; exact p2
section
variable {H : Type} {enc : TypeId × Value → H} {W : World} {b0 : Nat} {v : Value} {d : DataW H} {p : List MemPlace} {spare : Nat → Bool} {held : Bool}
theorem sn_cells {n : Nat} {cs : List Value} {x : DataW H × List MemPlace} (h : DataW.trod enc Try.prog W 0 spare held n 49 cs = some x) : ∃ (a b : Int) (c : Bool), cs = [.int .i64 a, .int .i64 b, .bool c] := by
  obtain ⟨ys, n', _, _, hlen, hyl, hf⟩ := DataW.trod_struct Try.underlying49 h
  rw [Try.cellsX] at hlen
  obtain ⟨v0, v1, v2, rfl⟩ := three_of hlen
  obtain ⟨y0, y1, y2, rfl⟩ := three_of hyl
  have g0 := hf 0 _ rfl
  have g1 := hf 1 _ rfl
  have g2 := hf 2 _ rfl
  have hb : Try.prog.cellsOf 4 = 1 := by kernel_rfl
  simp [Try.cellsI, hb] at g0 g1 g2
  obtain ⟨a, e0, _⟩ := int_cells g0
  obtain ⟨b, e1, _⟩ := int_cells g1
  obtain ⟨c, e2, _⟩ := DataW.trod_bool Try.underlying4 g2
  simp at e0 e1 e2
  subst e0 e1 e2
  exact ⟨_, _, _, rfl⟩
theorem ys_of {n : Nat} {v : Value} {y : DataW H × List MemPlace} (h : DataW.trod enc Try.prog W 0 spare held n 36 [v] = some y) : ∃ zs : List St, LstC W v zs.length (ycells zs) := by
  rcases open_slice Try.underlying36 h with ⟨h0, _⟩ | ⟨a, len, cap, m, n, D, Pl, hcs, _, hl, hm, hmm, _, hi⟩
  · simp at h0; exact ⟨[], .inr ⟨none, 0, h0, rfl, rfl⟩⟩
  · simp at hcs
    subst hcs
    have hlen : len ≤ m := by rw [hmm]; split <;> omega
    have hall : ∀ i, i < len → ∃ z : St, W.cell? (a.add (i * 4)) = some (.int .i64 z.1) ∧ W.cell? ((a.add (i * 4)).add 1) = some (.int .i64 z.2.1) ∧ W.cell? ((a.add (i * 4)).add 2) = some (.int .i64 z.2.2.1) ∧ W.cell? ((a.add (i * 4)).add 3) = some (.int .i64 z.2.2.2) := fun i hil => by
      obtain ⟨cs', hc, ht⟩ := hi i (by omega)
      rw [Try.cellsY] at hc
      obtain ⟨_, hcl, hat⟩ := World.cells?_some hc
      obtain ⟨a1, a2, b1, b2, rfl, _⟩ := sy_cells ht
      have g0 := hat 0 (by decide)
      have g1 := hat 1 (by decide)
      have g2 := hat 2 (by decide)
      have g3 := hat 3 (by decide)
      exact ⟨(a1, a2, b1, b2), by simpa [add_zero] using g0, by simpa using g1, by simpa using g2, by simpa using g3⟩
    obtain ⟨zs, hfl, hfs⟩ := list_of _ len hall
    subst hfl
    by_cases he : zs = []
    · subst he; exact ⟨[], .inr ⟨_, _, rfl, rfl, rfl⟩⟩
    · have hpos : 0 < zs.length := List.length_pos_iff.2 he
      have h0 := (hfs 0 _ (List.getElem?_eq_getElem hpos)).1
      rw [Nat.zero_mul, add_zero] at h0
      have hsp := spot_none h0
      obtain ⟨b, off, sp⟩ := a
      simp only at hsp
      subst hsp
      refine ⟨zs, .inl ⟨b, off, cap, rfl, hl, ycells_all (P := fun j u => W.cell? ⟨b, off + j, none⟩ = some u) fun i x hx => ?_⟩⟩
      have := hfs i x hx
      rw [addr_add, addr_add, addr_add, addr_add] at this
      simpa only [Nat.add_assoc] using this
theorem xs_of {n : Nat} {v : Value} {y : DataW H × List MemPlace} (h : DataW.trod enc Try.prog W 0 spare held n 40 [v] = some y) : ∃ zs : List Sn, LstC W v zs.length (xcells zs) := by
  rcases open_slice Try.underlying40 h with ⟨h0, _⟩ | ⟨a, len, cap, m, n, D, Pl, hcs, _, hl, hm, hmm, _, hi⟩
  · simp at h0; exact ⟨[], .inr ⟨none, 0, h0, rfl, rfl⟩⟩
  · simp at hcs
    subst hcs
    have hlen : len ≤ m := by rw [hmm]; split <;> omega
    have hall : ∀ i, i < len → ∃ z : Sn, W.cell? (a.add (i * 3)) = some (.int .i64 z.1) ∧ W.cell? ((a.add (i * 3)).add 1) = some (.int .i64 z.2.1) ∧ W.cell? ((a.add (i * 3)).add 2) = some (.bool z.2.2) := fun i hil => by
      obtain ⟨cs', hc, ht⟩ := hi i (by omega)
      rw [Try.cellsX] at hc
      obtain ⟨_, hcl, hat⟩ := World.cells?_some hc
      obtain ⟨a1, a2, b1, rfl⟩ := sn_cells ht
      have g0 := hat 0 (by decide)
      have g1 := hat 1 (by decide)
      have g2 := hat 2 (by decide)
      exact ⟨(a1, a2, b1), by simpa [add_zero] using g0, by simpa using g1, by simpa using g2⟩
    obtain ⟨zs, hfl, hfs⟩ := list_of _ len hall
    subst hfl
    by_cases he : zs = []
    · subst he; exact ⟨[], .inr ⟨_, _, rfl, rfl, rfl⟩⟩
    · have hpos : 0 < zs.length := List.length_pos_iff.2 he
      have h0 := (hfs 0 _ (List.getElem?_eq_getElem hpos)).1
      rw [Nat.zero_mul, add_zero] at h0
      have hsp := spot_none h0
      obtain ⟨b, off, sp⟩ := a
      simp only at hsp
      subst hsp
      refine ⟨zs, .inl ⟨b, off, cap, rfl, hl, xcells_all (P := fun j u => W.cell? ⟨b, off + j, none⟩ = some u) fun i x hx => ?_⟩⟩
      have := hfs i x hx
      rw [addr_add, addr_add, addr_add] at this
      simpa only [Nat.add_assoc] using this
theorem open_syncs (hv : Value.okWide Try.prog W .any b0 40 v) (h : DataW.Trod enc Try.prog W 0 (fun _ => true) true 40 v d p) : ∃ zs : List Sn, LstC W v zs.length (xcells zs) := by
  obtain ⟨fuel, hf⟩ := h
  obtain ⟨ao, len, cap, rfl⟩ := okWide_slice Try.underlying40 hv
  exact xs_of (by simpa [Value.cells] using hf)
theorem open_tree (hv : Value.okWide Try.prog W .any b0 39 v) (h : DataW.Trod enc Try.prog W 0 (fun _ => true) true 39 v d p) : ∃ (v0 v1 : Value) (l : List St) (zs : List Int), v = .agg #[v0, v1] ∧ LstC W v0 l.length (ycells l) ∧ LstC W v1 zs.length (icells zs) := by
  obtain ⟨cs, rfl, hsz⟩ := okWide_struct Try.underlying39 hv
  obtain ⟨fuel, hf⟩ := h
  obtain ⟨ys, n', _, _, hlen, hyl, hg⟩ := DataW.trod_struct Try.underlying39 hf
  rw [Try.cellsT] at hlen
  obtain ⟨v0, v1, hcs⟩ := two_of hlen
  rw [hcs] at hg
  obtain ⟨y0, y1, rfl⟩ := two_of hyl
  have g0 := hg 0 _ rfl
  have g1 := hg 1 _ rfl
  simp [Try.cellsL1, Try.cellsL2] at g0 g1
  obtain ⟨l, h0⟩ := ys_of g0
  obtain ⟨zs, h1⟩ := ints_of g1
  exact ⟨v0, v1, l, zs, congrArg Value.agg (arr_of hcs), h0, h1⟩
end
end Go.Proofs.Ytffcoeadpicohaa
