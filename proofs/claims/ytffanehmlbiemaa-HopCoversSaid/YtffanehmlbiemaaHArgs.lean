/- How the laws' arguments are read: a hopping list, arrays, a blacklist. -/
import Derived.Test.YtffanehmlbiemaaH14
namespace Go.Proofs.Ytffanehmlbiemaa
open Go.RowKit Go.ChangeShapes Go.WideShapes Go.Deep

theorem Try.laidOut : laidOutB Try.prog = true := by kernel_rfl
theorem Try.cellsI : Try.prog.cellsOf 3 = 1 := by kernel_rfl
theorem Try.cellsL : Try.prog.cellsOf 22 = 1 := by kernel_rfl
theorem Try.cellsH : Try.prog.cellsOf 24 = 4 := by kernel_rfl
theorem okWide_array {P : Program} {w : World} {r : Reach} {base n : Nat} {t e : TypeId} {v : Value} (ht : P.underlying t = some (.array n e)) (h : Value.okWide P w r base t v) : ∃ cs, v = .agg cs ∧ cs.size = P.cellsOf t := by
  simp only [Value.okWide, ht] at h
  obtain ⟨cs, h1, h2, _⟩ := h
  exact ⟨cs, h1, h2⟩
def i64 (x : Int) : Prop := -9223372036854775808 ≤ x ∧ x ≤ 9223372036854775807
theorem list_of {α : Type} (P : Nat → α → Prop) : ∀ n : Nat, (∀ i, i < n → ∃ x, P i x) → ∃ l : List α, l.length = n ∧ ∀ i x, l[i]? = some x → P i x
  | 0, _ => ⟨[], rfl, fun i x h => by simp at h⟩
  | n + 1, h => by
    obtain ⟨l, hl, hp⟩ := list_of P n (fun i hi => h i (by omega))
    obtain ⟨y, hy⟩ := h n (by omega)
    refine ⟨l ++ [y], by simp [hl], fun i x hx => ?_⟩
    by_cases hi : i < n
    · rw [List.getElem?_append_left (by omega)] at hx; exact hp i x hx
    · rw [List.getElem?_append_right (by omega)] at hx
      have : i = n := by
        have := (List.getElem?_eq_some_iff.1 hx).1
        simp at this; omega
      subst this
      simp [hl] at hx
      subst hx; exact hy
theorem add_zero (a : Addr) : a.add 0 = a := rfl
theorem spot_none {w : World} {a : Addr} {v : Value} (h : w.cell? a = some v) : a.spot = none := by
  unfold World.cell? at h
  split at h
  · cases hs : a.spot with
    | none => rfl
    | some x => simp [hs] at h
  · cases h
theorem addr_add (b off i : Nat) : (⟨b, off, none⟩ : Addr).add i = ⟨b, off + i, none⟩ := by
  unfold Addr.add; split
  · rename_i hz; rw [hz]; rfl
  · rfl
section
variable {H : Type} {enc : TypeId × Value → H} {W : World} {b0 : Nat} {v : Value} {d : DataW H} {p : List MemPlace} {spare : Nat → Bool} {held : Bool}
theorem int_cells {n : Nat} {cs : List Value} {x : DataW H × List MemPlace} (h : DataW.trod enc Try.prog W 0 spare held n 3 cs = some x) : ∃ a, cs = [.int .i64 a] ∧ i64 a := by
  obtain ⟨a, e, _, w⟩ := DataW.trod_int Try.underlying3 h
  exact ⟨a, e, bounds_i64 w⟩
theorem two_of {α : Type} {l : List α} (h : l.length = 2) : ∃ a b, l = [a, b] := by match l, h with | [a, b], _ => exact ⟨a, b, rfl⟩
theorem three_of {α : Type} {l : List α} (h : l.length = 3) : ∃ a b c, l = [a, b, c] := by match l, h with | [a, b, c], _ => exact ⟨a, b, c, rfl⟩
theorem four_of {α : Type} {l : List α} (h : l.length = 4) : ∃ a b c d, l = [a, b, c, d] := by match l, h with | [a, b, c, d], _ => exact ⟨a, b, c, d, rfl⟩
theorem arr_of {cs : Array Value} {l : List Value} (h : cs.toList = l) : cs = l.toArray := by rw [← h]
theorem open_a3 (hv : Value.okWide Try.prog W .any b0 25 v) (h : DataW.Trod enc Try.prog W 0 (fun _ => true) true 25 v d p) : ∃ x y z : Int, v = .agg #[.int .i64 x, .int .i64 y, .int .i64 z] ∧ i64 x ∧ i64 y ∧ i64 z := by
  obtain ⟨cs, rfl, hsz⟩ := okWide_array Try.underlying25 hv
  obtain ⟨fuel, hf⟩ := h
  obtain ⟨xs, m, _, _, hl, hxl, hel⟩ := DataW.trod_array Try.underlying25 hf
  rw [show Try.prog.cellsOf 25 = 3 by kernel_rfl] at hl
  obtain ⟨v0, v1, v2, hcs⟩ := three_of hl
  rw [hcs] at hel
  obtain ⟨y0, y1, y2, rfl⟩ := three_of hxl
  have g0 := hel 0 (by decide)
  have g1 := hel 1 (by decide)
  have g2 := hel 2 (by decide)
  have hone : Try.prog.cellsOf 3 = 1 := by kernel_rfl
  simp [hone] at g0 g1 g2
  obtain ⟨a, e0, _, w0⟩ := DataW.trod_int Try.underlying3 g0
  obtain ⟨b, e1, _, w1⟩ := DataW.trod_int Try.underlying3 g1
  obtain ⟨c, e2, _, w2⟩ := DataW.trod_int Try.underlying3 g2
  simp at e0 e1 e2
  subst e0 e1 e2
  exact ⟨a, b, c, congrArg Value.agg (arr_of hcs), bounds_i64 w0, bounds_i64 w1, bounds_i64 w2⟩
theorem ints_of {n : Nat} {v : Value} {y : DataW H × List MemPlace} (h : DataW.trod enc Try.prog W 0 spare held n 22 [v] = some y) : ∃ zs : List Int, IL W v zs := by
  rcases open_slice Try.underlying22 h with ⟨h0, _⟩ | ⟨a, len, cap, m, n, D, Pl, hcs, _, hl, hm, hmm, _, hi⟩
  · simp at h0; exact ⟨[], .inr ⟨none, 0, h0, rfl⟩⟩
  · simp at hcs
    subst hcs
    have hlen : len ≤ m := by rw [hmm]; split <;> omega
    have hall : ∀ i, i < len → ∃ z : Int, W.cell? (a.add i) = some (.int .i64 z) := fun i hil => by
      obtain ⟨cs', hc, ht⟩ := hi i (by omega)
      rw [Try.cellsI] at hc
      obtain ⟨_, hcl, hat⟩ := World.cells?_some hc
      obtain ⟨z, rfl, _⟩ := int_cells ht
      have := hat 0 (by decide)
      rw [Nat.mul_one] at this
      exact ⟨z, by simpa [add_zero] using this⟩
    obtain ⟨zs, hfl, hfs⟩ := list_of _ len hall
    subst hfl
    by_cases he : zs = []
    · subst he; exact ⟨[], .inr ⟨_, _, rfl, rfl⟩⟩
    · have hpos : 0 < zs.length := List.length_pos_iff.2 he
      have h0 := hfs 0 _ (List.getElem?_eq_getElem hpos)
      rw [add_zero] at h0
      have hsp := spot_none h0
      obtain ⟨b, off, sp⟩ := a
      simp only at hsp
      subst hsp
      refine ⟨zs, .inl ⟨b, off, cap, rfl, hpos, hl, fun j hj => ?_⟩⟩
      have := hfs j _ (List.getElem?_eq_getElem hj)
      rw [addr_add] at this
      rw [this, List.getD_eq_getElem?_getD, List.getElem?_eq_getElem hj]; rfl
theorem hop_cells {n : Nat} {cs : List Value} {x : DataW H × List MemPlace} (h : DataW.trod enc Try.prog W 0 spare held n 24 cs = some x) : ∃ (v f u : Int) (s : Value) (zs : List Int), cs = [.int .i64 v, .int .i64 f, .int .i64 u, s] ∧ i64 v ∧ i64 f ∧ i64 u ∧ IL W s zs := by
  obtain ⟨ys, n', _, _, hlen, hyl, hf⟩ := DataW.trod_struct Try.underlying24 h
  rw [Try.cellsH] at hlen
  obtain ⟨v0, v1, v2, v3, rfl⟩ := four_of hlen
  obtain ⟨y0, y1, y2, y3, rfl⟩ := four_of hyl
  have g0 := hf 0 _ rfl
  have g1 := hf 1 _ rfl
  have g2 := hf 2 _ rfl
  have g3 := hf 3 _ rfl
  simp [Try.cellsI, Try.cellsL] at g0 g1 g2 g3
  obtain ⟨a, e0, w0⟩ := int_cells g0
  obtain ⟨b, e1, w1⟩ := int_cells g1
  obtain ⟨c, e2, w2⟩ := int_cells g2
  obtain ⟨zs, hz⟩ := ints_of g3
  simp at e0 e1 e2
  subst e0 e1 e2
  exact ⟨_, _, _, _, _, rfl, w0, w1, w2, hz⟩
theorem open_hop (hv : Value.okWide Try.prog W .any b0 24 v) (h : DataW.Trod enc Try.prog W 0 (fun _ => true) true 24 v d p) : ∃ (a f u : Int) (s : Value) (zs : List Int), v = hopV a f u s ∧ i64 a ∧ i64 f ∧ i64 u ∧ IL W s zs := by
  obtain ⟨cs, rfl, hsz⟩ := okWide_struct Try.underlying24 hv
  obtain ⟨fuel, hf⟩ := h
  obtain ⟨a, f, u, s, zs, hc, w0, w1, w2, hz⟩ := hop_cells hf
  exact ⟨a, f, u, s, zs, congrArg Value.agg (arr_of hc), w0, w1, w2, hz⟩
theorem open_black (hv : Value.okWide Try.prog W .any b0 43 v) (h : DataW.Trod enc Try.prog W 0 (fun _ => true) true 43 v d p) : ∃ (s1 s2 : Value) (l : Int) (ch bl : List Int), v = .agg #[s1, s2, .int .i64 l] ∧ IL W s1 ch ∧ IL W s2 bl ∧ i64 l := by
  obtain ⟨cs, rfl, hsz⟩ := okWide_struct Try.underlying43 hv
  obtain ⟨fuel, hf⟩ := h
  obtain ⟨ys, n', _, _, hlen, hyl, hg⟩ := DataW.trod_struct Try.underlying43 hf
  rw [show Try.prog.cellsOf 43 = 3 by kernel_rfl] at hlen
  obtain ⟨v0, v1, v2, hcs⟩ := three_of hlen
  rw [hcs] at hg
  obtain ⟨y0, y1, y2, rfl⟩ := three_of hyl
  have g0 := hg 0 _ rfl
  have g1 := hg 1 _ rfl
  have g2 := hg 2 _ rfl
  simp [Try.cellsI, Try.cellsL] at g0 g1 g2
  obtain ⟨ch, h0⟩ := ints_of g0
  obtain ⟨bl, h1⟩ := ints_of g1
  obtain ⟨l, e2, w2⟩ := int_cells g2
  simp at e2
  subst e2
  exact ⟨v0, v1, l, ch, bl, congrArg Value.agg (arr_of hcs), h0, h1, w2⟩
theorem open_a2 (hv : Value.okWide Try.prog W .any b0 56 v) (h : DataW.Trod enc Try.prog W 0 (fun _ => true) true 56 v d p) : ∃ x y : Int, v = .agg #[.int .i64 x, .int .i64 y] ∧ i64 x ∧ i64 y := by
  obtain ⟨cs, rfl, hsz⟩ := okWide_array Try.underlying56 hv
  obtain ⟨fuel, hf⟩ := h
  obtain ⟨xs, m, _, _, hl, hxl, hel⟩ := DataW.trod_array Try.underlying56 hf
  rw [show Try.prog.cellsOf 56 = 2 by kernel_rfl] at hl
  obtain ⟨v0, v1, hcs⟩ := two_of hl
  rw [hcs] at hel
  obtain ⟨y0, y1, rfl⟩ := two_of hxl
  have g0 := hel 0 (by decide)
  have g1 := hel 1 (by decide)
  have hone : Try.prog.cellsOf 3 = 1 := by kernel_rfl
  simp [hone] at g0 g1
  obtain ⟨a, e0, _, w0⟩ := DataW.trod_int Try.underlying3 g0
  obtain ⟨b, e1, _, w1⟩ := DataW.trod_int Try.underlying3 g1
  simp at e0 e1
  subst e0 e1
  exact ⟨a, b, congrArg Value.agg (arr_of hcs), bounds_i64 w0, bounds_i64 w1⟩
end
end Go.Proofs.Ytffanehmlbiemaa
