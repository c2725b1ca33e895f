/- How the laws' arguments are read: points, walls, sites, queries. -/
import Derived.Test.YtcennbjegdlbhaaCheck2
import Derived.ProofKit
import Derived.OpenShut
import Derived.Deep.Slices
import Derived.Lib.SmallJoins
namespace Go.Proofs.Ytcennbjegdlbhaa
open Go.RowKit Go.ChangeShapes Go.WideShapes Go.Deep

theorem Try.laidOut : laidOutB Try.prog = true := by kernel_rfl
theorem Try.cellsI : Try.prog.cellsOf 3 = 1 := by kernel_rfl
theorem Try.cellsP : Try.prog.cellsOf 23 = 2 := by kernel_rfl
theorem Try.cellsW : Try.prog.cellsOf 25 = 5 := by kernel_rfl
theorem Try.cellsQ : Try.prog.cellsOf 36 = 7 := by kernel_rfl
theorem Try.cellsF : Try.prog.cellsOf 60 = 3 := by kernel_rfl
theorem Try.cellsA : Try.prog.cellsOf 53 = 4 := by kernel_rfl
theorem Try.cellsS : Try.prog.cellsOf 34 = 6 := by kernel_rfl
theorem Try.cellsL1 : Try.prog.cellsOf 30 = 1 := by kernel_rfl
theorem Try.cellsL2 : Try.prog.cellsOf 31 = 1 := by kernel_rfl
theorem Try.cellsL3 : Try.prog.cellsOf 32 = 1 := by kernel_rfl
def i64 (x : Int) : Prop := -9223372036854775808 ≤ x ∧ x ≤ 9223372036854775807
theorem list_of {α : Type} (P : Nat → α → Prop) : ∀ n : Nat, (∀ i, i < n → ∃ x, P i x) → ∃ l : List α, l.length = n ∧ ∀ i x, l[i]? = some x → P i x
  | 0, _ => ⟨[], rfl, fun i x h => by simp at h⟩
  | n + 1, h => by
    obtain ⟨l, hl, hp⟩ := list_of P n (fun i hi => h i (by omega))
    obtain ⟨y, hy⟩ := h n (by omega)
    refine ⟨l ++ [y], by simp [hl], fun i x hx => ?_⟩
    by_cases hi : i < n
    · rw [List.getElem?_append_left (by omega)] at hx; exact hp i x hx
    · rw [List.getElem?_append_right (by omega)] at hx
      have : i = n := by
        have := (List.getElem?_eq_some_iff.1 hx).1
        simp at this; omega
      subst this
      simp [hl] at hx
      subst hx; exact hy
theorem add_zero (a : Addr) : a.add 0 = a := rfl
theorem spot_none {w : World} {a : Addr} {v : Value} (h : w.cell? a = some v) : a.spot = none := by
  unfold World.cell? at h
  split at h
  · cases hs : a.spot with
    | none => rfl
    | some x => simp [hs] at h
  · cases h
theorem addr_add (b off i : Nat) : (⟨b, off, none⟩ : Addr).add i = ⟨b, off + i, none⟩ := by
  unfold Addr.add; split
  · rename_i hz; rw [hz]; rfl
  · rfl
section
variable {H : Type} {enc : TypeId × Value → H} {W : World} {b0 : Nat} {v : Value} {d : DataW H} {p : List MemPlace} {spare : Nat → Bool} {held : Bool}
theorem int_cells {n : Nat} {cs : List Value} {x : DataW H × List MemPlace} (h : DataW.trod enc Try.prog W 0 spare held n 3 cs = some x) : ∃ a, cs = [.int .i64 a] ∧ i64 a := by
  obtain ⟨a, e, _, w⟩ := DataW.trod_int Try.underlying3 h
  exact ⟨a, e, bounds_i64 w⟩
theorem two_of {α : Type} {l : List α} (h : l.length = 2) : ∃ a b, l = [a, b] := by match l, h with | [a, b], _ => exact ⟨a, b, rfl⟩
theorem three_of {α : Type} {l : List α} (h : l.length = 3) : ∃ a b c, l = [a, b, c] := by match l, h with | [a, b, c], _ => exact ⟨a, b, c, rfl⟩
theorem four_of {α : Type} {l : List α} (h : l.length = 4) : ∃ a b c d, l = [a, b, c, d] := by match l, h with | [a, b, c, d], _ => exact ⟨a, b, c, d, rfl⟩
theorem five_of {α : Type} {l : List α} (h : l.length = 5) : ∃ a b c d e, l = [a, b, c, d, e] := by match l, h with | [a, b, c, d, e], _ => exact ⟨a, b, c, d, e, rfl⟩
theorem six_of {α : Type} {l : List α} (h : l.length = 6) : ∃ a b c d e f, l = [a, b, c, d, e, f] := by match l, h with | [a, b, c, d, e, f], _ => exact ⟨a, b, c, d, e, f, rfl⟩
theorem seven_of {α : Type} {l : List α} (h : l.length = 7) : ∃ a b c d e f g, l = [a, b, c, d, e, f, g] := by match l, h with | [a, b, c, d, e, f, g], _ => exact ⟨a, b, c, d, e, f, g, rfl⟩
theorem pt_cells {n : Nat} {cs : List Value} {x : DataW H × List MemPlace} (h : DataW.trod enc Try.prog W 0 spare held n 23 cs = some x) : ∃ a b, cs = [.int .i64 a, .int .i64 b] ∧ i64 a ∧ i64 b := by
  obtain ⟨ys, n', _, _, hlen, hyl, hf⟩ := DataW.trod_struct Try.underlying23 h
  rw [Try.cellsP] at hlen
  obtain ⟨v0, v1, rfl⟩ := two_of hlen
  obtain ⟨y0, y1, rfl⟩ := two_of hyl
  have g0 := hf 0 _ rfl
  have g1 := hf 1 _ rfl
  simp [Try.cellsI] at g0 g1
  obtain ⟨a, e0, w0⟩ := int_cells g0
  obtain ⟨b, e1, w1⟩ := int_cells g1
  simp at e0 e1
  subst e0 e1
  exact ⟨a, b, rfl, w0, w1⟩
theorem wl_cells {n : Nat} {cs : List Value} {x : DataW H × List MemPlace} (h : DataW.trod enc Try.prog W 0 spare held n 25 cs = some x) : ∃ a1 a2 b1 b2 f, cs = [.int .i64 a1, .int .i64 a2, .int .i64 b1, .int .i64 b2, .int .i64 f] := by
  obtain ⟨ys, n', _, _, hlen, hyl, hf⟩ := DataW.trod_struct Try.underlying25 h
  rw [Try.cellsW] at hlen
  obtain ⟨v0, v1, v2, v3, v4, rfl⟩ := five_of hlen
  obtain ⟨y0, y1, y2, rfl⟩ := three_of hyl
  have g0 := hf 0 _ rfl
  have g1 := hf 1 _ rfl
  have g2 := hf 2 _ rfl
  simp [Try.cellsI, Try.cellsP] at g0 g1 g2
  obtain ⟨a1, a2, e0, _⟩ := pt_cells g0
  obtain ⟨b1, b2, e1, _⟩ := pt_cells g1
  obtain ⟨f, e2, _⟩ := int_cells g2
  simp at e0 e1 e2
  obtain ⟨rfl, rfl⟩ := e0
  obtain ⟨rfl, rfl⟩ := e1
  subst e2
  exact ⟨_, _, _, _, _, rfl⟩
theorem ints_of {n : Nat} {v : Value} {y : DataW H × List MemPlace} (h : DataW.trod enc Try.prog W 0 spare held n 31 [v] = some y) : ∃ zs, Ints W v zs := by
  rcases open_slice Try.underlying31 h with ⟨h0, _⟩ | ⟨a, len, cap, m, n, D, Pl, hcs, _, hl, hm, hmm, _, hi⟩
  · simp at h0; exact ⟨[], .inr ⟨none, 0, h0, rfl⟩⟩
  · simp at hcs
    subst hcs
    have hlen : len ≤ m := by rw [hmm]; split <;> omega
    have hall : ∀ i, i < len → ∃ z : Int, W.cell? (a.add i) = some (.int .i64 z) := fun i hil => by
      obtain ⟨cs', hc, ht⟩ := hi i (by omega)
      rw [Try.cellsI] at hc
      obtain ⟨_, hcl, hat⟩ := World.cells?_some hc
      obtain ⟨z, rfl, _⟩ := int_cells ht
      have := hat 0 (by decide)
      rw [Nat.mul_one] at this
      exact ⟨z, by simpa [add_zero] using this⟩
    obtain ⟨zs, hfl, hfs⟩ := list_of _ len hall
    subst hfl
    by_cases he : zs = []
    · subst he; exact ⟨[], .inr ⟨_, _, rfl, rfl⟩⟩
    · have hpos : 0 < zs.length := List.length_pos_iff.2 he
      have h0 := hfs 0 _ (List.getElem?_eq_getElem hpos)
      rw [add_zero] at h0
      have hsp := spot_none h0
      obtain ⟨b, off, sp⟩ := a
      simp only at hsp
      subst hsp
      refine ⟨zs, .inl ⟨b, off, cap, rfl, hpos, fun i hi => ?_⟩⟩
      have := hfs i _ (List.getElem?_eq_getElem hi)
      rw [addr_add] at this
      rw [this, List.getD_eq_getElem?_getD, List.getElem?_eq_getElem hi]; rfl
theorem pts_of {n : Nat} {v : Value} {y : DataW H × List MemPlace} (h : DataW.trod enc Try.prog W 0 spare held n 30 [v] = some y) : ∃ ps, Pts W v ps := by
  rcases open_slice Try.underlying30 h with ⟨h0, _⟩ | ⟨a, len, cap, m, n, D, Pl, hcs, _, hl, hm, hmm, _, hi⟩
  · simp at h0; exact ⟨[], .inr ⟨none, 0, h0, rfl⟩⟩
  · simp at hcs
    subst hcs
    have hlen : len ≤ m := by rw [hmm]; split <;> omega
    have hall : ∀ i, i < len → ∃ z : Pt, W.cell? (a.add (i * 2)) = some (.int .i64 z.x) ∧ W.cell? ((a.add (i * 2)).add 1) = some (.int .i64 z.y) := fun i hil => by
      obtain ⟨cs', hc, ht⟩ := hi i (by omega)
      rw [Try.cellsP] at hc
      obtain ⟨_, hcl, hat⟩ := World.cells?_some hc
      obtain ⟨x, y, rfl, _⟩ := pt_cells ht
      have g0 := hat 0 (by decide)
      have g1 := hat 1 (by decide)
      exact ⟨⟨x, y⟩, by simpa [add_zero] using g0, by simpa using g1⟩
    obtain ⟨zs, hfl, hfs⟩ := list_of _ len hall
    subst hfl
    by_cases he : zs = []
    · subst he; exact ⟨[], .inr ⟨_, _, rfl, rfl⟩⟩
    · have hpos : 0 < zs.length := List.length_pos_iff.2 he
      have h0 := (hfs 0 _ (List.getElem?_eq_getElem hpos)).1
      rw [Nat.zero_mul, add_zero] at h0
      have hsp := spot_none h0
      obtain ⟨b, off, sp⟩ := a
      simp only at hsp
      subst hsp
      refine ⟨zs, .inl ⟨b, off, cap, rfl, hpos, fun i hi => ?_⟩⟩
      have := hfs i _ (List.getElem?_eq_getElem hi)
      rw [addr_add, addr_add] at this
      rw [List.getD_eq_getElem?_getD, List.getElem?_eq_getElem hi]; exact this
theorem wls_of {n : Nat} {v : Value} {y : DataW H × List MemPlace} (h : DataW.trod enc Try.prog W 0 spare held n 32 [v] = some y) : ∃ ws, Wls W v ws := by
  rcases open_slice Try.underlying32 h with ⟨h0, _⟩ | ⟨a, len, cap, m, n, D, Pl, hcs, _, hl, hm, hmm, _, hi⟩
  · simp at h0; exact ⟨[], .inr ⟨none, 0, h0, rfl⟩⟩
  · simp at hcs
    subst hcs
    have hlen : len ≤ m := by rw [hmm]; split <;> omega
    have hall : ∀ i, i < len → ∃ z : Wl, W.cell? (a.add (i * 5)) = some (.int .i64 z.a1) ∧ W.cell? ((a.add (i * 5)).add 1) = some (.int .i64 z.a2) ∧ W.cell? ((a.add (i * 5)).add 2) = some (.int .i64 z.b1) ∧ W.cell? ((a.add (i * 5)).add 3) = some (.int .i64 z.b2) ∧ W.cell? ((a.add (i * 5)).add 4) = some (.int .i64 z.f) := fun i hil => by
      obtain ⟨cs', hc, ht⟩ := hi i (by omega)
      rw [Try.cellsW] at hc
      obtain ⟨_, hcl, hat⟩ := World.cells?_some hc
      obtain ⟨a1, a2, b1, b2, f, rfl⟩ := wl_cells ht
      have g0 := hat 0 (by decide)
      have g1 := hat 1 (by decide)
      have g2 := hat 2 (by decide)
      have g3 := hat 3 (by decide)
      have g4 := hat 4 (by decide)
      exact ⟨⟨a1, a2, b1, b2, f⟩, by simpa [add_zero] using g0, by simpa using g1, by simpa using g2, by simpa using g3, by simpa using g4⟩
    obtain ⟨zs, hfl, hfs⟩ := list_of _ len hall
    subst hfl
    by_cases he : zs = []
    · subst he; exact ⟨[], .inr ⟨_, _, rfl, rfl⟩⟩
    · have hpos : 0 < zs.length := List.length_pos_iff.2 he
      have h0 := (hfs 0 _ (List.getElem?_eq_getElem hpos)).1
      rw [Nat.zero_mul, add_zero] at h0
      have hsp := spot_none h0
      obtain ⟨b, off, sp⟩ := a
      simp only at hsp
      subst hsp
      refine ⟨zs, .inl ⟨b, off, cap, rfl, hpos, fun i hi => ?_⟩⟩
      have := hfs i _ (List.getElem?_eq_getElem hi)
      rw [addr_add, addr_add, addr_add, addr_add, addr_add] at this
      rw [List.getD_eq_getElem?_getD, List.getElem?_eq_getElem hi]; exact this
theorem arr_of {cs : Array Value} {l : List Value} (h : cs.toList = l) : cs = l.toArray := by rw [← h]
theorem open_point (hv : Value.okWide Try.prog W .any b0 23 v) (h : DataW.Trod enc Try.prog W 0 (fun _ => true) true 23 v d p) : ∃ x y : Int, v = .agg #[.int .i64 x, .int .i64 y] ∧ i64 x ∧ i64 y := by
  obtain ⟨cs, rfl, hsz⟩ := okWide_struct Try.underlying23 hv
  obtain ⟨fuel, hf⟩ := h
  obtain ⟨x, y, e, hx, hy⟩ := pt_cells hf
  exact ⟨x, y, congrArg Value.agg (arr_of e), hx, hy⟩
theorem open_wall (hv : Value.okWide Try.prog W .any b0 25 v) (h : DataW.Trod enc Try.prog W 0 (fun _ => true) true 25 v d p) : ∃ a1 a2 b1 b2 f : Int, v = .agg #[.int .i64 a1, .int .i64 a2, .int .i64 b1, .int .i64 b2, .int .i64 f] := by
  obtain ⟨cs, rfl, hsz⟩ := okWide_struct Try.underlying25 hv
  obtain ⟨fuel, hf⟩ := h
  obtain ⟨a1, a2, b1, b2, f, e⟩ := wl_cells hf
  exact ⟨a1, a2, b1, b2, f, congrArg Value.agg (arr_of e)⟩
theorem open_query (hv : Value.okWide Try.prog W .any b0 36 v) (h : DataW.Trod enc Try.prog W 0 (fun _ => true) true 36 v d p) : ∃ f1 f2 t1 t2 q a b : Int, v = .agg #[.int .i64 f1, .int .i64 f2, .int .i64 t1, .int .i64 t2, .int .i64 q, .int .i64 a, .int .i64 b] := by
  obtain ⟨cs, rfl, hsz⟩ := okWide_struct Try.underlying36 hv
  obtain ⟨fuel, hf⟩ := h
  obtain ⟨ys, n', _, _, hlen, hyl, hg⟩ := DataW.trod_struct Try.underlying36 hf
  rw [Try.cellsQ] at hlen
  obtain ⟨v0, v1, v2, v3, v4, v5, v6, hcs⟩ := seven_of hlen
  rw [hcs] at hg
  obtain ⟨y0, y1, y2, y3, y4, rfl⟩ := five_of hyl
  have g0 := hg 0 _ rfl
  have g1 := hg 1 _ rfl
  have g2 := hg 2 _ rfl
  have g3 := hg 3 _ rfl
  have g4 := hg 4 _ rfl
  simp [Try.cellsI, Try.cellsP] at g0 g1 g2 g3 g4
  obtain ⟨a1, a2, e0, _⟩ := pt_cells g0
  obtain ⟨b1, b2, e1, _⟩ := pt_cells g1
  obtain ⟨f, e2, _⟩ := int_cells g2
  obtain ⟨f', e3, _⟩ := int_cells g3
  obtain ⟨f'', e4, _⟩ := int_cells g4
  simp at e0 e1 e2 e3 e4
  obtain ⟨rfl, rfl⟩ := e0
  obtain ⟨rfl, rfl⟩ := e1
  subst e2 e3 e4
  exact ⟨_, _, _, _, _, _, _, congrArg Value.agg (arr_of hcs)⟩
theorem open_further (hv : Value.okWide Try.prog W .any b0 60 v) (h : DataW.Trod enc Try.prog W 0 (fun _ => true) true 60 v d p) : ∃ x y m : Int, v = .agg #[.int .i64 x, .int .i64 y, .int .i64 m] := by
  obtain ⟨cs, rfl, hsz⟩ := okWide_struct Try.underlying60 hv
  obtain ⟨fuel, hf⟩ := h
  obtain ⟨ys, n', _, _, hlen, hyl, hg⟩ := DataW.trod_struct Try.underlying60 hf
  rw [Try.cellsF] at hlen
  obtain ⟨v0, v1, v2, hcs⟩ := three_of hlen
  rw [hcs] at hg
  obtain ⟨y0, y1, rfl⟩ := two_of hyl
  have g0 := hg 0 _ rfl
  have g1 := hg 1 _ rfl
  simp [Try.cellsI, Try.cellsP] at g0 g1
  obtain ⟨a1, a2, e0, _⟩ := pt_cells g0
  obtain ⟨f, e1, _⟩ := int_cells g1
  simp at e0 e1
  obtain ⟨rfl, rfl⟩ := e0
  subst e1
  exact ⟨_, _, _, congrArg Value.agg (arr_of hcs)⟩
theorem okWide_array {P : Program} {w : World} {r : Reach} {base n : Nat} {t e : TypeId} {v : Value} (ht : P.underlying t = some (.array n e)) (h : Value.okWide P w r base t v) : ∃ cs, v = .agg cs ∧ cs.size = P.cellsOf t := by
  simp only [Value.okWide, ht] at h
  obtain ⟨cs, h1, h2, _⟩ := h
  exact ⟨cs, h1, h2⟩
theorem open_path (hv : Value.okWide Try.prog W .any b0 53 v) (h : DataW.Trod enc Try.prog W 0 (fun _ => true) true 53 v d p) : ∃ a1 a2 b1 b2 : Int, v = .agg #[.int .i64 a1, .int .i64 a2, .int .i64 b1, .int .i64 b2] := by
  obtain ⟨cs, rfl, hsz⟩ := okWide_array Try.underlying53 hv
  obtain ⟨fuel, hf⟩ := h
  obtain ⟨xs, m, _, _, hl, hxl, hel⟩ := DataW.trod_array Try.underlying53 hf
  rw [Try.cellsA] at hl
  obtain ⟨v0, v1, v2, v3, hcs⟩ := four_of hl
  rw [hcs] at hel
  obtain ⟨y0, y1, rfl⟩ := two_of hxl
  have g0 := hel 0 (by decide)
  have g1 := hel 1 (by decide)
  simp [Try.cellsP] at g0 g1
  obtain ⟨a1, a2, e0, _⟩ := pt_cells g0
  obtain ⟨b1, b2, e1, _⟩ := pt_cells g1
  simp at e0 e1
  obtain ⟨rfl, rfl⟩ := e0
  obtain ⟨rfl, rfl⟩ := e1
  exact ⟨_, _, _, _, congrArg Value.agg (arr_of hcs)⟩
theorem open_site (hv : Value.okWide Try.prog W .any b0 34 v) (h : DataW.Trod enc Try.prog W 0 (fun _ => true) true 34 v d p) : ∃ s : Site, SiteAt W v s := by
  obtain ⟨cs, rfl, hsz⟩ := okWide_struct Try.underlying34 hv
  obtain ⟨fuel, hf⟩ := h
  obtain ⟨ys, n', _, _, hlen, hyl, hg⟩ := DataW.trod_struct Try.underlying34 hf
  rw [Try.cellsS] at hlen
  obtain ⟨v0, v1, v2, v3, v4, v5, hcs⟩ := six_of hlen
  rw [hcs] at hg
  obtain ⟨y0, y1, y2, y3, y4, y5, rfl⟩ := six_of hyl
  have g0 := hg 0 _ rfl
  have g1 := hg 1 _ rfl
  have g2 := hg 2 _ rfl
  have g3 := hg 3 _ rfl
  have g4 := hg 4 _ rfl
  have g5 := hg 5 _ rfl
  simp [Try.cellsI, Try.cellsL1, Try.cellsL2, Try.cellsL3] at g0 g1 g2 g3 g4 g5
  obtain ⟨ps, h0⟩ := pts_of g0
  obtain ⟨zs, h1⟩ := ints_of g1
  obtain ⟨ws, h2⟩ := wls_of g2
  obtain ⟨e, e3, _⟩ := int_cells g3
  obtain ⟨nn, e4, _⟩ := int_cells g4
  obtain ⟨t, e5, _⟩ := int_cells g5
  simp at e3 e4 e5
  subst e3 e4 e5
  exact ⟨⟨ps, zs, ws, e, nn, t⟩, ⟨_, _, _, congrArg Value.agg (arr_of hcs), h0, h1, h2⟩⟩
end
end Go.Proofs.Ytcennbjegdlbhaa
