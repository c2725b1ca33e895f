/- Arguments: what a list of fields that came in holds. -/
import Derived.Test.YtficlefifjhecaaFields
import Derived.ProofKit
import Derived.OpenShut
import Derived.Deep.Slices
import Derived.Carry
namespace Go.Proofs.Ytficlefifjhecaa
open Go.RowKit Go.ChangeShapes Go.WideShapes Go.Deep

theorem Try.cellsF : Try.prog.cellsOf 30 = 4 := by kernel_rfl
theorem Try.cellsI : Try.prog.cellsOf 3 = 1 := by kernel_rfl
theorem Try.cellsS : Try.prog.cellsOf 9 = 1 := by kernel_rfl
theorem Try.laidOut : laidOutB Try.prog = true := by kernel_rfl

theorem list_of {α : Type} (P : Nat → α → Prop) : ∀ n : Nat, (∀ i, i < n → ∃ x, P i x) → ∃ l : List α, l.length = n ∧ ∀ i x, l[i]? = some x → P i x
  | 0, _ => ⟨[], rfl, fun i x h => by simp at h⟩
  | n + 1, h => by
    obtain ⟨l, hl, hp⟩ := list_of P n (fun i hi => h i (by omega))
    obtain ⟨y, hy⟩ := h n (by omega)
    refine ⟨l ++ [y], by simp [hl], fun i x hx => ?_⟩
    by_cases hi : i < n
    · rw [List.getElem?_append_left (by omega)] at hx; exact hp i x hx
    · rw [List.getElem?_append_right (by omega)] at hx
      have : i = n := by
        have := (List.getElem?_eq_some_iff.1 hx).1
        simp at this; omega
      subst this
      simp [hl] at hx
      subst hx; exact hy

theorem i64_range {n : Int} (h : (Lit.int .i64 n).wf = true) : inI64 n := by
  simpa [inI64, Lit.wf, IntKind.min, IntKind.max, IntKind.signed, IntKind.bits] using h

theorem add_zero (a : Addr) : a.add 0 = a := rfl
theorem add_succ (a : Addr) (n : Nat) : a.add (n + 1) = ⟨a.block, a.off + (n + 1), none⟩ := rfl
theorem spot_none {w : World} {a : Addr} {v : Value} (h : w.cell? a = some v) : a.spot = none := by
  unfold World.cell? at h
  split at h
  · cases hs : a.spot with
    | none => rfl
    | some x => simp [hs] at h
  · cases h

section
variable {H : Type} {enc : TypeId × Value → H} {w : World} {spare : Nat → Bool} {held : Bool}

theorem fld_of {n : Nat} {cs' : List Value} {a : Addr} {x : DataW H × List MemPlace} (hc : w.cells? 0 a 4 = some cs') (h : DataW.trod enc Try.prog w 0 spare held n 30 cs' = some x) :
    ∃ f : Fld, f.ok ∧ w.cell? a = some (.int .i64 f.kind) ∧ w.cell? (a.add 1) = some (.int .i64 f.width) ∧ w.cell? (a.add 2) = some (.int .i64 f.n) ∧ w.cell? (a.add 3) = some (.string f.s) := by
  obtain ⟨ys, n', _, _, hlen, hyl, hf⟩ := DataW.trod_struct Try.underlying30 h
  obtain ⟨_, hcl, hat⟩ := World.cells?_some hc
  match cs', hcl with
  | [v0, v1, v2, v3], _ =>
    have g0 := hf 0 _ rfl
    have g1 := hf 1 _ rfl
    have g2 := hf 2 _ rfl
    have g3 := hf 3 _ rfl
    match ys, hyl with
    | [y0, y1, y2, y3], _ =>
      simp [Try.cellsI, Try.cellsS] at g0 g1 g2 g3
      obtain ⟨k, e0, _, w0⟩ := DataW.trod_int Try.underlying3 g0
      obtain ⟨wd, e1, _, w1⟩ := DataW.trod_int Try.underlying3 g1
      obtain ⟨nn, e2, _, w2⟩ := DataW.trod_int Try.underlying3 g2
      obtain ⟨ss, e3, _, w3⟩ := DataW.trod_string Try.underlying9 g3
      simp at e0 e1 e2 e3
      subst e0 e1 e2 e3
      refine ⟨⟨k, wd, nn, ss⟩, ⟨i64_range w0, i64_range w1, i64_range w2, by unfold maxLen at w3; omega⟩, ?_, ?_, ?_, ?_⟩
      · have := hat 0 (by omega); simpa [add_zero] using this
      · have := hat 1 (by omega); simpa using this
      · have := hat 2 (by omega); simpa using this
      · have := hat 3 (by omega); simpa using this

theorem arg_of {v : Value} {d : DataW H} {p : List MemPlace} {r : Reach} {base : Nat} (hv : Value.okWide Try.prog w r base 22 v) (h : DataW.Trod enc Try.prog w 0 (fun _ => true) true 22 v d p) :
    ∃ (ao : Option Addr) (cap : Nat) (fs : List Fld), v = .slice ao fs.length cap ∧ fs.length ≤ 9223372036854775807 ∧ Arg w v fs ∧ (fs = [] ∨ ∃ b off, ao = some ⟨b, off, none⟩ ∧ b < w.heap.size ∧ FldsAt w b off fs) := by
  obtain ⟨a0, len, cap, rfl⟩ := okWide_slice Try.underlying22 hv
  obtain ⟨fuel, hf⟩ := h
  rcases open_slice Try.underlying22 hf with ⟨h0, _⟩ | ⟨a, len', cap', m, n, D, Pl, hcs, _, hl, hm, hmm, _, hi⟩
  · simp [Value.cells] at h0
    obtain ⟨rfl, rfl, rfl⟩ := h0
    exact ⟨none, 0, [], rfl, by simp, ⟨by simp, .inl ⟨rfl, rfl⟩⟩, .inl rfl⟩
  · simp [Value.cells] at hcs
    obtain ⟨rfl, rfl, rfl⟩ := hcs
    have hlen : len ≤ m := by rw [hmm]; split <;> omega
    have hall : ∀ i, i < len → ∃ f : Fld, f.ok ∧ w.cell? (a.add (i * 4)) = some (.int .i64 f.kind) ∧ w.cell? ((a.add (i * 4)).add 1) = some (.int .i64 f.width) ∧ w.cell? ((a.add (i * 4)).add 2) = some (.int .i64 f.n) ∧ w.cell? ((a.add (i * 4)).add 3) = some (.string f.s) := by
      intro i hil
      obtain ⟨cs', hc, ht⟩ := hi i (by omega)
      rw [Try.cellsF] at hc
      exact fld_of hc ht
    obtain ⟨fs, hfl, hfs⟩ := list_of _ len hall
    subst hfl
    have hmax : fs.length ≤ 9223372036854775807 := by unfold maxLen at hm; omega
    by_cases he : fs = []
    · subst he
      exact ⟨some a, cap, [], rfl, by simp, ⟨by simp, .inr ⟨a, cap, rfl, .inl rfl⟩⟩, .inl rfl⟩
    · have hpos : 0 < fs.length := List.length_pos_iff.2 he
      obtain ⟨f0, hf0⟩ : ∃ f, fs[0]? = some f := ⟨_, List.getElem?_eq_getElem hpos⟩
      have h0 := hfs 0 f0 hf0
      rw [Nat.zero_mul, add_zero] at h0
      have hsp := spot_none h0.2.1
      obtain ⟨b, off, sp⟩ := a
      simp only at hsp
      subst hsp
      have hb := World.block_lt_of_cell? w ⟨b, off, none⟩ h0.2.1
      have hfa : FldsAt w b off fs := by
        intro i f hif
        obtain ⟨q0, q1, q2, q3, q4⟩ := hfs i f hif
        have ea : (⟨b, off, none⟩ : Addr).add (i * 4) = ⟨b, off + i * 4, none⟩ := by
          unfold Addr.add; split
          · rename_i hz; rw [hz]; rfl
          · rfl
        rw [ea] at q1 q2 q3 q4
        exact ⟨q0, q1, q2, q3, q4⟩
      exact ⟨some ⟨b, off, none⟩, cap, fs, rfl, hmax, ⟨hmax, .inr ⟨_, cap, rfl, .inr ⟨b, off, rfl, hb, hfa⟩⟩⟩, .inr ⟨b, off, rfl, hb, hfa⟩⟩
end
end Go.Proofs.Ytficlefifjhecaa
