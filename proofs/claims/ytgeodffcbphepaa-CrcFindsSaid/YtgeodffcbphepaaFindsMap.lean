/- A set of numbers that a call keeps in a map of bools, and how an array of two residues and a list of residues are read as arguments. -/
import Derived.Test.YtgeodffcbphepaaFlip2
import Derived.Test.YtgeodffcbphepaaOpen
import Derived.Maps.OwnSet
import Derived.Maps.OwnOps
import Derived.Maps.Views
namespace Go
open Go.Maps (Keyed)
theorem plainElem_bool_inv {H : Type} {P : Program} {e : TypeId} (he : P.underlying e = some .bool) {v : Value} {z : DataW H × List MemPlace} (h : plainElem P e v = some z) : ∃ a, v = .bool a ∧ z = (.lit (.bool a), []) := by
  unfold plainElem at h
  rw [he] at h
  cases v <;> simp at h
  exact ⟨_, rfl, h.symm⟩
theorem wpList_lookup_own_bool {H : Type} {P : Program} (w : World) {ops : Array Oper} {rest : List Oper} {o : Oper} {a : Act} {Q : Exit → Act → World → Prop}
    (hg : o.guard = none) (m x : Operand) (t : TypeId) (hop : o.op = Op.lookup t m x false)
    (k e : TypeId) (K : Keyed P k) (ht : P.underlying t = some (.map k e)) (he : P.underlying e = some .bool) (hz : (zeroValue e).run P w = .ok (.bool false) w) (b n : Nat) (D : DataW H)
    (hm : a.eval m = .map (some b)) (hown : w.ownsMap P k (plainElem P e) b n D) (key : Value) (kl : Lit) (hx : a.eval x = key) (hkey : keyOf P k key = some kl) (c : Bool)
    (hat : D.atKey kl (.lit (.bool false)) = .lit (.bool c))
    (hK : wpList P ops Q rest (a.put o.dst (.bool c)) w) :
    wpList P ops Q (o :: rest) a w := by
  refine wpList_plain hg fun K' hK' => ?_
  obtain ⟨v, ps, hrun, hv⟩ := hown.lookup K ht hz (plainElem_bool he false) hkey
  obtain ⟨c', rfl, hc⟩ := plainElem_bool_inv he hv
  simp only [Prod.mk.injEq] at hc
  rw [hat] at hc
  have hcc : c' = c := by
    have := hc.1
    injection this with h1
    injection h1 with h2
    exact h2.symm
  subst hcc
  unfold Oper.wp
  simp [execOp, hop, hm, hx, hrun, Result.andThen]
  exact hK' _ _ hK
end Go
namespace Go.Proofs.Ytgeodffcbphepaa
open Go.RowKit
open Crc

def key (j : Nat) : Lit := .int .i64 j
theorem key_inj {i j : Nat} (h : key i = key j) : i = j := by
  unfold key at h
  injection h with _ h
  omega
theorem key_lit (j : Nat) : WideAt.IsKeyLit (key j) := trivial
theorem law_int : Maps.Keyed Try.prog 3 := Maps.int_keyed Try.underlying3
theorem key_of (j : Nat) (h : j < 100000) : keyOf Try.prog 3 (.int .i64 (j : Int)) = some (key j) :=
  Maps.keyOf_int_mk Try.underlying3 (by
    simp only [Lit.wf, IntKind.min, IntKind.max, IntKind.signed, IntKind.bits]; simp; omega)
/-- The datum of a map that says true of the numbers of a list. -/
structure Holds (D : DataW Unit) (l : List Nat) : Prop where
  tidy : Maps.Tidy D
  has : ∀ j, Maps.has D (key j) = decide (j ∈ l)
  yes : ∀ j, j ∈ l → ∀ z, D.atKey (key j) z = .lit (.bool true)
  size : Maps.size D = l.length
theorem Holds.none : Holds (.map []) [] := ⟨Maps.tidy_empty, fun j => by simp [Maps.has_eq], fun j h => by simp at h, rfl⟩
theorem Holds.at {D : DataW Unit} {l : List Nat} (h : Holds D l) (j : Nat) : D.atKey (key j) (.lit (.bool false)) = .lit (.bool (decide (j ∈ l))) := by
  by_cases hj : j ∈ l
  · rw [h.yes j hj, decide_eq_true hj]
  · rw [Maps.atKey_of_not_has (by rw [h.has, decide_eq_false hj]), decide_eq_false hj]
theorem Holds.put {D : DataW Unit} {l : List Nat} (h : Holds D l) {j : Nat} (hj : j ∉ l) : Holds (D.put (key j) (.lit (.bool true))) (j :: l) := by
  refine ⟨h.tidy.put (key_lit j) _, fun i => ?_, fun i hi z => ?_, ?_⟩
  · by_cases e : i = j
    · subst e; rw [Maps.has_put_same h.tidy.isMap (key_lit i)]; simp
    · rw [Maps.has_put_other (fun h' => e (key_inj h')), h.has]; simp [e]
  · by_cases e : i = j
    · subst e; rw [Maps.atKey_put_same h.tidy.isMap (key_lit i)]
    · rw [Maps.atKey_put_other (fun h' => e (key_inj h'))]
      exact h.yes i (by simpa [e] using hi) z
  · rw [Maps.size_put h.tidy, h.has, decide_eq_false hj, h.size]; simp
theorem ownsMap_same {w w' : World} {k : TypeId} {R : Value → Option (DataW Unit × List MemPlace)} {b n : Nat} {D : DataW Unit} (h : w.ownsMap Try.prog k R b n D) (hs : Same w w') : w'.ownsMap Try.prog k R b n D := by
  have hlt := h.lt
  obtain ⟨es, clock, hb, F, hsz, hD⟩ := h
  exact ⟨es, clock, (hs.block b hlt).trans hb, F, hsz, hD⟩
theorem Same.grown {a w w' : World} {b : Nat} (h : Same a w) (hg : w.grownBy w' (some b)) (hb : a.heap.size ≤ b) : Same a w' :=
  ⟨hg.os.trans h.os, hg.tape.trans h.tape, hg.output.trans h.output, Nat.le_trans h.size hg.size, fun k hk => (hg.block k (Nat.lt_of_lt_of_le hk h.size) (fun e => by cases e; omega)).trans (h.block k hk)⟩
theorem Same.cell {w w' : World} (h : Same w w') {a : Addr} {v : Value} (hc : w.cell? a = some v) : w'.cell? a = some v := by
  have hb := World.block_lt_of_cell? w a hc
  rw [World.cell?_of_block (h.block _ hb)]; exact hc

/-- A slice that reads as a list of residues. -/
def U16s (w : World) (v : Value) (zs : List Nat) : Prop :=
  (∀ z ∈ zs, z < 65536) ∧ ((∃ b off cap, v = .slice (some ⟨b, off, none⟩) zs.length cap ∧ 0 < zs.length ∧ ∀ i, i < zs.length → w.cell? ⟨b, off + i, none⟩ = some (.int .u16 ((zs.getD i 0 : Nat) : Int))) ∨ (∃ ao cap, v = .slice ao 0 cap ∧ zs = []))
theorem U16s.same {w w' : World} {v : Value} {zs : List Nat} (h : U16s w v zs) (s : Same w w') : U16s w' v zs := by
  refine ⟨h.1, ?_⟩
  rcases h.2 with ⟨b, off, cap, h1, h2, h3⟩ | h
  · exact .inl ⟨b, off, cap, h1, h2, fun i hi => s.cell (h3 i hi)⟩
  · exact .inr h
theorem spot_none {w : World} {a : Addr} {v : Value} (h : w.cell? a = some v) : a.spot = none := by
  unfold World.cell? at h
  split at h
  · cases hs : a.spot with
    | none => rfl
    | some x => simp [hs] at h
  · cases h
theorem two_cells {cs : Array Value} (h : cs.size = 2) : ∃ a b, cs = #[a, b] := by
  obtain ⟨l⟩ := cs
  match l, h with
  | [a, b], _ => exact ⟨a, b, rfl⟩
section
open Go.ChangeShapes Go.WideShapes
variable {H : Type} {enc : TypeId × Value → H} {W : World} {base b0 : Nat} {v : Value} {d : DataW H} {p : List MemPlace}
theorem open_two16 (hv : Value.okWide Try.prog W .any b0 44 v) (h : DataW.Trod enc Try.prog W base (fun _ => true) true 44 v d p) :
    ∃ x y : Int, v = .agg #[.int .u16 x, .int .u16 y] ∧ (0 ≤ x ∧ x ≤ 65535) ∧ (0 ≤ y ∧ y ≤ 65535) := by
  obtain ⟨cs, rfl, hsz⟩ := okWide_array Try.underlying44 hv
  rw [show Try.prog.cellsOf 44 = 2 by kernel_rfl] at hsz
  obtain ⟨a, b, rfl⟩ := two_cells hsz
  obtain ⟨fuel, hf⟩ := h
  obtain ⟨xs, m, _, _, _, hl, hel⟩ := DataW.trod_array Try.underlying44 hf
  have hone : Try.prog.cellsOf 22 = 1 := by kernel_rfl
  have hget : ∀ i, i < 2 → ∃ y, xs[i]? = some y := fun i hi => ⟨xs[i], List.getElem?_eq_getElem (by omega)⟩
  obtain ⟨y0, g0⟩ := hget 0 (by decide)
  obtain ⟨y1, g1⟩ := hget 1 (by decide)
  have e0 := (hel 0 (by decide)).trans g0
  have e1 := (hel 1 (by decide)).trans g1
  rw [hone] at e0 e1
  obtain ⟨x, q0, _, w0⟩ := DataW.trod_int Try.underlying22 e0
  obtain ⟨y, q1, _, w1⟩ := DataW.trod_int Try.underlying22 e1
  have r0 : a = .int .u16 x := by simpa [Value.cells] using q0
  have r1 : b = .int .u16 y := by simpa [Value.cells] using q1
  exact ⟨x, y, by rw [r0, r1], bounds_u16 w0, bounds_u16 w1⟩
theorem open_u16list (hv : Value.okWide Try.prog W .any b0 45 v) (h : DataW.Trod enc Try.prog W 0 (fun _ => true) true 45 v d p) : ∃ zs : List Nat, zs.length ≤ maxLen ∧ U16s W v zs := by
  obtain ⟨a0, len0, cap0, rfl⟩ := okWide_slice Try.underlying45 hv
  obtain ⟨fuel, hf⟩ := h
  rcases open_ints Try.underlying45 Try.underlying22 (by kernel_rfl) hf with ⟨h0, _⟩ | ⟨a, len, cap, zs, hcs, _, hl, hm, hz, _, hc, hw⟩
  · simp [Value.cells] at h0
    obtain ⟨rfl, rfl, rfl⟩ := h0
    exact ⟨[], Nat.zero_le _, by simp, .inr ⟨none, 0, rfl, rfl⟩⟩
  · simp [Value.cells] at hcs hz
    obtain ⟨rfl, rfl, rfl⟩ := hcs
    by_cases h0 : len0 = 0
    · subst h0; exact ⟨[], Nat.zero_le _, by simp, .inr ⟨some a, _, rfl, rfl⟩⟩
    · have h00 := hc 0 (by omega)
      rw [show a.add 0 = a from rfl] at h00
      have hs := spot_none h00
      obtain ⟨b, off, sp⟩ := a
      simp at hs
      subst hs
      have hb : ∀ z ∈ zs, 0 ≤ z ∧ z ≤ 65535 := fun z hz => bounds_u16 (hw z hz)
      refine ⟨(zs.take len0).map Int.toNat, by simp; omega, fun z hz => ?_, .inl ⟨b, off, cap0, by simp; omega, by simp; omega, fun i hi => ?_⟩⟩
      · obtain ⟨y, hy, rfl⟩ := List.mem_map.1 hz
        have := hb y (List.mem_of_mem_take hy)
        omega
      · have hi' : i < len0 := by simp at hi; omega
        have := hc i (by omega)
        have e : (⟨b, off, none⟩ : Addr).add i = ⟨b, off + i, none⟩ := by unfold Addr.add; split <;> simp_all
        rw [e] at this
        rw [this]
        have hil : i < zs.length := by omega
        have hbi := hb zs[i] (List.getElem_mem hil)
        have hbi2 : max zs[i] 0 = zs[i] := by omega
        simp [List.getD_eq_getElem?_getD, hi', hil, hbi2]
end
end Go.Proofs.Ytgeodffcbphepaa
