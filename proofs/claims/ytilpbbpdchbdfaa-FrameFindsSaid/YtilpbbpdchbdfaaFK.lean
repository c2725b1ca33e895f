/- What lies in memory while a frame's fields are passed on. -/
import Derived.Test.YtilpbbpdchbdfaaF9
namespace Go.Proofs.Ytilpbbpdchbdfaa
open Go.RowKit

/-- The frame's box, the box of who takes the fields, and other boxes of the call's own. -/
structure Core (w0 : World) (fb cb a : Nat) (T : TypeId) (f : Fr) (P : List (Nat × Obj)) (w : World) : Prop where
  hf : w.heap[fb]? = some (.cells (frC f) 23 (0, 0))
  hc : w.heap[cb]? = some (.cells #[.pointer (some ⟨a, 0, none⟩)] T (0, 0))
  hs : Same w0 w
  lo : w0.heap.size ≤ fb ∧ w0.heap.size ≤ cb ∧ w0.heap.size ≤ a
  ne : a ≠ fb ∧ a ≠ cb ∧ fb ≠ cb
  bd : -9223372036854775808 ≤ f.k ∧ f.k ≤ 9223372036854775807
  sz : f.d.size ≤ 9223372036854775807
  at' : ∀ p ∈ P, w.heap[p.1]? = some p.2 ∧ p.1 ≠ a ∧ p.1 ≠ fb ∧ p.1 ≠ cb ∧ w0.heap.size ≤ p.1
  pw : P.Pairwise fun p q => p.1 ≠ q.1
section
variable {w0 : World} {fb cb a : Nat} {T : TypeId} {f : Fr} {P : List (Nat × Obj)} {w : World}
theorem Core.keep (h : Core w0 fb cb a T f P w) {S : Nat → Prop} {w' : World} (k : Bit.Keeps S w w') (h1 : ¬ S fb) (h2 : ¬ S cb) (h3 : ∀ p ∈ P, ¬ S p.1) (h4 : ∀ i, i < w0.heap.size → ¬ S i) : Core w0 fb cb a T f P w' :=
  { hf := k.at h.hf h1, hc := k.at h.hc h2,
    hs := ⟨k.os.trans h.hs.os, k.tape.trans h.hs.tape, k.output.trans h.hs.output, Nat.le_trans h.hs.size k.size, fun i hi => (k.block i (Nat.lt_of_lt_of_le hi h.hs.size) (h4 i hi)).trans (h.hs.block i hi)⟩,
    lo := h.lo, ne := h.ne, bd := h.bd, sz := h.sz, pw := h.pw,
    at' := fun p hp => ⟨k.at (h.at' p hp).1 (h3 p hp), (h.at' p hp).2⟩ }
theorem Core.same (h : Core w0 fb cb a T f P w) {w' : World} (k : Same w w') : Core w0 fb cb a T f P w' :=
  h.keep (S := fun _ => False) k.keeps (fun x => x) (fun x => x) (fun _ _ x => x) (fun _ _ x => x)
theorem Core.drop {p : Nat × Obj} (h : Core w0 fb cb a T f (p :: P) w) : Core w0 fb cb a T f P w :=
  { h with at' := fun q hq => h.at' q (List.mem_cons_of_mem _ hq), pw := (List.pairwise_cons.1 h.pw).2 }
theorem Core.alloc (h : Core w0 fb cb a T f P w) (ha : a < w.heap.size) (cs : Array Value) (T' : TypeId) : Core w0 fb cb a T f ((w.heap.size, .cells cs T' (0, 0)) :: P) (w.alloc (.cells cs T')) := by
  have h' := h.same ((Same.refl w).alloc (.cells cs T'))
  have hfb := lt_of_block h.hf
  have hcb := lt_of_block h.hc
  have hsz := h.hs.size
  refine { h' with at' := ?_, pw := ?_ }
  · intro p hp
    rcases List.mem_cons.1 hp with rfl | hp
    · exact ⟨heap_alloc_new w _, by simp only; omega, by simp only; omega, by simp only; omega, hsz⟩
    · exact h'.at' p hp
  · refine List.pairwise_cons.2 ⟨fun q hq => ?_, h.pw⟩
    have := lt_of_block (h.at' q hq).1
    simp only
    omega
theorem Core.setBox {b : Nat} {v : Value} {T' : TypeId} (u : Value) (h : Core w0 fb cb a T f ((b, .cells #[v] T' (0, 0)) :: P) w) : Core w0 fb cb a T f ((b, .cells #[u] T' (0, 0)) :: P) (w.setCell ⟨b, 0, none⟩ u) := by
  have hb := h.at' _ (List.mem_cons_self ..)
  have hp := List.pairwise_cons.1 h.pw
  have k : Bit.Keeps (fun i => i = b) w (w.setCell ⟨b, 0, none⟩ u) := Bit.Keeps.setCell (S := fun i => i = b) (Bit.Keeps.refl _ w) (p := ⟨b, 0, none⟩) (fun _ => rfl) u
  simp only at hb
  have h' := h.drop.keep k (fun e => hb.2.2.1 e.symm) (fun e => hb.2.2.2.1 e.symm) (fun q hq e => hp.1 q hq e.symm) (fun i hi e => by omega)
  refine { h' with at' := ?_, pw := ?_ }
  · intro p hp'
    rcases List.mem_cons.1 hp' with rfl | hp'
    · exact ⟨heap_setCell_same w b 0 _ T' u hb.1, hb.2⟩
    · exact h'.at' p hp'
  · exact List.pairwise_cons.2 ⟨hp.1, hp.2⟩
/-- A field of the frame is written. -/
theorem Core.setF (h : Core w0 fb cb a T f P w) {f' : Fr} {i : Nat} {u : Value} (hi : (frC f).setIfInBounds i u = frC f') (hb : -9223372036854775808 ≤ f'.k ∧ f'.k ≤ 9223372036854775807) (hd : f'.d.size ≤ 9223372036854775807) : Core w0 fb cb a T f' P (w.setCell ⟨fb, i, none⟩ u) := by
  have k : Bit.Keeps (fun j => j = fb) w (w.setCell ⟨fb, i, none⟩ u) := Bit.Keeps.setCell (S := fun j => j = fb) (Bit.Keeps.refl _ w) (p := ⟨fb, i, none⟩) (fun _ => rfl) u
  have hx := heap_setCell_same w fb i _ 23 u h.hf
  rw [hi] at hx
  have hcc := h.ne.2.2
  exact
  { hf := hx, hc := k.at h.hc (fun e => hcc (Eq.symm e)),
    hs := ⟨k.os.trans h.hs.os, k.tape.trans h.hs.tape, k.output.trans h.hs.output, Nat.le_trans h.hs.size k.size, fun j hj => (k.block j (Nat.lt_of_lt_of_le hj h.hs.size) (fun e => by have := h.lo.1; omega)).trans (h.hs.block j hj)⟩,
    lo := h.lo, ne := h.ne, bd := hb, sz := hd, pw := h.pw,
    at' := fun p hp => ⟨k.at (h.at' p hp).1 (fun e => (h.at' p hp).2.2.1 e), (h.at' p hp).2⟩ }
theorem Core.fcell (h : Core w0 fb cb a T f P w) (i : Nat) (hi : i < 11) : w.cell? ⟨fb, i, none⟩ = some (.int .i64 (f.get i)) ∧ w.frozen? ⟨fb, i, none⟩ = false := by
  have hf := h.hf
  refine ⟨?_, by simp [World.frozen?, hf]⟩
  have : (frC f)[i]? = some (.int .i64 (f.get i)) := by
    match i, hi with
    | 0, _ => rfl | 1, _ => rfl | 2, _ => rfl | 3, _ => rfl | 4, _ => rfl | 5, _ => rfl | 6, _ => rfl | 7, _ => rfl | 8, _ => rfl | 9, _ => rfl | 10, _ => rfl
  simp [World.cell?, hf, this]
theorem Core.dcell (h : Core w0 fb cb a T f P w) : w.cell? ⟨fb, 11, none⟩ = some (.string f.d) ∧ w.frozen? ⟨fb, 11, none⟩ = false := by
  have hf := h.hf
  simp [World.cell?, World.frozen?, hf]
theorem Core.ccell (h : Core w0 fb cb a T f P w) : w.cell? ⟨cb, 0, none⟩ = some (.pointer (some ⟨a, 0, none⟩)) := by
  have hc := h.hc
  simp [World.cell?, hc]
end
theorem frC_set (f : Fr) (i : Nat) (hi : i < 11) (v : Int) : (frC f).setIfInBounds i (.int .i64 v) = frC (f.set i v) := by
  match i, hi with
  | 0, _ => rfl | 1, _ => rfl | 2, _ => rfl | 3, _ => rfl | 4, _ => rfl | 5, _ => rfl | 6, _ => rfl | 7, _ => rfl | 8, _ => rfl | 9, _ => rfl | 10, _ => rfl
theorem set_get (f : Fr) (i : Nat) (hi : i < 11) : f.set i (f.get i) = f := by
  match i, hi with
  | 0, _ => rfl | 1, _ => rfl | 2, _ => rfl | 3, _ => rfl | 4, _ => rfl | 5, _ => rfl | 6, _ => rfl | 7, _ => rfl | 8, _ => rfl | 9, _ => rfl | 10, _ => rfl
end Go.Proofs.Ytilpbbpdchbdfaa
