
/- How memory is kept by calls that write one struct and one row of their own, and what a writer and a reader are in memory. -/
import Derived.Test.YtilpbbpdchbdfaaBPlain
import Derived.Test.YtilpbbpdchbdfaaRows
import Derived.WalkKit
namespace Go.Proofs.Ytilpbbpdchbdfaa.Bit
open Go.RowKit

/-- All blocks that were there, but those in S, are as they were. -/
structure Keeps (S : Nat → Prop) (w w' : World) : Prop where
  os : w'.os = w.os
  tape : w'.tape = w.tape
  output : w'.output = w.output
  size : w.heap.size ≤ w'.heap.size
  block : ∀ k, k < w.heap.size → ¬ S k → w'.heap[k]? = w.heap[k]?

theorem Keeps.refl (S : Nat → Prop) (w : World) : Keeps S w w := ⟨rfl, rfl, rfl, Nat.le_refl _, fun _ _ _ => rfl⟩
theorem Keeps.trans {S T U : Nat → Prop} {a b c : World} (h : Keeps S a b) (k : Keeps T b c) (hS : ∀ i, S i → U i) (hT : ∀ i, i < a.heap.size → T i → U i) : Keeps U a c :=
  ⟨k.os.trans h.os, k.tape.trans h.tape, k.output.trans h.output, Nat.le_trans h.size k.size,
    fun i hi hu => (k.block i (Nat.lt_of_lt_of_le hi h.size) (fun t => hu (hT i hi t))).trans (h.block i hi (fun s => hu (hS i s)))⟩
theorem Keeps.mono {S T : Nat → Prop} {a b : World} (h : Keeps S a b) (hS : ∀ i, i < a.heap.size → S i → T i) : Keeps T a b :=
  ⟨h.os, h.tape, h.output, h.size, fun i hi hu => h.block i hi (fun s => hu (hS i hi s))⟩
theorem Keeps.drew {S : Nat → Prop} {a w : World} (h : Keeps S a w) : Keeps S a w.drew := ⟨h.os, h.tape, h.output, h.size, h.block⟩
theorem Keeps.alloc {S : Nat → Prop} {a w : World} (h : Keeps S a w) (o : Obj) : Keeps S a (w.alloc o) :=
  ⟨h.os, h.tape, h.output, Nat.le_trans h.size (by simp), fun k hk hu => (Below.heap_alloc _ _ _ (Nat.lt_of_lt_of_le hk h.size)).trans (h.block k hk hu)⟩
theorem Keeps.setCell {S : Nat → Prop} {a w : World} (h : Keeps S a w) {p : Addr} (hp : p.block < a.heap.size → S p.block) (u : Value) : Keeps S a (w.setCell p u) :=
  ⟨h.os, h.tape, h.output, Nat.le_trans h.size (by simp [World.setCell]), fun k hk hu => (Below.heap_setCell _ _ _ _ (fun e => hu (by subst e; exact hp hk))).trans (h.block k hk hu)⟩
theorem Keeps.grown {S : Nat → Prop} {a w w' : World} {row : Option Nat} (h : Keeps S a w) (hg : w.grownBy w' row) (hr : ∀ k, row = some k → k < a.heap.size → S k) : Keeps S a w' :=
  ⟨hg.os.trans h.os, hg.tape.trans h.tape, hg.output.trans h.output, Nat.le_trans h.size hg.size,
    fun k hk hu => (hg.block k (Nat.lt_of_lt_of_le hk h.size) (fun e => hu (hr k e.symm hk))).trans (h.block k hk hu)⟩
theorem Keeps.below {S : Nat → Prop} {B : Nat} {a w w' : World} (hb : Below B a w) (h : Keeps S w w') (hS : ∀ k, k < B → ¬ S k) (hB : B ≤ w.heap.size) : Below B a w' :=
  hb.trans ⟨h.os, h.tape, h.output, h.size, fun k hk => h.block k (Nat.lt_of_lt_of_le hk hB) (hS k hk)⟩
theorem Keeps.ofBelow {a w : World} (h : Below a.heap.size a w) : Keeps (fun _ => False) a w := ⟨h.os, h.tape, h.output, h.size, fun k hk _ => h.block k hk⟩
theorem Keeps.at {S : Nat → Prop} {w w' : World} (h : Keeps S w w') {b : Nat} {o : Obj} (hb : w.heap[b]? = some o) (hs : ¬ S b) : w'.heap[b]? = some o := by
  rw [h.block b (lt_of_block hb) hs]; exact hb
theorem Keeps.row {S : Nat → Prop} {w w' : World} (h : Keeps S w w') {base : Nat} {e : TypeId} {size : Nat} {v : Value} {n : Nat} {xs : List Value} (ho : w.ownsRow base e size v n xs) (hs : ∀ k, v.ownBlock = some k → ¬ S k) : w'.ownsRow base e size v n xs := by
  refine ⟨ho.1, ?_⟩
  rcases ho.2 with hn | ⟨g, cap, cur, rfl, hb, hg, rest⟩
  · exact .inl hn
  · exact .inr ⟨g, cap, cur, rfl, hb, h.at hg (hs g rfl), rest⟩

theorem block3_set {w : World} {b : Nat} {x y z u : Value} {t : TypeId} (h : w.heap[b]? = some (.cells #[x, y, z] t (0, 0))) :
    (w.setCell ⟨b, 0, none⟩ u).heap[b]? = some (.cells #[u, y, z] t (0, 0)) ∧ (w.setCell ⟨b, 1, none⟩ u).heap[b]? = some (.cells #[x, u, z] t (0, 0)) ∧ (w.setCell ⟨b, 2, none⟩ u).heap[b]? = some (.cells #[x, y, u] t (0, 0)) :=
  ⟨heap_setCell_same w b 0 _ t u h, heap_setCell_same w b 1 _ t u h, heap_setCell_same w b 2 _ t u h⟩
theorem block3_cell {w : World} {b : Nat} {x y z : Value} {t : TypeId} (h : w.heap[b]? = some (.cells #[x, y, z] t (0, 0))) :
    w.cell? ⟨b, 0, none⟩ = some x ∧ w.cell? ⟨b, 1, none⟩ = some y ∧ w.cell? ⟨b, 2, none⟩ = some z ∧ w.frozen? ⟨b, 0, none⟩ = false ∧ w.frozen? ⟨b, 1, none⟩ = false ∧ w.frozen? ⟨b, 2, none⟩ = false := by
  simp [World.cell?, World.frozen?, h]

def u8s (l : List Nat) : List Value := l.map fun x : Nat => .int .u8 (x : Int)

/-- A writer without an error at block a: the bits bs; d: the block of its bytes, if it has one. -/
def WrOk (w : World) (a : Nat) (bs : List Nat) (d : Option Nat) : Prop :=
  Bits bs ∧ ∃ v, w.heap[a]? = some (.cells #[v, .int .i64 bs.length, .int .i64 0] 105 (0, 0)) ∧ w.ownsRow 0 5 1 v (nby bs.length) (u8s (pack bs)) ∧ v.ownBlock = d ∧ d ≠ some a
/-- A writer with the error er behind k bits. -/
def WrBad (w : World) (a : Nat) (k : Nat) (er : Int) : Prop :=
  w.heap[a]? = some (.cells #[.slice none 0 0, .int .i64 k, .int .i64 er] 105 (0, 0))

theorem WrOk.keep {S : Nat → Prop} {w w' : World} {a : Nat} {bs : List Nat} {d : Option Nat} (h : WrOk w a bs d) (k : Keeps S w w') (ha : ¬ S a) (hd : ∀ g, d = some g → ¬ S g) : WrOk w' a bs d := by
  obtain ⟨hb, v, h1, h2, h3, h4⟩ := h
  exact ⟨hb, v, k.at h1 ha, k.row h2 (fun g hg => hd g (h3 ▸ hg)), h3, h4⟩
theorem WrBad.keep {S : Nat → Prop} {w w' : World} {a k : Nat} {er : Int} (h : WrBad w a k er) (hk : Keeps S w w') (ha : ¬ S a) : WrBad w' a k er := hk.at h ha
theorem WrOk.new (w : World) : WrOk (w.alloc (.cells #[.slice none 0 0, .int .i64 0, .int .i64 0] 105)) w.heap.size [] none :=
  ⟨Bits.nil, _, heap_alloc_new w _, by exact World.ownsRow_nil _ _ _ _, rfl, by simp⟩
theorem WrOk.lt {w : World} {a : Nat} {bs : List Nat} {d : Option Nat} (h : WrOk w a bs d) : a < w.heap.size := by
  obtain ⟨_, v, h1, _⟩ := h; exact lt_of_block h1
theorem WrOk.dlt {w : World} {a : Nat} {bs : List Nat} {d : Option Nat} (h : WrOk w a bs d) : ∀ g, d = some g → g < w.heap.size := by
  obtain ⟨_, v, h1, h2, h3, _⟩ := h
  intro g hg; exact (h2.lt g (h3.trans hg)).2
/-- One element is appended to a row of the call's own, of one-cell elements: the row stays in its block or moves to a new one. -/
theorem wpList_append_row {P : Program} (w : World) {ops : Array Oper} {rest : List Oper} {o : Oper} {a : Act} {Q : Exit → Act → World → Prop}
    (hg : o.guard = none) (s x : Operand) (t : TypeId) (hop : o.op = Op.call { callee := Callee.builtin Builtin.append, args := #[s, x], argTypes := #[t, t] })
    (e : TypeId) (i : TypeInfo) (z : Value) (bytes : Nat) (h1 : P.underlying t = some (.slice e)) (h2 : P.info? e = some i) (h3 : i.zero = some z) (h4 : i.size = 1) (h5 : i.bytes = bytes) (h6 : z.cells.size = 1)
    (v : Value) (n : Nat) (xs : List Value) (hs : a.eval s = v) (hown : w.ownsRow 0 e 1 v n xs) (ad : Addr) (c : Nat) (u : Value) (hx : a.eval x = .slice (some ad) 1 c)
    (hc : w.cell? (ad.add 0) = some u) (h1c : u.oneCell' = true) (b1 : n + 1 ≤ maxLen) (b2 : (n + 1) * bytes ≤ 140737488355328)
    (hK : ∀ g cap w', w'.ownsRow 0 e 1 (.slice (some ⟨g, 0, none⟩) (n + 1) cap) (n + 1) (xs ++ [u]) → w.grownBy w' v.ownBlock → (v.ownBlock = some g ∨ w.heap.size ≤ g) → wpList P ops Q rest (a.put o.dst (.slice (some ⟨g, 0, none⟩) (n + 1) cap)) w') :
    wpList P ops Q (o :: rest) a w := by
  have hnews : ∀ j y, [u][j]? = some y → w.cell? (ad.add j) = some y := by
    intro j y hj; match j, hj with | 0, hj => simp at hj; subst hj; exact hc
  have hone : ∀ y ∈ [u], y.oneCell' = true := by intro y hy; simp at hy; subst hy; exact h1c
  have grows : ∀ (ao : Option Addr) (cap : Nat), v = .slice ao n cap → cap < n + 1 → (ao = none → n = 0 ∧ cap = 0) → (∀ b, ao = some b → ∀ j y, xs[j]? = some y → w.cell? (b.add j) = some y) → wpList P ops Q (o :: rest) a w := by
    intro ao cap hv hcap hnone holds
    refine wpList_append_grows w hg s x t hop e i z 1 bytes h1 h2 h3 h4 h5 h6 (by decide) ao n cap xs (hs.trans hv) hnone (by simpa using hown.1) holds ad 1 c [u] hx (by simp) hnews hone hcap b1 b2 ?_
    intro v' w' ho hgr
    rcases ho.2 with ⟨_, h⟩ | ⟨g, cap', cur, rfl, hge, rest'⟩
    · omega
    · exact hK g cap' w' ⟨ho.1, .inr ⟨g, cap', cur, rfl, Nat.zero_le _, rest'⟩⟩ ⟨hgr.os, hgr.tape, hgr.output, hgr.size, fun k hk _ => hgr.block k hk (by simp)⟩ (Or.inr hge)
  rcases hown.2 with ⟨rfl, rfl⟩ | ⟨g, cap, cur, rfl, hbg, hgg, hnc, hcm, hcs, htake⟩
  · exact grows none 0 rfl (by omega) (fun _ => ⟨rfl, rfl⟩) (by simp)
  · by_cases hroom : n + 1 ≤ cap
    · exact wpList_append_fits w hg s x t hop 0 e i 1 h1 h2 h4 g n cap xs hs hown ad 1 c [u] hx (by simp) hnews hone hroom (fun w' ho hgr => hK g cap w' ho hgr (Or.inl rfl))
    · exact grows (some ⟨g, 0, none⟩) cap rfl (by omega) (by simp) (fun b hb => by simp at hb; subst hb; exact hown.cells rfl)
end Go.Proofs.Ytilpbbpdchbdfaa.Bit
