/- Package geometry: the power that arrives: a range over the iterator. -/
import Derived.Test.YtcennbjegdlbhaaCrossed
namespace Go.Proofs.Ytcennbjegdlbhaa
open Go.RowKit Go.Shelf
attribute [local go_sem] Oper.semAt_some

set_option maxRecDepth 100000 in
set_option maxHeartbeats 1000000 in
theorem crossed1_nil (n : Nat) (l sB fB tB : Nat) (ao : Option Addr) (cap : Nat) (J : List Wl → World → Prop) (W : World) (hs : W.cell? ⟨sB, 2, none⟩ = some (.slice ao 0 cap)) (h0 : J [] W) :
    CallsIn Fence.wide n Try.prog 70 #[.func (.yield l) #[] #[], .pointer (some ⟨sB, 0, none⟩), .pointer (some ⟨fB, 0, none⟩), .pointer (some ⟨tB, 0, none⟩)] W fun e W' => (∃ v, e = .returned v) ∧ J [] W' := by
  refine callsIn_of_wp Try.func70 rfl trivial ?_ rfl
  simp only [Try.ntmps70, List.size_toArray, List.length_cons, List.length_nil, Nat.reduceAdd, Nat.reduceSub, Array.replicate_succ, Array.replicate_zero, List.push_toArray, List.append_toArray, List.nil_append, List.cons_append]
  gi_wp2
  gi_loopw [10] (fun i wr => i = .int .i64 0 ∧ J [] wr) (fun _ _ => 0)
  case atStart => exact ⟨rfl, h0⟩
  case round =>
    obtain ⟨rfl, hJs⟩ := hrel
    gi_wp2
    go_end0
    exact ⟨⟨_, rfl⟩, hJs⟩
/-- What the iterator reads. -/
structure Seen (w : World) (n₀ pb sB fB tB : Nat) (f1 f2 t1 t2 : Int) (ws : List Wl) : Prop where
  s : ∃ v3, w.cell? ⟨sB, 2, none⟩ = some v3 ∧ ((∃ b off cap, v3 = .slice (some ⟨b, off, none⟩) ws.length cap ∧ b < n₀ ∧ b ≠ pb ∧ ∀ i, i < ws.length → w.cell? ⟨b, off + i * 5, none⟩ = some (.int .i64 (ws.getD i ⟨0, 0, 0, 0, 0⟩).a1) ∧ w.cell? ⟨b, off + i * 5 + 1, none⟩ = some (.int .i64 (ws.getD i ⟨0, 0, 0, 0, 0⟩).a2) ∧ w.cell? ⟨b, off + i * 5 + 2, none⟩ = some (.int .i64 (ws.getD i ⟨0, 0, 0, 0, 0⟩).b1) ∧ w.cell? ⟨b, off + i * 5 + 3, none⟩ = some (.int .i64 (ws.getD i ⟨0, 0, 0, 0, 0⟩).b2) ∧ w.cell? ⟨b, off + i * 5 + 4, none⟩ = some (.int .i64 (ws.getD i ⟨0, 0, 0, 0, 0⟩).f)) ∨ (∃ ao cap, v3 = .slice ao 0 cap ∧ ws = []))
  f1c : w.cell? ⟨fB, 0, none⟩ = some (.int .i64 f1)
  f2c : w.cell? ⟨fB, 1, none⟩ = some (.int .i64 f2)
  t1c : w.cell? ⟨tB, 0, none⟩ = some (.int .i64 t1)
  t2c : w.cell? ⟨tB, 1, none⟩ = some (.int .i64 t2)
  fB : fB < n₀ ∧ fB ≠ pb
  tB : tB < n₀ ∧ tB ≠ pb
  n₀ : n₀ ≤ w.heap.size
theorem crossed_stops (n : Nat) (hn : 1 ≤ n) (n₀ pb sB fB tB : Nat) (f1 f2 t1 t2 : Int) (hf1 : Co f1) (hf2 : Co f2) (ht1 : Co t1) (ht2 : Co t2) (ws : List Wl) (hws : ∀ i, i < ws.length → wlB (ws.getD i ⟨0, 0, 0, 0, 0⟩) = true) (hl32 : ws.length ≤ 32) (w : World) (h : Seen w n₀ pb sB fB tB f1 f2 t1 t2 ws) :
    SeqStopsK Fence.wide n Try.prog 70 #[.pointer (some ⟨sB, 0, none⟩), .pointer (some ⟨fB, 0, none⟩), .pointer (some ⟨tB, 0, none⟩)] (fun x : Wl => #[wlV x]) (But n₀ pb) (fun ys => ys = crossedL f1 f2 t1 t2 ws) (fun pre => pre <+: crossedL f1 f2 t1 t2 ws) ws.length w := fun l J Jx W hW hJ _ hY h0 => by
  have kc : ∀ {p : Addr} {v : Value}, w.cell? p = some v → W.cell? p = some v := fun {p v} hc => (hW.cell (World.block_lt_of_cell? w p hc)).trans hc
  obtain ⟨⟨v3, h3, hh⟩, e1, e2, e3, e4, c1, c2, c3⟩ := h
  rcases hh with ⟨b, off, cap, rfl, hb1, hb2, hcs⟩ | ⟨ao, cap, rfl, rfl⟩
  · exact crossed1_in n hn l n₀ pb sB fB tB b off cap f1 f2 t1 t2 hf1 hf2 ht1 ht2 ws hws hl32 c1 c2 ⟨hb1, hb2⟩ J Jx hY W (Nat.le_trans c3 hW.size) hJ (kc h3) (kc e1) (kc e2) (kc e3) (kc e4) (fun i hi => by obtain ⟨g1, g2, g3, g4, g5⟩ := hcs i hi; exact ⟨kc g1, kc g2, kc g3, kc g4, kc g5⟩) h0
  · exact (crossed1_nil n l sB fB tB ao cap J W (kc h3) h0).mono fun e W' ⟨he, hj⟩ => ⟨he, .inl ⟨[], rfl, hj⟩⟩

/-- The law of a loop over an iterator whose variable is boxed: the frame behind the assignment is the frame ahead of it, the parameter and the box's address set. -/
theorem own_boxed {α : Type} {F : Fence} {n : Nat} {P : Program} {g : Operand} {p0 : Tmp} {assign body : Code} {Q : Exit → Act → World → Prop} {a : Act} {w : World} (vs : Tmp) (ev : α → Value) (BX : α → Nat → World → Prop)
    (hro : F.round = none) (h1 : 1 ≤ n) {gf : Nat} {lb : Array Value} (hg : a.eval g = .func (.func gf) #[] lb) (hFg : F.fn gf) (eg : ∀ args w, (callFunc gf args).run P w = .ok (.enter gf args) w)
    {Kp : World → World → Prop} {S Sp : List α → Prop} {N : Nat} {w0 : World} (hseq : SeqStopsK F (n - 1) P gf lb (fun x => #[ev x]) Kp S Sp N w0)
    (hKt : ∀ {A B C : World}, Kp A B → Kp B C → Kp A C) (hKb : ∀ (W : World) (l : Nat) (o o' : Obj), w.heap.size ≤ l → W.heap[l]? = some o → o.isCells = false → o.isWalk = false → Kp W (W.putObj l o')) (hb0 : Below w0.heap.size w0 w)
    (I : List α → World → Prop) (hI : OwnFrom w.heap.size I) (h0 : I [] w) (hBX : ∀ x Bx, OwnFrom w.heap.size (fun (_ : Unit) W => BX x Bx W))
    (hassign : ∀ (l : Nat) (pre : List α) (x : α) (W : World) (K : Act → World → Prop), I pre W → (∀ a' W' Bx, KeepsFrom w.heap.size W W' → Kp W W' → I pre W' → BX x Bx W' → a' = { tmps := (a.tmps.setIfInBounds p0 (ev x)).setIfInBounds vs (.pointer (some ⟨Bx, 0, none⟩)), defers := [] } → K a' W') →
      assign.wpIn (F.inRound l) (n - 1 - 1) P (Exit.then K (fun _ _ _ => False)) { tmps := a.tmps.setIfInBounds p0 (ev x), defers := [] } W)
    (hbody : ∀ (l : Nat) (pre : List α) (x : α) (Bx : Nat) (W : World), w.heap.size ≤ l → I pre W → BX x Bx W → pre.length < N → body.wpIn (F.inRound l) (n - 1 - 1) P (ownPostG w.heap.size Kp I (fun _ _ _ => False) (pre ++ [x]) W) { tmps := (a.tmps.setIfInBounds p0 (ev x)).setIfInBounds vs (.pointer (some ⟨Bx, 0, none⟩)), defers := [] } W)
    (hdone : ∀ (D : Nat) (xs : List α) (W : World), w.heap.size ≤ D → S xs → I xs W → W.heap[D]? = some (.deferred (some [])) → Q .normal { a with defers := { target := .collected D, args := #[] } :: a.defers } W) :
    (Code.rangeFunc g #[p0] assign body).wpIn F n P Q a w := by
  have hz : ∀ x, ((#[p0] : Array Tmp).zip #[ev x]).foldl (fun t (p, v) => t.setIfInBounds p v) a.tmps = a.tmps.setIfInBounds p0 (ev x) := fun x => by simp
  refine wpIn_rangeFunc_ownH hro h1 hg hFg eg hseq hKt hKb hb0 (fun _ => rfl) I (fun _ _ _ => False) hI (fun _ _ _ _ _ hs _ _ => hs) h0
    (fun x a' W => ∃ Bx, BX x Bx W ∧ a' = { tmps := (a.tmps.setIfInBounds p0 (ev x)).setIfInBounds vs (.pointer (some ⟨Bx, 0, none⟩)), defers := [] })
    (fun x a' _ X Y row hs hg hr => by obtain ⟨Bx, h1, h2⟩ := hs; exact ⟨Bx, hBX x Bx () X Y row h1 hg hr, h2⟩)
    ?_ (fun l pre x a' W hl _ hi ⟨Bx, hb, ha⟩ hlt => ha ▸ hbody l pre x Bx W hl hi hb hlt) hdone (fun _ _ _ _ _ _ h _ => h.elim)
  intro l pre x W K hi hK
  have := hassign l pre x W K hi (fun a' W' Bx h1 h2 h3 h4 h5 => hK a' W' h1 h2 h3 ⟨Bx, h4, h5⟩)
  rw [← hz x] at this
  exact this
end Go.Proofs.Ytcennbjegdlbhaa
