/- One correction within a tree: the node hears its parent, or is acknowledged by it. -/
import Derived.Test.YtffcoeadpicohaaSpreadB
namespace Go.Proofs.Ytffcoeadpicohaa
open Go.RowKit

/-- Send. -/
def sendS (o d n : Int) : Int × Int := inS o d n (cntR o d (n * 10000 + 2120) 1099511627777)
theorem Send_is (o d n : Int) (w : World) : Calls Try.prog 32 #[.agg #[.int .i64 o, .int .i64 d], .int .i64 n] w fun e w' => e = .returned (.tuple #[.int .i64 (sendS o d n).1, .int .i64 (sendS o d n).2]) ∧ Grew w w' :=
  Send_any o d n _ (fun h _ => isR_cnt h _) w
theorem Send2_is (o d n : Int) (w : World) : Calls Try.prog 67 #[.agg #[.int .i64 o, .int .i64 d], .int .i64 n] w fun e w' => e = .returned (.tuple #[.int .i64 (sendS o d n).1, .int .i64 (sendS o d n).2]) ∧ Grew w w' :=
  Send2_any o d n _ (fun h _ => isR_cnt h _) w
/-- A node hears its parent. -/
def hrS (c p : St) (n : Int) : St × Int := if (sendS p.1 p.2.1 n).2 = 0 then heS c.1 c.2.1 c.2.2.1 c.2.2.2 n (sendS p.1 p.2.1 n).1 else ((0, 0, 0, 0), (sendS p.1 p.2.1 n).2)
/-- A node is acknowledged by its parent. -/
def akS (c p : St) (n : Int) : St × Int := if (sendS c.1 c.2.1 n).2 = 0 then (if (meS p.1 p.2.1 n (sendS c.1 c.2.1 n).1).2 = 0 then acS c.1 c.2.1 c.2.2.1 c.2.2.2 n (meS p.1 p.2.1 n (sendS c.1 c.2.1 n).1).1 else ((0, 0, 0, 0), (meS p.1 p.2.1 n (sendS c.1 c.2.1 n).1).2)) else ((0, 0, 0, 0), (sendS c.1 c.2.1 n).2)
theorem hr_cases (c p : St) (n : Int) : ((sendS p.1 p.2.1 n).2 = 0 ∧ hrS c p n = heS c.1 c.2.1 c.2.2.1 c.2.2.2 n (sendS p.1 p.2.1 n).1) ∨ (((sendS p.1 p.2.1 n).2 != 0) = true ∧ hrS c p n = ((0, 0, 0, 0), (sendS p.1 p.2.1 n).2)) := by
  unfold hrS
  by_cases h : (sendS p.1 p.2.1 n).2 = 0
  · rw [if_pos h]; exact .inl ⟨h, rfl⟩
  · rw [if_neg h]; exact .inr ⟨by simpa using h, rfl⟩
theorem ak_cases (c p : St) (n : Int) : ((sendS c.1 c.2.1 n).2 = 0 ∧ (meS p.1 p.2.1 n (sendS c.1 c.2.1 n).1).2 = 0 ∧ akS c p n = acS c.1 c.2.1 c.2.2.1 c.2.2.2 n (meS p.1 p.2.1 n (sendS c.1 c.2.1 n).1).1) ∨
    ((sendS c.1 c.2.1 n).2 = 0 ∧ ((meS p.1 p.2.1 n (sendS c.1 c.2.1 n).1).2 != 0) = true ∧ akS c p n = ((0, 0, 0, 0), (meS p.1 p.2.1 n (sendS c.1 c.2.1 n).1).2)) ∨ (((sendS c.1 c.2.1 n).2 != 0) = true ∧ akS c p n = ((0, 0, 0, 0), (sendS c.1 c.2.1 n).2)) := by
  unfold akS
  by_cases h : (sendS c.1 c.2.1 n).2 = 0
  · rw [if_pos h]
    by_cases k : (meS p.1 p.2.1 n (sendS c.1 c.2.1 n).1).2 = 0
    · rw [if_pos k]; exact .inl ⟨h, k, rfl⟩
    · rw [if_neg k]; exact .inr (.inl ⟨h, by simpa using k, rfl⟩)
  · rw [if_neg h]; exact .inr (.inr ⟨by simpa using h, rfl⟩)
/-- The box of a tree, and the result's. -/
def Bq (w : World) (v1 v2 : Value) (w' : World) : Prop :=
  w'.heap[w.heap.size]? = some (.cells #[v1, v2] 73 (0, 0)) ∧ w'.heap[w.heap.size + 1]? = some (.cells #[.int .i64 0, .int .i64 0, .int .i64 0, .int .i64 0] 25 (0, 0)) ∧ Same w w'
theorem Bq.keep {w w1 w2 : World} {v1 v2 : Value} (h : Bq w v1 v2 w1) (k : Same w1 w2) : Bq w v1 v2 w2 := ⟨k.heap h.1, k.heap h.2.1, h.2.2.trans k⟩
theorem Bq.new (w : World) (v1 v2 : Value) : Bq w v1 v2 ((w.alloc (.cells #[v1, v2] 73)).alloc (.cells #[.int .i64 0, .int .i64 0, .int .i64 0, .int .i64 0] 25)) := by
  refine ⟨?_, ?_, ((Same.refl w).alloc _).alloc _⟩
  · rw [Below.heap_alloc _ _ _ (by simp)]
    exact heap_alloc_new w _
  · have := heap_alloc_new (w.alloc (.cells #[v1, v2] 73)) (.cells #[.int .i64 0, .int .i64 0, .int .i64 0, .int .i64 0] 25)
    simpa using this
structure BqC (b : Nat) (v1 v2 : Value) (w1 : World) : Prop where
  a0 : w1.cell? ⟨b, 0, none⟩ = some v1
  a1 : w1.cell? ⟨b, 1, none⟩ = some v2
  z0 : w1.cell? ⟨b + 1, 0, none⟩ = some (.int .i64 0)
  z1 : w1.cell? ⟨b + 1, 1, none⟩ = some (.int .i64 0)
  z2 : w1.cell? ⟨b + 1, 2, none⟩ = some (.int .i64 0)
  z3 : w1.cell? ⟨b + 1, 3, none⟩ = some (.int .i64 0)
  f0 : w1.frozen? ⟨b + 1, 0, none⟩ = false
  f1 : w1.frozen? ⟨b + 1, 1, none⟩ = false
  f2 : w1.frozen? ⟨b + 1, 2, none⟩ = false
  f3 : w1.frozen? ⟨b + 1, 3, none⟩ = false
theorem Bq.cells {w w1 : World} {v1 v2 : Value} (h : Bq w v1 v2 w1) : BqC w.heap.size v1 v2 w1 := by
  obtain ⟨h1, h2, _⟩ := h
  constructor
  all_goals first
    | (unfold World.cell?; rw [h1]; rfl)
    | (unfold World.cell?; rw [h2]; rfl)
    | (unfold World.frozen?; rw [h2]; rfl)
theorem Bq.done {w w1 : World} {v1 v2 : Value} (h : Bq w v1 v2 w1) (u0 u1 u2 u3 : Value) : Same w ((((w1.setCell ⟨w.heap.size + 1, 0, none⟩ u0).setCell ⟨w.heap.size + 1, 1, none⟩ u1).setCell ⟨w.heap.size + 1, 2, none⟩ u2).setCell ⟨w.heap.size + 1, 3, none⟩ u3) :=
  (((h.2.2.setCell (Nat.le_succ _) _).setCell (Nat.le_succ _) _).setCell (Nat.le_succ _) _).setCell (Nat.le_succ _) _
abbrev HeldT (s b1 o1 b2 o2 N P : Nat) (v1 v2 : Value) (x0 x1 : Int) (w0 w' : World) : Prop :=
  w'.cell? ⟨s, 0, none⟩ = some v1 ∧ w'.cell? ⟨s, 1, none⟩ = some v2 ∧ w'.cell? ⟨b2, o2 + N, none⟩ = some (.int .i64 P) ∧ w'.cell? ⟨b1, o1 + P * 4, none⟩ = some (.int .i64 x0) ∧ w'.cell? ⟨b1, o1 + P * 4 + 1, none⟩ = some (.int .i64 x1) ∧ Same w0 w'
theorem HeldT.keep {s b1 o1 b2 o2 N P : Nat} {v1 v2 : Value} {x0 x1 : Int} {w0 w1 w2 : World} (h : HeldT s b1 o1 b2 o2 N P v1 v2 x0 x1 w0 w1) (k : Same w1 w2) : HeldT s b1 o1 b2 o2 N P v1 v2 x0 x1 w0 w2 :=
  ⟨k.cell h.1, k.cell h.2.1, k.cell h.2.2.1, k.cell h.2.2.2.1, k.cell h.2.2.2.2.1, h.2.2.2.2.2.trans k⟩
set_option maxHeartbeats 4000000 in
set_option maxRecDepth 100000 in
theorem hears_any (w : World) (b1 o1 k1 b2 o2 k2 n N P : Nat) (c p : St) (slot : Int) (hN : N < n) (hP : P < n)
    (yc : YAt w b1 (o1 + N * 4) c) (yp : YAt w b1 (o1 + P * 4) p) (hp : w.cell? ⟨b2, o2 + N, none⟩ = some (.int .i64 P)) :
    Calls Try.prog 65 #[.agg #[.slice (some ⟨b1, o1, none⟩) n k1, .slice (some ⟨b2, o2, none⟩) n k2], .int .i64 N, .int .i64 slot] w
      fun e w' => e = .returned (.tuple #[vS (hrS c p slot).1, .int .i64 (hrS c p slot).2]) ∧ Same w w' := by
  have HYC := Lib.hid yc
  have hs1 := fun w => Send_is p.1 p.2.1 slot w
  have hh := fun w => Hear_any c.1 c.2.1 c.2.2.1 c.2.2.2 slot (sendS p.1 p.2.1 slot).1 w
  have hc := hr_cases c p slot
  have HN := Lib.hid (Bq.new w (.slice (some ⟨b1, o1, none⟩) n k1) (.slice (some ⟨b2, o2, none⟩) n k2))
  obtain ⟨a0, a1, z0, z1, z2, z3, f0, f1, f2, f3⟩ := HN.out.cells
  have HS0 := Lib.hid HN.out.2.2
  have q0 := HN.out.2.2.cell hp
  have q1 := HN.out.2.2.cell yp.1
  have q2 := HN.out.2.2.cell yp.2.1
  obtain ⟨p0, p1, p2, p3⟩ := p
  obtain ⟨c0, c1, c2, c3⟩ := c
  simp only at hs1 hh hc q1 q2
  rcases hc with ⟨e0, hr⟩ | ⟨e0, hr⟩ <;> rw [hr] <;> clear hr
  · generalize sendS p0 p1 slot = sd at *
    obtain ⟨T, E⟩ := sd
    simp only at e0 hs1 hh
    subst e0
    generalize heS c0 c1 c2 c3 slot T = r at *
    obtain ⟨⟨r0, r1, r2, r3⟩, re⟩ := r
    have H1 := Lib.hid hs1; clear hs1
    have H2 := Lib.hid hh; clear hh
    clear yc yp hp
    go_enter Try.func65, Try.ntmps65
    go_wp2
    generalize hW : (w.alloc (.cells #[.slice (some ⟨b1, o1, none⟩) n k1, .slice (some ⟨b2, o2, none⟩) n k2] 73)).alloc (.cells #[.int .i64 0, .int .i64 0, .int .i64 0, .int .i64 0] 25) = W0 at *
    go_region_held3 (fun w' => w'.cell? ⟨w.heap.size, 0, none⟩ = some (.slice (some ⟨b1, o1, none⟩) n k1) ∧ w'.cell? ⟨w.heap.size, 1, none⟩ = some (.slice (some ⟨b2, o2, none⟩) n k2) ∧ w'.cell? ⟨b2, o2 + N, none⟩ = some (.int .i64 P) ∧ w'.cell? ⟨b1, o1 + P * 4, none⟩ = some (.int .i64 p0) ∧ w'.cell? ⟨b1, o1 + P * 4 + 1, none⟩ = some (.int .i64 p1) ∧ Same W0 w')
      (first
        | exact ⟨a0, a1, q0, q1, q2, (Same.refl W0).drew⟩
        | exact HeldT.keep ⟨a0, a1, q0, q1, q2, (Same.refl W0).drew⟩ (by assumption)
        | exact HeldT.keep (by assumption) (by assumption)
        | assumption)
      (first
        | (go_at_call 32; (with_reducible refine (H1.out _).mono ?_); rintro e w5 ⟨rfl, hw⟩; replace hw := hw.toSame)
        | fail)
    have hfin := (by assumption : HeldT w.heap.size b1 o1 b2 o2 N P (.slice (some ⟨b1, o1, none⟩) n k1) (.slice (some ⟨b2, o2, none⟩) n k2) p0 p1 W0 w5).2.2.2.2.2
    have HB := Lib.hid (HN.out.keep hfin)
    clear hfin a0 a1 z0 z1 z2 z3 f0 f1 f2 f3 q0 q1 q2
    obtain ⟨a0, a1, z0, z1, z2, z3, f0, f1, f2, f3⟩ := HB.out.cells
    obtain ⟨y0, y1, y2, y3⟩ := HYC.out.same HB.out.2.2
    go_wp2_with (go_at_call 13; (with_reducible refine (H2.out _).mono ?_); rintro e w6 ⟨rfl, hw⟩; have HC := Lib.hid (HB.out.keep hw); clear hw HB a0 a1 z0 z1 z2 z3 f0 f1 f2 f3; obtain ⟨a0, a1, z0, z1, z2, z3, f0, f1, f2, f3⟩ := HC.out.cells)
    exact bodyPost_ret (v := .tuple #[.agg #[.int .i64 r0, .int .i64 r1, .int .i64 r2, .int .i64 r3], .int .i64 re]) (by simp [results, Try.results65, go_sem, z0, z1, z2, z3]) rfl ⟨rfl, HC.out.done _ _ _ _⟩
  · generalize sendS p0 p1 slot = sd at *
    obtain ⟨T, E⟩ := sd
    simp only at e0 hs1
    have H1 := Lib.hid hs1; clear hs1 hh
    clear yc yp hp
    go_enter Try.func65, Try.ntmps65
    go_wp2
    generalize hW : (w.alloc (.cells #[.slice (some ⟨b1, o1, none⟩) n k1, .slice (some ⟨b2, o2, none⟩) n k2] 73)).alloc (.cells #[.int .i64 0, .int .i64 0, .int .i64 0, .int .i64 0] 25) = W0 at *
    go_region_held3 (fun w' => w'.cell? ⟨w.heap.size, 0, none⟩ = some (.slice (some ⟨b1, o1, none⟩) n k1) ∧ w'.cell? ⟨w.heap.size, 1, none⟩ = some (.slice (some ⟨b2, o2, none⟩) n k2) ∧ w'.cell? ⟨b2, o2 + N, none⟩ = some (.int .i64 P) ∧ w'.cell? ⟨b1, o1 + P * 4, none⟩ = some (.int .i64 p0) ∧ w'.cell? ⟨b1, o1 + P * 4 + 1, none⟩ = some (.int .i64 p1) ∧ Same W0 w')
      (first
        | exact ⟨a0, a1, q0, q1, q2, (Same.refl W0).drew⟩
        | exact HeldT.keep ⟨a0, a1, q0, q1, q2, (Same.refl W0).drew⟩ (by assumption)
        | exact HeldT.keep (by assumption) (by assumption)
        | assumption)
      (first
        | (go_at_call 32; (with_reducible refine (H1.out _).mono ?_); rintro e w5 ⟨rfl, hw⟩; replace hw := hw.toSame)
        | fail)
    have hfin := (by assumption : HeldT w.heap.size b1 o1 b2 o2 N P (.slice (some ⟨b1, o1, none⟩) n k1) (.slice (some ⟨b2, o2, none⟩) n k2) p0 p1 W0 w5).2.2.2.2.2
    have HB := Lib.hid (HN.out.keep hfin)
    clear hfin a0 a1 z0 z1 z2 z3 f0 f1 f2 f3 q0 q1 q2
    obtain ⟨a0, a1, z0, z1, z2, z3, f0, f1, f2, f3⟩ := HB.out.cells
    go_wp2
    exact bodyPost_ret (v := nil4 E) (by simp [results, Try.results65, go_sem, z0, z1, z2, z3]) rfl ⟨rfl, HB.out.done _ _ _ _⟩
end Go.Proofs.Ytffcoeadpicohaa
