/- Correcting a state, by the package and by the reference. -/
import Derived.Test.YtffcoeadpicohaaT2
namespace Go.Proofs.Ytffcoeadpicohaa
open Go.RowKit Go.Lib Go.Sort

abbrev St := Int × Int × Int × Int
abbrev vS (x : St) : Value := .agg #[.int .i64 x.1, .int .i64 x.2.1, .int .i64 x.2.2.1, .int .i64 x.2.2.2]
/-- Correcting a state in a slot by k. -/
def coS (o d s c n k : Int) : St × Int :=
  if n ≤ s then ((0, 0, 0, 0), 5) else if inB k (-4999) 4999 = true then (if c = 4096 then ((0, 0, 0, 0), 13) else if (adjS o d k).2.2 = 0 then (((adjS o d k).1, (adjS o d k).2.1, n, c + 1), 0) else ((0, 0, 0, 0), (adjS o d k).2.2)) else ((0, 0, 0, 0), 15)
theorem co_cases (o d s c n k : Int) : (n ≤ s ∧ coS o d s c n k = ((0, 0, 0, 0), 5)) ∨ (s < n ∧ inB k (-4999) 4999 = false ∧ coS o d s c n k = ((0, 0, 0, 0), 15)) ∨ (s < n ∧ inB k (-4999) 4999 = true ∧ c = 4096 ∧ coS o d s c n k = ((0, 0, 0, 0), 13)) ∨
    (s < n ∧ inB k (-4999) 4999 = true ∧ c ≠ 4096 ∧ (adjS o d k).2.2 = 0 ∧ coS o d s c n k = (((adjS o d k).1, (adjS o d k).2.1, n, c + 1), 0)) ∨ (s < n ∧ inB k (-4999) 4999 = true ∧ c ≠ 4096 ∧ ((adjS o d k).2.2 != 0) = true ∧ coS o d s c n k = ((0, 0, 0, 0), (adjS o d k).2.2)) := by
  unfold coS
  by_cases h1 : n ≤ s
  · rw [if_pos h1]; exact .inl ⟨h1, rfl⟩
  · rw [if_neg h1]
    have h1' : s < n := by omega
    cases h2 : inB k (-4999) 4999 with
    | false => exact .inr (.inl ⟨h1', rfl, rfl⟩)
    | true =>
      rw [if_pos rfl]
      by_cases h3 : c = 4096
      · rw [if_pos h3]; exact .inr (.inr (.inl ⟨h1', rfl, h3, rfl⟩))
      · rw [if_neg h3]
        by_cases h4 : (adjS o d k).2.2 = 0
        · rw [if_pos h4]; exact .inr (.inr (.inr (.inl ⟨h1', rfl, h3, h4, rfl⟩)))
        · rw [if_neg h4]; exact .inr (.inr (.inr (.inr ⟨h1', rfl, h3, by simpa using h4, rfl⟩)))
/-- A state's box, and the result's. -/
def Bt (w : World) (o d s c : Int) (w' : World) : Prop :=
  w'.heap[w.heap.size]? = some (.cells #[.int .i64 o, .int .i64 d, .int .i64 s, .int .i64 c] 25 (0, 0)) ∧ w'.heap[w.heap.size + 1]? = some (.cells #[.int .i64 0, .int .i64 0, .int .i64 0, .int .i64 0] 25 (0, 0)) ∧ Same w w'
theorem Same.heap {w w1 : World} (h : Same w w1) {k : Nat} {o : Obj} (e : w.heap[k]? = some o) : w1.heap[k]? = some o := by
  rw [h.block k (by have := (Array.getElem?_eq_some_iff.1 e).1; exact this)]; exact e
theorem Bt.keep {w w1 w2 : World} {o d s c : Int} (h : Bt w o d s c w1) (k : Same w1 w2) : Bt w o d s c w2 := ⟨k.heap h.1, k.heap h.2.1, h.2.2.trans k⟩
theorem Bt.new (w : World) (o d s c : Int) : Bt w o d s c ((w.alloc (.cells #[.int .i64 o, .int .i64 d, .int .i64 s, .int .i64 c] 25)).alloc (.cells #[.int .i64 0, .int .i64 0, .int .i64 0, .int .i64 0] 25)) := by
  refine ⟨?_, ?_, ((Same.refl w).alloc _).alloc _⟩
  · rw [Below.heap_alloc _ _ _ (by simp)]
    exact heap_alloc_new w _
  · have := heap_alloc_new (w.alloc (.cells #[.int .i64 o, .int .i64 d, .int .i64 s, .int .i64 c] 25)) (.cells #[.int .i64 0, .int .i64 0, .int .i64 0, .int .i64 0] 25)
    simpa using this
structure BtC (b : Nat) (o d s c : Int) (w1 : World) : Prop where
  a0 : w1.cell? ⟨b, 0, none⟩ = some (.int .i64 o)
  a1 : w1.cell? ⟨b, 1, none⟩ = some (.int .i64 d)
  a2 : w1.cell? ⟨b, 2, none⟩ = some (.int .i64 s)
  a3 : w1.cell? ⟨b, 3, none⟩ = some (.int .i64 c)
  z0 : w1.cell? ⟨b + 1, 0, none⟩ = some (.int .i64 0)
  z1 : w1.cell? ⟨b + 1, 1, none⟩ = some (.int .i64 0)
  z2 : w1.cell? ⟨b + 1, 2, none⟩ = some (.int .i64 0)
  z3 : w1.cell? ⟨b + 1, 3, none⟩ = some (.int .i64 0)
  f0 : w1.frozen? ⟨b + 1, 0, none⟩ = false
  f1 : w1.frozen? ⟨b + 1, 1, none⟩ = false
  f2 : w1.frozen? ⟨b + 1, 2, none⟩ = false
  f3 : w1.frozen? ⟨b + 1, 3, none⟩ = false
theorem Bt.cells {w w1 : World} {o d s c : Int} (h : Bt w o d s c w1) : BtC w.heap.size o d s c w1 := by
  obtain ⟨h1, h2, _⟩ := h
  constructor
  all_goals first
    | (unfold World.cell?; rw [h1]; rfl)
    | (unfold World.cell?; rw [h2]; rfl)
    | (unfold World.frozen?; rw [h2]; rfl)
theorem Bt.done {w w1 : World} {o d s c : Int} (h : Bt w o d s c w1) (u0 u1 u2 u3 : Value) : Same w ((((w1.setCell ⟨w.heap.size + 1, 0, none⟩ u0).setCell ⟨w.heap.size + 1, 1, none⟩ u1).setCell ⟨w.heap.size + 1, 2, none⟩ u2).setCell ⟨w.heap.size + 1, 3, none⟩ u3) :=
  (((h.2.2.setCell (Nat.le_succ _) _).setCell (Nat.le_succ _) _).setCell (Nat.le_succ _) _).setCell (Nat.le_succ _) _
abbrev nil4 (e : Int) : Value := .tuple #[.agg #[.int .i64 0, .int .i64 0, .int .i64 0, .int .i64 0], .int .i64 e]
set_option maxHeartbeats 1000000 in
theorem corrected_any (o d s c n k : Int) (hc : 0 ≤ c ∧ c ≤ 4096) (w : World) : Calls Try.prog 48 #[.agg #[.int .i64 o, .int .i64 d, .int .i64 s, .int .i64 c], .int .i64 n, .int .i64 k] w
    fun e w' => e = .returned (.tuple #[vS (coS o d s c n k).1, .int .i64 (coS o d s c n k).2]) ∧ Same w w' := by
  have h1 := fun w => twithin_any k (-4999) 4999 w
  have h2 := fun w => Adjust_any o d k w
  obtain ⟨c1, c2⟩ := hc
  obtain ⟨a0, a1, a2, a3, z0, z1, z2, z3, f0, f1, f2, f3⟩ := (Bt.new w o d s c).cells
  have HN := Lib.hid (Bt.new w o d s c)
  rcases co_cases o d s c n k with ⟨x1, hs⟩ | ⟨x1, x2, hs⟩ | ⟨x1, x2, rfl, hs⟩ | ⟨x1, x2, x3, x4, hs⟩ | ⟨x1, x2, x3, x4, hs⟩ <;> rw [hs] <;> clear hs
  · clear h1 h2
    go_enter Try.func48, Try.ntmps48
    go_wp2
    exact bodyPost_ret (v := nil4 5) (by simp [results, Try.results48, go_sem, z0, z1, z2, z3]) rfl ⟨rfl, HN.out.2.2⟩
  · rw [x2] at h1
    have H1 := Lib.hid h1; clear h1 h2 x2
    go_enter Try.func48, Try.ntmps48
    go_wp2_with (go_at_call 51; (with_reducible refine (H1.out _).mono ?_); rintro e w1 ⟨rfl, rfl⟩)
    exact bodyPost_ret (v := nil4 15) (by simp [results, Try.results48, go_sem, z0, z1, z2, z3]) rfl ⟨rfl, HN.out.2.2⟩
  · rw [x2] at h1
    have H1 := Lib.hid h1; clear h1 h2 x2
    go_enter Try.func48, Try.ntmps48
    go_wp2_with (go_at_call 51; (with_reducible refine (H1.out _).mono ?_); rintro e w1 ⟨rfl, rfl⟩)
    exact bodyPost_ret (v := nil4 13) (by simp [results, Try.results48, go_sem, z0, z1, z2, z3]) rfl ⟨rfl, HN.out.2.2⟩
  · rw [x2] at h1
    have x3' : (c == 4096) = false := by simpa using x3
    generalize adjS o d k = q at *
    obtain ⟨q1, q2, q3⟩ := q
    simp only at x4
    subst x4
    have H1 := Lib.hid h1; clear h1 x2 x3
    have H2 := Lib.hid h2; clear h2
    go_enter Try.func48, Try.ntmps48
    go_wp2_with (first
      | (go_at_call 51; (with_reducible refine (H1.out _).mono ?_); rintro e w1 ⟨rfl, rfl⟩)
      | (go_at_call 63; (with_reducible refine (H2.out _).mono ?_); rintro e w2 ⟨rfl, hw⟩; have HB := Lib.hid ((HN.out.keep hw).keep ((Same.refl _).alloc (.cells #[.int .i64 q1, .int .i64 q2] 23))); clear hw a0 a1 a2 a3 z0 z1 z2 z3 f0 f1 f2 f3; obtain ⟨a0, a1, a2, a3, z0, z1, z2, z3, f0, f1, f2, f3⟩ := HB.out.cells))
    exact bodyPost_ret (v := .tuple #[.agg #[.int .i64 q1, .int .i64 q2, .int .i64 n, .int .i64 (c + 1)], .int .i64 0]) (by simp [results, Try.results48, go_sem, z0, z1, z2, z3]) rfl ⟨rfl, HB.out.done _ _ _ _⟩
  · rw [x2] at h1
    have x3' : (c == 4096) = false := by simpa using x3
    generalize adjS o d k = q at *
    obtain ⟨q1, q2, q3⟩ := q
    have H1 := Lib.hid h1; clear h1 x2 x3
    have H2 := Lib.hid h2; clear h2
    go_enter Try.func48, Try.ntmps48
    go_wp2_with (first
      | (go_at_call 51; (with_reducible refine (H1.out _).mono ?_); rintro e w1 ⟨rfl, rfl⟩)
      | (go_at_call 63; (with_reducible refine (H2.out _).mono ?_); rintro e w2 ⟨rfl, hw⟩; have HB := Lib.hid ((HN.out.keep hw).keep ((Same.refl _).alloc (.cells #[.int .i64 q1, .int .i64 q2] 23))); clear hw a0 a1 a2 a3 z0 z1 z2 z3 f0 f1 f2 f3; obtain ⟨a0, a1, a2, a3, z0, z1, z2, z3, f0, f1, f2, f3⟩ := HB.out.cells))
    exact bodyPost_ret (v := nil4 q3) (by simp [results, Try.results48, go_sem, z0, z1, z2, z3]) rfl ⟨rfl, HB.out.done _ _ _ _⟩
set_option maxHeartbeats 1000000 in
theorem correct2_any (o d s c n k : Int) (hc : 0 ≤ c ∧ c ≤ 4096) (w : World) : Calls Try.prog 49 #[.agg #[.int .i64 o, .int .i64 d, .int .i64 s, .int .i64 c], .int .i64 n, .int .i64 k] w
    fun e w' => e = .returned (.tuple #[vS (coS o d s c n k).1, .int .i64 (coS o d s c n k).2]) ∧ Same w w' := by
  have h2 := fun w => Adjust2_any o d k w
  obtain ⟨c1, c2⟩ := hc
  obtain ⟨a0, a1, a2, a3, z0, z1, z2, z3, f0, f1, f2, f3⟩ := (Bt.new w o d s c).cells
  have HN := Lib.hid (Bt.new w o d s c)
  rcases co_cases o d s c n k with ⟨x1, hs⟩ | ⟨x1, x2, hs⟩ | ⟨x1, x2, rfl, hs⟩ | ⟨x1, x2, x3, x4, hs⟩ | ⟨x1, x2, x3, x4, hs⟩ <;> rw [hs] <;> clear hs
  · clear h2
    go_enter Try.func49, Try.ntmps49
    go_wp2
    exact bodyPost_ret (v := nil4 5) (by simp [results, Try.results49, go_sem, z0, z1, z2, z3]) rfl ⟨rfl, HN.out.2.2⟩
  · have hh := inB_no x2
    clear h2 x2
    by_cases k1 : k ≤ -5000
    · clear hh
      go_enter Try.func49, Try.ntmps49
      go_wp2
      exact bodyPost_ret (v := nil4 15) (by simp [results, Try.results49, go_sem, z0, z1, z2, z3]) rfl ⟨rfl, HN.out.2.2⟩
    · have k2 : -5000 < k := by omega
      have k3 : 5000 ≤ k := by omega
      clear hh k1
      go_enter Try.func49, Try.ntmps49
      go_wp2
      exact bodyPost_ret (v := nil4 15) (by simp [results, Try.results49, go_sem, z0, z1, z2, z3]) rfl ⟨rfl, HN.out.2.2⟩
  · obtain ⟨k1, k2⟩ := inB_yes x2
    clear h2 x2
    go_enter Try.func49, Try.ntmps49
    go_wp2
    exact bodyPost_ret (v := nil4 13) (by simp [results, Try.results49, go_sem, z0, z1, z2, z3]) rfl ⟨rfl, HN.out.2.2⟩
  · obtain ⟨k1, k2⟩ := inB_yes x2
    have x3' : (c == 4096) = false := by simpa using x3
    generalize adjS o d k = q at *
    obtain ⟨q1, q2, q3⟩ := q
    simp only at x4
    subst x4
    have H2 := Lib.hid h2; clear h2 x2 x3
    go_enter Try.func49, Try.ntmps49
    go_wp2_with (go_at_call 64; (with_reducible refine (H2.out _).mono ?_); rintro e w2 ⟨rfl, hw⟩; have HB := Lib.hid ((HN.out.keep hw).keep ((Same.refl _).alloc (.cells #[.int .i64 q1, .int .i64 q2] 23))); clear hw a0 a1 a2 a3 z0 z1 z2 z3 f0 f1 f2 f3; obtain ⟨a0, a1, a2, a3, z0, z1, z2, z3, f0, f1, f2, f3⟩ := HB.out.cells)
    exact bodyPost_ret (v := .tuple #[.agg #[.int .i64 q1, .int .i64 q2, .int .i64 n, .int .i64 (c + 1)], .int .i64 0]) (by simp [results, Try.results49, go_sem, z0, z1, z2, z3]) rfl ⟨rfl, HB.out.done _ _ _ _⟩
  · obtain ⟨k1, k2⟩ := inB_yes x2
    have x3' : (c == 4096) = false := by simpa using x3
    generalize adjS o d k = q at *
    obtain ⟨q1, q2, q3⟩ := q
    have H2 := Lib.hid h2; clear h2 x2 x3
    go_enter Try.func49, Try.ntmps49
    go_wp2_with (go_at_call 64; (with_reducible refine (H2.out _).mono ?_); rintro e w2 ⟨rfl, hw⟩; have HB := Lib.hid ((HN.out.keep hw).keep ((Same.refl _).alloc (.cells #[.int .i64 q1, .int .i64 q2] 23))); clear hw a0 a1 a2 a3 z0 z1 z2 z3 f0 f1 f2 f3; obtain ⟨a0, a1, a2, a3, z0, z1, z2, z3, f0, f1, f2, f3⟩ := HB.out.cells)
    exact bodyPost_ret (v := nil4 q3) (by simp [results, Try.results49, go_sem, z0, z1, z2, z3]) rfl ⟨rfl, HB.out.done _ _ _ _⟩
end Go.Proofs.Ytffcoeadpicohaa
