/- End, Fits and Late of package guard, over any contract of what they call: method values. -/
import Derived.Test.YtkffmflhonknpaaCalls5
import Derived.OwnWalk
namespace Go.Proofs.Ytkffmflhonknpaa
open Go.RowKit Go.Lib Go.Sort

abbrev CSend (o d n x e : Int) : Prop := ∀ w, Calls Try.prog 33 #[.agg #[.int .i64 o, .int .i64 d], .int .i64 n] w fun r w' => r = .returned (.tuple #[.int .i64 x, .int .i64 e]) ∧ Grew w w'
abbrev CWin (o d n f l e : Int) : Prop := ∀ w, Calls Try.prog 58 #[.agg #[.int .i64 o, .int .i64 d], .int .i64 n] w fun r w' => r = .returned (.tuple #[.int .i64 f, .int .i64 l, .int .i64 e]) ∧ Grew w w'
abbrev CShow (o d t x e : Int) : Prop := ∀ w, Calls Try.prog 32 #[.agg #[.int .i64 o, .int .i64 d], .int .i64 t] w fun r w' => r = .returned (.tuple #[.int .i64 x, .int .i64 e]) ∧ Grew w w'
theorem tsend_of {o d n x e : Int} (h : CSend o d n x e) (w : World) : Calls Try.prog 48 #[.agg #[.int .i64 o, .int .i64 d], .int .i64 n] w fun r w' => r = .returned (.tuple #[.int .i64 x, .int .i64 e]) ∧ Grew w w' := by
  have H1 := Lib.hid h; clear h
  go_enter Try.func48, Try.ntmps48
  go_wp2_with (go_at_call 33; (with_reducible refine (H1.out _).mono ?_); rintro r w1 ⟨rfl, hw⟩; have HB := Lib.hid ((Bx.new w o d 52).keep hw); clear hw)
  go_ret2
  exact ⟨rfl, HB.out.2.2⟩
theorem twindow_of {o d n f l e : Int} (h : CWin o d n f l e) (w : World) : Calls Try.prog 49 #[.agg #[.int .i64 o, .int .i64 d], .int .i64 n] w fun r w' => r = .returned (.tuple #[.int .i64 f, .int .i64 l, .int .i64 e]) ∧ Grew w w' := by
  have H1 := Lib.hid h; clear h
  go_enter Try.func49, Try.ntmps49
  go_wp2_with (go_at_call 58; (with_reducible refine (H1.out _).mono ?_); rintro r w1 ⟨rfl, hw⟩; have HB := Lib.hid ((Bx.new w o d 52).keep hw); clear hw)
  go_ret3
  exact ⟨rfl, HB.out.2.2⟩
/-- A slot's end. -/
def enF (x e : Int) : Int × Int := if e = 0 then (if 1099511621688 < x then (0, 15) else (x + 6088, 0)) else (0, e)
theorem en_cases (x e : Int) : (e = 0 ∧ 1099511621688 < x ∧ enF x e = (0, 15)) ∨ (e = 0 ∧ x ≤ 1099511621688 ∧ enF x e = (x + 6088, 0)) ∨ ((e != 0) = true ∧ enF x e = (0, e)) := by
  unfold enF
  by_cases h : e = 0
  · rw [if_pos h]
    by_cases k : 1099511621688 < x
    · rw [if_pos k]; exact .inl ⟨h, k, rfl⟩
    · rw [if_neg k]; exact .inr (.inl ⟨h, by omega, rfl⟩)
  · rw [if_neg h]; exact .inr (.inr ⟨by simpa using h, rfl⟩)
theorem tend_of {o d n x e : Int} (h : CSend o d n x e) (hx : 0 ≤ x ∧ x ≤ 1099511627776) (w : World) : Calls Try.prog 45 #[.agg #[.int .i64 o, .int .i64 d], .int .i64 n] w fun r w' => r = .returned (.tuple #[.int .i64 (enF x e).1, .int .i64 (enF x e).2]) ∧ Grew w w' := by
  obtain ⟨x1, x2⟩ := hx
  have h1 := fun w => tsend_of h w
  clear h
  rcases en_cases x e with ⟨rfl, a, hs⟩ | ⟨rfl, a, hs⟩ | ⟨a, hs⟩ <;> rw [hs] <;> clear hs
  all_goals
    have H1 := Lib.hid h1; clear h1
    go_enter Try.func45, Try.ntmps45
    go_wp2_with (go_at_call 48; (with_reducible refine (H1.out _).mono ?_); rintro r w1 ⟨rfl, hw⟩; have HB := Lib.hid ((Bx.new w o d 52).keep hw); clear hw)
    go_ret2
    exact ⟨rfl, HB.out.2.2⟩
theorem End_of {o d n x e : Int} (h : CSend o d n x e) (hx : 0 ≤ x ∧ x ≤ 1099511627776) (w : World) : Calls Try.prog 22 #[.agg #[.int .i64 o, .int .i64 d], .int .i64 n] w fun r w' => r = .returned (.tuple #[.int .i64 (enF x e).1, .int .i64 (enF x e).2]) ∧ Grew w w' := by
  have hmf : ∀ (fn : Fn) (first cap : Array Value) (w : World), (Instr.makeFunc fn first cap).run Try.prog w = .ok (.func fn first cap) w := fun _ _ _ _ => rfl
  have H1 := Lib.hid (fun w => tend_of h hx w)
  clear h hx
  generalize enF x e = q at *
  obtain ⟨q1, q2⟩ := q
  go_enter Try.func22, Try.ntmps22
  go_wp2_with (go_at_call 45; (with_reducible refine (H1.out _).mono ?_); rintro r w1 ⟨rfl, hw⟩; have HB := Lib.hid ((Bx.new w o d 31).keep hw); clear hw)
  go_ret2
  exact ⟨rfl, HB.out.2.2⟩
abbrev CSend2 (o d n x e : Int) : Prop := ∀ w, Calls Try.prog 46 #[.agg #[.int .i64 o, .int .i64 d], .int .i64 n] w fun r w' => r = .returned (.tuple #[.int .i64 x, .int .i64 e]) ∧ Grew w w'
abbrev CWin2 (o d n f l e : Int) : Prop := ∀ w, Calls Try.prog 50 #[.agg #[.int .i64 o, .int .i64 d], .int .i64 n] w fun r w' => r = .returned (.tuple #[.int .i64 f, .int .i64 l, .int .i64 e]) ∧ Grew w w'
abbrev CAt2 (o d t x : Int) : Prop := ∀ w, Calls Try.prog 51 #[.agg #[.int .i64 o, .int .i64 d], .int .i64 t] w fun r w' => r = .returned (.int .i64 x) ∧ Grew w w'
theorem End2_of {o d n x e : Int} (h : CSend2 o d n x e) (hx : 0 ≤ x ∧ x ≤ 1099511627776) (w : World) : Calls Try.prog 23 #[.agg #[.int .i64 o, .int .i64 d], .int .i64 n] w fun r w' => r = .returned (.tuple #[.int .i64 (enF x e).1, .int .i64 (enF x e).2]) ∧ Grew w w' := by
  obtain ⟨x1, x2⟩ := hx
  rcases en_cases x e with ⟨rfl, a, hs⟩ | ⟨rfl, a, hs⟩ | ⟨a, hs⟩ <;> rw [hs] <;> clear hs
  · have H1 := Lib.hid h; clear h
    have a' : 1099511627776 < x + 4256 + 1000 + 832 := by omega
    go_enter Try.func23, Try.ntmps23
    go_wp2_with (go_at_call 46; (with_reducible refine (H1.out _).mono ?_); rintro r w1 ⟨rfl, hw⟩; have HB := Lib.hid ((Bx.new w o d 31).keep hw); clear hw)
    go_ret2
    exact ⟨rfl, HB.out.2.2⟩
  · have H1 := Lib.hid h; clear h
    have a' : x + 4256 + 1000 + 832 ≤ 1099511627776 := by omega
    go_enter Try.func23, Try.ntmps23
    go_wp2_with (go_at_call 46; (with_reducible refine (H1.out _).mono ?_); rintro r w1 ⟨rfl, hw⟩; have HB := Lib.hid ((Bx.new w o d 31).keep hw); clear hw)
    go_ret2
    exact ⟨ret2_i64 (by omega) rfl, HB.out.2.2⟩
  · have H1 := Lib.hid h; clear h
    go_enter Try.func23, Try.ntmps23
    go_wp2_with (go_at_call 46; (with_reducible refine (H1.out _).mono ?_); rintro r w1 ⟨rfl, hw⟩; have HB := Lib.hid ((Bx.new w o d 31).keep hw); clear hw)
    go_ret2
    exact ⟨rfl, HB.out.2.2⟩
/-- The result's box of arrive. -/
def Ar (w : World) (w' : World) : Prop := w'.heap[w.heap.size]? = some (.cells #[.int .i64 0, .int .i64 0, .int .i64 0] 54 (0, 0)) ∧ Grew w w'
theorem Ar.keep {w w1 w2 : World} (h : Ar w w1) (k : Grew w1 w2) : Ar w w2 := ⟨k.heap h.1, h.2.trans k⟩
theorem Ar.new (w : World) : Ar w (w.alloc (.cells #[.int .i64 0, .int .i64 0, .int .i64 0] 54)) := ⟨heap_alloc_new w _, (Grew.refl w).alloc _⟩
theorem Ar.cells {w w1 : World} (h : Ar w w1) :
    w1.cell? ⟨w.heap.size, 0, none⟩ = some (.int .i64 0) ∧ w1.cell? ⟨w.heap.size, 1, none⟩ = some (.int .i64 0) ∧ w1.cell? ⟨w.heap.size, 2, none⟩ = some (.int .i64 0) ∧
    w1.frozen? ⟨w.heap.size, 0, none⟩ = false ∧ w1.frozen? ⟨w.heap.size, 1, none⟩ = false ∧ w1.frozen? ⟨w.heap.size, 2, none⟩ = false := by
  obtain ⟨h1, _⟩ := h
  refine ⟨?_, ?_, ?_, ?_, ?_, ?_⟩
  all_goals first
    | (unfold World.cell?; rw [h1]; rfl)
    | (unfold World.frozen?; rw [h1]; rfl)
/-- What arrive gives. -/
def arF (x e f l e' : Int) : (Int × Int × Int) × Int := if e = 0 then (if e' = 0 then ((x, f, l), 0) else ((0, 0, 0), e')) else ((0, 0, 0), e)
theorem ar_cases (x e f l e' : Int) : (e = 0 ∧ e' = 0 ∧ arF x e f l e' = ((x, f, l), 0)) ∨ (e = 0 ∧ (e' != 0) = true ∧ arF x e f l e' = ((0, 0, 0), e')) ∨ ((e != 0) = true ∧ arF x e f l e' = ((0, 0, 0), e)) := by
  unfold arF
  by_cases h : e = 0
  · rw [if_pos h]
    by_cases k : e' = 0
    · rw [if_pos k]; exact .inl ⟨h, k, rfl⟩
    · rw [if_neg k]; exact .inr (.inl ⟨h, by simpa using k, rfl⟩)
  · rw [if_neg h]; exact .inr (.inr ⟨by simpa using h, rfl⟩)
theorem arrive_of {o d o' d' n x e f l e' : Int} (h1 : CSend o d n x e) (h2 : CWin o' d' n f l e') (w : World) :
    Calls Try.prog 47 #[.int .i64 n, .func (.func 48) #[.agg #[.int .i64 o, .int .i64 d]] #[], .func (.func 49) #[.agg #[.int .i64 o', .int .i64 d']] #[]] w
      fun r w' => r = .returned (.tuple #[.agg #[.int .i64 (arF x e f l e').1.1, .int .i64 (arF x e f l e').1.2.1, .int .i64 (arF x e f l e').1.2.2], .int .i64 (arF x e f l e').2]) ∧ Same w w' := by
  have k1 := fun w => tsend_of h1 w
  have k2 := fun w => twindow_of h2 w
  clear h1 h2
  rcases ar_cases x e f l e' with ⟨rfl, rfl, hs⟩ | ⟨rfl, a, hs⟩ | ⟨a, hs⟩ <;> rw [hs] <;> clear hs
  · have H1 := Lib.hid k1; clear k1
    have H2 := Lib.hid k2; clear k2
    go_enter Try.func47, Try.ntmps47
    go_wp2_with (first
      | (go_at_call 48; (with_reducible refine (H1.out _).mono ?_); rintro r w1 ⟨rfl, hw⟩; have HB := Lib.hid ((Ar.new w).keep hw); clear hw)
      | (go_at_call 49; (with_reducible refine (H2.out _).mono ?_); rintro r w2 ⟨rfl, hw⟩; have HC := Lib.hid (HB.out.keep hw); clear hw HB; obtain ⟨c0, c1, c2, f0, f1, f2⟩ := HC.out.cells))
    exact bodyPost_ret (v := .tuple #[.agg #[.int .i64 x, .int .i64 f, .int .i64 l], .int .i64 0]) (by simp [results, Try.results47, go_sem, c0, c1, c2]) rfl ⟨rfl, ((HC.out.2.toSame.setCell (Nat.le_refl _) _).setCell (Nat.le_refl _) _).setCell (Nat.le_refl _) _⟩
  · have H1 := Lib.hid k1; clear k1
    have H2 := Lib.hid k2; clear k2
    go_enter Try.func47, Try.ntmps47
    go_wp2_with (first
      | (go_at_call 48; (with_reducible refine (H1.out _).mono ?_); rintro r w1 ⟨rfl, hw⟩; have HB := Lib.hid ((Ar.new w).keep hw); clear hw)
      | (go_at_call 49; (with_reducible refine (H2.out _).mono ?_); rintro r w2 ⟨rfl, hw⟩; have HC := Lib.hid (HB.out.keep hw); clear hw HB; obtain ⟨c0, c1, c2, f0, f1, f2⟩ := HC.out.cells))
    exact bodyPost_ret (v := .tuple #[.agg #[.int .i64 0, .int .i64 0, .int .i64 0], .int .i64 e']) (by simp [results, Try.results47, go_sem, c0, c1, c2]) rfl ⟨rfl, ((HC.out.2.toSame.setCell (Nat.le_refl _) _).setCell (Nat.le_refl _) _).setCell (Nat.le_refl _) _⟩
  · have H1 := Lib.hid k1; clear k1 k2
    go_enter Try.func47, Try.ntmps47
    go_wp2_with (go_at_call 48; (with_reducible refine (H1.out _).mono ?_); rintro r w1 ⟨rfl, hw⟩; have HC := Lib.hid ((Ar.new w).keep hw); clear hw; obtain ⟨c0, c1, c2, f0, f1, f2⟩ := HC.out.cells)
    exact bodyPost_ret (v := .tuple #[.agg #[.int .i64 0, .int .i64 0, .int .i64 0], .int .i64 e]) (by simp [results, Try.results47, go_sem, c0, c1, c2]) rfl ⟨rfl, ((HC.out.2.toSame.setCell (Nat.le_refl _) _).setCell (Nat.le_refl _) _).setCell (Nat.le_refl _) _⟩
end Go.Proofs.Ytkffmflhonknpaa
