/- GuardMonotone: for all numbers the law returns true: growth, length, step and spread do not shrink with the time, the slots, the drift and the depths. No condition on the input. -/
import Derived.Test.YtkffmflhonknpaaSlots
import Derived.RegionTactic
import Derived.ChangeAlike
namespace Go.Proofs.Ytkffmflhonknpaa
open Go.RowKit

theorem ln_mono3 {n m d e : Int} (h1 : 0 ≤ n) (h : n ≤ m) (h2 : m ≤ 4096) (d1 : 0 ≤ d) (hd : d ≤ e) (d2 : e ≤ 100000) : lnS n d ≤ lnS m e := by
  have hm := ln_mono h (by omega : d ≤ 100000)
  refine Int.le_trans hm ?_
  obtain ⟨l1, _⟩ := ln_bd (n := m) (by omega) h2 d1 (by omega : d ≤ 100000)
  have hq : lnS m d * (1000000000 - d) ≤ (m * 10000 + 1) * 1000000000 + (1000000000 - d) - 1 := Int.ediv_mul_le _ (by omega)
  clear hm
  generalize lnS m d = q at *
  unfold lnS
  refine Int.le_ediv_of_mul_le (by omega) ?_
  have e1 : q * (1000000000 - e) = q * (1000000000 - d) - q * (e - d) := by
    rw [← Int.mul_sub]; congr 1; omega
  have e2 : 1 * (e - d) ≤ q * (e - d) := Int.mul_le_mul_of_nonneg_right l1 (by omega)
  omega
theorem gr_mono3 {t u d e : Int} (h1 : 0 ≤ t) (h : t ≤ u) (d1 : 0 ≤ d) (hd : d ≤ e) : grS t d ≤ grS u e :=
  Int.le_trans (gr_mono h d1) (gr_mono2 (by omega) hd)
theorem st_mono3 {n m d e : Int} (h1 : 0 ≤ n) (h : n ≤ m) (h2 : m ≤ 4096) (d1 : 0 ≤ d) (hd : d ≤ e) (d2 : e ≤ 100000) : stS n d ≤ stS m e := by
  have := ln_bd h1 (by omega : n ≤ 4096) d1 (by omega : d ≤ 100000)
  have := gr_mono3 (by omega) (ln_mono3 h1 h h2 d1 hd d2) d1 hd
  unfold stS; omega
theorem sp_mono3 {a b n m d e : Int} (ha : 0 ≤ a) (hb : a ≤ b) (h1 : 0 ≤ n) (h : n ≤ m) (h2 : m ≤ 4096) (d1 : 0 ≤ d) (hd : d ≤ e) (d2 : e ≤ 100000) : spS a a n d ≤ spS b b m e := by
  have x := st_mono3 h1 h h2 d1 hd d2
  have y := (st_bd h1 (by omega : n ≤ 4096) d1 (by omega : d ≤ 100000)).1
  unfold spS
  exact Int.le_trans (Int.mul_le_mul_of_nonneg_left x (by omega)) (Int.mul_le_mul_of_nonneg_right (by omega) (by omega))
namespace guardMonotone
/-- What the two boxes hold when k places are in order. -/
def lo (x y : Nat → Int) (k j : Nat) : Int := if j < k then min (x j) (y j) else x j
def hi (x y : Nat → Int) (k j : Nat) : Int := if j < k then max (x j) (y j) else y j
abbrev box (f : Nat → Int) : Obj := .cells #[.int .i64 (f 0), .int .i64 (f 1), .int .i64 (f 2), .int .i64 (f 3)] 44 (0, 0)
def Bm (w : World) (f g : Nat → Int) (w' : World) : Prop := w'.heap[w.heap.size]? = some (box f) ∧ w'.heap[w.heap.size + 1]? = some (box g) ∧ Same w w'
theorem heap_of {w w1 : World} (h : Same w w1) {k : Nat} {o : Obj} (e : w.heap[k]? = some o) : w1.heap[k]? = some o := by
  rw [h.block k (by have := (Array.getElem?_eq_some_iff.1 e).1; exact this)]; exact e
theorem Bm.keep {w w1 w2 : World} {f g : Nat → Int} (h : Bm w f g w1) (k : Same w1 w2) : Bm w f g w2 := ⟨heap_of k h.1, heap_of k h.2.1, h.2.2.trans k⟩
theorem Bm.new (w : World) (f g : Nat → Int) : Bm w f g ((w.alloc (box f)).alloc (box g)) := by
  refine ⟨?_, ?_, ((Same.refl w).alloc _).alloc _⟩
  · rw [Below.heap_alloc _ _ _ (by simp)]
    exact heap_alloc_new w _
  · have := heap_alloc_new (w.alloc (box f)) (box g)
    simpa using this
theorem Bm.cells {w w1 : World} {f g : Nat → Int} (h : Bm w f g w1) (k : Nat) (hk : k < 4) :
    w1.cell? ⟨w.heap.size, k, none⟩ = some (.int .i64 (f k)) ∧ w1.cell? ⟨w.heap.size + 1, k, none⟩ = some (.int .i64 (g k)) ∧ w1.frozen? ⟨w.heap.size, k, none⟩ = false ∧ w1.frozen? ⟨w.heap.size + 1, k, none⟩ = false := by
  obtain ⟨h1, h2, _⟩ := h
  match k, hk with
  | 0, _ | 1, _ | 2, _ | 3, _ =>
    refine ⟨?_, ?_, ?_, ?_⟩
    all_goals first
      | (unfold World.cell?; rw [h1]; rfl)
      | (unfold World.cell?; rw [h2]; rfl)
      | (unfold World.frozen?; rw [h1]; rfl)
      | (unfold World.frozen?; rw [h2]; rfl)
theorem lo_step (x y : Nat → Int) (k j : Nat) : lo x y (k + 1) j = if j = k then min (x k) (y k) else lo x y k j := by
  unfold lo
  by_cases e : j = k
  · subst e; rw [if_pos (by omega), if_pos rfl]
  · rw [if_neg e]
    by_cases e' : j < k
    · rw [if_pos (by omega), if_pos e']
    · rw [if_neg (by omega), if_neg e']
theorem hi_step (x y : Nat → Int) (k j : Nat) : hi x y (k + 1) j = if j = k then max (x k) (y k) else hi x y k j := by
  unfold hi
  by_cases e : j = k
  · subst e; rw [if_pos (by omega), if_pos rfl]
  · rw [if_neg e]
    by_cases e' : j < k
    · rw [if_pos (by omega), if_pos e']
    · rw [if_neg (by omega), if_neg e']
/-- No swap. -/
theorem Bm.stay {w w1 : World} {x y : Nat → Int} {k : Nat} (h : Bm w (lo x y k) (hi x y k) w1) (hle : x k ≤ y k) : Bm w (lo x y (k + 1)) (hi x y (k + 1)) w1 := by
  have a : lo x y (k + 1) = lo x y k := funext fun j => by
    rw [lo_step]
    by_cases e : j = k
    · subst e; rw [if_pos rfl]; unfold lo; rw [if_neg (Nat.lt_irrefl _)]; omega
    · rw [if_neg e]
  have b : hi x y (k + 1) = hi x y k := funext fun j => by
    rw [hi_step]
    by_cases e : j = k
    · subst e; rw [if_pos rfl]; unfold hi; rw [if_neg (Nat.lt_irrefl _)]; omega
    · rw [if_neg e]
  rw [a, b]; exact h
/-- A swap. -/
theorem Bm.swap {w w1 : World} {x y : Nat → Int} {k : Nat} (h : Bm w (lo x y k) (hi x y k) w1) (hk : k < 4) (hlt : y k < x k) :
    Bm w (lo x y (k + 1)) (hi x y (k + 1)) ((w1.setCell ⟨w.heap.size, k, none⟩ (.int .i64 (y k))).setCell ⟨w.heap.size + 1, k, none⟩ (.int .i64 (x k))) := by
  obtain ⟨h1, h2, h3⟩ := h
  have a : ∀ j, lo x y (k + 1) j = if j = k then y k else lo x y k j := fun j => by
    rw [lo_step]
    by_cases e : j = k
    · rw [if_pos e, if_pos e]; omega
    · rw [if_neg e, if_neg e]
  have b : ∀ j, hi x y (k + 1) j = if j = k then x k else hi x y k j := fun j => by
    rw [hi_step]
    by_cases e : j = k
    · rw [if_pos e, if_pos e]; omega
    · rw [if_neg e, if_neg e]
  refine ⟨?_, ?_, (h3.setCell (Nat.le_refl _) _).setCell (Nat.le_succ _) _⟩
  · rw [Below.heap_setCell _ _ _ _ (by simp), heap_setCell_same _ _ k _ _ _ h1]
    simp only [box, a]
    match k, hk with
    | 0, _ | 1, _ | 2, _ | 3, _ => rfl
  · have g2 : (w1.setCell ⟨w.heap.size, k, none⟩ (.int .i64 (y k))).heap[w.heap.size + 1]? = some (box (hi x y k)) := by
      rw [Below.heap_setCell _ _ _ _ (by simp)]; exact h2
    rw [heap_setCell_same _ _ k _ _ _ g2]
    simp only [box, b]
    match k, hk with
    | 0, _ | 1, _ | 2, _ | 3, _ => rfl
abbrev vec (f : Nat → Int) : Value := .agg #[.int .i64 (f 0), .int .i64 (f 1), .int .i64 (f 2), .int .i64 (f 3)]
set_option maxHeartbeats 1600000 in
theorem go (x y : Nat → Int) (a e b f c g d h m i n l : Int) (e1 : 0 ≤ e ∧ e ≤ 2) (f1 : 0 ≤ f ∧ f ≤ 2) (g1 : 0 ≤ g ∧ g ≤ 2) (h1 : 0 ≤ h ∧ h ≤ 2) (i1 : 0 ≤ i ∧ i ≤ 2) (l1 : 0 ≤ l ∧ l ≤ 2)
    (c1 : (e + f != 0) = true ∨ (e = 0 ∧ f = 0 ∧ 2 ≤ a ∧ a ≤ b)) (c2 : (g + h != 0) = true ∨ (g = 0 ∧ h = 0 ∧ 1 ≤ c ∧ c ≤ d)) (c3 : (i + l != 0) = true ∨ (i = 0 ∧ l = 0 ∧ 0 ≤ m ∧ m ≤ n)) (w : World)
    (H1 : ∀ w, Calls Try.prog 12 #[.int .i64 (lo x y 4 0), .int .i64 (lo x y 4 1)] w fun r w' => r = .returned (.tuple #[.int .i64 a, .int .i64 e]) ∧ w' = w)
    (H2 : ∀ w, Calls Try.prog 12 #[.int .i64 (hi x y 4 0), .int .i64 (hi x y 4 1)] w fun r w' => r = .returned (.tuple #[.int .i64 b, .int .i64 f]) ∧ w' = w)
    (H3 : ∀ w, Calls Try.prog 14 #[.int .i64 (lo x y 4 2), .int .i64 (lo x y 4 1)] w fun r w' => r = .returned (.tuple #[.int .i64 c, .int .i64 g]) ∧ w' = w)
    (H4 : ∀ w, Calls Try.prog 14 #[.int .i64 (hi x y 4 2), .int .i64 (hi x y 4 1)] w fun r w' => r = .returned (.tuple #[.int .i64 d, .int .i64 h]) ∧ w' = w)
    (H5 : ∀ w, Calls Try.prog 18 #[.int .i64 (lo x y 4 3), .int .i64 (lo x y 4 3), .int .i64 (lo x y 4 2), .int .i64 (lo x y 4 1)] w fun r w' => r = .returned (.tuple #[.int .i64 m, .int .i64 i]) ∧ w' = w)
    (H6 : ∀ w, Calls Try.prog 18 #[.int .i64 (hi x y 4 3), .int .i64 (hi x y 4 3), .int .i64 (hi x y 4 2), .int .i64 (hi x y 4 1)] w fun r w' => r = .returned (.tuple #[.int .i64 n, .int .i64 l]) ∧ w' = w) :
    Calls Try.prog 10 #[vec x, vec y] w fun r w' => r = .returned (.bool true) ∧ Same w w' := by
  have HAW := Lib.hid (fun w => gawake_any w)
  have K1 := Lib.hid H1; clear H1
  have K2 := Lib.hid H2; clear H2
  have K3 := Lib.hid H3; clear H3
  have K4 := Lib.hid H4; clear H4
  have K5 := Lib.hid H5; clear H5
  have K6 := Lib.hid H6; clear H6
  have C := Lib.hid (And.intro c1 (And.intro c2 c3)); clear c1 c2 c3
  go_enter Try.func10, Try.ntmps10
  go_wp2_with (go_at_call 11; (with_reducible refine (HAW.out _).mono ?_); rintro r w1 ⟨rfl, hw⟩; have HB := Lib.hid ((Bm.new w x y).keep hw); clear hw)
  go_loopw [20] (fun j wr => ∃ k : Nat, k ≤ 4 ∧ j = .int .i64 k ∧ Bm w (lo x y k) (hi x y k) wr) (fun j _ => 4 - (intOf j).toNat)
  case atStart => exact ⟨0, Nat.zero_le _, rfl, HB.out⟩
  case round =>
    obtain ⟨k, hk, rfl, hB⟩ := hrel
    have HBB := Lib.hid hB; clear hB
    by_cases hlt : k < 4
    · obtain ⟨k0, k1, f0, f1⟩ := HBB.out.cells k hlt
      rw [show lo x y k k = x k by unfold lo; rw [if_neg (Nat.lt_irrefl _)]] at k0
      rw [show hi x y k k = y k by unfold hi; rw [if_neg (Nat.lt_irrefl _)]] at k1
      by_cases hc : x k ≤ y k
      · have HS := Lib.hid (HBB.out.stay hc)
        clear HBB f0 f1
        generalize x k = p at *
        generalize y k = q at *
        go_wp2
        go_quiet (fail)
        go_wp2
        go_roundw
        case rel => exact ⟨k + 1, by omega, by go_num, HS.out.keep ((Same.refl _).drewN _)⟩
        case measure => simp [intOf]; omega
      · have hc' : y k < x k := by omega
        have HS := Lib.hid (fun nn => (HBB.out.keep ((Same.refl _).drewN nn)).swap hlt hc')
        clear HBB hc
        generalize x k = p at *
        generalize y k = q at *
        go_wp2
        go_quiet (fail)
        go_wp2
        go_region
        all_goals (go_wp2; go_roundw)
        case rel => exact ⟨k + 1, by omega, by go_num, HS.out _⟩
        case measure => simp [intOf]; omega
    · obtain rfl : k = 4 := by omega
      obtain ⟨k0, k1, _⟩ := HBB.out.cells 0 (by decide)
      obtain ⟨k2, k3, _⟩ := HBB.out.cells 1 (by decide)
      obtain ⟨k4, k5, _⟩ := HBB.out.cells 2 (by decide)
      obtain ⟨k6, k7, _⟩ := HBB.out.cells 3 (by decide)
      have HS := Lib.hid HBB.out.2.2; clear HBB
      generalize lo x y 4 0 = p0 at *
      generalize lo x y 4 1 = p1 at *
      generalize lo x y 4 2 = p2 at *
      generalize lo x y 4 3 = p3 at *
      generalize hi x y 4 0 = q0 at *
      generalize hi x y 4 1 = q1 at *
      generalize hi x y 4 2 = q2 at *
      generalize hi x y 4 3 = q3 at *
      obtain ⟨c1, c2, c3⟩ := C.out
      clear C HAW hlt hk
      obtain ⟨e1, e2⟩ := e1
      obtain ⟨f1, f2⟩ := f1
      obtain ⟨g1, g2⟩ := g1
      obtain ⟨h1, h2⟩ := h1
      obtain ⟨i1, i2⟩ := i1
      obtain ⟨l1, l2⟩ := l1
      rcases c1 with c1 | ⟨rfl, rfl, c1, c1'⟩ <;> rcases c2 with c2 | ⟨rfl, rfl, c2, c2'⟩ <;> rcases c3 with c3 | ⟨rfl, rfl, c3, c3'⟩
      all_goals
        go_wp2_with (first
          | (go_at_call 12; (with_reducible refine (K1.out _).mono ?_); rintro r w2 ⟨rfl, rfl⟩)
          | (go_at_call 12; (with_reducible refine (K2.out _).mono ?_); rintro r w2 ⟨rfl, rfl⟩)
          | (go_at_call 14; (with_reducible refine (K3.out _).mono ?_); rintro r w2 ⟨rfl, rfl⟩)
          | (go_at_call 14; (with_reducible refine (K4.out _).mono ?_); rintro r w2 ⟨rfl, rfl⟩)
          | (go_at_call 18; (with_reducible refine (K5.out _).mono ?_); rintro r w2 ⟨rfl, rfl⟩)
          | (go_at_call 18; (with_reducible refine (K6.out _).mono ?_); rintro r w2 ⟨rfl, rfl⟩))
        go_ret
        exact ⟨rfl, HS.out⟩
theorem lo_hi (x y : Nat → Int) (j : Nat) (hj : j < 4) : lo x y 4 j ≤ hi x y 4 j := by
  unfold lo hi; rw [if_pos hj, if_pos hj]; omega
theorem dich (e f : Int) (h : (e = 0 ∨ e = 2) ∧ (f = 0 ∨ f = 2)) : (e + f != 0) = true ∨ (e = 0 ∧ f = 0) := by
  rcases h with ⟨rfl | rfl, rfl | rfl⟩
  · exact .inr ⟨rfl, rfl⟩
  all_goals exact .inl rfl
theorem Gr_err (t d : Int) : (GrS t d).2 = 0 ∨ (GrS t d).2 = 2 := by rcases Gr_cases t d with ⟨_, _, h⟩ | ⟨_, h⟩ | ⟨_, _, h⟩ <;> rw [h] <;> simp
theorem Ln_err (t d : Int) : (LnS t d).2 = 0 ∨ (LnS t d).2 = 2 := by rcases Ln_cases t d with ⟨_, _, h⟩ | ⟨_, h⟩ | ⟨_, _, h⟩ <;> rw [h] <;> simp
theorem Sp_err (a b t d : Int) : (SpS a b t d).2 = 0 ∨ (SpS a b t d).2 = 2 := by rcases Sp_cases a b t d with ⟨_, _, _, _, _, _, h⟩ | ⟨_, h⟩ | ⟨_, _, h⟩ <;> rw [h] <;> simp
theorem bd_of {e : Int} (h : e = 0 ∨ e = 2) : 0 ≤ e ∧ e ≤ 2 := by omega
theorem Gr_ok {t d : Int} (h : (GrS t d).2 = 0) : (0 ≤ t ∧ t ≤ 1099511627776) ∧ (0 ≤ d ∧ d ≤ 100000) ∧ (GrS t d).1 = grS t d := by
  rcases Gr_cases t d with ⟨a, b, k⟩ | ⟨_, k⟩ | ⟨_, _, k⟩
  · rw [k]; exact ⟨inB_yes a, inB_yes b, rfl⟩
  all_goals rw [k] at h; exact absurd h (by decide)
theorem Ln_ok {t d : Int} (h : (LnS t d).2 = 0) : (0 ≤ t ∧ t ≤ 4096) ∧ (0 ≤ d ∧ d ≤ 100000) ∧ (LnS t d).1 = lnS t d := by
  rcases Ln_cases t d with ⟨a, b, k⟩ | ⟨_, k⟩ | ⟨_, _, k⟩
  · rw [k]; exact ⟨inB_yes a, inB_yes b, rfl⟩
  all_goals rw [k] at h; exact absurd h (by decide)
theorem Sp_ok {a b t d : Int} (h : (SpS a b t d).2 = 0) : (0 ≤ a ∧ a ≤ 32) ∧ (0 ≤ b ∧ b ≤ 32) ∧ (0 ≤ t ∧ t ≤ 4096) ∧ (0 ≤ d ∧ d ≤ 100000) ∧ (SpS a b t d).1 = spS a b t d := by
  rcases Sp_cases a b t d with ⟨_, a1, b1, _, t1, d1, k⟩ | ⟨_, k⟩ | ⟨_, _, k⟩
  · rw [k]; exact ⟨inB_yes a1, inB_yes b1, inB_yes t1, inB_yes d1, rfl⟩
  all_goals rw [k] at h; exact absurd h (by decide)
theorem both (x y : Nat → Int) (w : World) : Calls Try.prog 10 #[vec x, vec y] w fun r w' => r = .returned (.bool true) ∧ Same w w' := by
  have j0 := lo_hi x y 0 (by decide)
  have j1 := lo_hi x y 1 (by decide)
  have j2 := lo_hi x y 2 (by decide)
  have j3 := lo_hi x y 3 (by decide)
  refine go x y _ _ _ _ _ _ _ _ _ _ _ _ (bd_of (Gr_err _ _)) (bd_of (Gr_err _ _)) (bd_of (Ln_err _ _)) (bd_of (Ln_err _ _)) (bd_of (Sp_err _ _ _ _)) (bd_of (Sp_err _ _ _ _)) ?_ ?_ ?_ w
    (fun w => Growth_any _ _ w) (fun w => Growth_any _ _ w) (fun w => Length_any _ _ w) (fun w => Length_any _ _ w) (fun w => gSpread_any _ _ _ _ w) (fun w => gSpread_any _ _ _ _ w)
  · rcases dich _ _ ⟨Gr_err (lo x y 4 0) (lo x y 4 1), Gr_err (hi x y 4 0) (hi x y 4 1)⟩ with h | ⟨h, k⟩
    · exact .inl h
    · obtain ⟨a1, a2, a3⟩ := Gr_ok h
      obtain ⟨b1, b2, b3⟩ := Gr_ok k
      refine .inr ⟨h, k, ?_, ?_⟩
      · have := gprod a1.1 a1.2 a2.1 a2.2
        rw [a3]; unfold grS; omega
      · rw [a3, b3]; exact gr_mono3 a1.1 j0 a2.1 j1
  · rcases dich _ _ ⟨Ln_err (lo x y 4 2) (lo x y 4 1), Ln_err (hi x y 4 2) (hi x y 4 1)⟩ with h | ⟨h, k⟩
    · exact .inl h
    · obtain ⟨a1, a2, a3⟩ := Ln_ok h
      obtain ⟨b1, b2, b3⟩ := Ln_ok k
      refine .inr ⟨h, k, ?_, ?_⟩
      · rw [a3]; exact (ln_bd a1.1 a1.2 a2.1 a2.2).1
      · rw [a3, b3]; exact ln_mono3 a1.1 j2 b1.2 a2.1 j1 b2.2
  · rcases dich _ _ ⟨Sp_err (lo x y 4 3) (lo x y 4 3) (lo x y 4 2) (lo x y 4 1), Sp_err (hi x y 4 3) (hi x y 4 3) (hi x y 4 2) (hi x y 4 1)⟩ with h | ⟨h, k⟩
    · exact .inl h
    · obtain ⟨a1, a2, a3, a4, a5⟩ := Sp_ok h
      obtain ⟨b1, b2, b3, b4, b5⟩ := Sp_ok k
      refine .inr ⟨h, k, ?_, ?_⟩
      · rw [a5]; exact (sp_bd a1 a2 a3.1 a3.2 a4.1 a4.2).1
      · rw [a5, b5]; exact sp_mono3 a1.1 j3 a3.1 j2 b3.2 a4.1 j1 b4.2
def four (a b c d : Int) (j : Nat) : Int := match j with | 0 => a | 1 => b | 2 => c | _ => d
theorem walk (x0 x1 x2 x3 : Int) (_ : i64 x0) (_ : i64 x1) (_ : i64 x2) (_ : i64 x3) (y0 y1 y2 y3 : Int) (_ : i64 y0) (_ : i64 y1) (_ : i64 y2) (_ : i64 y3) (w : World) :
    Calls Try.prog 10 #[.agg #[.int .i64 x0, .int .i64 x1, .int .i64 x2, .int .i64 x3], .agg #[.int .i64 y0, .int .i64 y1, .int .i64 y2, .int .i64 y3]] w fun r w' => r = .returned (.bool true) ∧ Same w w' :=
  both (four x0 x1 x2 x3) (four y0 y1 y2 y3) w
open Go.ChangeShapes Go.WideShapes Go.ChangeAt
theorem own : ownKnob Try.prog.godebug = none := by kernel_rfl

set_option maxRecDepth 100000 in
theorem lifted (os : Os) (started : os.Started) (H : Type) (enc : TypeId × Value → H) :
    ReturnsInHanded {} Try.checked os 10 .any (Rows.guardMonotoneSpec.pre6 enc Try.prog Try.f10 Rows.guardMonotoneRow.domain false) (Rows.guardMonotoneSpec.post enc Try.prog Try.f10 false true false false) := by
  refine returnsInHanded_of_change (C := Try.checked) own started (by kernel_rfl) Try.func10
    (ChangeSpec.witness6 (enc := enc) (C := Try.checked) false ⟨#[], #[.agg #[.int .i64 0, .int .i64 0, .int .i64 0, .int .i64 0], .agg #[.int .i64 0, .int .i64 0, .int .i64 0, .int .i64 0]], []⟩ 8 (by kernel_rfl) (by kernel_rfl) (by kernel_rfl) (by kernel_rfl)) ?_
  intro W base args ds gs before hval0 hW hcnd _
  have hval : ∀ (j : Nat) t v, Try.f10.params[j]? = some t → args[j]? = some v → Value.okWide Try.prog W .any base t v := hval0
  have hW' := hW
  obtain ⟨p, q, hA0, hV, rfl, hfz, hnd⟩ := hW
  have hA : DataW.TrodAll enc Try.prog W 0 (fun _ => true) true Try.f10.params.toList args.toList ds p := hA0
  rw [Try.params10] at hA hval
  obtain ⟨v0, vs0, d0, ds0, p0, q0, hargs, rfl, rfl, h0, r0⟩ := trodAll_cons hA
  obtain ⟨v1, vs1, d1, ds1, p1, q1, rfl, rfl, rfl, h1, r1⟩ := trodAll_cons r0
  obtain ⟨rfl, rfl, rfl⟩ := trodAll_nil r1
  obtain rfl : args = #[v0, v1] := by cases args; simp_all
  obtain ⟨rfl, rfl⟩ := trodVars_none hV
  obtain ⟨x0, y0, z0, u0, rfl, bx0, be0, bz0, bu0⟩ := open_a4 (hval 0 44 v0 rfl rfl) h0
  obtain ⟨x1, y1, z1, u1, rfl, bx1, be1, bz1, bu1⟩ := open_a4 (hval 1 44 v1 rfl rfl) h1
  clear hA0 hval0
  try simp only [List.append_nil] at hW'
  try simp only [List.nil_append] at hW'
  have hlt : ∀ x ∈ p0 ++ p1, x.block < W.heap.size := fun x hx => by
    have := hW'.lt x (by simpa using hx)
    simpa using this
  refine (walk x0 y0 z0 u0 bx0 be0 bz0 bu0 x1 y1 z1 u1 bx1 be1 bz1 bu1 W).mono fun e W' ⟨he, hg⟩ => ?_
  subst he
  exact ⟨_, rfl, _, _, _, [], _, [], hW', trodAll_cons_mk (shut_bool Try.underlying4 _) trodAll_mk0, trodAll_cons_mk (Below.trod Try.laidOut (by kernel_rfl) (of_decide_eq_true (by kernel_rfl)) h0 (Same.toBelow hg) (fun x hx => hlt x (by simp [hx]))) (trodAll_cons_mk (Below.trod Try.laidOut (by kernel_rfl) (of_decide_eq_true (by kernel_rfl)) h1 (Same.toBelow hg) (fun x hx => hlt x (by simp [hx]))) trodAll_mk0), rfl, (Same.toBelow hg).frame _, fun h => by cases h⟩

theorem over : Rows.guardMonotoneRow.holds Try.pinned (OpenSpec.ofChange Rows.guardMonotoneSpec) :=
  OpenClaim.holds_of_wide 10 Try.f10 rfl rfl rfl rfl rfl rfl rfl ⟨rfl, rfl, rfl, rfl, rfl⟩ rfl rfl rfl rfl rfl (by kernel_rfl) Try.func10 (by kernel_rfl)
    (of_decide_eq_true (by kernel_rfl)) (by unfold Func.isWrapper; first | (rw [if_pos (by decide +kernel)]; kernel_rfl) | (rw [if_neg (by decide +kernel)]; exact ⟨rfl, rfl⟩))
    (fun os started H enc _ => lifted os started H enc)

theorem proved : Rows.GuardMonotoneSaid :=
  over
end guardMonotone
end Go.Proofs.Ytkffmflhonknpaa
