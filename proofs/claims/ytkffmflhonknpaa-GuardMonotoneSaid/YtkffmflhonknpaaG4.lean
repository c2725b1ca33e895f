/- Slots of package guard, and of the reference: the two searches. -/
import Derived.Test.YtkffmflhonknpaaG3
namespace Go.Proofs.Ytkffmflhonknpaa
open Go.RowKit Go.Lib Go.Sort

theorem gsearch_any (a b d : Int) (hok : OkS a b d) (r : Nat) (hr : IsS a b d r) (A B D : Nat) (w : World) (ca : w.cell? ⟨A, 0, none⟩ = some (.int .i64 a)) (cb : w.cell? ⟨B, 0, none⟩ = some (.int .i64 b)) (cd : w.cell? ⟨D, 0, none⟩ = some (.int .i64 d)) :
    Calls Try.prog 43 #[.int .i64 4097, .func (.func 44) #[] #[.pointer (some ⟨A, 0, none⟩), .pointer (some ⟨B, 0, none⟩), .pointer (some ⟨D, 0, none⟩)]] w fun e w' => e = .returned (.int .i64 r) ∧ Grew w w' := by
  have eg : ∀ args w, (callFunc 44 args).run Try.prog w = .ok (.enter 44 args) w := enters_of Try.func44 (by kernel_rfl) rfl
  have hS := Any.sort_Search Try.laysSearch 44 #[.pointer (some ⟨A, 0, none⟩), .pointer (some ⟨B, 0, none⟩), .pointer (some ⟨D, 0, none⟩)] 4097 (fun i => decide (1100 < spS a b i d)) w eg (by decide)
    (fun m os i hi => gSlotsC_any a b d i hok (by omega) (by omega) A B D _ (cell_grown (World.block_lt_of_cell? _ _ ca) ca m os) (cell_grown (World.block_lt_of_cell? _ _ cb) cb m os) (cell_grown (World.block_lt_of_cell? _ _ cd) cd m os))
    (fun i j hij hb h => by have := sp_mono (n := i) (m := j) hok.a1 hok.b1 (by omega) hok.d1 hok.d2; simp at h ⊢; omega)
  change Calls Try.prog 43 _ _ _ at hS
  rw [hr.cnt hok] at hS
  exact hS
theorem Sl_cases (a b d : Int) (r : Nat) : ((depB a && depB b) = true ∧ drB d = true ∧ okS a b d = true ∧ SlS a b d r = if r = 0 then (0, 16) else ((r : Int) - 1, 0)) ∨ ((depB a && depB b) = false ∧ SlS a b d r = (0, 2)) ∨ ((depB a && depB b) = true ∧ drB d = false ∧ SlS a b d r = (0, 2)) := by
  unfold SlS okS; cases depB a <;> cases depB b <;> cases drB d <;> simp
abbrev wS (w : World) (a b d : Int) : World := ((w.alloc (.cells #[.int .i64 a] 3)).alloc (.cells #[.int .i64 b] 3)).alloc (.cells #[.int .i64 d] 3)
theorem grewS (w : World) (a b d : Int) : Grew w (wS w a b d) := (((Grew.refl w).alloc _).alloc _).alloc _
theorem gSlots_any (a b d : Int) (r : Nat) (hr : okS a b d = true → IsS a b d r) (w : World) : Calls Try.prog 20 #[.int .i64 a, .int .i64 b, .int .i64 d] w fun e w' => e = .returned (.tuple #[.int .i64 (SlS a b d r).1, .int .i64 (SlS a b d r).2]) ∧ Grew w w' := by
  have h1 := fun w => areDepths_any a b w
  have h2 := fun w => gwD d w
  rcases Sl_cases a b d r with ⟨c, k, ok, hs⟩ | ⟨c, hs⟩ | ⟨c, k, hs⟩ <;> rw [hs] <;> rw [c] at h1 <;> clear hs
  · rw [k] at h2
    have hrr := hr ok
    have hok := okS_of ok
    have h3 := gsearch_any a b d hok r hrr w.heap.size (w.heap.size + 1) (w.heap.size + 2) (wS w a b d) (by go_simp) (by go_simp) (by go_simp)
    have hle := hrr.1
    have H1 := Lib.hid h1; clear h1
    have H2 := Lib.hid h2; clear h2
    have H3 := Lib.hid h3; clear h3 c k ok hrr hok hr
    by_cases z : r = 0
    · subst z
      rw [if_pos rfl]
      go_enter Try.func20, Try.ntmps20
      go_wp2_with (first | (go_at_call 42; ((with_reducible refine (H1.out _).mono ?_)); rintro e w' ⟨rfl, rfl⟩) | (go_at_call 34; ((with_reducible refine (H2.out _).mono ?_)); rintro e w' ⟨rfl, rfl⟩) | (go_at_call 43; (refine H3.out.mono ?_); rintro e w1 ⟨rfl, hw⟩; have HW := Lib.hid ((grewS w a b d).trans hw); clear hw))
      go_ret2
      exact ⟨rfl, HW.out⟩
    · rw [if_neg z]
      have z1 : 1 ≤ r := by omega
      clear z
      go_enter Try.func20, Try.ntmps20
      go_wp2_with (first | (go_at_call 42; ((with_reducible refine (H1.out _).mono ?_)); rintro e w' ⟨rfl, rfl⟩) | (go_at_call 34; ((with_reducible refine (H2.out _).mono ?_)); rintro e w' ⟨rfl, rfl⟩) | (go_at_call 43; (refine H3.out.mono ?_); rintro e w1 ⟨rfl, hw⟩; have HW := Lib.hid ((grewS w a b d).trans hw); clear hw))
      go_ret2
      exact ⟨rfl, HW.out⟩
  · have H1 := Lib.hid h1; clear h1 h2 c hr
    go_enter Try.func20, Try.ntmps20
    go_wp2_with (first | (go_at_call 42; ((with_reducible refine (H1.out _).mono ?_)); rintro e w' ⟨rfl, rfl⟩))
    go_ret2
    exact ⟨rfl, grewS w a b d⟩
  · rw [k] at h2
    have H1 := Lib.hid h1; clear h1
    have H2 := Lib.hid h2; clear h2 c k hr
    go_enter Try.func20, Try.ntmps20
    go_wp2_with (first | (go_at_call 42; ((with_reducible refine (H1.out _).mono ?_)); rintro e w' ⟨rfl, rfl⟩) | (go_at_call 34; ((with_reducible refine (H2.out _).mono ?_)); rintro e w' ⟨rfl, rfl⟩))
    go_ret2
    exact ⟨rfl, grewS w a b d⟩
theorem SpS_ok {a b d : Int} (hok : okS a b d = true) (n : Int) (n1 : 0 ≤ n) (n2 : n ≤ 4096) : SpS a b n d = (spS a b n d, 0) := by
  unfold okS at hok
  unfold SpS
  have : slotsB n = true := by simp [slotsB, inB]; omega
  rw [this, Bool.true_and, if_pos hok]
theorem SpS_no {a b d : Int} (hok : okS a b d = false) (n : Int) : SpS a b n d = (0, 2) := by
  unfold okS at hok
  unfold SpS
  rw [if_neg]
  cases slotsB n <;> simp [hok]
theorem gSlots2_any (a b d : Int) (r : Nat) (hr : okS a b d = true → IsS a b d r) (w : World) : Calls Try.prog 21 #[.int .i64 a, .int .i64 b, .int .i64 d] w fun e w' => e = .returned (.tuple #[.int .i64 (SlS a b d r).1, .int .i64 (SlS a b d r).2]) ∧ Grew w w' := by
  cases ok : okS a b d with
  | true =>
    obtain ⟨hr1, hr2⟩ := hr ok
    have hok := okS_of ok
    have h3 := fun (n : Nat) (k : n ≤ 4096) (w : World) => gSpread2_any a b n d w
    have h4 : ∀ (n : Nat) (k : n ≤ 4096) (w : World), Calls Try.prog 19 #[.int .i64 a, .int .i64 b, .int .i64 n, .int .i64 d] w fun e w' => e = .returned (.tuple #[.int .i64 (spS a b n d), .int .i64 0]) ∧ w' = w := fun n k w => by
      have := h3 n k w
      rw [SpS_ok ok n (by omega) (by omega)] at this
      exact this
    clear h3
    have h0 := h4 0 (by decide)
    have hs0 := hr2 0 (by decide)
    rw [show SlS a b d r = if r = 0 then (0, 16) else ((r : Int) - 1, 0) from if_pos ok]
    have s0 := sp_bd (n := 0) (d := d) ⟨hok.a1, hok.a2⟩ ⟨hok.b1, hok.b2⟩ (by decide) (by decide) hok.d1 hok.d2
    change ∀ (w : World), Calls Try.prog 19 #[.int .i64 a, .int .i64 b, .int .i64 0, .int .i64 d] w fun e w' => e = .returned (.tuple #[.int .i64 (spS a b 0 d), .int .i64 0]) ∧ w' = w at h0
    change 0 < r ↔ spS a b 0 d ≤ 1100 at hs0
    generalize spS a b 0 d = q at *
    have H2 := Lib.hid hr2
    have H4 := Lib.hid h4
    have H0 := Lib.hid h0
    clear hr2 h4 h0 ok hok hr
    by_cases z : r = 0
    · subst z
      rw [if_pos rfl]
      have hq : 1100 < q := by omega
      clear hs0 H2 H4 hr1
      go_enter Try.func21, Try.ntmps21
      go_wp2_with (go_at_call 19; ((with_reducible refine (H0.out _).mono ?_)); rintro e w' ⟨rfl, rfl⟩)
      go_ret2
      exact ⟨rfl, Grew.refl _⟩
    · rw [if_neg z]
      have z1 : 0 < r := by omega
      have hq : q ≤ 1100 := hs0.1 z1
      clear hs0 z
      go_enter Try.func21, Try.ntmps21
      go_wp2_with (go_at_call 19; ((with_reducible refine (H0.out _).mono ?_)); rintro e w' ⟨rfl, rfl⟩)
      clear H0 hq s0
      go_loopw [10, 11] (fun lo hi wr => ∃ l h : Nat, lo = .int .i64 l ∧ hi = .int .i64 h ∧ l < r ∧ r ≤ h + 1 ∧ h ≤ 4096 ∧ wr = w') (fun lo hi _ => (intOf hi).toNat - (intOf lo).toNat)
      case atStart => exact ⟨0, 4096, rfl, rfl, z1, hr1, Nat.le_refl _, rfl⟩
      case round =>
        obtain ⟨l, h, rfl, rfl, hl, hh, hb, rfl⟩ := hrel
        by_cases hc : l < h
        · have hsp := H2.out ((l + h + 1) / 2) (by omega)
          have hat := H4.out ((l + h + 1) / 2) (by omega)
          have hmid : ((l : Int) + (h : Int) + 1) / 2 = (((l + h + 1) / 2 : Nat) : Int) := by omega
          obtain ⟨m, hme⟩ : ∃ m, m = (l + h + 1) / 2 := ⟨_, rfl⟩
          rw [← hme] at hsp hat hmid
          have m1 : l < m := by omega
          have m2 : m ≤ h := by omega
          clear hme
          by_cases hv : spS a b m d ≤ 1100
          · have hrm : m < r := hsp.2 hv
            generalize spS a b m d = v at *
            have HA := Lib.hid hat; clear hat hsp H2 H4
            go_wp2_with (go_at_call 19; (with_reducible refine (HA.out _).mono ?_); rintro e w4 ⟨rfl, rfl⟩)
            go_roundw
            case rel => exact ⟨m, h, rfl, rfl, by omega, by omega, by omega, by first | rfl | trivial⟩
            case measure => simp [intOf]; omega
          · have hrm : r ≤ m := by
              by_cases e : m < r
              · exact absurd (hsp.1 e) hv
              · omega
            have hv' : 1100 < spS a b m d := by omega
            generalize spS a b m d = v at *
            have m3 : 1 ≤ m := by omega
            have HA := Lib.hid hat; clear hat hsp hv H2 H4
            go_wp2_with (go_at_call 19; (with_reducible refine (HA.out _).mono ?_); rintro e w4 ⟨rfl, rfl⟩)
            go_roundw
            case rel => exact ⟨l, m - 1, rfl, by go_num, by omega, by omega, by omega, by first | rfl | trivial⟩
            case measure => simp [intOf]; omega
        · have e : (r : Int) - 1 = (l : Int) := by omega
          clear H2 H4
          go_wp2
          go_ret2
          exact ⟨ret2_i64 e.symm rfl, Grew.refl _⟩
  | false =>
    have h1 := fun w => gSpread2_any a b 0 d w
    rw [SpS_no ok] at h1
    rw [show SlS a b d r = (0, 2) from if_neg (by rw [ok]; decide)]
    have H1 := Lib.hid h1; clear h1 hr ok
    go_enter Try.func21, Try.ntmps21
    go_wp2_with (go_at_call 19; ((with_reducible refine (H1.out _).mono ?_)); rintro e w' ⟨rfl, rfl⟩)
    go_ret2
    exact ⟨rfl, Grew.refl _⟩
end Go.Proofs.Ytkffmflhonknpaa
