/- Slots of package guard, and of the reference. -/
import Derived.Test.YtkffmflhonknpaaG2
import Derived.Test.YtkffmflhonknpaaShelf
namespace Go.Proofs.Ytkffmflhonknpaa
open Go.RowKit Go.Lib Go.Sort

theorem ln_mono {n m d : Int} (h : n ≤ m) (d2 : d ≤ 100000) : lnS n d ≤ lnS m d := by
  unfold lnS
  exact Int.ediv_le_ediv (by omega) (by omega)
theorem gr_mono {t u d : Int} (h : t ≤ u) (d1 : 0 ≤ d) : grS t d ≤ grS u d := by
  unfold grS
  have : 2 * t * d ≤ 2 * u * d := Int.mul_le_mul_of_nonneg_right (by omega) d1
  have := Int.ediv_le_ediv (c := 1000000000) (by decide) this
  omega
theorem st_mono {n m d : Int} (h : n ≤ m) (d1 : 0 ≤ d) (d2 : d ≤ 100000) : stS n d ≤ stS m d := by
  have := gr_mono (ln_mono h d2) d1
  unfold stS; omega
theorem sp_mono {a b n m d : Int} (ha : 0 ≤ a) (hb : 0 ≤ b) (h : n ≤ m) (d1 : 0 ≤ d) (d2 : d ≤ 100000) : spS a b n d ≤ spS a b m d := by
  unfold spS
  exact Int.mul_le_mul_of_nonneg_left (st_mono h d1 d2) (by omega)
/-- The arguments of Slots. -/
def okS (a b d : Int) : Bool := depB a && depB b && drB d
structure OkS (a b d : Int) : Prop where
  a1 : 0 ≤ a
  a2 : a ≤ 32
  b1 : 0 ≤ b
  b2 : b ≤ 32
  d1 : 0 ≤ d
  d2 : d ≤ 100000
theorem okS_of {a b d : Int} (h : okS a b d = true) : OkS a b d := by
  unfold okS at h
  rw [Bool.and_eq_true, Bool.and_eq_true] at h
  exact ⟨(inB_yes h.1.1).1, (inB_yes h.1.1).2, (inB_yes h.1.2).1, (inB_yes h.1.2).2, (inB_yes h.2).1, (inB_yes h.2).2⟩
/-- The first number of slots whose spread is too great, or 4097. -/
def IsS (a b d : Int) (r : Nat) : Prop := r ≤ 4097 ∧ ∀ i : Nat, i < 4097 → (i < r ↔ spS a b i d ≤ 1100)
theorem IsS.unique {a b d : Int} {r s : Nat} (h : IsS a b d r) (k : IsS a b d s) : r = s := by
  obtain ⟨h1, h2⟩ := h
  obtain ⟨k1, k2⟩ := k
  by_cases x : r < s
  · have := (k2 r (by omega)).1 x
    have := (h2 r (by omega)).2 this
    omega
  · by_cases y : s < r
    · have := (h2 s (by omega)).1 y
      have := (k2 s (by omega)).2 this
      omega
    · omega
def cntS (a b d : Int) (n : Nat) : Nat := (List.range n).countP (fun i : Nat => !decide (1100 < spS a b i d))
theorem cntS_succ (a b d : Int) (n : Nat) : cntS a b d (n + 1) = cntS a b d n + (if 1100 < spS a b n d then 0 else 1) := by
  unfold cntS; rw [List.range_succ, List.countP_append]; congr 1
  by_cases h : 1100 < spS a b n d <;> simp [h]
theorem cntS_le (a b d : Int) (n : Nat) : cntS a b d n ≤ n := by
  induction n with
  | zero => exact Nat.le_refl _
  | succ n ih => rw [cntS_succ]; split <;> omega
theorem cntS_spec {a b d : Int} (hok : OkS a b d) (n : Nat) : ∀ i, i < n → (i < cntS a b d n ↔ spS a b i d ≤ 1100) := by
  induction n with
  | zero => intro i hi; omega
  | succ n ih =>
    intro i hi
    rw [cntS_succ]
    by_cases h : 1100 < spS a b n d
    · rw [if_pos h, Nat.add_zero]
      by_cases e : i = n
      · subst e; have := cntS_le a b d i; omega
      · exact ih i (by omega)
    · rw [if_neg h]
      have all : ∀ m, m ≤ n → cntS a b d m = m := by
        intro m
        induction m with
        | zero => intro _; rfl
        | succ m ihm =>
          intro hm
          have : spS a b m d ≤ spS a b n d := sp_mono hok.a1 hok.b1 (by omega) hok.d1 hok.d2
          rw [cntS_succ, ihm (by omega), if_neg (by omega)]
      rw [all n (Nat.le_refl _)]
      have : spS a b i d ≤ spS a b n d := sp_mono hok.a1 hok.b1 (by omega) hok.d1 hok.d2
      omega
theorem isS_cnt {a b d : Int} (hok : OkS a b d) : IsS a b d (cntS a b d 4097) :=
  ⟨cntS_le _ _ _ _, fun i hi => cntS_spec hok _ i hi⟩
theorem IsS.cnt {a b d : Int} {r : Nat} (hok : OkS a b d) (h : IsS a b d r) : (List.range 4097).countP (fun i : Nat => !decide (1100 < spS a b i d)) = r := (isS_cnt hok).unique h
/-- Slots. -/
def SlS (a b d : Int) (r : Nat) : Int × Int := if okS a b d = true then (if r = 0 then (0, 16) else ((r : Int) - 1, 0)) else (0, 2)
theorem gSlotsC_any (a b d n : Int) (hok : OkS a b d) (n1 : 0 ≤ n) (n2 : n ≤ 4096) (A B D : Nat) (w : World) (ca : w.cell? ⟨A, 0, none⟩ = some (.int .i64 a)) (cb : w.cell? ⟨B, 0, none⟩ = some (.int .i64 b)) (cd : w.cell? ⟨D, 0, none⟩ = some (.int .i64 d)) :
    Calls Try.prog 44 (#[.int .i64 n] ++ #[.pointer (some ⟨A, 0, none⟩), .pointer (some ⟨B, 0, none⟩), .pointer (some ⟨D, 0, none⟩)]) w fun e w' => e = .returned (.bool (decide (1100 < spS a b n d))) ∧ Grew w w' := by
  obtain ⟨a1, a2, b1, b2, d1, d2⟩ := hok
  have H3 := Lib.hid (fun w => step_any n d n1 n2 d1 d2 w)
  obtain ⟨s1, s2⟩ := sp_bd (n := n) (d := d) ⟨a1, a2⟩ ⟨b1, b2⟩ n1 n2 d1 d2
  have hw : IntKind.i64.wrap ((a + b) * stS n d) = spS a b n d := by have h := IntWalk.i64_in ((a + b) * stS n d) (by unfold spS at s1 s2; omega); exact h
  generalize spS a b n d = q at *
  generalize stS n d = s at *
  clear d1 d2 n1 n2
  go_enter Try.func44, Try.ntmps44
  go_wp2
  go_quiet ((go_at_call 41; exact Calls.quiet_of_same (H3.out _)))
  go_wp2
  go_ret
  exact ⟨rfl, ((Grew.refl w).drewN _)⟩
end Go.Proofs.Ytkffmflhonknpaa
