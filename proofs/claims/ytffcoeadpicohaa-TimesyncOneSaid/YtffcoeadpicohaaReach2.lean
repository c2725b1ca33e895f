
/- When a clock reaches something: the search, by the package and by the reference. -/
import Derived.Test.YtffcoeadpicohaaReach
import Derived.Laws.EntriesVeiled
namespace Go.Proofs.Ytffcoeadpicohaa
open Go.RowKit Go.Lib Go.Sort

theorem dialOf_any (o d : Int) (w : World) : Calls Try.prog 68 #[.agg #[.int .i64 o, .int .i64 d]] w fun e w' => e = .returned (.agg #[.func (.func 73) #[] #[.pointer (some ⟨w.heap.size, 0, none⟩)]]) ∧ Bx w w.heap.size o d w' := by
  go_enter Try.func68, Try.ntmps68
  go_wp2
  exact bodyPost_ret (v := .agg #[.func (.func 73) #[] #[.pointer (some ⟨w.heap.size, 0, none⟩)]]) (by simp [results, Try.results68, go_sem]) rfl ⟨rfl, (Bx.new w o d 23).keep ((Grew.refl _).alloc _)⟩
/-- The first time up to n at which x or more is shown, or n. -/
def IsR (o d x : Int) (r : Nat) : Prop := r ≤ 1099511627777 ∧ ∀ i : Nat, i < 1099511627777 → (i < r ↔ shS o d i < x)
theorem sh_step {o d : Int} (h : okC o d = true) (t : Int) : shS o d t ≤ shS o d (t + 1) ∧ shS o d (t + 1) ≤ shS o d t + 2 := by
  obtain ⟨_, a3, a4⟩ := okC_of h
  unfold shS
  rw [Int.add_mul]
  generalize t * d = p
  omega
theorem sh_mono {o d : Int} (h : okC o d = true) {a b : Int} (hab : a ≤ b) : shS o d a ≤ shS o d b := by
  obtain ⟨n, rfl⟩ : ∃ n : Nat, b = a + n := ⟨(b - a).toNat, by omega⟩
  clear hab
  induction n with
  | zero => simp
  | succ n ih =>
    have := (sh_step h (a + n)).1
    rw [show a + ((n + 1 : Nat) : Int) = a + n + 1 by omega]
    omega
theorem IsR.unique {o d x : Int} {r s : Nat} (h : IsR o d x r) (k : IsR o d x s) : r = s := by
  obtain ⟨h1, h2⟩ := h
  obtain ⟨k1, k2⟩ := k
  by_cases a : r < s
  · have := (k2 r (by omega)).1 a
    have := (h2 r (by omega)).2 this
    omega
  · by_cases b : s < r
    · have := (h2 s (by omega)).1 b
      have := (k2 s (by omega)).2 this
      omega
    · omega
/-- How many of the times below n show less than x. -/
def cntR (o d x : Int) (n : Nat) : Nat := (List.range n).countP (fun i : Nat => !decide (x ≤ shS o d i))
theorem cntR_succ (o d x : Int) (n : Nat) : cntR o d x (n + 1) = cntR o d x n + (if x ≤ shS o d n then 0 else 1) := by
  unfold cntR; rw [List.range_succ, List.countP_append]; congr 1
  by_cases h : x ≤ shS o d n <;> simp [h]
theorem cntR_le (o d x : Int) (n : Nat) : cntR o d x n ≤ n := by
  induction n with
  | zero => exact Nat.le_refl _
  | succ n ih => rw [cntR_succ]; split <;> omega
theorem cntR_spec {o d : Int} (hok : okC o d = true) (x : Int) (n : Nat) : ∀ i, i < n → (i < cntR o d x n ↔ shS o d i < x) := by
  induction n with
  | zero => intro i hi; omega
  | succ n ih =>
    intro i hi
    rw [cntR_succ]
    by_cases h : x ≤ shS o d n
    · rw [if_pos h, Nat.add_zero]
      by_cases e : i = n
      · subst e; have := cntR_le o d x i; omega
      · exact ih i (by omega)
    · rw [if_neg h]
      have all : ∀ m, m ≤ n → cntR o d x m = m := by
        intro m
        induction m with
        | zero => intro _; rfl
        | succ m ihm =>
          intro hm
          have : shS o d m ≤ shS o d n := sh_mono hok (by omega)
          rw [cntR_succ, ihm (by omega), if_neg (by omega)]
      rw [all n (Nat.le_refl _)]
      have : shS o d i ≤ shS o d n := sh_mono hok (by omega)
      omega
theorem isR_cnt {o d : Int} (hok : okC o d = true) (x : Int) : IsR o d x (cntR o d x 1099511627777) :=
  ⟨cntR_le _ _ _ _, fun i hi => cntR_spec hok x _ i hi⟩
theorem IsR.cnt {o d x : Int} {r : Nat} (hok : okC o d = true) (h : IsR o d x r) : (List.range 1099511627777).countP (fun i : Nat => !decide (x ≤ shS o d i)) = r := (isR_cnt hok x).unique h
abbrev fv (B : Nat) : Value := .func (.func 73) #[] #[.pointer (some ⟨B, 0, none⟩)]
theorem search_any (o d x : Int) (hok : okC o d = true) (r : Nat) (hr : IsR o d x r) (B : Nat) (w : World) (c0 : w.cell? ⟨B, 0, none⟩ = some (.int .i64 o)) (c1 : w.cell? ⟨B, 1, none⟩ = some (.int .i64 d)) (D X : Nat)
    (cd : w.cell? ⟨D, 0, none⟩ = some (fv B)) (cx : w.cell? ⟨X, 0, none⟩ = some (.int .i64 x)) :
    Calls Try.prog 74 #[.int .i64 1099511627777, .func (.func 75) #[] #[.pointer (some ⟨D, 0, none⟩), .pointer (some ⟨X, 0, none⟩)]] w fun e w' => e = .returned (.int .i64 r) ∧ Grew w w' := by
  have eg : ∀ args w, (callFunc 75 args).run Try.prog w = .ok (.enter 75 args) w := enters_of Try.func75 (by kernel_rfl) rfl
  have hS := Any.sort_Search Try.laysSearch 75 #[.pointer (some ⟨D, 0, none⟩), .pointer (some ⟨X, 0, none⟩)] 1099511627777 (fun i => decide (x ≤ shS o d i)) w eg (by decide)
    (fun m os i hi => reachC_any o d x i hok (by omega) (by omega) B D X _ (cell_grown (World.block_lt_of_cell? _ _ c0) c0 m os) (cell_grown (World.block_lt_of_cell? _ _ c1) c1 m os) (cell_grown (World.block_lt_of_cell? _ _ cd) cd m os) (cell_grown (World.block_lt_of_cell? _ _ cx) cx m os))
    (fun a b hab hb h => by have := sh_mono hok (a := a) (b := b) (by omega); simp at h ⊢; omega)
  change Calls Try.prog 74 _ _ _ at hS
  rw [hr.cnt hok] at hS
  exact hS
/-- What the search gives. -/
def rchP (r : Nat) : Int × Int := if r ≤ 1099511627776 then ((r : Int), 0) else (0, 15)
theorem reach_any (o d x : Int) (hok : okC o d = true) (r : Nat) (hr : IsR o d x r) (B : Nat) (w : World) (c0 : w.cell? ⟨B, 0, none⟩ = some (.int .i64 o)) (c1 : w.cell? ⟨B, 1, none⟩ = some (.int .i64 d)) :
    Calls Try.prog 69 #[.agg #[fv B], .int .i64 x] w fun e w' => e = .returned (.tuple #[.int .i64 (rchP r).1, .int .i64 (rchP r).2]) ∧ Grew w w' := by
  have h1 := fun (w1 : World) (D X : Nat) (k : Grew w w1) => search_any o d x hok r hr B w1 (k.cell c0) (k.cell c1) D X
  have hle := hr.1
  have H1 := Lib.hid h1; clear h1 hr hok c0 c1
  by_cases h : r ≤ 1099511627776
  · rw [show rchP r = ((r : Int), 0) from if_pos h]
    have hT : timeB (r : Int) = true := by simp [timeB, inB]; omega
    have h2 := fun w => isTime_any (r : Int) w
    rw [hT] at h2
    have H2 := Lib.hid h2; clear h2 hT
    go_enter Try.func69, Try.ntmps69
    go_wp2_with (first
      | (go_at_call 74; (with_reducible refine (H1.out _ _ _ (((Grew.refl w).alloc _).alloc _) (by go_simp) (by go_simp)).mono ?_); rintro e w1 ⟨rfl, hw⟩; have HW := Lib.hid ((((Grew.refl w).alloc _).alloc _).trans hw); clear hw)
      | (go_at_call 70; (with_reducible refine (H2.out _).mono ?_); rintro e w2 ⟨rfl, rfl⟩))
    go_ret2
    exact ⟨rfl, HW.out⟩
  · rw [show rchP r = (0, 15) from if_neg h]
    have hT : timeB (r : Int) = false := by simp [timeB, inB]; omega
    have h2 := fun w => isTime_any (r : Int) w
    rw [hT] at h2
    have H2 := Lib.hid h2; clear h2 hT
    go_enter Try.func69, Try.ntmps69
    go_wp2_with (first
      | (go_at_call 74; (with_reducible refine (H1.out _ _ _ (((Grew.refl w).alloc _).alloc _) (by go_simp) (by go_simp)).mono ?_); rintro e w1 ⟨rfl, hw⟩; have HW := Lib.hid ((((Grew.refl w).alloc _).alloc _).trans hw); clear hw)
      | (go_at_call 70; (with_reducible refine (H2.out _).mono ?_); rintro e w2 ⟨rfl, rfl⟩))
    go_ret2
    exact ⟨rfl, HW.out⟩
end Go.Proofs.Ytffcoeadpicohaa
