/- Decibels: how many levels are at most a power. -/
import Derived.Test.YtjgbbafmjdapdaaDoorCalls2
import Derived.Test.YtjgbbafmjdapdaaDoorShelf
namespace Go.Proofs.YtjgbbafmjdapdaaDoor
open Go.RowKit Go.Lib Go.Sort

theorem lev_step : ∀ i, i < 108 → lev i ≤ lev (i + 1) := by decide +kernel
theorem lev_mono {a b : Nat} (h : a ≤ b) (hb : b ≤ 108) : lev a ≤ lev b := by
  induction b with
  | zero => have : a = 0 := by omega
            subst this; exact Nat.le_refl _
  | succ b ih =>
    by_cases e : a = b + 1
    · subst e; exact Nat.le_refl _
    · exact Nat.le_trans (ih (by omega) (by omega)) (lev_step b (by omega))
/-- How many of the levels below n are at most p. -/
def cnt (p : Int) (n : Nat) : Nat := (List.range n).countP (fun i => !decide (p < (lev i : Int)))
theorem cnt_succ (p : Int) (n : Nat) : cnt p (n + 1) = cnt p n + (if p < (lev n : Int) then 0 else 1) := by
  unfold cnt; rw [List.range_succ, List.countP_append]; congr 1
  by_cases h : p < (lev n : Int) <;> simp [h]
theorem cnt_le (p : Int) (n : Nat) : cnt p n ≤ n := by
  induction n with
  | zero => exact Nat.le_refl _
  | succ n ih => rw [cnt_succ]; split <;> omega
theorem cnt_spec (p : Int) (n : Nat) (hn : n ≤ 109) : ∀ i, i < n → (i < cnt p n ↔ (lev i : Int) ≤ p) := by
  induction n with
  | zero => intro i hi; omega
  | succ n ih =>
    intro i hi
    rw [cnt_succ]
    by_cases h : p < (lev n : Int)
    · rw [if_pos h, Nat.add_zero]
      by_cases e : i = n
      · subst e; have := cnt_le p i; omega
      · exact ih (by omega) i (by omega)
    · rw [if_neg h]
      have all : ∀ m, m ≤ n → cnt p m = m := by
        intro m
        induction m with
        | zero => intro _; rfl
        | succ m ihm =>
          intro hm
          have := lev_mono (a := m) (b := n) (by omega) (by omega)
          rw [cnt_succ, ihm (by omega), if_neg (by omega)]
      rw [all n (Nat.le_refl _)]
      have := lev_mono (a := i) (b := n) (by omega) (by omega)
      omega
def Ok (p : Int) : Prop := 1 ≤ p ∧ p ≤ 68719476736
instance (p : Int) : Decidable (Ok p) := by unfold Ok; infer_instance
/-- The decibels of a power. -/
def dcb (p : Int) : Nat := cnt p 109 - 1
theorem cnt_pos (p : Int) (h : 1 ≤ p) : 1 ≤ cnt p 109 := (cnt_spec p 109 (by decide) 0 (by decide)).2 (by rw [show lev 0 = 1 by decide]; omega)
theorem dcb_le (p : Int) : dcb p ≤ 108 := by unfold dcb; have := cnt_le p 109; omega
theorem dcb_low (p : Int) (h : 1 ≤ p) : (lev (dcb p) : Int) ≤ p := by
  have h1 := cnt_pos p h
  have h2 := cnt_le p 109
  refine (cnt_spec p 109 (by decide) (dcb p) ?_).1 ?_ <;> (unfold dcb; omega)
theorem dcb_high (p : Int) (h : 1 ≤ p) (h2 : dcb p < 108) : p < (lev (dcb p + 1) : Int) := by
  have h1 := cnt_pos p h
  have := cnt_spec p 109 (by decide) (dcb p + 1) (by omega)
  have h3 : ¬ (dcb p + 1 < cnt p 109) := by unfold dcb; omega
  have h4 := fun h => h3 (this.2 h)
  omega
/-- Decibels. -/
def dcbS (p : Int) : Int × Int := if Ok p then ((dcb p : Int), 0) else (0, 2)

theorem closure_any (p : Int) (B : Nat) (i : Nat) (hi : i < 109) (w : World) (hb : w.cell? ⟨B, 0, none⟩ = some (.int .i64 p)) (ht : Tab w) :
    Calls Tryd.prog 35 (#[.int .i64 i] ++ #[.pointer (some ⟨B, 0, none⟩)]) w fun e w' => e = .returned (.bool (decide (p < (lev i : Int)))) ∧ ∃ q, w' = w.drewN q := by
  have hl : ∀ n, Calls Tryd.prog 33 #[.int .i64 i] (w.drewN n) fun e w' => e = .returned (.int .i64 (lev i : Nat)) ∧ w' = w.drewN n := fun n => level_any i (by omega) _ (ht.same ((Same.refl w).drewN n))
  have HL := Lib.hid hl; clear hl ht
  go_enter Tryd.func35, Tryd.ntmps35
  go_wp2
  go_quiet ((go_at_call 33; exact Calls.quiet_of_same (HL.out _)))
  go_wp2
  go_ret
  exact ⟨rfl, _, rfl⟩

set_option maxHeartbeats 1600000 in
theorem decibels_yes (p : Int) (h : Ok p) (w : World) (ht : Tab w) : Calls Tryd.prog 14 #[.int .i64 p] w fun e w' => e = .returned (.tuple #[.int .i64 (dcb p : Nat), .int .i64 0]) ∧ Same w w' := by
  obtain ⟨W0, hW0⟩ : ∃ W0, W0 = w.alloc (.cells #[.int .i64 p] 3) := ⟨_, rfl⟩
  have hsize : W0.heap.size = w.heap.size + 1 := by rw [hW0]; simp
  have hsame : Same w W0 := by rw [hW0]; exact (Same.refl w).alloc _
  have cx : W0.cell? ⟨w.heap.size, 0, none⟩ = some (.int .i64 p) := by rw [hW0]; exact cell_new_sl w _ _
  have ht0 : Tab W0 := ht.same hsame
  have eg : ∀ args w, (callFunc 35 args).run Tryd.prog w = .ok (.enter 35 args) w := enters_of Tryd.func35 (by kernel_rfl) rfl
  have hS := Any.sort_Search Tryd.laysSearch 35 #[.pointer (some ⟨w.heap.size, 0, none⟩)] 109 (fun i => decide (p < (lev i : Int))) W0 eg (by decide)
    (fun m os i hi => (closure_any p w.heap.size i hi _ (cell_grown (by simp [hsize]) cx m os) (fun j hj => cell_grown (World.block_lt_of_cell? _ _ (ht0 j hj)) (ht0 j hj) m os)).mono
      fun _ _ ⟨he, q, hq⟩ => ⟨he, q, #[], by rw [hq, grow_empty]⟩) (fun a b hab hb h => by have := lev_mono hab (by omega); simp at h ⊢; omega)
  change Calls Tryd.prog 34 _ _ _ at hS
  have hpos := cnt_pos p h.1
  have hle := cnt_le p 109
  have hd : ((cnt p 109 : Nat) : Int) - 1 = ((dcb p : Nat) : Int) := by unfold dcb; omega
  have hcnt : (List.range 109).countP (fun i => !decide (p < (lev i : Int))) = cnt p 109 := rfl
  rw [hcnt] at hS
  rw [show ((109 : Nat) : Int) = 109 from rfl] at hS
  have HW := Lib.hid (fun w => within_yes p 1 68719476736 h.1 h.2 w)
  have HD := Lib.hid hd
  have HSM := Lib.hid hsame
  generalize cnt p 109 = c at hS hpos hle HD
  have HS := Lib.hid hS
  have HW0 := Lib.hid hW0
  have HSZ := Lib.hid hsize
  clear hS hd hcnt hW0 hsize eg ht ht0 cx h hsame
  go_enter Tryd.func14, Tryd.ntmps14
  go_wp2_with (first | (go_at_call 32; with_reducible refine (HW.out _).mono ?_; rintro e w' ⟨rfl, rfl⟩) | (go_at_call 34; rw [← HW0.out]; refine HS.out.mono ?_; rintro e w' ⟨rfl, q, os, rfl⟩))
  go_ret2
  refine ⟨ret2_i64 HD.out, ?_⟩
  exact HSM.out.trans (Same.ofBelow (below_grown_sl W0.heap.size W0 q os (Nat.le_refl _)))
theorem decibels_no (p : Int) (h : ¬ Ok p) (w : World) : Calls Tryd.prog 14 #[.int .i64 p] w fun e w' => e = .returned (.tuple #[.int .i64 0, .int .i64 2]) ∧ Same w w' := by
  have HW := Lib.hid (fun w => within_no p 1 68719476736 (by unfold Ok at h; omega) w)
  clear h
  go_enter Tryd.func14, Tryd.ntmps14
  go_wp2_with (go_at_call 32; with_reducible refine (HW.out _).mono ?_; rintro e w' ⟨rfl, rfl⟩)
  go_ret2
  exact ⟨rfl, (Same.refl w).alloc _⟩
theorem decibels_any (p : Int) (w : World) (ht : Tab w) : Calls Tryd.prog 14 #[.int .i64 p] w fun e w' => e = .returned (.tuple #[.int .i64 (dcbS p).1, .int .i64 (dcbS p).2]) ∧ Same w w' := by
  by_cases h : Ok p
  · rw [show dcbS p = _ from if_pos h]; exact decibels_yes p h w ht
  · rw [show dcbS p = _ from if_neg h]; exact decibels_no p h w
end Go.Proofs.YtjgbbafmjdapdaaDoor
