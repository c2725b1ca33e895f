/- A blacklist; arrays of 16 flags. -/
import Derived.Test.YtffanehmlbiemaaH8
import Derived.OwnWalk
import Derived.Laws.Rows
import Derived.Laws.Tables
import Derived.Laws.OwnMore
import Derived.Deep.LoopGhost
namespace Go.Proofs.Ytffanehmlbiemaa
open Go.RowKit

def blackB (zs : List Int) : Bool := decide (zs.length ≤ 64) && zs.all chB
theorem all_at {zs : List Int} (h : ∀ k, k < zs.length → chB (zs.getD k 0) = true) : zs.all chB = true := by
  rw [List.all_eq_true]
  intro x hx
  obtain ⟨k, hk, rfl⟩ := mem_getD hx
  exact h k hk
theorem all_not {zs : List Int} {k : Nat} (hk : k < zs.length) (h : chB (zs.getD k 0) = false) : zs.all chB = false := by
  rw [List.all_eq_false]
  exact ⟨_, getD_mem zs k hk, by rw [h]; decide⟩
theorem noChannel_any (c : Int) (w : World) : Calls Try.prog 53 #[.int .i64 c] w fun e w' => e = .returned (.bool (!chB c)) ∧ w' = w := by
  have H := Lib.hid (isChannel_any c w)
  generalize chB c = u at *
  go_enter Try.func53, Try.ntmps53
  go_wp2_with (go_at_call 52; (with_reducible refine H.out.mono ?_); rintro e w1 ⟨rfl, rfl⟩)
  go_ret
  exact ⟨rfl, rfl⟩
set_option maxHeartbeats 1600000 in
theorem IndexFI_any (w : World) (v : Value) (zs : List Int) (h : IL w v zs) (hl : zs.length ≤ 1000) (R : Int → Prop) (hin : ∀ k : Nat, k < zs.length → chB (zs.getD k 0) = false → R k) (hout : (∀ k, k < zs.length → chB (zs.getD k 0) = true) → R (-1)) :
    Calls Try.prog 55 #[v, .func (.func 53) #[] #[]] w fun e w' => (∃ r, -1 ≤ r ∧ r ≤ 1000 ∧ e = .returned (.int .i64 r) ∧ R r) ∧ w' = w := by
  rcases h with ⟨b, off, cap, rfl, h0, _, hc⟩ | ⟨ao, cap, rfl, rfl⟩
  · have H := Lib.hid hc; clear hc
    have HI := Lib.hid hin; clear hin
    have HO := Lib.hid hout; clear hout
    go_enter Try.func55, Try.ntmps55
    go_wp2
    go_loopw [8] (fun i wr => ∃ k : Nat, k ≤ zs.length ∧ i = .int .i64 k ∧ (∀ j, j < k → chB (zs.getD j 0) = true) ∧ wr = w) (fun i _ => zs.length - (intOf i).toNat)
    case atStart => exact ⟨0, Nat.zero_le _, rfl, fun j hj => absurd hj (Nat.not_lt_zero _), rfl⟩
    case round =>
      obtain ⟨k, hk, rfl, hno, hS⟩ := hrel
      replace hS := hS.symm; subst hS
      by_cases hlt : k < zs.length
      · have z0 := H.out k hlt
        have HNO := Lib.hid hno; clear hno
        have hX := noChannel_any (zs.getD k 0) w
        have HIK := Lib.hid (HI.out k hlt)
        obtain ⟨u, hu⟩ : ∃ u, chB (zs.getD k 0) = u := ⟨_, rfl⟩
        rw [hu] at hX HIK
        have HU := Lib.hid hu; clear hu
        have HX := Lib.hid hX; clear hX
        generalize zs.getD k 0 = x at z0 HX
        cases u with
        | false =>
          go_wp2_with (go_at_call 53; (with_reducible refine HX.out.mono ?_); rintro e w1 ⟨rfl, hw⟩; replace hw := hw.symm; subst hw)
          go_ret
          exact ⟨⟨(k : Int), by omega, by omega, rfl, HIK.out (by first | rfl | trivial)⟩, rfl⟩
        | true =>
          go_wp2_with (go_at_call 53; (with_reducible refine HX.out.mono ?_); rintro e w1 ⟨rfl, hw⟩; replace hw := hw.symm; subst hw)
          go_roundw
          case rel =>
            refine ⟨k + 1, by omega, by go_num, fun j hj => ?_, by first | rfl | trivial⟩
            by_cases hjk : j = k
            · subst hjk; exact HU.out
            · exact HNO.out j (by omega)
          case measure => simp [intOf]; omega
      · obtain rfl : k = zs.length := by omega
        have HNO := Lib.hid (HO.out hno); clear hno
        go_wp2
        go_ret
        exact ⟨⟨-1, by omega, by omega, rfl, HNO.out⟩, rfl⟩
  · have HNO := Lib.hid (hout (fun k hk => absurd hk (by simp)))
    go_enter Try.func55, Try.ntmps55
    go_wp2
    refine wp_loop_rounds 1 ?_
    rw [rounds_succ]
    go_wp2
    go_ret
    exact ⟨⟨-1, by omega, by omega, rfl, HNO.out⟩, rfl⟩
theorem ContainsFI_any (w : World) (v : Value) (zs : List Int) (h : IL w v zs) (hl : zs.length ≤ 1000) :
    Calls Try.prog 54 #[v, .func (.func 53) #[] #[]] w fun e w' => e = .returned (.bool (!zs.all chB)) ∧ w' = w := by
  have HX := Lib.hid (IndexFI_any w v zs h hl (fun r => decide (0 ≤ r) = !zs.all chB) (fun k hk he => by rw [all_not hk he]; exact decide_eq_true (by omega)) (fun hno => by rw [all_at hno]; rfl))
  generalize (!zs.all chB) = u at *
  obtain ⟨ao, cap, rfl⟩ := h.shape
  clear h
  go_enter Try.func54, Try.ntmps54
  go_wp2_with (go_at_call 55; (with_reducible refine HX.out.mono ?_); rintro e w1 ⟨⟨r, hr1, hr2, rfl, hr⟩, hw⟩; replace hw := hw.symm; subst hw)
  go_ret
  exact ⟨by first | rfl | exact ret_bool hr, rfl⟩
theorem isBlacklist_any (w : World) (v : Value) (zs : List Int) (h : IL w v zs) (hl : zs.length ≤ 1000) :
    Calls Try.prog 44 #[v] w fun e w' => e = .returned (.bool (blackB zs)) ∧ w' = w := by
  have HX := Lib.hid (ContainsFI_any w v zs h hl)
  unfold blackB
  generalize zs.all chB = u at *
  obtain ⟨ao, cap, rfl⟩ := h.shape
  clear h
  generalize zs.length = n at *
  by_cases hn : n ≤ 64
  · rw [show decide (n ≤ 64) = true from decide_eq_true hn]
    go_enter Try.func44, Try.ntmps44
    go_wp2_with (go_at_call 54; (with_reducible refine HX.out.mono ?_); rintro e w1 ⟨rfl, hw⟩; replace hw := hw.symm; subst hw)
    go_ret
    exact ⟨by cases u <;> rfl, rfl⟩
  · rw [show decide (n ≤ 64) = false from decide_eq_false hn]
    go_enter Try.func44, Try.ntmps44
    go_wp2
    go_ret
    exact ⟨rfl, rfl⟩
/-- An array of 16 flags. -/
def fl (A : Nat → Bool) : Array Value := #[.bool (A 0), .bool (A 1), .bool (A 2), .bool (A 3), .bool (A 4), .bool (A 5), .bool (A 6), .bool (A 7), .bool (A 8), .bool (A 9), .bool (A 10), .bool (A 11), .bool (A 12), .bool (A 13), .bool (A 14), .bool (A 15)]
theorem fl_get (A : Nat → Bool) (i : Nat) (hi : i < 16) : (fl A)[i]? = some (.bool (A i)) := by
  unfold fl
  match i, hi with
  | 0, _ => rfl
  | 1, _ => rfl
  | 2, _ => rfl
  | 3, _ => rfl
  | 4, _ => rfl
  | 5, _ => rfl
  | 6, _ => rfl
  | 7, _ => rfl
  | 8, _ => rfl
  | 9, _ => rfl
  | 10, _ => rfl
  | 11, _ => rfl
  | 12, _ => rfl
  | 13, _ => rfl
  | 14, _ => rfl
  | 15, _ => rfl
  | n + 16, h => exact absurd h (by omega)
theorem fl_size (A : Nat → Bool) : (fl A).size = 16 := rfl
theorem fl_one (A : Nat → Bool) : (fl A).all (·.oneCell') = true := by simp [fl, Value.oneCell']
theorem fl_congr {A B : Nat → Bool} (h : ∀ i, i < 16 → A i = B i) : fl A = fl B := by
  unfold fl
  rw [h 0 (by decide), h 1 (by decide), h 2 (by decide), h 3 (by decide), h 4 (by decide), h 5 (by decide), h 6 (by decide), h 7 (by decide), h 8 (by decide), h 9 (by decide), h 10 (by decide), h 11 (by decide), h 12 (by decide), h 13 (by decide), h 14 (by decide), h 15 (by decide)]
theorem fl_set (A : Nat → Bool) (k : Nat) (hk : k < 16) (B : Nat → Bool) (h1 : B k = true) (h2 : ∀ i, i < 16 → ¬ i = k → B i = A i) : (fl A).setIfInBounds k (.bool true) = fl B := by
  apply Array.ext
  · simp [fl_size]
  · intro i h3 h4
    have hi : i < 16 := by simpa [fl_size] using h4
    apply Option.some.inj
    rw [← Array.getElem?_eq_getElem, ← Array.getElem?_eq_getElem, Array.getElem?_setIfInBounds, fl_get _ _ hi, fl_get _ _ hi, fl_size]
    by_cases e : k = i
    · subst e; simp [hk, h1]
    · simp [e, h2 i hi (fun h => e h.symm)]
theorem Try.sizeFl : (Try.prog.info? 66).map (·.size) = some 16 := by kernel_rfl
/-- A block that holds flags. -/
def Flags (w : World) (B : Nat) (A : Nat → Bool) : Prop := w.heap[B]? = some (.cells (fl A) 66 (0, 0))
theorem Flags.cell {w : World} {B : Nat} {A : Nat → Bool} (h : Flags w B A) (i : Nat) (hi : i < 16) : w.cell? ⟨B, i, none⟩ = some (.bool (A i)) ∧ w.frozen? ⟨B, i, none⟩ = false :=
  ⟨by rw [cell_of_row w _ i _ _ _ h]; exact fl_get A i hi, frozen_of_row w _ i _ _ h⟩
theorem Flags.set {w : World} {B : Nat} {A : Nat → Bool} (h : Flags w B A) (k : Nat) (hk : k < 16) (A' : Nat → Bool) (h1 : A' k = true) (h2 : ∀ i, i < 16 → ¬ i = k → A' i = A i) : Flags (w.setCell ⟨B, k, none⟩ (.bool true)) B A' := by
  have := heap_setCell_same w B k _ 66 (.bool true) h
  rw [fl_set A k hk A' h1 h2] at this; exact this
theorem Flags.other {w : World} {B C k : Nat} {A : Nat → Bool} {u : Value} (h : Flags w B A) (hn : B ≠ C) : Flags (w.setCell ⟨C, k, none⟩ u) B A := by
  unfold Flags
  rw [Below.heap_setCell _ _ _ _ (by exact hn)]; exact h
theorem Flags.congr {w : World} {B : Nat} {A A' : Nat → Bool} (h : Flags w B A) (e : ∀ i, i < 16 → A i = A' i) : Flags w B A' := by
  unfold Flags at h ⊢
  rw [← fl_congr e]; exact h
end Go.Proofs.Ytffanehmlbiemaa
