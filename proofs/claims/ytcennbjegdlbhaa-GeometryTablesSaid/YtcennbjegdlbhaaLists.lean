/- slices.Contains, slices.IsSorted over ints; plain facts of who is heard and who is nearest. -/
import Derived.Test.YtcennbjegdlbhaaTableC
namespace Go.Proofs.Ytcennbjegdlbhaa
open Go.RowKit

theorem less_no (x y : Int) (h : ¬ x < y) (w : World) : Calls Try.prog 59 #[.int .i64 x, .int .i64 y] w fun e w' => e = .returned (.bool false) ∧ w' = w := by
  have H1 := Lib.hid (fun w => isNaN_any x w)
  have hd : decide (x < y) = false := decide_eq_false h
  clear h
  go_enter Try.func59, Try.ntmps59
  go_wp2_with (go_at_call 68; (with_reducible refine (H1.out _).mono ?_); rintro e w1 ⟨rfl, rfl⟩)
  go_ret
  exact ⟨rfl, rfl⟩
set_option maxHeartbeats 1600000 in
theorem sorted_any (w : World) (v : Value) (zs : List Int) (h : Ints w v zs) (hl : zs.length ≤ 1000) (ho : ∀ i, i + 1 < zs.length → zs.getD i 0 ≤ zs.getD (i + 1) 0) :
    Calls Try.prog 36 #[v] w fun e w' => e = .returned (.bool true) ∧ Same w w' := by
  rcases h with ⟨b, off, cap, rfl, h0, hc⟩ | ⟨ao, cap, rfl, rfl⟩
  · have H := Lib.hid hc; clear hc
    have HO := Lib.hid ho; clear ho
    go_enter Try.func36, Try.ntmps36
    go_wp2
    go_loopw [3] (fun i wr => ∃ k : Nat, k < zs.length ∧ i = .int .i64 k ∧ Same w wr) (fun i _ => (intOf i).toNat)
    case atStart => exact ⟨zs.length - 1, by omega, by go_num, Same.refl _⟩
    case round =>
      obtain ⟨k, hk, rfl, hS⟩ := hrel
      cases k with
      | zero =>
        have HS := Lib.hid hS; clear hS
        go_wp2
        go_ret
        exact ⟨rfl, HS.out⟩
      | succ j =>
        have g1 := hS.cell (H.out (j + 1) hk)
        have g2 := hS.cell (H.out j (by omega))
        have HL := Lib.hid (fun w1 => less_no (zs.getD (j + 1) 0) (zs.getD j 0) (by have := HO.out j hk; omega) w1)
        generalize zs.getD (j + 1) 0 = x at *
        generalize zs.getD j 0 = y at *
        have HS := Lib.hid hS; clear hS
        go_wp2
        go_quiet ((go_at_call 59; exact Calls.quiet_of_same (HL.out _)))
        go_wp2
        go_roundw
        case rel => exact ⟨j, by omega, by go_num, HS.out.drewN _⟩
        case measure => simp [intOf]
  · go_enter Try.func36, Try.ntmps36
    go_wp2
    refine wp_loop_rounds 1 ?_
    rw [rounds_succ]
    go_wp2
    go_ret
    exact ⟨rfl, Same.refl _⟩
set_option maxHeartbeats 1600000 in
theorem index_any (w : World) (v : Value) (zs : List Int) (h : Ints w v zs) (hl : zs.length ≤ 1000) (c : Int) (R : Int → Prop) (hin : ∀ k, k < zs.length → zs.getD k 0 = c → R k) (hout : (∀ k, k < zs.length → zs.getD k 0 ≠ c) → R (-1)) :
    Calls Try.prog 60 #[v, .int .i64 c] w fun e w' => (∃ r, -1 ≤ r ∧ r ≤ 1000 ∧ e = .returned (.int .i64 r) ∧ R r) ∧ Same w w' := by
  rcases h with ⟨b, off, cap, rfl, h0, hc⟩ | ⟨ao, cap, rfl, rfl⟩
  · have H := Lib.hid hc; clear hc
    have HI := Lib.hid hin; clear hin
    have HO := Lib.hid hout; clear hout
    go_enter Try.func60, Try.ntmps60
    go_wp2
    go_loopw [8] (fun i wr => ∃ k : Nat, k ≤ zs.length ∧ i = .int .i64 k ∧ (∀ j, j < k → zs.getD j 0 ≠ c) ∧ Same w wr) (fun i _ => zs.length - (intOf i).toNat)
    case atStart => exact ⟨0, Nat.zero_le _, rfl, fun j hj => absurd hj (Nat.not_lt_zero _), Same.refl _⟩
    case round =>
      obtain ⟨k, hk, rfl, hno, hS⟩ := hrel
      by_cases hlt : k < zs.length
      · have g1 := hS.cell (H.out k hlt)
        have HS := Lib.hid hS; clear hS
        have HNO := Lib.hid hno; clear hno
        have HIK := Lib.hid (HI.out k hlt)
        obtain ⟨x, hx⟩ : ∃ x, zs.getD k 0 = x := ⟨_, rfl⟩
        rw [hx] at g1
        have HX := Lib.hid hx; clear hx
        by_cases he : c = x
        · subst he
          go_wp2
          go_ret
          exact ⟨⟨(k : Int), by omega, by omega, rfl, HIK.out HX.out⟩, HS.out⟩
        · have hd : (c == x) = false := by simpa using he
          go_wp2
          go_roundw
          case rel =>
            refine ⟨k + 1, by omega, by go_num, fun j hj => ?_, HS.out⟩
            by_cases hjk : j = k
            · subst hjk; rw [HX.out]; exact fun e => he e.symm
            · exact HNO.out j (by omega)
          case measure => simp [intOf]; omega
      · obtain rfl : k = zs.length := by omega
        have HS := Lib.hid hS; clear hS
        have HNO := Lib.hid (HO.out hno)
        go_wp2
        go_ret
        exact ⟨⟨-1, by omega, by omega, rfl, HNO.out⟩, HS.out⟩
  · have HNO := Lib.hid (hout (fun k hk => absurd hk (by simp)))
    go_enter Try.func60, Try.ntmps60
    go_wp2
    refine wp_loop_rounds 1 ?_
    rw [rounds_succ]
    go_wp2
    go_ret
    exact ⟨⟨-1, by omega, by omega, rfl, HNO.out⟩, Same.refl _⟩
theorem contains_any (w : World) (v : Value) (zs : List Int) (h : Ints w v zs) (hl : zs.length ≤ 1000) (c : Int) (u : Bool) (hu : decide (c ∈ zs) = u) :
    Calls Try.prog 37 #[v, .int .i64 c] w fun e w' => e = .returned (.bool u) ∧ Same w w' := by
  have hx := index_any w v zs h hl c (fun r => decide (0 ≤ r) = u) (fun k hk he => by
    rw [← hu, decide_eq_true (show (0 : Int) ≤ (k : Int) by omega)]
    refine (decide_eq_true ?_).symm
    rw [← he, List.getD_eq_getElem?_getD, List.getElem?_eq_getElem hk]
    exact List.getElem_mem hk) (fun hno => by
    rw [← hu]
    refine (decide_eq_false ?_).symm
    intro hm
    obtain ⟨k, hk, he⟩ := List.getElem_of_mem hm
    exact hno k hk (by rw [List.getD_eq_getElem?_getD, List.getElem?_eq_getElem hk]; exact he))
  have HX := Lib.hid hx; clear hx h hl hu
  go_enter Try.func37, Try.ntmps37
  go_wp2_with (go_at_call 60; (with_reducible refine HX.out.mono ?_); rintro e w1 ⟨⟨r, hr1, hr2, rfl, hr⟩, hw⟩)
  go_ret
  exact ⟨rfl, hw⟩

/-- Who is heard, as ints. -/
def heard (s : Site) (b : Nat) : List Int := (hL s b s.ps.length).map fun (i : Nat) => (i : Int)
theorem heard_len (s : Site) (b : Nat) (h : s.ps.length ≤ 32) : (heard s b).length ≤ 1000 := by
  have := hL_length s b s.ps.length
  simp [heard]; omega
theorem heard_sorted (s : Site) (b : Nat) : ∀ i, i + 1 < (heard s b).length → (heard s b).getD i 0 ≤ (heard s b).getD (i + 1) 0 := by
  intro i hi
  have hp : (heard s b).Pairwise (· < ·) := by
    unfold heard hL
    rw [List.pairwise_map]
    exact (List.Pairwise.filter _ List.pairwise_lt_range).imp (fun h => by omega)
  have := List.pairwise_iff_getElem.1 hp i (i + 1) (by omega) hi (by omega)
  rw [List.getD_eq_getElem?_getD, List.getD_eq_getElem?_getD, List.getElem?_eq_getElem (by omega), List.getElem?_eq_getElem hi]
  simp only [Option.getD_some]
  omega
theorem heard_mem (s : Site) (a b : Nat) (ha : a < s.ps.length) : decide ((a : Int) ∈ heard s b) = decide (s.t * s.n ≤ 1000 * betS s a b) := by
  have h : (a : Int) ∈ heard s b ↔ s.t * s.n ≤ 1000 * betS s a b := by
    unfold heard hL
    rw [List.mem_map]
    constructor
    · rintro ⟨i, hi, he⟩
      have : i = a := by omega
      subst this
      simpa using (List.mem_filter.1 hi).2
    · intro h
      exact ⟨a, List.mem_filter.2 ⟨List.mem_range.2 ha, by simpa using h⟩, rfl⟩
  by_cases hh : s.t * s.n ≤ 1000 * betS s a b
  · rw [decide_eq_true hh, decide_eq_true (h.2 hh)]
  · rw [decide_eq_false hh, decide_eq_false (fun e => hh (h.1 e))]
theorem heard_self (s : Site) (b : Nat) (hb : b < s.ps.length) (hg : Good s) : decide ((b : Int) ∈ heard s b) = false := by
  rw [heard_mem s b b hb]
  have e : betS s b b = 0 := by unfold betS; rw [if_pos rfl]
  rw [e]
  refine decide_eq_false ?_
  have h1 := hg.t
  have h2 := hg.n
  have : 0 < s.t * s.n := Int.mul_pos (by omega) (by omega)
  omega
theorem heardL_eq (s : Site) (b : Nat) (hs : siteB s = true) (hb : b < s.ps.length) : heardL s (b : Int) = (heard s b, 0) := by
  unfold heardL
  rw [if_pos hs, show ndB s (b : Int) = true from decide_eq_true (by omega)]
  rfl
theorem betweenS_eq (s : Site) (a b : Nat) (hs : siteB s = true) (ha : a < s.ps.length) (hb : b < s.ps.length) : betweenS s (a : Int) (b : Int) = (betS s a b, 0) := by
  unfold betweenS
  rw [if_pos hs, show ndB s (a : Int) = true from decide_eq_true (by omega), show ndB s (b : Int) = true from decide_eq_true (by omega)]
  rfl
theorem ptB_in {x y : Int} (h1 : In x) (h2 : In y) : ptB x y = true := by
  unfold ptB; simp only [Bool.and_eq_true, decide_eq_true_eq]; exact ⟨h1, h2⟩
theorem atS_eq (s : Site) (a b : Nat) (hs : siteB s = true) (ha : a < s.ps.length) (hb : b < s.ps.length) :
    (atS s (s.ps.getD a ⟨0, 0⟩).x (s.ps.getD a ⟨0, 0⟩).y (s.zs.getD a 0) (s.ps.getD b ⟨0, 0⟩).x (s.ps.getD b ⟨0, 0⟩).y).2 = 0 ∧
    (a ≠ b → (atS s (s.ps.getD a ⟨0, 0⟩).x (s.ps.getD a ⟨0, 0⟩).y (s.zs.getD a 0) (s.ps.getD b ⟨0, 0⟩).x (s.ps.getD b ⟨0, 0⟩).y).1 = betS s a b) := by
  have hg := good_of hs
  obtain ⟨a1, a2, a3⟩ := hg.pt a ha
  obtain ⟨b1, b2, b3⟩ := hg.pt b hb
  have harg : argB (s.ps.getD a ⟨0, 0⟩).x (s.ps.getD a ⟨0, 0⟩).y (s.zs.getD a 0) (s.ps.getD b ⟨0, 0⟩).x (s.ps.getD b ⟨0, 0⟩).y = true := by
    unfold argB
    rw [ptB_in a1 a2, ptB_in b1 b2]
    unfold pwB
    simp only [Bool.true_and]
    exact decide_eq_true a3
  unfold atS
  rw [if_pos hs, if_pos harg]
  refine ⟨rfl, fun hne => ?_⟩
  unfold betS
  rw [if_neg hne]
theorem dS_nonneg (ps : List Pt) (p1 p2 : Int) (i : Nat) : 0 ≤ dS ps p1 p2 i := by
  unfold dS sqS
  have h1 : ∀ x : Int, 0 ≤ x * x := fun x => by
    rcases Int.le_total 0 x with h | h
    · exact Int.mul_nonneg h h
    · exact Int.mul_nonneg_of_nonpos_of_nonpos h h
  have := h1 (p1 - (ps.getD i ⟨0, 0⟩).x)
  have := h1 (p2 - (ps.getD i ⟨0, 0⟩).y)
  omega
theorem nrS_spec (ps : List Pt) (p1 p2 : Int) : ∀ k, (∀ i, i < k → dS ps p1 p2 (nrS ps p1 p2 k) ≤ dS ps p1 p2 i) ∧ (∀ i, i < nrS ps p1 p2 k → dS ps p1 p2 (nrS ps p1 p2 k) < dS ps p1 p2 i) ∧ (nrS ps p1 p2 k < k ∨ nrS ps p1 p2 k = 0)
  | 0 => ⟨fun i hi => absurd hi (Nat.not_lt_zero _), fun i hi => absurd hi (Nat.not_lt_zero _), .inr rfl⟩
  | k + 1 => by
    obtain ⟨h1, h2, h3⟩ := nrS_spec ps p1 p2 k
    have e : nrS ps p1 p2 (k + 1) = if dS ps p1 p2 k < dS ps p1 p2 (nrS ps p1 p2 k) then k else nrS ps p1 p2 k := rfl
    by_cases hlt : dS ps p1 p2 k < dS ps p1 p2 (nrS ps p1 p2 k)
    · rw [e, if_pos hlt]
      refine ⟨fun i hi => ?_, fun i hi => ?_, .inl (by omega)⟩
      · rcases Nat.lt_succ_iff_lt_or_eq.1 hi with h | rfl
        · have := h1 i h; omega
        · exact Int.le_refl _
      · have := h1 i hi; omega
    · rw [e, if_neg hlt]
      refine ⟨fun i hi => ?_, h2, h3.imp (fun h => by omega) id⟩
      rcases Nat.lt_succ_iff_lt_or_eq.1 hi with h | rfl
      · exact h1 i h
      · omega
theorem sq_zero {x : Int} (h : x * x = 0) : x = 0 := by
  rcases Int.mul_eq_zero.1 h with h | h <;> exact h
theorem near_node (s : Site) (b : Nat) (hs : siteB s = true) (hb : b < s.ps.length) :
    ∃ k : Nat, nearS s (s.ps.getD b ⟨0, 0⟩).x (s.ps.getD b ⟨0, 0⟩).y = ((k : Int), 0) ∧ k ≤ b ∧ (s.ps.getD k ⟨0, 0⟩).x = (s.ps.getD b ⟨0, 0⟩).x ∧ (s.ps.getD k ⟨0, 0⟩).y = (s.ps.getD b ⟨0, 0⟩).y := by
  have hg := good_of hs
  obtain ⟨b1, b2, b3⟩ := hg.pt b hb
  generalize hx : (s.ps.getD b ⟨0, 0⟩).x = x at *
  generalize hy : (s.ps.getD b ⟨0, 0⟩).y = y at *
  obtain ⟨h1, h2, h3⟩ := nrS_spec s.ps x y s.ps.length
  have hd : dS s.ps x y b = 0 := by unfold dS sqS; rw [hx, hy]; simp
  refine ⟨nrS s.ps x y s.ps.length, by unfold nearS; rw [if_pos hs, if_pos (ptB_in b1 b2)], ?_, ?_⟩
  · rcases Nat.lt_or_ge b (nrS s.ps x y s.ps.length) with h | h
    · have := h2 b h
      have := dS_nonneg s.ps x y (nrS s.ps x y s.ps.length)
      omega
    · exact h
  · have h4 := h1 b hb
    have h5 := dS_nonneg s.ps x y (nrS s.ps x y s.ps.length)
    have h6 : dS s.ps x y (nrS s.ps x y s.ps.length) = 0 := by omega
    generalize nrS s.ps x y s.ps.length = k at *
    unfold dS sqS at h6
    have nn : ∀ z : Int, 0 ≤ z * z := fun z => by
      rcases Int.le_total 0 z with h | h
      · exact Int.mul_nonneg h h
      · exact Int.mul_nonneg_of_nonpos_of_nonpos h h
    have n1 := nn (x - (s.ps.getD k ⟨0, 0⟩).x)
    have n2 := nn (y - (s.ps.getD k ⟨0, 0⟩).y)
    have z1 := sq_zero (show (x - (s.ps.getD k ⟨0, 0⟩).x) * (x - (s.ps.getD k ⟨0, 0⟩).x) = 0 by omega)
    have z2 := sq_zero (show (y - (s.ps.getD k ⟨0, 0⟩).y) * (y - (s.ps.getD k ⟨0, 0⟩).y) = 0 by omega)
    exact ⟨by omega, by omega⟩
end Go.Proofs.Ytcennbjegdlbhaa
