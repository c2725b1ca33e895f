/- Received, of the package and of the reference; copies of slices. -/
import Derived.Test.YtjgbbafmjdapdaaDoorSlices
namespace Go.Proofs.YtjgbbafmjdapdaaDoor
open Go.RowKit

theorem sum2_good (w : World) (v : Value) (zs : List Int) (hv : Ints w v zs) (hl : zs.length ≤ 64) (hp : ∀ z ∈ zs, Pw z) : Calls Tryd.prog 20 #[v] w fun e w' => e = .returned (.tuple #[.int .i64 zs.sum, .int .i64 0]) ∧ w' = w := by
  rcases hv with ⟨b, off, cap, rfl, h0, hc⟩ | ⟨ao, cap, rfl, rfl⟩
  · have hz := fun k hk w => is_yes (zs.getD k 0) (hp _ (at_mem zs k hk)) w
    have hz' := fun k hk => hp _ (at_mem zs k hk)
    have hb := fun k hk => sum_bd zs hp k hk
    have HB := Lib.hid hb; clear hb
    have HZ := Lib.hid hz; clear hz
    have HZ' := Lib.hid hz'; clear hz' hp
    have HC := Lib.hid hc; clear hc
    go_enter Tryd.func20, Tryd.ntmps20
    go_wp2
    go_loop [4, 5] (fun s i => ∃ k : Nat, k ≤ zs.length ∧ i = .int .i64 k ∧ s = .int .i64 (zs.take k).sum) (fun _ i => zs.length - (intOf i).toNat)
    case atStart => exact ⟨0, Nat.zero_le _, rfl, by simp⟩
    case round =>
      obtain ⟨k, hk, rfl, rfl⟩ := hrel
      by_cases hlt : k < zs.length
      · have hc := HC.out k hlt
        have HW := Lib.hid (HZ.out k hlt)
        obtain ⟨b1, b2⟩ := HB.out k hk
        obtain ⟨z1, z2⟩ := HZ'.out k hlt
        have hs := sum_take zs k hlt
        have HS := Lib.hid hs; clear hs
        generalize (zs.take k).sum = s at *
        generalize zs.getD k 0 = z at *
        have b3 : s ≤ 68719476736 * 64 := by omega
        clear b2
        go_wp2_with (go_at_call 36; with_reducible refine (HW.out _).mono ?_; rintro e w' ⟨rfl, rfl⟩)
        go_round
        case rel => exact ⟨k + 1, by omega, by go_num, by rw [HS.out]⟩
        case measure => simp [intOf]; omega
      · go_wp2
        go_ret2
        exact ⟨ret2_i64 (by rw [List.take_of_length_le (by omega)]), rfl⟩
  · go_enter Tryd.func20, Tryd.ntmps20
    go_wp2
    refine wp_loop_rounds 1 ?_
    rw [rounds_succ]
    go_wp2
    go_ret2
    exact ⟨rfl, rfl⟩
theorem sum2_bad (w : World) (v : Value) (zs : List Int) (hv : Ints w v zs) (hl : zs.length ≤ 64) (hp : ¬ ∀ z ∈ zs, Pw z) : Calls Tryd.prog 20 #[v] w fun e w' => e = .returned (.tuple #[.int .i64 0, .int .i64 2]) ∧ w' = w := by
  rcases hv with ⟨b, off, cap, rfl, h0, hc⟩ | ⟨ao, cap, rfl, rfl⟩
  · obtain ⟨m, hm, hb, hg⟩ := first_bad zs hp
    have hz := fun k hk w => is_yes (zs.getD k 0) (hg k hk) w
    have hz' := fun k hk => hg k hk
    have hn := fun w => is_no (zs.getD m 0) hb w
    have hbd : ∀ k, k ≤ m → 0 ≤ (zs.take k).sum ∧ (zs.take k).sum ≤ 68719476736 * (k : Int) := by
      intro k
      induction k with
      | zero => intro _; simp
      | succ k ih =>
        intro hk
        rw [sum_take zs k (by omega)]
        have h1 := ih (by omega)
        have h2 := hg k (by omega)
        unfold Pw at h2; omega
    have HB := Lib.hid hbd; clear hbd
    have HZ := Lib.hid hz; clear hz hp hg
    have HZ' := Lib.hid hz'; clear hz'
    have HN := Lib.hid hn; clear hn hb
    have HC := Lib.hid hc; clear hc
    go_enter Tryd.func20, Tryd.ntmps20
    go_wp2
    go_loop [4, 5] (fun s i => ∃ k : Nat, k ≤ m ∧ i = .int .i64 k ∧ s = .int .i64 (zs.take k).sum) (fun _ i => m - (intOf i).toNat)
    case atStart => exact ⟨0, Nat.zero_le _, rfl, by simp⟩
    case round =>
      obtain ⟨k, hk, rfl, rfl⟩ := hrel
      by_cases hlt : k < m
      · have hc := HC.out k (by omega)
        have hlz : k < zs.length := by omega
        have HW := Lib.hid (HZ.out k hlt)
        obtain ⟨b1, b2⟩ := HB.out k hk
        obtain ⟨z1, z2⟩ := HZ'.out k hlt
        have hs := sum_take zs k hlz
        have HS := Lib.hid hs; clear hs
        generalize (zs.take k).sum = s at *
        generalize zs.getD k 0 = z at hc HW z1 z2 HS
        have b3 : s ≤ 68719476736 * 64 := by omega
        clear b2
        go_wp2_with (go_at_call 36; with_reducible refine (HW.out _).mono ?_; rintro e w' ⟨rfl, rfl⟩)
        go_round
        case rel => exact ⟨k + 1, by omega, by go_num, by rw [HS.out]⟩
        case measure => simp [intOf]; omega
      · obtain rfl : k = m := by omega
        have hc := HC.out k hm
        generalize (zs.take k).sum = s at *
        generalize zs.getD k 0 = z at hc HN
        go_wp2_with (go_at_call 36; with_reducible refine (HN.out _).mono ?_; rintro e w' ⟨rfl, rfl⟩)
        go_ret2
        exact ⟨rfl, rfl⟩
  · exact absurd (fun z hz => by cases hz) hp
theorem sum2_any (w : World) (v : Value) (zs : List Int) (hv : Ints w v zs) : Calls Tryd.prog 20 #[v] w fun e w' => e = .returned (.tuple #[.int .i64 (sumS zs).1, .int .i64 (sumS zs).2]) ∧ w' = w := by
  unfold sumS
  by_cases h1 : 64 < zs.length
  · rw [if_pos h1]
    rcases hv with ⟨b, off, cap, rfl, h0, hc⟩ | ⟨ao, cap, rfl, rfl⟩
    · clear hc
      go_enter Tryd.func20, Tryd.ntmps20
      go_wp2
      go_ret2
      exact ⟨rfl, rfl⟩
    · simp at h1
  · rw [if_neg h1]
    by_cases h2 : ∀ z ∈ zs, Pw z
    · rw [if_pos h2]; exact sum2_good w v zs hv (by omega) h2
    · rw [if_neg h2]; exact sum2_bad w v zs hv (by omega) h2
theorem sumS_bd (zs : List Int) : 0 ≤ (sumS zs).1 ∧ (sumS zs).1 ≤ 4398046511104 := by
  unfold sumS
  split
  · simp
  · split
    · rename_i h1 h2
      have := sum_bd zs h2 zs.length (Nat.le_refl _)
      rw [List.take_of_length_le (Nat.le_refl _)] at this
      constructor
      · exact this.1
      · have h3 := this.2; show zs.sum ≤ _; omega
    · simp
theorem sumS_err (zs : List Int) : (sumS zs).2 = 0 ∨ (sumS zs).2 = 2 ∨ (sumS zs).2 = 8 := by
  unfold sumS; split
  · simp
  · split <;> simp

/-- Received. -/
def recS (s t n : Int) (zs : List Int) : Bool × Int :=
  if Pw s ∧ Rt t n then (if (sumS zs).2 = 0 then (decide (t * (n + (sumS zs).1) ≤ 1000 * s), 0) else (false, (sumS zs).2)) else (false, 2)
theorem ret2_bool {a b : Bool} {c : Int} (h : a = b) : Ending.returned (.tuple #[.bool a, .int .i64 c]) = .returned (.tuple #[.bool b, .int .i64 c]) := by rw [h]
theorem received_any (s t n : Int) (zs : List Int) (v : Value) (w : World) (hv : Ints w v zs) : Calls Tryd.prog 21 #[.int .i64 s, .int .i64 t, .int .i64 n, v] w fun e w' => e = .returned (.tuple #[.bool (recS s t n zs).1, .int .i64 (recS s t n zs).2]) ∧ w' = w := by
  by_cases h : Pw s
  · have HA := Lib.hid (fun w => within_yes s 0 68719476736 h.1 h.2 w)
    by_cases h2 : Rt t n
    · rw [show recS s t n zs = _ from if_pos ⟨h, h2⟩]
      have HB := Lib.hid (fun w => receives_yes t n h2 w)
      have hs := sum_any w v zs hv
      obtain ⟨k1, k2⟩ := sumS_bd zs
      have hc := sumS_err zs
      by_cases h0 : (sumS zs).2 = 0
      · rw [if_pos h0]
        rw [h0] at hs
        have HS := Lib.hid hs; clear hs hc h0 hv
        generalize (sumS zs).1 = x at *
        obtain ⟨⟨g1, g2⟩, g3, g4⟩ := h2
        obtain ⟨p1, p2⟩ := h
        have hb := mul_bd (a := t) (b := n + x) (m := 100000) (n := 4466765987840) (by omega) g2 (by omega) (by omega)
        obtain ⟨m1, m2⟩ := hb
        have m3 : t * (n + x) ≤ 446676598784000000 := by omega
        clear m2
        go_enter Tryd.func21, Tryd.ntmps21
        go_wp2_with (first | (go_at_call 32; with_reducible refine (HA.out _).mono ?_; rintro e w' ⟨rfl, rfl⟩) | (go_at_call 38; with_reducible refine (HB.out _).mono ?_; rintro e w' ⟨rfl, rfl⟩) | (go_at_call 18; with_reducible refine HS.out.mono ?_; rintro e w' ⟨rfl, rfl⟩))
        go_ret2
        exact ⟨rfl, rfl⟩
      · rw [if_neg h0]
        have hne : ((sumS zs).2 != 0) = true := by simpa using h0
        have HS := Lib.hid hs; clear hs hc h0 hv k1 k2
        generalize (sumS zs).1 = x at *
        generalize (sumS zs).2 = y at *
        go_enter Tryd.func21, Tryd.ntmps21
        go_wp2_with (first | (go_at_call 32; with_reducible refine (HA.out _).mono ?_; rintro e w' ⟨rfl, rfl⟩) | (go_at_call 38; with_reducible refine (HB.out _).mono ?_; rintro e w' ⟨rfl, rfl⟩) | (go_at_call 18; with_reducible refine HS.out.mono ?_; rintro e w' ⟨rfl, rfl⟩))
        go_ret2
        exact ⟨rfl, rfl⟩
    · rw [show recS s t n zs = _ from if_neg (fun h' => h2 h'.2)]
      have HB := Lib.hid (fun w => receives_no t n h2 w)
      clear h h2
      go_enter Tryd.func21, Tryd.ntmps21
      go_wp2_with (first | (go_at_call 32; with_reducible refine (HA.out _).mono ?_; rintro e w' ⟨rfl, rfl⟩) | (go_at_call 38; with_reducible refine (HB.out _).mono ?_; rintro e w' ⟨rfl, rfl⟩))
      go_ret2
      exact ⟨rfl, rfl⟩
  · rw [show recS s t n zs = _ from if_neg (fun h' => h h'.1)]
    have HA := Lib.hid (fun w => within_no s 0 68719476736 (by unfold Pw at h; omega) w)
    clear h
    go_enter Tryd.func21, Tryd.ntmps21
    go_wp2_with (go_at_call 32; with_reducible refine (HA.out _).mono ?_; rintro e w' ⟨rfl, rfl⟩)
    go_ret2
    exact ⟨rfl, rfl⟩
/-- A copy of a slice. -/
theorem clone_any (w : World) (v : Value) (zs : List Int) (hv : Ints w v zs) (hl : zs.length ≤ 1000) : Calls Tryd.prog 19 #[v] w fun e w' => ∃ v', e = .returned v' ∧ Ints w' v' zs ∧ Same w w' := by
  have own : ∀ {w' : World} {v' : Value} {n : Nat}, w'.ownsRow w.heap.size 3 1 v' n (zs.map (Value.int .i64)) → n = zs.length → Ints w' v' zs := by
    intro w' v' n ho hn
    subst hn
    rcases ho.2 with ⟨rfl, h0⟩ | ⟨g, cap, cur, rfl, rest⟩
    · have hz : zs = [] := by simpa using h0
      subst hz; exact .inr ⟨none, 0, rfl, rfl⟩
    · by_cases hz : zs = []
      · subst hz; exact .inr ⟨_, _, rfl, rfl⟩
      · refine .inl ⟨g, 0, cap, rfl, List.length_pos_iff.2 hz, fun i hi => ?_⟩
        rw [Nat.zero_add, ho.cellAt i (by simpa using hi)]
        simp [List.getD, List.getElem?_eq_getElem hi]
  rcases hv with ⟨b, off, cap, rfl, h0, hc⟩ | ⟨ao, cap, rfl, rfl⟩
  · refine (Tryd.slices_Clone_int b off zs.length cap zs w (Nat.le_refl _) (by omega) hc).mono ?_
    rintro e w' ⟨v', he, ho, _, hb⟩
    rw [List.take_of_length_le (Nat.le_refl _)] at ho
    exact ⟨v', he, own ho rfl, Same.ofBelow hb⟩
  · cases ao with
    | none =>
      refine (Tryd.slices_Clone_int_nil 0 cap w).mono ?_
      rintro e w' ⟨he, rfl⟩
      exact ⟨_, he, .inr ⟨none, 0, rfl, rfl⟩, Same.refl _⟩
    | some a =>
      refine (Tryd.slices_Clone_int_zero a cap w).mono ?_
      rintro e w' ⟨v', he, ho, _, hb⟩
      exact ⟨v', he, own ho rfl, Same.ofBelow hb⟩
end Go.Proofs.YtjgbbafmjdapdaaDoor
