/- Sums of powers: the calls on slices of ints. -/
import Derived.Test.YtjgbbafmjdapdaaDoorForm
namespace Go.Proofs.YtjgbbafmjdapdaaDoor
open Go.RowKit

/-- A slice that reads as a list of ints. -/
def Ints (w : World) (v : Value) (zs : List Int) : Prop :=
  (∃ b off cap, v = .slice (some ⟨b, off, none⟩) zs.length cap ∧ 0 < zs.length ∧ ∀ i, i < zs.length → w.cell? ⟨b, off + i, none⟩ = some (.int .i64 (zs.getD i 0))) ∨ (∃ ao cap, v = .slice ao 0 cap ∧ zs = [])
theorem Ints.same {w w' : World} {v : Value} {zs : List Int} (h : Ints w v zs) (s : Same w w') : Ints w' v zs := by
  rcases h with ⟨b, off, cap, h1, h2, h3⟩ | h
  · exact .inl ⟨b, off, cap, h1, h2, fun i hi => s.cell (h3 i hi)⟩
  · exact .inr h
def sumS (zs : List Int) : Int × Int := if 64 < zs.length then (0, 8) else if ∀ z ∈ zs, Pw z then (zs.sum, 0) else (0, 2)
theorem sum_take (zs : List Int) (k : Nat) (hk : k < zs.length) : (zs.take (k + 1)).sum = (zs.take k).sum + zs.getD k 0 := by
  rw [List.take_succ_eq_append_getElem hk, List.sum_append]; simp [List.getD_eq_getElem?_getD, hk]
theorem sum_bd (zs : List Int) (h : ∀ z ∈ zs, Pw z) (k : Nat) (hk : k ≤ zs.length) : 0 ≤ (zs.take k).sum ∧ (zs.take k).sum ≤ 68719476736 * (k : Int) := by
  induction k with
  | zero => simp
  | succ k ih =>
    rw [sum_take zs k (by omega)]
    have := ih (by omega)
    have hz := h (zs.getD k 0) (by rw [List.getD_eq_getElem?_getD, List.getElem?_eq_getElem (by omega)]; exact List.getElem_mem _)
    unfold Pw at hz; omega
theorem at_mem (zs : List Int) (k : Nat) (hk : k < zs.length) : zs.getD k 0 ∈ zs := by
  rw [List.getD_eq_getElem?_getD, List.getElem?_eq_getElem hk]; exact List.getElem_mem _

theorem add_any (w : World) (v : Value) (zs : List Int) (hv : Ints w v zs) (hl : zs.length ≤ 64) (hp : ∀ z ∈ zs, Pw z) : Calls Tryd.prog 37 #[v] w fun e w' => e = .returned (.int .i64 zs.sum) ∧ w' = w := by
  rcases hv with ⟨b, off, cap, rfl, h0, hc⟩ | ⟨ao, cap, rfl, rfl⟩
  · have hb := fun k hk => sum_bd zs hp k hk
    have hz := fun k hk => hp _ (at_mem zs k hk)
    have HB := Lib.hid hb; clear hb
    have HZ := Lib.hid hz; clear hz hp
    have HC := Lib.hid hc; clear hc
    go_enter Tryd.func37, Tryd.ntmps37
    go_wp2
    go_loop [3, 8] (fun s i => ∃ k : Nat, k ≤ zs.length ∧ i = .int .i64 k ∧ s = .int .i64 (zs.take k).sum) (fun _ i => zs.length - (intOf i).toNat)
    case atStart => exact ⟨0, Nat.zero_le _, rfl, by simp⟩
    case round =>
      obtain ⟨k, hk, rfl, rfl⟩ := hrel
      by_cases hlt : k < zs.length
      · have hc := HC.out k hlt
        obtain ⟨b1, b2⟩ := HB.out k hk
        obtain ⟨z1, z2⟩ := HZ.out k hlt
        have hs := sum_take zs k hlt
        have HS := Lib.hid hs; clear hs
        generalize (zs.take k).sum = s at *
        generalize zs.getD k 0 = z at *
        have b3 : s ≤ 68719476736 * 64 := by omega
        clear b2
        go_wp2
        go_round
        case rel => exact ⟨k + 1, by omega, by go_num, by rw [HS.out]⟩
        case measure => simp [intOf]; omega
      · go_wp2
        go_ret
        exact ⟨ret_i64 (by rw [List.take_of_length_le (by omega)]), rfl⟩
  · go_enter Tryd.func37, Tryd.ntmps37
    go_wp2
    refine wp_loop_rounds 1 ?_
    rw [rounds_succ]
    go_wp2
    go_ret
    exact ⟨rfl, rfl⟩

theorem sum_good (w : World) (v : Value) (zs : List Int) (hv : Ints w v zs) (hl : zs.length ≤ 64) (hp : ∀ z ∈ zs, Pw z) : Calls Tryd.prog 18 #[v] w fun e w' => e = .returned (.tuple #[.int .i64 zs.sum, .int .i64 0]) ∧ w' = w := by
  have HA := Lib.hid (add_any w v zs hv hl hp)
  rcases hv with ⟨b, off, cap, rfl, h0, hc⟩ | ⟨ao, cap, rfl, rfl⟩
  · have hz := fun k hk w => within_yes (zs.getD k 0) 0 68719476736 (hp _ (at_mem zs k hk)).1 (hp _ (at_mem zs k hk)).2 w
    have HZ := Lib.hid hz; clear hz hp
    have HC := Lib.hid hc; clear hc
    go_enter Tryd.func18, Tryd.ntmps18
    go_wp2
    go_loop [11] (fun i => ∃ k : Nat, k ≤ zs.length ∧ i = .int .i64 k) (fun i => zs.length - (intOf i).toNat)
    case atStart => exact ⟨0, Nat.zero_le _, rfl⟩
    case round =>
      obtain ⟨k, hk, rfl⟩ := hrel
      by_cases hlt : k < zs.length
      · have hc := HC.out k hlt
        have HW := Lib.hid (HZ.out k hlt)
        generalize zs.getD k 0 = z at *
        go_wp2_with (go_at_call 32; with_reducible refine (HW.out _).mono ?_; rintro e w' ⟨rfl, rfl⟩)
        go_round
        case rel => exact ⟨k + 1, by omega, by go_num⟩
        case measure => simp [intOf]; omega
      · go_wp2_with (go_at_call 37; with_reducible refine HA.out.mono ?_; rintro e w' ⟨rfl, rfl⟩)
        go_ret2
        exact ⟨rfl, rfl⟩
  · go_enter Tryd.func18, Tryd.ntmps18
    go_wp2
    refine wp_loop_rounds 1 ?_
    rw [rounds_succ]
    go_wp2_with (go_at_call 37; with_reducible refine HA.out.mono ?_; rintro e w' ⟨rfl, rfl⟩)
    go_ret2
    exact ⟨rfl, rfl⟩
/-- The first one that is no power. -/
theorem first_bad (zs : List Int) (h : ¬ ∀ z ∈ zs, Pw z) : ∃ m, m < zs.length ∧ ¬ Pw (zs.getD m 0) ∧ ∀ i, i < m → Pw (zs.getD i 0) := by
  induction zs with
  | nil => exact absurd (fun z hz => by cases hz) h
  | cons z zs ih =>
    by_cases hz : Pw z
    · obtain ⟨m, h1, h2, h3⟩ := ih (fun h' => h (fun y hy => by rcases List.mem_cons.1 hy with rfl | hy'; exact hz; exact h' y hy'))
      refine ⟨m + 1, by simp; omega, by simpa using h2, fun i hi => ?_⟩
      cases i with
      | zero => simpa using hz
      | succ i => simpa using h3 i (by omega)
    · exact ⟨0, by simp, by simpa using hz, fun i hi => by omega⟩
theorem sum_bad (w : World) (v : Value) (zs : List Int) (hv : Ints w v zs) (hl : zs.length ≤ 64) (hp : ¬ ∀ z ∈ zs, Pw z) : Calls Tryd.prog 18 #[v] w fun e w' => e = .returned (.tuple #[.int .i64 0, .int .i64 2]) ∧ w' = w := by
  rcases hv with ⟨b, off, cap, rfl, h0, hc⟩ | ⟨ao, cap, rfl, rfl⟩
  · obtain ⟨m, hm, hb, hg⟩ := first_bad zs hp
    have hz := fun k hk w => within_yes (zs.getD k 0) 0 68719476736 (hg k hk).1 (hg k hk).2 w
    have hn := fun w => within_no (zs.getD m 0) 0 68719476736 (by unfold Pw at hb; omega) w
    have HZ := Lib.hid hz; clear hz hp hg
    have HN := Lib.hid hn; clear hn hb
    have HC := Lib.hid hc; clear hc
    go_enter Tryd.func18, Tryd.ntmps18
    go_wp2
    go_loop [11] (fun i => ∃ k : Nat, k ≤ m ∧ i = .int .i64 k) (fun i => m - (intOf i).toNat)
    case atStart => exact ⟨0, Nat.zero_le _, rfl⟩
    case round =>
      obtain ⟨k, hk, rfl⟩ := hrel
      by_cases hlt : k < m
      · have hc := HC.out k (by omega)
        have hlz : k < zs.length := by omega
        have HW := Lib.hid (HZ.out k hlt)
        generalize zs.getD k 0 = z at hc HW
        go_wp2_with (go_at_call 32; with_reducible refine (HW.out _).mono ?_; rintro e w' ⟨rfl, rfl⟩)
        go_round
        case rel => exact ⟨k + 1, by omega, by go_num⟩
        case measure => simp [intOf]; omega
      · obtain rfl : k = m := by omega
        have hc := HC.out k hm
        generalize zs.getD k 0 = z at hc HN
        go_wp2_with (go_at_call 32; with_reducible refine (HN.out _).mono ?_; rintro e w' ⟨rfl, rfl⟩)
        go_ret2
        exact ⟨rfl, rfl⟩
  · exact absurd (fun z hz => by cases hz) hp
theorem sum_long (w : World) (v : Value) (zs : List Int) (hv : Ints w v zs) (hl : 64 < zs.length) : Calls Tryd.prog 18 #[v] w fun e w' => e = .returned (.tuple #[.int .i64 0, .int .i64 8]) ∧ w' = w := by
  rcases hv with ⟨b, off, cap, rfl, h0, hc⟩ | ⟨ao, cap, rfl, rfl⟩
  · clear hc
    go_enter Tryd.func18, Tryd.ntmps18
    go_wp2
    go_ret2
    exact ⟨rfl, rfl⟩
  · simp at hl
theorem sum_any (w : World) (v : Value) (zs : List Int) (hv : Ints w v zs) : Calls Tryd.prog 18 #[v] w fun e w' => e = .returned (.tuple #[.int .i64 (sumS zs).1, .int .i64 (sumS zs).2]) ∧ w' = w := by
  unfold sumS
  by_cases h1 : 64 < zs.length
  · rw [if_pos h1]; exact sum_long w v zs hv h1
  · rw [if_neg h1]
    by_cases h2 : ∀ z ∈ zs, Pw z
    · rw [if_pos h2]; exact sum_good w v zs hv (by omega) h2
    · rw [if_neg h2]; exact sum_bad w v zs hv (by omega) h2
end Go.Proofs.YtjgbbafmjdapdaaDoor
