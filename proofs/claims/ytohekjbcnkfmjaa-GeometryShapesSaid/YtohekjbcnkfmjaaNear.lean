/- The law's own function near: a search with a function value. -/
import Derived.Test.YtohekjbcnkfmjaaCheck2
namespace Go.Proofs.Ytohekjbcnkfmjaa
open Go.RowKit

def coB (x y : Int) : Bool := decide ((-20000 ≤ x ∧ x ≤ 20000) ∧ (-20000 ≤ y ∧ y ≤ 20000))
theorem nearC_any (x y : Int) (w : World) : Calls Try.prog 39 #[.agg #[.int .i64 x, .int .i64 y]] w fun e w' => e = .returned (.bool (!coB x y)) ∧ Same w w' := by
  have hcase : (x < -20000 ∧ coB x y = false) ∨ (-20000 ≤ x ∧ 20000 < x ∧ coB x y = false) ∨ (-20000 ≤ x ∧ x ≤ 20000 ∧ y < -20000 ∧ coB x y = false) ∨ (-20000 ≤ x ∧ x ≤ 20000 ∧ -20000 ≤ y ∧ 20000 < y ∧ coB x y = false) ∨ (-20000 ≤ x ∧ x ≤ 20000 ∧ -20000 ≤ y ∧ y ≤ 20000 ∧ coB x y = true) := by
    unfold coB
    by_cases g1 : -20000 ≤ x <;> by_cases g2 : x ≤ 20000 <;> by_cases g3 : -20000 ≤ y <;> by_cases g4 : y ≤ 20000 <;> simp [g1, g2, g3, g4] <;> omega
  generalize coB x y = u at *
  rcases hcase with ⟨h1, rfl⟩ | ⟨h1, h2, rfl⟩ | ⟨h1, h2, h3, rfl⟩ | ⟨h1, h2, h3, h4, rfl⟩ | ⟨h1, h2, h3, h4, rfl⟩
  all_goals
    go_enter Try.func39, Try.ntmps39
    go_wp2
    go_ret
    first
      | exact ⟨rfl, by repeat' (first | exact Same.refl _ | apply Same.alloc)⟩
      | exact ⟨ret_bool (by simp; omega), by repeat' (first | exact Same.refl _ | apply Same.alloc)⟩
theorem nearC_at (x y : Int) (u : Bool) (hu : (!coB x y) = u) (w : World) : Calls Try.prog 39 #[.agg #[.int .i64 x, .int .i64 y]] w fun e w' => e = .returned (.bool u) ∧ Same w w' := hu ▸ nearC_any x y w
def allCo (ps : List Pt) : Bool := decide (∀ i, i < ps.length → coB (ps.getD i ⟨0, 0⟩).x (ps.getD i ⟨0, 0⟩).y = true)
set_option maxHeartbeats 1600000 in
theorem index_any (w : World) (b off cap : Nat) (ps : List Pt) (hl : ps.length ≤ 1000) (hc : ∀ i, i < ps.length → w.cell? ⟨b, off + i * 2, none⟩ = some (.int .i64 (ps.getD i ⟨0, 0⟩).x) ∧ w.cell? ⟨b, off + i * 2 + 1, none⟩ = some (.int .i64 (ps.getD i ⟨0, 0⟩).y)) :
    Calls Try.prog 61 #[.slice (some ⟨b, off, none⟩) ps.length cap, .func (.func 39) #[] #[]] w fun e w' => (∃ k : Int, e = .returned (.int .i64 k) ∧ ((0 ≤ k ∧ allCo ps = false) ∨ (k < 0 ∧ allCo ps = true))) ∧ Same w w' := by
  have HC := Lib.hid hc; clear hc
  have hl' : (ps.length : Int) ≤ 1000 := by omega
  go_enter Try.func61, Try.ntmps61
  go_wp2
  go_loopw [8] (fun i wr => ∃ k : Nat, k ≤ ps.length ∧ i = .int .i64 k ∧ (∀ j, j < k → coB (ps.getD j ⟨0, 0⟩).x (ps.getD j ⟨0, 0⟩).y = true) ∧ Same w wr) (fun i _ => ps.length - (intOf i).toNat)
  case atStart => exact ⟨0, Nat.zero_le _, rfl, fun j hj => absurd hj (Nat.not_lt_zero _), Same.refl _⟩
  case round =>
    obtain ⟨k, hk, rfl, hall, hS⟩ := hrel
    by_cases hlt : k < ps.length
    · obtain ⟨g1, g2⟩ := HC.out k hlt
      replace g1 := hS.cell g1; replace g2 := hS.cell g2
      have HA := Lib.hid hall; clear hall
      have HS := Lib.hid hS; clear hS
      obtain ⟨vv, hvv⟩ : ∃ vv, vv = ps.getD k ⟨0, 0⟩ := ⟨_, rfl⟩
      rw [← hvv] at g1 g2
      have HV := Lib.hid hvv; clear hvv
      obtain ⟨x, y⟩ := vv
      dsimp only at g1 g2
      obtain ⟨u, hu⟩ : ∃ u, (!coB x y) = u := ⟨_, rfl⟩
      have HN := Lib.hid (fun w => nearC_at x y u hu w)
      have HU := Lib.hid hu; clear hu
      cases u
      · go_wp2_with (go_at_call 39; (with_reducible refine (HN.out _).mono ?_); rintro e w1 ⟨rfl, hw⟩; have HW := Lib.hid hw; clear hw)
        go_roundw
        case rel =>
          refine ⟨k + 1, by omega, by go_num, fun j hj => ?_, HS.out.trans HW.out⟩
          rcases Nat.lt_succ_iff_lt_or_eq.1 hj with h | rfl
          · exact HA.out j h
          · rw [← HV.out]; simpa using HU.out
        case measure => simp [intOf]; omega
      · go_wp2_with (go_at_call 39; (with_reducible refine (HN.out _).mono ?_); rintro e w1 ⟨rfl, hw⟩; have HW := Lib.hid hw; clear hw)
        go_ret
        refine ⟨⟨k, rfl, .inl ⟨by omega, ?_⟩⟩, HS.out.trans HW.out⟩
        exact all_false hlt (by rw [← HV.out]; simpa using HU.out)
    · have hkn : k = ps.length := by omega
      have HA := Lib.hid (hkn ▸ hall); clear hall
      have HS := Lib.hid hS; clear hS
      go_wp2
      go_ret
      exact ⟨⟨-1, rfl, .inr ⟨by decide, all_true HA.out⟩⟩, HS.out⟩
theorem near_any (w : World) (b off cap : Nat) (ps : List Pt) (hl : ps.length ≤ 1000) (hc : ∀ i, i < ps.length → w.cell? ⟨b, off + i * 2, none⟩ = some (.int .i64 (ps.getD i ⟨0, 0⟩).x) ∧ w.cell? ⟨b, off + i * 2 + 1, none⟩ = some (.int .i64 (ps.getD i ⟨0, 0⟩).y)) :
    Calls Try.prog 12 #[.slice (some ⟨b, off, none⟩) ps.length cap] w fun e w' => e = .returned (.bool (allCo ps)) ∧ Same w w' := by
  have hx : Calls Try.prog 38 #[.slice (some ⟨b, off, none⟩) ps.length cap, .func (.func 39) #[] #[]] w fun e w' => e = .returned (.bool (!allCo ps)) ∧ Same w w' := by
    have HI := Lib.hid (index_any w b off cap ps hl hc)
    clear hc hl
    generalize allCo ps = u at *
    go_enter Try.func38, Try.ntmps38
    go_wp2_with (go_at_call 61; (with_reducible refine HI.out.mono ?_); rintro e w1 ⟨⟨k, rfl, hk⟩, hw⟩; have HW := Lib.hid hw; have HK := Lib.hid hk; clear hw hk)
    go_ret
    refine ⟨ret_bool ?_, HW.out⟩
    rcases HK.out with ⟨h, rfl⟩ | ⟨h, rfl⟩
    · exact decide_eq_true h
    · exact decide_eq_false (by omega)
  have HX := Lib.hid hx; clear hx hc hl
  generalize allCo ps = u at *
  go_enter Try.func12, Try.ntmps12
  go_wp2_with (go_at_call 38; (with_reducible refine HX.out.mono ?_); rintro e w1 ⟨rfl, hw⟩; have HW := Lib.hid hw; clear hw)
  go_ret
  exact ⟨ret_bool (by simp), HW.out⟩
end Go.Proofs.Ytohekjbcnkfmjaa
