/- Is there a correction that names a node? slices.ContainsFunc with the law's closure. -/
import Derived.Test.YtffcoeadpicohaaOneA
import Derived.Test.YtffcoeadpicohaaEqualY
namespace Go.Proofs.Ytffcoeadpicohaa
open Go.RowKit

abbrev fnv (B : Nat) : Value := .func (.func 37) #[] #[.pointer (some ⟨B, 0, none⟩)]
theorem OneC_any (x0 x1 N : Int) (x2 : Bool) (B : Nat) (w : World) (c : w.cell? ⟨B, 0, none⟩ = some (.int .i64 N)) :
    Calls Try.prog 37 #[.agg #[.int .i64 x0, .int .i64 x1, .bool x2], .pointer (some ⟨B, 0, none⟩)] w fun e w' => e = .returned (.bool (decide (x0 = N))) ∧ Same w w' := by
  have HS := Lib.hid ((Same.refl w).alloc (.cells #[.int .i64 x0, .int .i64 x1, .bool x2] 49))
  have c' := HS.out.cell c
  go_enter Try.func37, Try.ntmps37
  go_wp2
  go_ret
  exact ⟨by first | rfl | (congr 2), HS.out⟩
set_option maxHeartbeats 1600000 in
theorem IndexX_any (w : World) (v : Value) (xs : List Sn) (N : Int) (B : Nat) (c : w.cell? ⟨B, 0, none⟩ = some (.int .i64 N)) (h : Lst w v xs.length (xcells xs)) (hl : xs.length ≤ 1000) (R : Int → Prop) (hin : ∀ k : Nat, k < xs.length → (xs.getD k sn0).1 = N → R k) (hout : (∀ k, k < xs.length → ¬ (xs.getD k sn0).1 = N) → R (-1)) :
    Calls Try.prog 58 #[v, fnv B] w fun e w' => (∃ r, -1 ≤ r ∧ r ≤ 1000 ∧ e = .returned (.int .i64 r) ∧ R r) ∧ Same w w' := by
  rcases h with ⟨b, off, cap, rfl, hc⟩ | ⟨ao, cap, rfl, hz, _⟩
  · have H := Lib.hid (fun (k : Nat) (hk : k < xs.length) => x_at hc k hk); clear hc
    have HB := Lib.hid c; clear c
    have HI := Lib.hid hin; clear hin
    have HO := Lib.hid hout; clear hout
    go_enter Try.func58, Try.ntmps58
    go_wp2
    go_loopw [8] (fun i wr => ∃ k : Nat, k ≤ xs.length ∧ i = .int .i64 k ∧ (∀ j, j < k → ¬ (xs.getD j sn0).1 = N) ∧ Same w wr) (fun i _ => xs.length - (intOf i).toNat)
    case atStart => exact ⟨0, Nat.zero_le _, rfl, fun j hj => absurd hj (Nat.not_lt_zero _), Same.refl _⟩
    case round =>
      obtain ⟨k, hk, rfl, hno, hS⟩ := hrel
      by_cases hlt : k < xs.length
      · obtain ⟨z0, z1, z2⟩ := H.out k hlt
        replace z0 := hS.cell z0
        replace z1 := hS.cell z1
        replace z2 := hS.cell z2
        have HS := Lib.hid hS
        have HNO := Lib.hid hno; clear hno
        have HIK := Lib.hid (HI.out k hlt)
        obtain ⟨x, hx⟩ : ∃ x, xs.getD k sn0 = x := ⟨_, rfl⟩
        rw [hx] at z0 z1 z2 HIK
        have HU := Lib.hid hx; clear hx
        obtain ⟨x0, x1, x2⟩ := x
        have hX := OneC_any x0 x1 N x2 B wr (hS.cell HB.out)
        clear hS
        by_cases he : x0 = N
        · rw [show decide (x0 = N) = true from decide_eq_true he] at hX
          have HX := Lib.hid hX; clear hX
          have HE := Lib.hid he; clear he
          go_wp2_with (go_at_call 37; (with_reducible refine HX.out.mono ?_); rintro e w1 ⟨rfl, hw⟩)
          go_ret
          exact ⟨⟨(k : Int), by omega, by omega, rfl, HIK.out HE.out⟩, HS.out.trans hw⟩
        · rw [show decide (x0 = N) = false from decide_eq_false he] at hX
          have HX := Lib.hid hX; clear hX
          have HE := Lib.hid he; clear he
          go_wp2_with (go_at_call 37; (with_reducible refine HX.out.mono ?_); rintro e w1 ⟨rfl, hw⟩; have HW := Lib.hid hw; clear hw z0 z1 z2)
          go_roundw
          case rel =>
            refine ⟨k + 1, by omega, by go_num, fun j hj => ?_, HS.out.trans HW.out⟩
            by_cases hjk : j = k
            · subst hjk; rw [HU.out]; exact HE.out
            · exact HNO.out j (by omega)
          case measure => simp [intOf]; omega
      · obtain rfl : k = xs.length := by omega
        have HS := Lib.hid hS; clear hS
        have HNO := Lib.hid (HO.out hno)
        go_wp2
        go_ret
        exact ⟨⟨-1, by omega, by omega, rfl, HNO.out⟩, HS.out⟩
  · have HNO := Lib.hid (hout (fun k hk => absurd hk (by omega)))
    go_enter Try.func58, Try.ntmps58
    go_wp2
    refine wp_loop_rounds 1 ?_
    rw [rounds_succ]
    go_wp2
    go_ret
    exact ⟨⟨-1, by omega, by omega, rfl, HNO.out⟩, Same.refl _⟩
theorem ContainsX_any (w : World) (v : Value) (xs : List Sn) (N : Int) (B : Nat) (c : w.cell? ⟨B, 0, none⟩ = some (.int .i64 N)) (h : Lst w v xs.length (xcells xs)) (hl : xs.length ≤ 1000) :
    Calls Try.prog 36 #[v, fnv B] w fun e w' => ∃ u : Bool, e = .returned (.bool u) ∧ (u = false → ∀ k, k < xs.length → ¬ (xs.getD k sn0).1 = N) ∧ Same w w' := by
  have hx := fun (u : Bool) (hu : u = true ↔ ∃ k, k < xs.length ∧ (xs.getD k sn0).1 = N) => IndexX_any w v xs N B c h hl (fun r => decide (0 ≤ r) = u) (fun k hk he => by
    rw [hu.2 ⟨k, hk, he⟩]; exact decide_eq_true (by omega)) (fun hno => by
    cases u with
    | true => obtain ⟨k, hk, he⟩ := hu.1 rfl; exact absurd he (hno k hk)
    | false => rfl)
  obtain ⟨u, hu⟩ : ∃ u : Bool, u = true ↔ ∃ k, k < xs.length ∧ (xs.getD k sn0).1 = N := by
    by_cases q : ∃ k, k < xs.length ∧ (xs.getD k sn0).1 = N
    · exact ⟨true, ⟨fun _ => q, fun _ => rfl⟩⟩
    · exact ⟨false, ⟨fun h => (by simp at h), fun h => absurd h q⟩⟩
  have HX := Lib.hid (hx u hu); clear hx
  have HU := Lib.hid (show u = false → ∀ k, k < xs.length → ¬ (xs.getD k sn0).1 = N from fun e k hk he => by rw [hu.2 ⟨k, hk, he⟩] at e; cases e)
  obtain ⟨ao, cap, rfl⟩ := h.shape
  clear h hu c
  go_enter Try.func36, Try.ntmps36
  go_wp2_with (go_at_call 58; (with_reducible refine HX.out.mono ?_); rintro e w1 ⟨⟨r, hr1, hr2, rfl, hr⟩, hw⟩)
  go_ret
  exact ⟨u, rfl, HU.out, hw⟩
end Go.Proofs.Ytffcoeadpicohaa
