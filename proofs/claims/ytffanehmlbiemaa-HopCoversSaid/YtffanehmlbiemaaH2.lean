/- Lists of numbers: slices.Contains, the reference's Has; channels that are all different. -/
import Derived.Test.YtffanehmlbiemaaH1
namespace Go.Proofs.Ytffanehmlbiemaa
open Go.RowKit

/-- A slice that reads as a list of ints. -/
def IL (w : World) (v : Value) (zs : List Int) : Prop :=
  (∃ b off cap, v = .slice (some ⟨b, off, none⟩) zs.length cap ∧ 0 < zs.length ∧ zs.length ≤ cap ∧ ∀ i, i < zs.length → w.cell? ⟨b, off + i, none⟩ = some (.int .i64 (zs.getD i 0))) ∨ (∃ ao cap, v = .slice ao 0 cap ∧ zs = [])
theorem IL.same {w w' : World} {v : Value} {zs : List Int} (h : IL w v zs) (s : Same w w') : IL w' v zs := by
  rcases h with ⟨b, off, cap, h1, h2, h3, h4⟩ | h
  · exact .inl ⟨b, off, cap, h1, h2, h3, fun i hi => s.cell (h4 i hi)⟩
  · exact .inr h
theorem IL.shape {w : World} {v : Value} {zs : List Int} (h : IL w v zs) : ∃ ao cap, v = .slice ao zs.length cap := by
  rcases h with ⟨b, off, cap, rfl, _⟩ | ⟨ao, cap, rfl, rfl⟩
  · exact ⟨_, _, rfl⟩
  · exact ⟨_, _, rfl⟩
theorem IL.cut {w : World} {b off : Nat} {zs : List Int} (h : ∀ i, i < zs.length → w.cell? ⟨b, off + i, none⟩ = some (.int .i64 (zs.getD i 0))) (k cap : Nat) (hk : k ≤ zs.length) (hc : k ≤ cap) : IL w (.slice (some ⟨b, off, none⟩) k cap) (zs.take k) := by
  cases k with
  | zero => exact .inr ⟨_, _, rfl, by simp⟩
  | succ k =>
    have hl : (zs.take (k + 1)).length = k + 1 := by rw [List.length_take]; omega
    refine .inl ⟨b, off, cap, by rw [hl], by omega, by omega, fun i hi => ?_⟩
    have hi' : i < k + 1 := by omega
    have := h i (by omega)
    rw [this, List.getD_eq_getElem?_getD, List.getD_eq_getElem?_getD, List.getElem?_take_of_lt hi']
theorem getD_mem (zs : List Int) (k : Nat) (h : k < zs.length) : zs.getD k 0 ∈ zs := by
  rw [List.getD_eq_getElem?_getD, List.getElem?_eq_getElem h]
  exact List.getElem_mem h
theorem mem_getD {zs : List Int} {z : Int} (h : z ∈ zs) : ∃ k, k < zs.length ∧ zs.getD k 0 = z := by
  obtain ⟨k, hk, e⟩ := List.getElem_of_mem h
  exact ⟨k, hk, by rw [List.getD_eq_getElem?_getD, List.getElem?_eq_getElem hk]; exact e⟩
def hasB (zs : List Int) (z : Int) : Bool := decide (z ∈ zs)
theorem hasB_hit {zs : List Int} {z : Int} {k : Nat} (hk : k < zs.length) (h : zs.getD k 0 = z) : hasB zs z = true := decide_eq_true (h ▸ getD_mem zs k hk)
theorem hasB_miss {zs : List Int} {z : Int} (h : ∀ k, k < zs.length → ¬ zs.getD k 0 = z) : hasB zs z = false := decide_eq_false fun hm => by
  obtain ⟨k, hk, e⟩ := mem_getD hm
  exact h k hk e
set_option maxHeartbeats 1600000 in
theorem IndexI_any (w : World) (v : Value) (zs : List Int) (z : Int) (h : IL w v zs) (hl : zs.length ≤ 1000) (R : Int → Prop) (hin : ∀ k : Nat, k < zs.length → zs.getD k 0 = z → R k) (hout : (∀ k, k < zs.length → ¬ zs.getD k 0 = z) → R (-1)) :
    Calls Try.prog 49 #[v, .int .i64 z] w fun e w' => (∃ r, -1 ≤ r ∧ r ≤ 1000 ∧ e = .returned (.int .i64 r) ∧ R r) ∧ w' = w := by
  rcases h with ⟨b, off, cap, rfl, h0, _, hc⟩ | ⟨ao, cap, rfl, rfl⟩
  · have H := Lib.hid hc; clear hc
    have HI := Lib.hid hin; clear hin
    have HO := Lib.hid hout; clear hout
    go_enter Try.func49, Try.ntmps49
    go_wp2
    go_loopw [8] (fun i wr => ∃ k : Nat, k ≤ zs.length ∧ i = .int .i64 k ∧ (∀ j, j < k → ¬ zs.getD j 0 = z) ∧ wr = w) (fun i _ => zs.length - (intOf i).toNat)
    case atStart => exact ⟨0, Nat.zero_le _, rfl, fun j hj => absurd hj (Nat.not_lt_zero _), rfl⟩
    case round =>
      obtain ⟨k, hk, rfl, hno, hS⟩ := hrel
      replace hS := hS.symm; subst hS
      by_cases hlt : k < zs.length
      · have z0 := H.out k hlt
        have HNO := Lib.hid hno; clear hno
        have HIK := Lib.hid (HI.out k hlt)
        obtain ⟨x, hx⟩ : ∃ x, zs.getD k 0 = x := ⟨_, rfl⟩
        rw [hx] at z0 HIK
        have HU := Lib.hid hx; clear hx
        by_cases he : z = x
        · have HE := Lib.hid he.symm
          have hd : (z == x) = true := by simpa using he
          clear he
          go_wp2
          go_ret
          exact ⟨⟨(k : Int), by omega, by omega, rfl, HIK.out HE.out⟩, rfl⟩
        · have HE := Lib.hid (fun e : x = z => he e.symm)
          have hd : (z == x) = false := by simpa using he
          clear he
          go_wp2
          go_roundw
          case rel =>
            refine ⟨k + 1, by omega, by go_num, fun j hj => ?_, by first | rfl | trivial⟩
            by_cases hjk : j = k
            · subst hjk; rw [HU.out]; exact HE.out
            · exact HNO.out j (by omega)
          case measure => simp [intOf]; omega
      · obtain rfl : k = zs.length := by omega
        have HNO := Lib.hid (HO.out hno); clear hno
        go_wp2
        go_ret
        exact ⟨⟨-1, by omega, by omega, rfl, HNO.out⟩, rfl⟩
  · have HNO := Lib.hid (hout (fun k hk => absurd hk (by simp)))
    go_enter Try.func49, Try.ntmps49
    go_wp2
    refine wp_loop_rounds 1 ?_
    rw [rounds_succ]
    go_wp2
    go_ret
    exact ⟨⟨-1, by omega, by omega, rfl, HNO.out⟩, rfl⟩
theorem ContainsI_any (w : World) (v : Value) (zs : List Int) (z : Int) (h : IL w v zs) (hl : zs.length ≤ 1000) :
    Calls Try.prog 31 #[v, .int .i64 z] w fun e w' => e = .returned (.bool (hasB zs z)) ∧ w' = w := by
  have HX := Lib.hid (IndexI_any w v zs z h hl (fun r => decide (0 ≤ r) = hasB zs z) (fun k hk he => by rw [hasB_hit hk he]; exact decide_eq_true (by omega)) (fun hno => by rw [hasB_miss hno]; rfl))
  generalize hasB zs z = u at *
  obtain ⟨ao, cap, rfl⟩ := h.shape
  clear h
  go_enter Try.func31, Try.ntmps31
  go_wp2_with (go_at_call 49; (with_reducible refine HX.out.mono ?_); rintro e w1 ⟨⟨r, hr1, hr2, rfl, hr⟩, hw⟩; replace hw := hw.symm; subst hw)
  go_ret
  exact ⟨by first | rfl | exact ret_bool hr, rfl⟩
set_option maxHeartbeats 1600000 in
theorem Has2_any (w : World) (v : Value) (zs : List Int) (z : Int) (h : IL w v zs) (hl : zs.length ≤ 1000) :
    Calls Try.prog 47 #[v, .int .i64 z] w fun e w' => e = .returned (.bool (hasB zs z)) ∧ w' = w := by
  have HI := Lib.hid (fun k hk he => (hasB_hit (zs := zs) (z := z) (k := k) hk he).symm)
  have HO := Lib.hid (fun hno => (hasB_miss (zs := zs) (z := z) hno).symm)
  obtain ⟨u, hu⟩ : ∃ u, hasB zs z = u := ⟨_, rfl⟩
  rw [hu] at HI HO ⊢
  clear hu
  rcases h with ⟨b, off, cap, rfl, h0, _, hc⟩ | ⟨ao, cap, rfl, rfl⟩
  · have H := Lib.hid hc; clear hc
    go_enter Try.func47, Try.ntmps47
    go_wp2
    go_loopw [5] (fun i wr => ∃ k : Nat, k ≤ zs.length ∧ i = .int .i64 k ∧ (∀ j, j < k → ¬ zs.getD j 0 = z) ∧ wr = w) (fun i _ => zs.length - (intOf i).toNat)
    case atStart => exact ⟨0, Nat.zero_le _, rfl, fun j hj => absurd hj (Nat.not_lt_zero _), rfl⟩
    case round =>
      obtain ⟨k, hk, rfl, hno, hS⟩ := hrel
      replace hS := hS.symm; subst hS
      by_cases hlt : k < zs.length
      · have z0 := H.out k hlt
        have HNO := Lib.hid hno; clear hno
        have HIK := Lib.hid (HI.out k hlt)
        obtain ⟨x, hx⟩ : ∃ x, zs.getD k 0 = x := ⟨_, rfl⟩
        rw [hx] at z0 HIK
        have HU := Lib.hid hx; clear hx
        by_cases he : x = z
        · have HE := Lib.hid (HIK.out he)
          have hd : (x == z) = true := by simpa using he
          clear he
          go_wp2
          go_ret
          exact ⟨ret_bool HE.out, rfl⟩
        · have HE := Lib.hid he
          have hd : (x == z) = false := by simpa using he
          clear he
          go_wp2
          go_roundw
          case rel =>
            refine ⟨k + 1, by omega, by go_num, fun j hj => ?_, by first | rfl | trivial⟩
            by_cases hjk : j = k
            · subst hjk; rw [HU.out]; exact HE.out
            · exact HNO.out j (by omega)
          case measure => simp [intOf]; omega
      · obtain rfl : k = zs.length := by omega
        have HNO := Lib.hid (HO.out hno); clear hno
        go_wp2
        go_ret
        exact ⟨ret_bool HNO.out, rfl⟩
  · have HNO := Lib.hid (HO.out (fun k hk => absurd hk (by simp)))
    go_enter Try.func47, Try.ntmps47
    go_wp2
    refine wp_loop_rounds 1 ?_
    rw [rounds_succ]
    go_wp2
    go_ret
    exact ⟨ret_bool HNO.out, rfl⟩
end Go.Proofs.Ytffanehmlbiemaa
