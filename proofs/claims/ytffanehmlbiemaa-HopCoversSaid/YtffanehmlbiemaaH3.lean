/- Channels that are all different, in both packages. -/
import Derived.Test.YtffanehmlbiemaaH2
namespace Go.Proofs.Ytffanehmlbiemaa
open Go.RowKit

/-- Is the i-th channel of a list one, and none of those ahead of it? -/
def chOk (zs : List Int) (i : Nat) : Bool := chB (zs.getD i 0) && !hasB (zs.take i) (zs.getD i 0)
def diffB (zs : List Int) : Bool := (List.range zs.length).all (chOk zs)
def chsB (zs : List Int) : Bool := decide (1 ≤ zs.length) && diffB zs
theorem diffB_true {zs : List Int} (h : ∀ k, k < zs.length → chOk zs k = true) : diffB zs = true := by
  unfold diffB
  rw [List.all_eq_true]
  exact fun k hk => h k (List.mem_range.1 hk)
theorem diffB_false {zs : List Int} {k : Nat} (hk : k < zs.length) (h : chOk zs k = false) : diffB zs = false := by
  unfold diffB
  rw [List.all_eq_false]
  exact ⟨k, List.mem_range.2 hk, by rw [h]; decide⟩
theorem diffB_at {zs : List Int} (h : diffB zs = true) (k : Nat) (hk : k < zs.length) : chOk zs k = true := by
  unfold diffB at h
  rw [List.all_eq_true] at h
  exact h k (List.mem_range.2 hk)
theorem chOk_of {zs : List Int} {k : Nat} (hk : k < zs.length) (h : chOk zs k = true) : (0 ≤ zs.getD k 0 ∧ zs.getD k 0 ≤ 15) ∧ ∀ j, j < k → ¬ zs.getD j 0 = zs.getD k 0 := by
  unfold chOk at h
  rw [Bool.and_eq_true] at h
  refine ⟨inB_yes h.1, fun j hj e => ?_⟩
  have h2 : hasB (zs.take k) (zs.getD k 0) = false := by simpa using h.2
  have : hasB (zs.take k) (zs.getD k 0) = true := hasB_hit (k := j) (by rw [List.length_take]; omega) (by rw [List.getD_eq_getElem?_getD, List.getElem?_take_of_lt hj, ← List.getD_eq_getElem?_getD]; exact e)
  rw [this] at h2; cases h2
/-- Numbers from 0 to n - 1 that are all different are at most n. -/
theorem pigeon : ∀ (n : Nat) (l : List Int), l.Nodup → (∀ x ∈ l, 0 ≤ x ∧ x < (n : Int)) → l.length ≤ n
  | 0, l, _, h => by
    cases l with
    | nil => simp
    | cons a l => have := h a (by simp); omega
  | n + 1, l, hd, h => by
    have ih := pigeon n (l.erase (n : Int)) (hd.erase _) (fun x hx => by
      have h1 := hd.mem_erase_iff.1 hx
      have h2 := h x h1.2
      have h3 := h1.1
      omega)
    by_cases hm : (n : Int) ∈ l
    · rw [List.length_erase_of_mem hm] at ih; omega
    · rw [List.erase_of_not_mem hm] at ih; omega
theorem nodup_of {zs : List Int} (h : ∀ k, k < zs.length → ∀ j, j < k → ¬ zs.getD j 0 = zs.getD k 0) : zs.Nodup := by
  rw [List.nodup_iff_pairwise_ne, List.pairwise_iff_getElem]
  intro i j hi hj hij
  have := h j hj i hij
  rwa [List.getD_eq_getElem?_getD, List.getD_eq_getElem?_getD, List.getElem?_eq_getElem hi, List.getElem?_eq_getElem hj] at this
theorem diff_len {zs : List Int} (h : diffB zs = true) : zs.length ≤ 16 :=
  pigeon 16 zs (nodup_of fun k hk => (chOk_of hk (diffB_at h k hk)).2) (fun x hx => by
    obtain ⟨k, hk, rfl⟩ := mem_getD hx
    have := (chOk_of hk (diffB_at h k hk)).1
    omega)
set_option maxHeartbeats 1600000 in
theorem areChannels_any (w : World) (v : Value) (zs : List Int) (h : IL w v zs) (hl : zs.length ≤ 1000) :
    Calls Try.prog 38 #[v] w fun e w' => e = .returned (.bool (chsB zs)) ∧ w' = w := by
  by_cases h0 : inB (zs.length : Int) 1 16 = true
  · obtain ⟨q1, q2⟩ := inB_yes h0
    rcases h with ⟨b, off, cap, rfl, _, hcap, hc⟩ | ⟨ao, cap, rfl, rfl⟩
    · have e : chsB zs = diffB zs := by unfold chsB; rw [show decide (1 ≤ zs.length) = true from decide_eq_true (by omega)]; rfl
      rw [e]; clear e
      have HT := Lib.hid (fun h => (diffB_true (zs := zs) h).symm)
      have HF := Lib.hid (fun k hk h => (diffB_false (zs := zs) (k := k) hk h).symm)
      obtain ⟨R, hR⟩ : ∃ R, diffB zs = R := ⟨_, rfl⟩
      rw [hR] at HT HF ⊢
      clear hR
      have hw := within_any (zs.length : Int) 1 16 w
      rw [h0] at hw
      have HW := Lib.hid hw; clear hw h0
      have HCUT := Lib.hid (fun (k : Nat) (hk : k < zs.length) => ContainsI_any w (.slice (some ⟨b, off, none⟩) k cap) (zs.take k) (zs.getD k 0) (IL.cut hc k cap (by omega) (by omega)) (by rw [List.length_take]; omega))
      have H := Lib.hid hc; clear hc
      go_enter Try.func38, Try.ntmps38
      go_wp2_with (go_at_call 42; (with_reducible refine HW.out.mono ?_); rintro e w1 ⟨rfl, hw⟩; replace hw := hw.symm; subst hw)
      clear HW
      go_loopw [11] (fun i wr => ∃ k : Nat, k ≤ zs.length ∧ i = .int .i64 k ∧ (∀ j, j < k → chOk zs j = true) ∧ wr = w) (fun i _ => zs.length - (intOf i).toNat)
      case atStart => exact ⟨0, Nat.zero_le _, rfl, fun j hj => absurd hj (Nat.not_lt_zero _), rfl⟩
      case round =>
        obtain ⟨k, hk, rfl, hall, hS⟩ := hrel
        replace hS := hS.symm; subst hS
        have HA := Lib.hid hall; clear hall
        by_cases hlt : k < zs.length
        · have g1 := H.out k hlt
          have hkc : k ≤ cap := by omega
          have hX := isChannel_any (zs.getD k 0) w
          have hY := HCUT.out k hlt
          have hok : chOk zs k = (chB (zs.getD k 0) && !hasB (zs.take k) (zs.getD k 0)) := rfl
          obtain ⟨u, hu⟩ : ∃ u, chB (zs.getD k 0) = u := ⟨_, rfl⟩
          obtain ⟨y, hy⟩ : ∃ y, hasB (zs.take k) (zs.getD k 0) = y := ⟨_, rfl⟩
          rw [hu] at hX
          rw [hy] at hY
          rw [hu, hy] at hok
          clear hu hy
          have HX := Lib.hid hX; clear hX
          have HY := Lib.hid hY; clear hY
          have HOK := Lib.hid hok; clear hok
          generalize zs.getD k 0 = x at *
          cases u with
          | false =>
            have HFK := Lib.hid (HF.out k hlt HOK.out)
            go_wp2_with (go_at_call 52; (with_reducible refine HX.out.mono ?_); rintro e w1 ⟨rfl, hw⟩; replace hw := hw.symm; subst hw)
            go_ret
            exact ⟨ret_bool HFK.out, rfl⟩
          | true =>
            cases y with
            | true =>
              have HFK := Lib.hid (HF.out k hlt HOK.out)
              go_wp2_with (first
                | (go_at_call 52; (with_reducible refine HX.out.mono ?_); rintro e w1 ⟨rfl, hw⟩; replace hw := hw.symm; subst hw)
                | (go_at_call 31; (with_reducible refine HY.out.mono ?_); rintro e w1 ⟨rfl, hw⟩; replace hw := hw.symm; subst hw))
              go_ret
              exact ⟨ret_bool HFK.out, rfl⟩
            | false =>
              go_wp2_with (first
                | (go_at_call 52; (with_reducible refine HX.out.mono ?_); rintro e w1 ⟨rfl, hw⟩; replace hw := hw.symm; subst hw)
                | (go_at_call 31; (with_reducible refine HY.out.mono ?_); rintro e w1 ⟨rfl, hw⟩; replace hw := hw.symm; subst hw))
              go_roundw
              case rel =>
                refine ⟨k + 1, by omega, by go_num, fun j hj => ?_, by first | rfl | trivial⟩
                by_cases hjk : j = k
                · subst hjk; exact HOK.out
                · exact HA.out j (by omega)
              case measure => simp [intOf]; omega
        · obtain rfl : k = zs.length := by omega
          have HFK := Lib.hid (HT.out HA.out)
          go_wp2
          go_ret
          exact ⟨ret_bool HFK.out, rfl⟩
    · simp at q1
  · have h0' : inB (zs.length : Int) 1 16 = false := by simpa using h0
    have e : chsB zs = false := by
      unfold chsB
      by_cases hd : diffB zs = true
      · have := diff_len hd
        have q := inB_no h0'
        rw [show decide (1 ≤ zs.length) = false from decide_eq_false (by omega)]; rfl
      · rw [show diffB zs = false by simpa using hd]; simp
    rw [e]; clear e
    obtain ⟨ao, cap, rfl⟩ := h.shape
    have hw := within_any (zs.length : Int) 1 16 w
    rw [h0'] at hw
    have HW := Lib.hid hw; clear hw h0 h0' h
    generalize zs.length = n at *
    go_enter Try.func38, Try.ntmps38
    go_wp2_with (go_at_call 42; (with_reducible refine HW.out.mono ?_); rintro e w1 ⟨rfl, hw⟩; replace hw := hw.symm; subst hw)
    go_ret
    exact ⟨rfl, rfl⟩
set_option maxHeartbeats 1600000 in
theorem different2_any (w : World) (v : Value) (zs : List Int) (h : IL w v zs) (hl : zs.length ≤ 1000) :
    Calls Try.prog 39 #[v] w fun e w' => e = .returned (.bool (chsB zs)) ∧ Same w w' := by
  rcases h with ⟨b, off, cap, rfl, h0, hcap, hc⟩ | ⟨ao, cap, rfl, rfl⟩
  · have e : chsB zs = diffB zs := by unfold chsB; rw [show decide (1 ≤ zs.length) = true from decide_eq_true (by omega)]; rfl
    rw [e]; clear e
    have HT := Lib.hid (fun h => (diffB_true (zs := zs) h).symm)
    have HF := Lib.hid (fun k hk h => (diffB_false (zs := zs) (k := k) hk h).symm)
    obtain ⟨R, hR⟩ : ∃ R, diffB zs = R := ⟨_, rfl⟩
    rw [hR] at HT HF ⊢
    clear hR
    have HCUT := Lib.hid (fun (k : Nat) (hk : k < zs.length) (w1 : World) (hs : Same w w1) => Has2_any w1 (.slice (some ⟨b, off, none⟩) k cap) (zs.take k) (zs.getD k 0) ((IL.cut hc k cap (by omega) (by omega)).same hs) (by rw [List.length_take]; omega))
    have H := Lib.hid hc; clear hc
    go_enter Try.func39, Try.ntmps39
    go_wp2
    go_loopw [3] (fun i wr => ∃ k : Nat, k ≤ zs.length ∧ i = .int .i64 k ∧ (∀ j, j < k → chOk zs j = true) ∧ Same w wr) (fun i _ => zs.length - (intOf i).toNat)
    case atStart => exact ⟨0, Nat.zero_le _, rfl, fun j hj => absurd hj (Nat.not_lt_zero _), Same.refl _⟩
    case round =>
      obtain ⟨k, hk, rfl, hall, hS⟩ := hrel
      have HA := Lib.hid hall; clear hall
      by_cases hlt : k < zs.length
      · have g1 := hS.cell (H.out k hlt)
        have hkc : k ≤ cap := by omega
        have HX := Lib.hid (fun w => channel2_any (zs.getD k 0) w)
        have HY := Lib.hid (fun w1 hs => HCUT.out k hlt w1 hs)
        have hok : chOk zs k = (chB (zs.getD k 0) && !hasB (zs.take k) (zs.getD k 0)) := rfl
        obtain ⟨u, hu⟩ : ∃ u, chB (zs.getD k 0) = u := ⟨_, rfl⟩
        obtain ⟨y, hy⟩ : ∃ y, hasB (zs.take k) (zs.getD k 0) = y := ⟨_, rfl⟩
        rw [hu] at HX
        rw [hy] at HY
        rw [hu, hy] at hok
        clear hu hy
        have HOK := Lib.hid hok; clear hok
        generalize zs.getD k 0 = x at *
        have HS := Lib.hid hS; clear hS
        cases u with
        | false =>
          have HFK := Lib.hid (HF.out k hlt HOK.out)
          go_wp2
          go_quiet (exact Calls.quiet_of_same (HX.out _))
          go_wp2
          go_ret
          exact ⟨ret_bool HFK.out, HS.out.drewN _⟩
        | true =>
          cases y with
          | true =>
            have HFK := Lib.hid (HF.out k hlt HOK.out)
            go_wp2
            go_quiet (first | exact Calls.quiet_of_same (HX.out _) | exact Calls.quiet_of_same (HY.out _ (by exact HS.out.drewN _)))
            go_wp2
            go_ret
            exact ⟨ret_bool HFK.out, HS.out.drewN _⟩
          | false =>
            go_wp2
            go_quiet (first | exact Calls.quiet_of_same (HX.out _) | exact Calls.quiet_of_same (HY.out _ (by exact HS.out.drewN _)))
            go_wp2
            go_roundw
            case rel =>
              refine ⟨k + 1, by omega, by go_num, fun j hj => ?_, HS.out.drewN _⟩
              by_cases hjk : j = k
              · subst hjk; exact HOK.out
              · exact HA.out j (by omega)
            case measure => simp [intOf]; omega
      · obtain rfl : k = zs.length := by omega
        have HFK := Lib.hid (HT.out HA.out)
        have HS := Lib.hid hS; clear hS
        have hd : decide ((1 : Int) ≤ (zs.length : Int)) = true := decide_eq_true (by omega)
        go_wp2
        go_ret
        exact ⟨by first | exact ret_bool HFK.out | (rw [hd]; exact ret_bool HFK.out), HS.out⟩
  · have e : chsB [] = false := rfl
    rw [e]; clear e
    go_enter Try.func39, Try.ntmps39
    go_wp2
    refine wp_loop_rounds 1 ?_
    rw [rounds_succ]
    go_wp2
    go_ret
    exact ⟨rfl, Same.refl _⟩
end Go.Proofs.Ytffanehmlbiemaa
