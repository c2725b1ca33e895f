/- Without of the reference. -/
import Derived.Test.YtffanehmlbiemaaH12
namespace Go.Proofs.Ytffanehmlbiemaa
open Go.RowKit

theorem keptK_stop {ch bl : List Int} {gd : Nat} {least : Int} {k : Nat} (h : least ≤ ((gd + (keptK ch bl gd least k).length : Nat) : Int)) : ∀ j, k + j ≤ bl.length → keptK ch bl gd least (k + j) = keptK ch bl gd least k
  | 0, _ => rfl
  | j + 1, hj => by
    have ih := keptK_stop h j (by omega)
    rw [← Nat.add_assoc, keptK_succ ch bl gd least (k + j) (by omega), ih]
    unfold keptS
    rw [show decide (((gd + (keptK ch bl gd least k).length : Nat) : Int) < least) = false from decide_eq_false (by omega)]
    simp
theorem icells_snoc (l : List Int) (y : Int) : icells (l ++ [y]) = icells l ++ [.int .i64 y] := by unfold icells; simp
theorem IL.parts {w : World} {v : Value} {zs : List Int} (h : IL w v zs) : ∃ ao cap, v = .slice ao zs.length cap ∧ ∀ i, i < zs.length → ∃ b off, ao = some ⟨b, off, none⟩ ∧ w.cell? ⟨b, off + i, none⟩ = some (.int .i64 (zs.getD i 0)) := by
  rcases h with ⟨b, off, cap, rfl, _, _, g⟩ | ⟨ao, cap, rfl, rfl⟩
  · exact ⟨_, _, rfl, fun i hi => ⟨b, off, rfl, g i hi⟩⟩
  · exact ⟨_, _, rfl, fun i hi => absurd hi (by simp)⟩
set_option maxHeartbeats 6400000 in
set_option maxRecDepth 100000 in
theorem Without2_any (w : World) (v1 v2 : Value) (ch bl : List Int) (least : Int) (h1 : IL w v1 ch) (h2 : IL w v2 bl) (l1 : ch.length ≤ 1000) (l2 : bl.length ≤ 1000) :
    Calls Try.prog 27 #[v1, v2, .int .i64 least] w (WithP w ch bl least) := by
  obtain ⟨i0, hi, hz0, hz1, hz2⟩ := info_parts Try.infoI
  have hD := fun (w1 : World) (hs : Same w w1) => different2_any w1 v1 ch (h1.same hs) l1
  have HC1 := Lib.hid (fun (w1 : World) (hs : Same w w1) (c : Int) => Has2_any w1 v1 ch c (h1.same hs) l1)
  have HB1 := Lib.hid (fun (w1 : World) (hs : Same w w1) (c : Int) => Has2_any w1 v2 bl c (h2.same hs) l2)
  obtain ⟨a1, k1, rfl, hx1⟩ := h1.parts
  obtain ⟨a2, k2, rfl, hx2⟩ := h2.parts
  clear h1 h2
  unfold WithP
  by_cases c1 : chsB ch = true
  · rw [c1] at hD
    have HD := Lib.hid hD; clear hD
    obtain ⟨g0, g16, _⟩ := chsB_of c1
    by_cases c0 : bl.length ≤ 64
    · have H1 := Lib.hid hx1; clear hx1
      have H2 := Lib.hid hx2; clear hx2
      have HBAD := Lib.hid (fun (k : Nat) (hk : k < bl.length) (h : chB (bl.getD k 0) = false) => (show withoutS ch bl least = ([], 1) from by
        unfold withoutS blackB; rw [all_not hk h]; simp))
      have HOK := Lib.hid (fun (h : ∀ k, k < bl.length → chB (bl.getD k 0) = true) => (show withoutS ch bl least = if inB least 1 (ch.length : Int) = true then (outL ch bl (keptK ch bl (goodN ch bl) least bl.length), 0) else ([], 2) from by
        unfold withoutS blackB; rw [all_at h, c1, show decide (bl.length ≤ 64) = true from decide_eq_true c0, if_pos (by rfl)]))
      have HS1 := Lib.hid (fun (k : Nat) (hk : k < ch.length) => take_snoc ch k hk)
      have HT1 := Lib.hid (List.take_length (l := ch))
      have HKS := Lib.hid (fun gd k hk => keptK_succ ch bl gd least k hk)
      have HKL := Lib.hid (fun gd k hk => keptK_le ch bl gd least k hk)
      have HSTOP := Lib.hid (fun (gd k j : Nat) (h : least ≤ ((gd + (keptK ch bl gd least k).length : Nat) : Int)) (hj : k + j ≤ bl.length) => keptK_stop h j hj)
      have HGLE := Lib.hid (fun k => (show goodN (ch.take k) bl ≤ k from Nat.le_trans (goodN_le _ _) (by rw [List.length_take]; omega)))
      obtain ⟨⟨RL, RE⟩, hR⟩ : ∃ R, withoutS ch bl least = R := ⟨_, rfl⟩
      rw [hR] at HBAD HOK ⊢
      clear hR c1
      generalize hn : ch.length = n at *
      generalize hm : bl.length = m at *
      have HN := Lib.hid (And.intro hn hm); clear hn hm
      go_enter Try.func27, Try.ntmps27
      go_wp2_with (go_at_call 39; (with_reducible refine (HD.out _ (by exact Same.refl _)).mono ?_); rintro e w1 ⟨rfl, hw⟩; have HW1 := Lib.hid hw; clear hw)
      clear HD
      go_loopw [8] (fun i wr => ∃ k : Nat, k ≤ m ∧ i = .int .i64 k ∧ (∀ j, j < k → chB (bl.getD j 0) = true) ∧ wr = w1) (fun i _ => m - (intOf i).toNat)
      case atStart => exact ⟨0, Nat.zero_le _, rfl, fun j hj => absurd hj (Nat.not_lt_zero _), rfl⟩
      case round =>
        obtain ⟨k, hk, rfl, hall, hS⟩ := hrel
        replace hS := hS.symm; subst hS
        have HA := Lib.hid hall; clear hall
        by_cases hlt : k < m
        · obtain ⟨b, off, rfl, z0⟩ := H2.out k hlt
          replace z0 := HW1.out.cell z0
          have hX := channel2_any (bl.getD k 0) w1
          have HF := Lib.hid (HBAD.out k hlt)
          obtain ⟨u, hu⟩ : ∃ u, chB (bl.getD k 0) = u := ⟨_, rfl⟩
          rw [hu] at hX HF
          have HU := Lib.hid hu; clear hu
          have HX := Lib.hid hX; clear hX
          generalize bl.getD k 0 = x at z0 HX
          cases u with
          | false =>
            have hf := HF.out (by first | rfl | trivial)
            injection hf with f1 f2
            subst f1 f2
            clear HF HBAD HOK
            go_wp2_with (go_at_call 46; (with_reducible refine HX.out.mono ?_); rintro e w2 ⟨rfl, hw⟩; replace hw := hw.symm; subst hw)
            go_ret2
            exact ⟨_, rfl, HW1.out, .inr ⟨_, _, rfl, rfl⟩⟩
          | true =>
            go_wp2_with (go_at_call 46; (with_reducible refine HX.out.mono ?_); rintro e w2 ⟨rfl, hw⟩; replace hw := hw.symm; subst hw)
            go_roundw
            case rel =>
              refine ⟨k + 1, by omega, by go_num, fun j hj => ?_, by first | rfl | trivial⟩
              by_cases hjk : j = k
              · subst hjk; exact HU.out
              · exact HA.out j (by omega)
            case measure => simp [intOf]; omega
        · obtain rfl : m = k := by omega
          have hok := HOK.out HA.out
          clear HA HBAD HOK
          by_cases c3 : inB least 1 (n : Int) = true
          · rw [if_pos c3] at hok
            obtain ⟨q1, q2⟩ := inB_yes c3
            injection hok with f1 f2
            subst f2
            have HR := Lib.hid f1; clear f1 c3
            go_wp2
            go_loopw [9, 11] (fun c i wr => ∃ k : Nat, k ≤ n ∧ i = .int .i64 k ∧ c = .int .i64 ((goodN (ch.take k) bl : Nat) : Int) ∧ wr = w1.alloc (.cells #[] 3)) (fun _ i _ => n - (intOf i).toNat)
            case atStart => exact ⟨0, Nat.zero_le _, rfl, rfl, rfl⟩
            case round =>
              obtain ⟨k, hk, rfl, rfl, rfl⟩ := hrel
              by_cases hlt : k < n
              · obtain ⟨b, off, rfl, z0⟩ := H1.out k hlt
                replace z0 := (HW1.out.alloc (.cells #[] 3)).cell z0
                have hgs := goodN_snoc (ch.take k) bl (ch.getD k 0)
                rw [← HS1.out k hlt] at hgs
                have hgl := HGLE.out k
                have hX := HB1.out _ (HW1.out.alloc (.cells #[] 3)) (ch.getD k 0)
                obtain ⟨u, hu⟩ : ∃ u, hasB bl (ch.getD k 0) = u := ⟨_, rfl⟩
                rw [hu] at hX hgs
                clear hu
                have HX := Lib.hid hX; clear hX
                have HG := Lib.hid hgs; clear hgs
                generalize ch.getD k 0 = x at z0 HX
                generalize goodN (ch.take k) bl = gk at *
                cases u with
                | true =>
                  go_wp2_with (go_at_call 47; (with_reducible refine HX.out.mono ?_); rintro e w2 ⟨rfl, hw⟩; replace hw := hw.symm; subst hw)
                  go_roundw
                  case rel => exact ⟨k + 1, by omega, by go_num, by rw [HG.out]; simp, by first | rfl | trivial⟩
                  case measure => simp [intOf]; omega
                | false =>
                  go_wp2_with (go_at_call 47; (with_reducible refine HX.out.mono ?_); rintro e w2 ⟨rfl, hw⟩; replace hw := hw.symm; subst hw)
                  go_roundw
                  case rel => exact ⟨k + 1, by omega, by go_num, by rw [HG.out]; go_num, by first | rfl | trivial⟩
                  case measure => simp [intOf]; omega
              · obtain rfl : n = k := by omega
                rw [HT1.out]
                have hgl := HGLE.out n
                rw [HT1.out] at hgl
                have HKS2 := Lib.hid (HKS.out (goodN ch bl))
                have HKL2 := Lib.hid (HKL.out (goodN ch bl))
                have HST2 := Lib.hid (HSTOP.out (goodN ch bl)); clear HKS HKL HSTOP HGLE
                generalize goodN ch bl = gd at *
                go_wp2
                go_loopw [9, 10, 12] (fun c s i wr => ∃ k : Nat, k ≤ m ∧ i = .int .i64 k ∧ c = .int .i64 ((gd : Int) + ((keptK ch bl gd least k).length : Int)) ∧ Same w1 wr ∧ wr.ownsRow w1.heap.size 3 1 s (keptK ch bl gd least k).length (icells (keptK ch bl gd least k))) (fun _ _ i _ => m - (intOf i).toNat)
                case atStart => exact ⟨0, Nat.zero_le _, rfl, by simp [keptK], (Same.refl _).alloc _, World.ownsRow_made w1 #[] 0 (Nat.le_refl _) (Nat.zero_le _) rfl⟩
                case round =>
                  obtain ⟨k, hk, rfl, rfl, hS, hrow⟩ := hrel
                  have hkl := HKL2.out k hk
                  by_cases hgo : k < m ∧ ((gd + (keptK ch bl gd least k).length : Nat) : Int) < least
                  · obtain ⟨hlt, c4⟩ := hgo
                    obtain ⟨b, off, rfl, z0⟩ := H2.out k hlt
                    replace z0 := hS.cell (HW1.out.cell z0)
                    have hks := HKS2.out k hlt
                    have hX := HC1.out _ (HW1.out.trans hS) (bl.getD k 0)
                    have hY := Has2_any _ _ (keptK ch bl gd least k) (bl.getD k 0) (IL.of_own hrow) (by omega)
                    obtain ⟨y, hy⟩ : ∃ y, bl.getD k 0 = y := ⟨_, rfl⟩
                    rw [hy] at z0 hks hX hY
                    clear hy
                    unfold keptS at hks
                    rw [show decide (((gd + (keptK ch bl gd least k).length : Nat) : Int) < least) = true from decide_eq_true c4, Bool.true_and] at hks
                    generalize hK : keptK ch bl gd least k = K at *
                    have HK := Lib.hid hK; clear hK
                    have d1 : (gd : Int) + (K.length : Int) < least := by omega
                    have hkm : K.length ≤ 64 := by omega
                    clear c4 hkl
                    obtain ⟨u1, hu1⟩ : ∃ u, hasB ch y = u := ⟨_, rfl⟩
                    obtain ⟨u2, hu2⟩ : ∃ u, hasB K y = u := ⟨_, rfl⟩
                    rw [hu1] at hX
                    rw [hu2] at hY
                    rw [hu1, hu2] at hks
                    clear hu1 hu2
                    have HX := Lib.hid hX; clear hX
                    have HY := Lib.hid hY; clear hY
                    have HQ := Lib.hid (And.intro hS hrow); clear hS hrow
                    have HSN2 := Lib.hid hks; clear hks
                    cases u1 with
                    | false =>
                      go_wp2_with (go_at_call 47; (with_reducible refine HX.out.mono ?_); rintro e w2 ⟨rfl, hw⟩; replace hw := hw.symm; subst hw)
                      go_roundw
                      case rel =>
                        have e : keptK ch bl gd least (k + 1) = K := by rw [HSN2.out]; simp
                        exact ⟨k + 1, by omega, by go_num, by rw [e], HQ.out.1, by rw [e]; exact HQ.out.2⟩
                      case measure => simp [intOf]; omega
                    | true =>
                      cases u2 with
                      | true =>
                        go_wp2_with (first
                          | (go_at_call 47; (with_reducible refine HX.out.mono ?_); rintro e w2 ⟨rfl, hw⟩; replace hw := hw.symm; subst hw)
                          | (go_at_call 47; (with_reducible refine HY.out.mono ?_); rintro e w2 ⟨rfl, hw⟩; replace hw := hw.symm; subst hw))
                        go_roundw
                        case rel =>
                          have e : keptK ch bl gd least (k + 1) = K := by rw [HSN2.out]; simp
                          exact ⟨k + 1, by omega, by go_num, by rw [e], HQ.out.1, by rw [e]; exact HQ.out.2⟩
                        case measure => simp [intOf]; omega
                      | false =>
                        go_wp2_with (first
                          | (go_at_call 47; (with_reducible refine HX.out.mono ?_); rintro e w2 ⟨rfl, hw⟩; replace hw := hw.symm; subst hw)
                          | (go_at_call 47; (with_reducible refine HY.out.mono ?_); rintro e w2 ⟨rfl, hw⟩; replace hw := hw.symm; subst hw)
                          | (at_builtin; refine wpList_append_own _ rfl _ _ 22 rfl w1.heap.size 3 i0 (.int .i64 0) 1 8 Try.underlying22 hi hz0 hz1 hz2 rfl (by decide) _ _ _ rfl ((own_same HQ.out.2 (Same.refl _)).alloc _) ⟨wr.heap.size, 0, none⟩ 1 1 [.int .i64 y] rfl ?qc1 ?qc2 ?qc3 ?qc4 ?qc5 ?qc6 ?_))
                        case qc1 => rfl
                        case qc2 => exact World.news_of_block (by exact heap_alloc_new wr _)
                        case qc3 => intro u hu; simp at hu; subst hu; rfl
                        case qc4 => unfold maxLen; omega
                        case qc5 => omega
                        case qc6 => have := HQ.out.1.size; simp at this ⊢; omega
                        intro v' w8 hown hgrow hnil
                        have HO := Lib.hid hown
                        have HGW := Lib.hid (same_grown HQ.out.1 HQ.out.2 hgrow)
                        clear hown hgrow hnil
                        go_wp2
                        go_roundw
                        case rel =>
                          have e : keptK ch bl gd least (k + 1) = K ++ [y] := by rw [HSN2.out]; simp
                          refine ⟨k + 1, by omega, by go_num, by rw [e]; simp; omega, HGW.out, ?_⟩
                          rw [e, List.length_append, icells_snoc]; exact HO.out
                        case measure => simp [intOf]; omega
                  · have hfin : keptK ch bl gd least m = keptK ch bl gd least k := by
                      by_cases hlt : k < m
                      · have := HST2.out k (m - k) (by omega) (by omega)
                        rwa [show k + (m - k) = m by omega] at this
                      · obtain rfl : m = k := by omega
                        rfl
                    rw [hfin] at HR
                    have HX1 := Lib.hid (HW1.out.trans hS)
                    have HIL := Lib.hid (IL.of_own hrow)
                    obtain ⟨a4, c5, hsv⟩ := HIL.out.shape
                    subst hsv
                    generalize keptK ch bl gd least k = K at *
                    have HLE := Lib.hid (fun k => (show (outL (ch.take k) bl K).length ≤ k from Nat.le_trans (outL_le _ _ _) (by rw [List.length_take]; omega)))
                    have HSN := Lib.hid (fun l x => outL_snoc l bl K x)
                    have hkm : K.length ≤ 64 := by omega
                    clear hS hrow hfin HKS2 HKL2 HST2 HC1 hkl
                    obtain ⟨x1, hx1⟩ : ∃ x1, x1 = wr := ⟨_, rfl⟩
                    rw [← hx1] at HX1 HIL ⊢
                    clear hx1
                    by_cases hlt : k < m
                    · have d1 : decide ((gd : Int) + (K.length : Int) < least) = false := decide_eq_false (by omega)
                      clear hgo
                      go_wp2
                      go_loopw [13, 14] (fun s i wx => ∃ k : Nat, k ≤ n ∧ i = .int .i64 k ∧ Same x1 wx ∧ wx.ownsRow x1.heap.size 3 1 s (outL (ch.take k) bl K).length (icells (outL (ch.take k) bl K))) (fun _ i _ => n - (intOf i).toNat)
                      case atStart => exact ⟨0, Nat.zero_le _, rfl, (Same.refl _).alloc _, World.ownsRow_made x1 #[] 0 (Nat.le_refl _) (Nat.zero_le _) rfl⟩
                      case round =>
                        obtain ⟨k, hk, rfl, hS, hrow⟩ := hrel
                        by_cases hlt : k < n
                        · obtain ⟨b, off, rfl, z0⟩ := H1.out k hlt
                          replace z0 := hS.cell (HX1.out.cell z0)
                          have hsn := HSN.out (ch.take k) (ch.getD k 0)
                          rw [← HS1.out k hlt] at hsn
                          have hle := HLE.out k
                          have hX := HB1.out _ (HX1.out.trans hS) (ch.getD k 0)
                          have hY := Has2_any _ _ K (ch.getD k 0) (HIL.out.same hS) (by omega)
                          obtain ⟨y, hy⟩ : ∃ y, ch.getD k 0 = y := ⟨_, rfl⟩
                          rw [hy] at z0 hsn hX hY
                          clear hy
                          obtain ⟨u1, hu1⟩ : ∃ u, hasB bl y = u := ⟨_, rfl⟩
                          obtain ⟨u2, hu2⟩ : ∃ u, hasB K y = u := ⟨_, rfl⟩
                          rw [hu1] at hX
                          rw [hu2] at hY
                          rw [hu1, hu2] at hsn
                          clear hu1 hu2
                          have HX := Lib.hid hX; clear hX
                          have HY := Lib.hid hY; clear hY
                          have HQ := Lib.hid (And.intro hS hrow); clear hS hrow
                          have HSN2 := Lib.hid hsn; clear hsn
                          generalize hO : outL (ch.take k) bl K = O at *
                          have hm : O.length ≤ 16 := by omega
                          clear hle
                          cases u1 with
                          | true =>
                            cases u2 with
                            | false =>
                              go_wp2_with (first
                                | (go_at_call 47; (with_reducible refine HX.out.mono ?_); rintro e w2 ⟨rfl, hw⟩; replace hw := hw.symm; subst hw)
                                | (go_at_call 47; (with_reducible refine HY.out.mono ?_); rintro e w2 ⟨rfl, hw⟩; replace hw := hw.symm; subst hw))
                              go_roundw
                              case rel =>
                                refine ⟨k + 1, by omega, by go_num, HQ.out.1, ?_⟩
                                rw [HSN2.out]; simpa using HQ.out.2
                              case measure => simp [intOf]; omega
                            | true =>
                              go_wp2_with (first
                                | (go_at_call 47; (with_reducible refine HX.out.mono ?_); rintro e w2 ⟨rfl, hw⟩; replace hw := hw.symm; subst hw)
                                | (go_at_call 47; (with_reducible refine HY.out.mono ?_); rintro e w2 ⟨rfl, hw⟩; replace hw := hw.symm; subst hw)
                                | (at_builtin; refine wpList_append_own _ rfl _ _ 22 rfl x1.heap.size 3 i0 (.int .i64 0) 1 8 Try.underlying22 hi hz0 hz1 hz2 rfl (by decide) _ _ _ rfl ((own_same HQ.out.2 (Same.refl _)).alloc _) ⟨wr.heap.size, 0, none⟩ 1 1 [.int .i64 y] rfl ?qc1 ?qc2 ?qc3 ?qc4 ?qc5 ?qc6 ?_))
                              case qc1 => rfl
                              case qc2 => exact World.news_of_block (by exact heap_alloc_new wr _)
                              case qc3 => intro u hu; simp at hu; subst hu; rfl
                              case qc4 => unfold maxLen; omega
                              case qc5 => omega
                              case qc6 => have := HQ.out.1.size; simp at this ⊢; omega
                              intro v' w8 hown hgrow hnil
                              have HO := Lib.hid hown
                              have HGW := Lib.hid (same_grown HQ.out.1 HQ.out.2 hgrow)
                              clear hown hgrow hnil
                              go_wp2
                              go_roundw
                              case rel =>
                                refine ⟨k + 1, by omega, by go_num, HGW.out, ?_⟩
                                rw [HSN2.out, if_pos (by decide), List.length_append, icells_snoc]; exact HO.out
                              case measure => simp [intOf]; omega
                          | false =>
                            go_wp2_with (first
                              | (go_at_call 47; (with_reducible refine HX.out.mono ?_); rintro e w2 ⟨rfl, hw⟩; replace hw := hw.symm; subst hw)
                              | (at_builtin; refine wpList_append_own _ rfl _ _ 22 rfl x1.heap.size 3 i0 (.int .i64 0) 1 8 Try.underlying22 hi hz0 hz1 hz2 rfl (by decide) _ _ _ rfl ((own_same HQ.out.2 (Same.refl _)).alloc _) ⟨wr.heap.size, 0, none⟩ 1 1 [.int .i64 y] rfl ?qc1 ?qc2 ?qc3 ?qc4 ?qc5 ?qc6 ?_))
                            case qc1 => rfl
                            case qc2 => exact World.news_of_block (by exact heap_alloc_new wr _)
                            case qc3 => intro u hu; simp at hu; subst hu; rfl
                            case qc4 => unfold maxLen; omega
                            case qc5 => omega
                            case qc6 => have := HQ.out.1.size; simp at this ⊢; omega
                            intro v' w8 hown hgrow hnil
                            have HO := Lib.hid hown
                            have HGW := Lib.hid (same_grown HQ.out.1 HQ.out.2 hgrow)
                            clear hown hgrow hnil
                            go_wp2
                            go_roundw
                            case rel =>
                              refine ⟨k + 1, by omega, by go_num, HGW.out, ?_⟩
                              rw [HSN2.out, if_pos (by simp), List.length_append, icells_snoc]; exact HO.out
                            case measure => simp [intOf]; omega
                        · obtain rfl : n = k := by omega
                          rw [HT1.out] at hrow
                          have hil := IL.of_own hrow
                          rw [← HR.out] at hil
                          have HQ := Lib.hid (And.intro hS hil); clear hS hrow
                          obtain ⟨a3, c3, he3⟩ := hil.shape
                          subst he3
                          clear hil
                          go_wp2
                          go_ret2
                          exact ⟨_, rfl, HX1.out.trans HQ.out.1, HQ.out.2⟩
    
                    · clear hgo
                      go_wp2
                      go_loopw [13, 14] (fun s i wx => ∃ k : Nat, k ≤ n ∧ i = .int .i64 k ∧ Same x1 wx ∧ wx.ownsRow x1.heap.size 3 1 s (outL (ch.take k) bl K).length (icells (outL (ch.take k) bl K))) (fun _ i _ => n - (intOf i).toNat)
                      case atStart => exact ⟨0, Nat.zero_le _, rfl, (Same.refl _).alloc _, World.ownsRow_made x1 #[] 0 (Nat.le_refl _) (Nat.zero_le _) rfl⟩
                      case round =>
                        obtain ⟨k, hk, rfl, hS, hrow⟩ := hrel
                        by_cases hlt : k < n
                        · obtain ⟨b, off, rfl, z0⟩ := H1.out k hlt
                          replace z0 := hS.cell (HX1.out.cell z0)
                          have hsn := HSN.out (ch.take k) (ch.getD k 0)
                          rw [← HS1.out k hlt] at hsn
                          have hle := HLE.out k
                          have hX := HB1.out _ (HX1.out.trans hS) (ch.getD k 0)
                          have hY := Has2_any _ _ K (ch.getD k 0) (HIL.out.same hS) (by omega)
                          obtain ⟨y, hy⟩ : ∃ y, ch.getD k 0 = y := ⟨_, rfl⟩
                          rw [hy] at z0 hsn hX hY
                          clear hy
                          obtain ⟨u1, hu1⟩ : ∃ u, hasB bl y = u := ⟨_, rfl⟩
                          obtain ⟨u2, hu2⟩ : ∃ u, hasB K y = u := ⟨_, rfl⟩
                          rw [hu1] at hX
                          rw [hu2] at hY
                          rw [hu1, hu2] at hsn
                          clear hu1 hu2
                          have HX := Lib.hid hX; clear hX
                          have HY := Lib.hid hY; clear hY
                          have HQ := Lib.hid (And.intro hS hrow); clear hS hrow
                          have HSN2 := Lib.hid hsn; clear hsn
                          generalize hO : outL (ch.take k) bl K = O at *
                          have hm : O.length ≤ 16 := by omega
                          clear hle
                          cases u1 with
                          | true =>
                            cases u2 with
                            | false =>
                              go_wp2_with (first
                                | (go_at_call 47; (with_reducible refine HX.out.mono ?_); rintro e w2 ⟨rfl, hw⟩; replace hw := hw.symm; subst hw)
                                | (go_at_call 47; (with_reducible refine HY.out.mono ?_); rintro e w2 ⟨rfl, hw⟩; replace hw := hw.symm; subst hw))
                              go_roundw
                              case rel =>
                                refine ⟨k + 1, by omega, by go_num, HQ.out.1, ?_⟩
                                rw [HSN2.out]; simpa using HQ.out.2
                              case measure => simp [intOf]; omega
                            | true =>
                              go_wp2_with (first
                                | (go_at_call 47; (with_reducible refine HX.out.mono ?_); rintro e w2 ⟨rfl, hw⟩; replace hw := hw.symm; subst hw)
                                | (go_at_call 47; (with_reducible refine HY.out.mono ?_); rintro e w2 ⟨rfl, hw⟩; replace hw := hw.symm; subst hw)
                                | (at_builtin; refine wpList_append_own _ rfl _ _ 22 rfl x1.heap.size 3 i0 (.int .i64 0) 1 8 Try.underlying22 hi hz0 hz1 hz2 rfl (by decide) _ _ _ rfl ((own_same HQ.out.2 (Same.refl _)).alloc _) ⟨wr.heap.size, 0, none⟩ 1 1 [.int .i64 y] rfl ?qc1 ?qc2 ?qc3 ?qc4 ?qc5 ?qc6 ?_))
                              case qc1 => rfl
                              case qc2 => exact World.news_of_block (by exact heap_alloc_new wr _)
                              case qc3 => intro u hu; simp at hu; subst hu; rfl
                              case qc4 => unfold maxLen; omega
                              case qc5 => omega
                              case qc6 => have := HQ.out.1.size; simp at this ⊢; omega
                              intro v' w8 hown hgrow hnil
                              have HO := Lib.hid hown
                              have HGW := Lib.hid (same_grown HQ.out.1 HQ.out.2 hgrow)
                              clear hown hgrow hnil
                              go_wp2
                              go_roundw
                              case rel =>
                                refine ⟨k + 1, by omega, by go_num, HGW.out, ?_⟩
                                rw [HSN2.out, if_pos (by decide), List.length_append, icells_snoc]; exact HO.out
                              case measure => simp [intOf]; omega
                          | false =>
                            go_wp2_with (first
                              | (go_at_call 47; (with_reducible refine HX.out.mono ?_); rintro e w2 ⟨rfl, hw⟩; replace hw := hw.symm; subst hw)
                              | (at_builtin; refine wpList_append_own _ rfl _ _ 22 rfl x1.heap.size 3 i0 (.int .i64 0) 1 8 Try.underlying22 hi hz0 hz1 hz2 rfl (by decide) _ _ _ rfl ((own_same HQ.out.2 (Same.refl _)).alloc _) ⟨wr.heap.size, 0, none⟩ 1 1 [.int .i64 y] rfl ?qc1 ?qc2 ?qc3 ?qc4 ?qc5 ?qc6 ?_))
                            case qc1 => rfl
                            case qc2 => exact World.news_of_block (by exact heap_alloc_new wr _)
                            case qc3 => intro u hu; simp at hu; subst hu; rfl
                            case qc4 => unfold maxLen; omega
                            case qc5 => omega
                            case qc6 => have := HQ.out.1.size; simp at this ⊢; omega
                            intro v' w8 hown hgrow hnil
                            have HO := Lib.hid hown
                            have HGW := Lib.hid (same_grown HQ.out.1 HQ.out.2 hgrow)
                            clear hown hgrow hnil
                            go_wp2
                            go_roundw
                            case rel =>
                              refine ⟨k + 1, by omega, by go_num, HGW.out, ?_⟩
                              rw [HSN2.out, if_pos (by simp), List.length_append, icells_snoc]; exact HO.out
                            case measure => simp [intOf]; omega
                        · obtain rfl : n = k := by omega
                          rw [HT1.out] at hrow
                          have hil := IL.of_own hrow
                          rw [← HR.out] at hil
                          have HQ := Lib.hid (And.intro hS hil); clear hS hrow
                          obtain ⟨a3, c3, he3⟩ := hil.shape
                          subst he3
                          clear hil
                          go_wp2
                          go_ret2
                          exact ⟨_, rfl, HX1.out.trans HQ.out.1, HQ.out.2⟩
          · rw [if_neg c3] at hok
            injection hok with f1 f2
            subst f1 f2
            rcases inB_no (inB_false c3) with q | q
            · clear c3
              go_wp2
              go_ret2
              exact ⟨_, rfl, HW1.out, .inr ⟨_, _, rfl, rfl⟩⟩
            · have q1 : 1 ≤ least := by omega
              clear c3
              go_wp2
              go_ret2
              exact ⟨_, rfl, HW1.out, .inr ⟨_, _, rfl, rfl⟩⟩
    · rw [show withoutS ch bl least = ([], 1) from by unfold withoutS blackB; rw [show decide (bl.length ≤ 64) = false from decide_eq_false c0]; simp]
      clear hx1 hx2 c1
      generalize ch.length = n at *
      generalize bl.length = m at *
      have c0' : (64 : Int) < (m : Int) := by omega
      clear c0
      go_enter Try.func27, Try.ntmps27
      go_wp2_with (go_at_call 39; (with_reducible refine (HD.out _ (by exact Same.refl _)).mono ?_); rintro e w1 ⟨rfl, hw⟩; have HW1 := Lib.hid hw; clear hw)
      go_ret2
      exact ⟨_, rfl, HW1.out, .inr ⟨_, _, rfl, rfl⟩⟩
  · have c1' : chsB ch = false := by simpa using c1
    rw [c1'] at hD
    have HD := Lib.hid hD; clear hD
    rw [show withoutS ch bl least = ([], 1) from by unfold withoutS; rw [c1', Bool.false_and, if_neg (show ¬ false = true by decide)]]
    clear hx1 hx2 c1 c1'
    generalize ch.length = n at *
    generalize bl.length = m at *
    go_enter Try.func27, Try.ntmps27
    go_wp2_with (go_at_call 39; (with_reducible refine (HD.out _ (by exact Same.refl _)).mono ?_); rintro e w1 ⟨rfl, hw⟩; have HW1 := Lib.hid hw; clear hw)
    go_ret2
    exact ⟨_, rfl, HW1.out, .inr ⟨_, _, rfl, rfl⟩⟩
end Go.Proofs.Ytffanehmlbiemaa
