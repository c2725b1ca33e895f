/- Without. -/
import Derived.Test.YtffanehmlbiemaaH11
namespace Go.Proofs.Ytffanehmlbiemaa
open Go.RowKit

theorem inB_false {n l m : Int} (h : ¬ inB n l m = true) : inB n l m = false := by simpa using h
set_option maxHeartbeats 6400000 in
set_option maxRecDepth 100000 in
theorem Without_any (w : World) (v1 v2 : Value) (ch bl : List Int) (least : Int) (h1 : IL w v1 ch) (h2 : IL w v2 bl) (l1 : ch.length ≤ 1000) (l2 : bl.length ≤ 1000) :
    Calls Try.prog 25 #[v1, v2, .int .i64 least] w (WithP w ch bl least) := by
  obtain ⟨i0, hi, hz0, hz1, hz2⟩ := info_parts Try.infoI
  have hAC := fun (w1 : World) (hs : Same w w1) => areChannels_any w1 v1 ch (h1.same hs) l1
  have hBL := fun (w1 : World) (hs : Same w w1) => isBlacklist_any w1 v2 bl (h2.same hs) l2
  unfold WithP
  by_cases c1 : chsB ch = true
  · rw [c1] at hAC
    by_cases c2 : blackB bl = true
    · rw [c2] at hBL
      have HAC := Lib.hid hAC; clear hAC
      have HBL := Lib.hid hBL; clear hBL
      have hwi := fun w1 => within_any least 1 (ch.length : Int) w1
      by_cases c3 : inB least 1 (ch.length : Int) = true
      · rw [c3] at hwi
        have HWI := Lib.hid hwi; clear hwi
        rw [show withoutS ch bl least = (outL ch bl (keptK ch bl (goodN ch bl) least bl.length), 0) from by unfold withoutS; rw [c1, c2, if_pos (show (true && true) = true from rfl), if_pos c3]]
        obtain ⟨g0, g16, _⟩ := chsB_of c1
        have HST := Lib.hid (fun (w1 : World) (hs : Same w w1) => staying_any w1 v1 v2 ch bl least (h1.same hs) (h2.same hs) (chsB_ch c1) (blackB_of c2).2 l1 l2)
        have HCH := Lib.hid (chsB_ch c1)
        obtain ⟨b, o, cap, rfl, hc⟩ := h1.cells g0
        obtain ⟨a2, k2, rfl⟩ := h2.shape
        have HC := Lib.hid (fun (w1 : World) (hs : Same w w1) (k : Nat) (hk : k < ch.length) => hs.cell (hc k hk)); clear hc
        have HSNOC := Lib.hid (fun (k : Nat) (hk : k < ch.length) => take_snoc ch k hk)
        have HHB := Lib.hid (fun (k : Nat) (hk : k < ch.length) => hasB_hit (zs := ch) hk rfl)
        have HTL := Lib.hid (List.take_length (l := ch))
        clear h1 h2 c1 c2 c3
        generalize keptK ch bl (goodN ch bl) least bl.length = K at *
        have HLE := Lib.hid (fun k => (show (outL (ch.take k) bl K).length ≤ k from Nat.le_trans (outL_le _ _ _) (by rw [List.length_take]; omega)))
        have HSN := Lib.hid (fun l x => outL_snoc l bl K x)
        have HA := Lib.hid (fun (x : Int) (hx : 0 ≤ x) (hh : hasB ch x = true) => (show stayA ch bl K x.toNat = (!hasB bl x || hasB K x) from by unfold stayA; rw [show ((x.toNat : Nat) : Int) = x by omega, hh]; simp))
        generalize stayA ch bl K = A at *
        generalize hn : ch.length = n at *
        have HN := Lib.hid hn; clear hn
        generalize bl.length = m at *
        go_enter Try.func25, Try.ntmps25
        go_wp2_with (first
          | (go_at_call 38; (with_reducible refine (HAC.out _ (by exact Same.refl _)).mono ?_); rintro e w1 ⟨rfl, hw⟩; replace hw := hw.symm; subst hw)
          | (go_at_call 44; (with_reducible refine (HBL.out _ (by exact Same.refl _)).mono ?_); rintro e w1 ⟨rfl, hw⟩; replace hw := hw.symm; subst hw)
          | (go_at_call 42; (with_reducible refine (HWI.out _).mono ?_); rintro e w1 ⟨rfl, hw⟩; replace hw := hw.symm; subst hw)
          | (go_at_call 45; (with_reducible refine (HST.out _ (by exact Same.refl _)).mono ?_); rintro e w1 ⟨rfl, hw⟩; have HW1 := Lib.hid hw; clear hw)
          | (refine wpList_store_row rfl 66 _ _ rfl _ (fl A) rfl rfl 66 _ (heap_alloc_new _ _) Try.sizeFl rfl (fl_one A) ?_))
        obtain ⟨x0, hx0⟩ : ∃ x0, x0 = ((w1.alloc (.cells #[.bool false, .bool false, .bool false, .bool false, .bool false, .bool false, .bool false, .bool false, .bool false, .bool false, .bool false, .bool false, .bool false, .bool false, .bool false, .bool false] 66)).setRow w1.heap.size (fl A)) := ⟨_, rfl⟩
        have hX0 : Same w x0 := by rw [hx0]; exact (HW1.out.alloc _).setRow (Nat.le_trans HW1.out.size (by simp)) _
        have hXF : Flags x0 w1.heap.size A := by rw [hx0]; exact setRow_heap _ _ _ _ _ _ (heap_alloc_new w1 _)
        rw [← hx0]
        clear hx0
        have HX0 := Lib.hid hX0; clear hX0
        have HXF := Lib.hid hXF; clear hXF
        generalize w1.heap.size = B at *
        clear HAC HBL HWI HST HW1
        go_loopw [9, 31] (fun s i wr => ∃ k : Nat, k ≤ n ∧ i = .int .i64 k ∧ Same x0 wr ∧ wr.ownsRow x0.heap.size 3 1 s (outL (ch.take k) bl K).length (icells (outL (ch.take k) bl K))) (fun _ i _ => n - (intOf i).toNat)
        case atStart => exact ⟨0, Nat.zero_le _, rfl, Same.refl _, World.ownsRow_nil _ _ _ _⟩
        case round =>
          obtain ⟨k, hk, rfl, hS, hrow⟩ := hrel
          by_cases hlt : k < n
          · have z0 := HC.out _ (HX0.out.trans hS) k hlt
            obtain ⟨y0, y15⟩ := HCH.out k hlt
            have hsn := HSN.out (ch.take k) (ch.getD k 0)
            rw [← HSNOC.out k hlt] at hsn
            have ha := HA.out _ y0 (HHB.out k hlt)
            obtain ⟨y, hy⟩ : ∃ y, ch.getD k 0 = y := ⟨_, rfl⟩
            rw [hy] at z0 y0 y15 hsn ha
            clear hy
            have f0 := (show Flags wr B A from hS.heap HXF.out).cell y.toNat (by omega)
            obtain ⟨f1, _⟩ := f0
            rw [ha] at f1
            clear ha
            have hle := HLE.out k
            obtain ⟨u, hu⟩ : ∃ u, (!hasB bl y || hasB K y) = u := ⟨_, rfl⟩
            rw [hu] at f1 hsn
            clear hu
            have HQ := Lib.hid (And.intro hS hrow); clear hS hrow
            have HSN2 := Lib.hid hsn; clear hsn
            cases u with
            | false =>
              go_wp2
              go_roundw
              case rel =>
                refine ⟨k + 1, by omega, by go_num, HQ.out.1, ?_⟩
                have := HSN2.out
                simp only [Bool.false_eq_true, if_false, List.append_nil] at this
                rw [this]; exact HQ.out.2
              case measure => simp [intOf]; omega
            | true =>
              have HE := Lib.hid (show outL (ch.take (k + 1)) bl K = outL (ch.take k) bl K ++ [y] from by rw [HSN2.out]; simp)
              clear HSN2
              generalize hO : outL (ch.take k) bl K = O at *
              have hm : O.length ≤ 16 := by omega
              go_wp2_with (at_builtin; refine wpList_append_own _ rfl _ _ 22 rfl x0.heap.size 3 i0 (.int .i64 0) 1 8 Try.underlying22 hi hz0 hz1 hz2 rfl (by decide) _ _ _ rfl ((own_same HQ.out.2 (Same.refl _)).alloc _) ⟨wr.heap.size, 0, none⟩ 1 1 [.int .i64 y] rfl ?qc1 ?qc2 ?qc3 ?qc4 ?qc5 ?qc6 ?_)
              case qc1 => rfl
              case qc2 => exact World.news_of_block (by exact heap_alloc_new wr _)
              case qc3 => intro u hu; simp at hu; subst hu; rfl
              case qc4 => unfold maxLen; omega
              case qc5 => omega
              case qc6 => have := HQ.out.1.size; simp at this ⊢; omega
              intro v' w8 hown hgrow hnil
              have HO := Lib.hid hown
              have HGW := Lib.hid (same_grown HQ.out.1 HQ.out.2 hgrow)
              clear hown hgrow hnil
              go_wp2
              go_roundw
              case rel =>
                refine ⟨k + 1, by omega, by go_num, HGW.out, ?_⟩
                rw [HE.out, List.length_append]
                have : icells (O ++ [y]) = icells O ++ [.int .i64 y] := by unfold icells; simp
                rw [this]; exact HO.out
              case measure => simp [intOf]; omega
          · obtain rfl : k = n := by omega
            rw [HTL.out] at hrow
            have hil := IL.of_own hrow
            have HQ := Lib.hid (And.intro hS hil); clear hS hrow
            obtain ⟨a3, c3, rfl⟩ := hil.shape
            clear hil
            go_wp2
            go_ret2
            exact ⟨_, rfl, HX0.out.trans HQ.out.1, HQ.out.2⟩
      · rw [inB_false c3] at hwi
        have HWI := Lib.hid hwi; clear hwi
        rw [show withoutS ch bl least = ([], 2) from by unfold withoutS; rw [c1, c2, if_pos (show (true && true) = true from rfl), if_neg c3]]
        obtain ⟨a1, k1, rfl⟩ := h1.shape
        obtain ⟨a2, k2, rfl⟩ := h2.shape
        clear h1 h2 c1 c2 c3
        generalize ch.length = n at *
        generalize bl.length = m at *
        go_enter Try.func25, Try.ntmps25
        go_wp2_with (first
          | (go_at_call 38; (with_reducible refine (HAC.out _ (by exact Same.refl _)).mono ?_); rintro e w1 ⟨rfl, hw⟩; replace hw := hw.symm; subst hw)
          | (go_at_call 44; (with_reducible refine (HBL.out _ (by exact Same.refl _)).mono ?_); rintro e w1 ⟨rfl, hw⟩; replace hw := hw.symm; subst hw)
          | (go_at_call 42; (with_reducible refine (HWI.out _).mono ?_); rintro e w1 ⟨rfl, hw⟩; replace hw := hw.symm; subst hw))
        go_ret2
        exact ⟨_, rfl, Same.refl _, .inr ⟨_, _, rfl, rfl⟩⟩
    · have c2' : blackB bl = false := by simpa using c2
      rw [c2'] at hBL
      have HAC := Lib.hid hAC; clear hAC
      have HBL := Lib.hid hBL; clear hBL
      rw [show withoutS ch bl least = ([], 1) from by unfold withoutS; rw [c1, c2', if_neg (show ¬ (true && false) = true by decide)]]
      obtain ⟨a1, k1, rfl⟩ := h1.shape
      obtain ⟨a2, k2, rfl⟩ := h2.shape
      clear h1 h2 c1 c2 c2'
      generalize ch.length = n at *
      generalize bl.length = m at *
      go_enter Try.func25, Try.ntmps25
      go_wp2_with (first
        | (go_at_call 38; (with_reducible refine (HAC.out _ (by exact Same.refl _)).mono ?_); rintro e w1 ⟨rfl, hw⟩; replace hw := hw.symm; subst hw)
        | (go_at_call 44; (with_reducible refine (HBL.out _ (by exact Same.refl _)).mono ?_); rintro e w1 ⟨rfl, hw⟩; replace hw := hw.symm; subst hw))
      go_ret2
      exact ⟨_, rfl, Same.refl _, .inr ⟨_, _, rfl, rfl⟩⟩
  · have c1' : chsB ch = false := by simpa using c1
    rw [c1'] at hAC
    have HAC := Lib.hid hAC; clear hAC hBL
    rw [show withoutS ch bl least = ([], 1) from by unfold withoutS; rw [c1', Bool.false_and, if_neg (show ¬ false = true by decide)]]
    obtain ⟨a1, k1, rfl⟩ := h1.shape
    obtain ⟨a2, k2, rfl⟩ := h2.shape
    clear h1 h2 c1 c1'
    generalize ch.length = n at *
    generalize bl.length = m at *
    go_enter Try.func25, Try.ntmps25
    go_wp2_with (go_at_call 38; (with_reducible refine (HAC.out _ (by exact Same.refl _)).mono ?_); rintro e w1 ⟨rfl, hw⟩; replace hw := hw.symm; subst hw)
    go_ret2
    exact ⟨_, rfl, Same.refl _, .inr ⟨_, _, rfl, rfl⟩⟩
end Go.Proofs.Ytffanehmlbiemaa
