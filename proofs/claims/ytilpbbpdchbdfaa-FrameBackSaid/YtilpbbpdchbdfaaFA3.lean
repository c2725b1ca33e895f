/- Acknowledgements and who is meant, for every frame, by both packages. -/
import Derived.Test.YtilpbbpdchbdfaaFA2
import Derived.Test.YtilpbbpdchbdfaaFE2
namespace Go.Proofs.Ytilpbbpdchbdfaa
open Go.RowKit

theorem ack_any (f : Fr) (li di : Int) (w : World) : Calls Try.prog 22 #[frV f, .int .i64 li, .int .i64 di] w fun E w' => E = .returned (.tuple #[frV (ackR f li di).1, .int .i64 (ackR f li di).2]) ∧ Same w w' := by
  unfold ackR
  rcases chk_01 f with ⟨h1, h2⟩ | ⟨h1, h2⟩
  · cases ha : ansB f with
    | false =>
      rw [if_neg (by simp)]
      obtain ⟨k, s, t, l, q, fl, n, e, sl, r, ep, d⟩ := f
      exact ack_2 k s t l q fl n e sl r ep d li di h2 ha w
    | true =>
      rw [if_pos ⟨h1, rfl⟩]
      obtain ⟨k, s, t, l, q, fl, n, e, sl, r, ep, d⟩ := f
      cases hl : inB li 0 255 with
      | false => rw [if_neg (by simp)]; exact ack_3 k s t l q fl n e sl r ep d li di h2 ha hl w
      | true =>
        cases hd : inB di (-32768) 32767 with
        | false => rw [if_neg (by simp)]; exact ack_4 k s t l q fl n e sl r ep d li di h2 ha hl hd w
        | true => rw [if_pos ⟨rfl, rfl⟩]; exact ack_5 k s t l q fl n e sl r ep d li di h2 ha hl hd w
  · rw [if_neg (by rw [h1]; simp)]
    obtain ⟨k, s, t, l, q, fl, n, e, sl, r, ep, d⟩ := f
    exact ack_1 k s t l q fl n e sl r ep d li di h2 w
theorem inB_e {n : Int} (h : inB n (-32768) 32767 = true) : decide (n < -32768) = false ∧ decide (32767 < n) = false := by
  have := inB_yes h
  exact ⟨decide_eq_false (by omega), decide_eq_false (by omega)⟩
theorem ack2_any (f : Fr) (li di : Int) (w : World) : Calls Try.prog 23 #[frV f, .int .i64 li, .int .i64 di] w fun E w' => E = .returned (.tuple #[frV (ackR f li di).1, .int .i64 (ackR f li di).2]) ∧ Same w w' := by
  unfold ackR
  rcases chk_01 f with ⟨h1, h2⟩ | ⟨h1, h2⟩
  · have ho := (okB_iff f).1 h1
    unfold Ok at ho
    cases ha : ansB f with
    | false =>
      rw [if_neg (by simp)]
      unfold ansB at ha
      obtain ⟨k, s, t, l, q, fl, n, e, sl, r, ep, d⟩ := f
      dsimp only at ha ho
      have hx : k = 2 ∨ k = 3 ∨ (k = 4 ∧ t = -1) := by
        rw [Bool.and_eq_false_iff, bne_eq_false_iff_eq, bne_eq_false_iff_eq] at ha
        omega
      rcases hx with rfl | rfl | ⟨rfl, rfl⟩
      · exact ack2_2 s t l q fl n e sl r ep d li di h2 w
      · exact ack2_3 s t l q fl n e sl r ep d li di h2 w
      · exact ack2_4 s l q fl n e sl r ep d li di h2 w
    | true =>
      rw [if_pos ⟨h1, rfl⟩]
      unfold ansB at ha
      obtain ⟨k, s, t, l, q, fl, n, e, sl, r, ep, d⟩ := f
      dsimp only at ha ho
      rw [Bool.and_eq_true, bne_iff_ne, bne_iff_ne] at ha
      have ht : decide (t < 0) = false := decide_eq_false (by omega)
      have hx : k = 1 ∨ k = 4 := by omega
      cases hl : inB li 0 255 with
      | false =>
        rw [if_neg (by simp)]
        rcases hx with rfl | rfl
        · exact ack2_1a s t l q fl n e sl r ep d li di h2 ht hl w
        · exact ack2_4a s t l q fl n e sl r ep d li di h2 ht hl w
      | true =>
        cases hd : inB di (-32768) 32767 with
        | false =>
          rw [if_neg (by simp)]
          have hn := inB_no hd
          by_cases h3 : di < -32768
          · rcases hx with rfl | rfl
            · exact ack2_1b s t l q fl n e sl r ep d li di h2 ht hl (decide_eq_true h3) w
            · exact ack2_4b s t l q fl n e sl r ep d li di h2 ht hl (decide_eq_true h3) w
          · rcases hx with rfl | rfl
            · exact ack2_1c s t l q fl n e sl r ep d li di h2 ht hl (decide_eq_false h3) (decide_eq_true (by omega)) w
            · exact ack2_4c s t l q fl n e sl r ep d li di h2 ht hl (decide_eq_false h3) (decide_eq_true (by omega)) w
        | true =>
          rw [if_pos ⟨rfl, rfl⟩]
          obtain ⟨d1, d2⟩ := inB_e hd
          rcases hx with rfl | rfl
          · exact ack2_1d s t l q fl n e sl r ep d li di h2 ht hl d1 d2 w
          · exact ack2_4d s t l q fl n e sl r ep d li di h2 ht hl d1 d2 w
  · rw [if_neg (by rw [h1]; simp)]
    obtain ⟨k, s, t, l, q, fl, n, e, sl, r, ep, d⟩ := f
    exact ack2_1 k s t l q fl n e sl r ep d li di h2 w

/-- Whether a frame is meant for a node. -/
def forR (f : Fr) (nd : Int) : Bool := okB f && inB nd 0 31 && (nd == f.t || (f.t == -1 && nd != f.s))
set_option maxRecDepth 100000 in
theorem for_core (k s t l q fl n e sl r ep : Int) (d : ByteArray) (nd c : Int) (b : Bool) (hc : chk ⟨k, s, t, l, q, fl, n, e, sl, r, ep, d⟩ = c) (hx : c = 0 ∨ c = 1) (hb : inB nd 0 31 = b) (R : Bool) (hR : ((c == 0) && b && (nd == t || (t == -1 && nd != s))) = R) (w : World) :
    Calls Try.prog 26 #[frV ⟨k, s, t, l, q, fl, n, e, sl, r, ep, d⟩, .int .i64 nd] w fun E w' => E = .returned (.bool R) ∧ Same w w' := by
  have hA := fun w1 => check_any ⟨k, s, t, l, q, fl, n, e, sl, r, ep, d⟩ w1
  have hB := fun w1 => isNode_any nd w1
  rw [hc] at hA
  rw [hb] at hB
  have HA := Lib.hid hA; have HB := Lib.hid hB; have HR := Lib.hid hR
  clear hA hB hR hc hb
  have HS := Lib.hid ((Same.refl w).alloc (.cells (frC ⟨k, s, t, l, q, fl, n, e, sl, r, ep, d⟩) 23))
  have HB0 := Lib.hid (fun (w1 : World) (h : Same (w.alloc (.cells (frC ⟨k, s, t, l, q, fl, n, e, sl, r, ep, d⟩) 23)) w1) => fr_cells (fr_box h))
  rcases hx with rfl | rfl <;> cases b
  all_goals
    go_enter Try.func26, Try.ntmps26
    go_wp2_with (first
      | (go_at_call 18; (with_reducible refine (HA.out _).mono ?_); rintro E1 w1 ⟨rfl, hw⟩; obtain ⟨c0, c1, c2, c3, c4, c5, c6, c7, c8, c9, c10, c11⟩ := HB0.out _ hw; have HW := Lib.hid (HS.out.trans hw); clear hw)
      | (go_at_call 53; (with_reducible refine (HB.out _).mono ?_); rintro e w1 ⟨rfl, hw⟩; replace hw := hw.symm; subst hw))
    all_goals
      go_ret
      exact ⟨ret_bool (by rw [← HR.out]; first | rfl | simp [*]), HW.out⟩
theorem for_any (f : Fr) (nd : Int) (w : World) : Calls Try.prog 26 #[frV f, .int .i64 nd] w fun E w' => E = .returned (.bool (forR f nd)) ∧ Same w w' := by
  have hx : chk f = 0 ∨ chk f = 1 := by rcases chk_01 f with ⟨_, h⟩ | ⟨_, h⟩ <;> simp [h]
  have hR : ((chk f == 0) && inB nd 0 31 && (nd == f.t || (f.t == -1 && nd != f.s))) = forR f nd := by
    unfold forR
    rcases chk_01 f with ⟨h, h'⟩ | ⟨h, h'⟩ <;> rw [h, h'] <;> rfl
  obtain ⟨k, s, t, l, q, fl, n, e, sl, r, ep, d⟩ := f
  exact for_core k s t l q fl n e sl r ep d nd _ _ rfl hx rfl _ hR w
set_option maxRecDepth 100000 in
set_option maxHeartbeats 3200000 in
theorem for2_core (k s t l q fl n e sl r ep : Int) (d : ByteArray) (nd c : Int) (b : Bool) (hc : chk ⟨k, s, t, l, q, fl, n, e, sl, r, ep, d⟩ = c) (hx : c = 0 ∨ c = 1) (hb : inB nd 0 31 = b) (R : Bool) (hR : ((c == 0) && ((t == nd && decide (0 ≤ nd)) || (t == -1 && s != nd && b))) = R) (w : World) :
    Calls Try.prog 27 #[frV ⟨k, s, t, l, q, fl, n, e, sl, r, ep, d⟩, .int .i64 nd] w fun E w' => E = .returned (.bool R) ∧ Same w w' := by
  have hA := fun w1 => check2_any ⟨k, s, t, l, q, fl, n, e, sl, r, ep, d⟩ w1
  have hB := fun w1 => within2_any nd 31 w1
  rw [hc] at hA
  rw [hb] at hB
  have HA := Lib.hid hA; have HB := Lib.hid hB; have HR := Lib.hid hR
  clear hA hB hR hc hb
  have HS := Lib.hid ((Same.refl w).alloc (.cells (frC ⟨k, s, t, l, q, fl, n, e, sl, r, ep, d⟩) 23))
  have HB0 := Lib.hid (fun (w1 : World) (h : Same (w.alloc (.cells (frC ⟨k, s, t, l, q, fl, n, e, sl, r, ep, d⟩) 23)) w1) => fr_cells (fr_box h))
  obtain ⟨u, hu⟩ : ∃ u, (t == nd) = u := ⟨_, rfl⟩
  obtain ⟨v, hv⟩ : ∃ v, (t == -1) = v := ⟨_, rfl⟩
  obtain ⟨x, hx1⟩ : ∃ x, (s != nd) = x := ⟨_, rfl⟩
  obtain ⟨z, hz⟩ : ∃ z, decide (0 ≤ nd) = z := ⟨_, rfl⟩
  have HR2 := Lib.hid (show ((c == 0) && ((u && z) || (v && x && b))) = R by rw [← HR.out, hu, hv, hx1, hz])
  clear HR
  rcases hx with rfl | rfl <;> cases u <;> cases z <;> cases v <;> cases x <;> cases b
  all_goals
    go_enter Try.func27, Try.ntmps27
    go_wp2_with (first
      | (go_at_call 19; (with_reducible refine (HA.out _).mono ?_); rintro E1 w1 ⟨rfl, hw⟩; obtain ⟨c0, c1, c2, c3, c4, c5, c6, c7, c8, c9, c10, c11⟩ := HB0.out _ hw; have HW := Lib.hid (HS.out.trans hw); clear hw)
      | (go_at_call 41; (with_reducible refine (HB.out _).mono ?_); rintro e w1 ⟨rfl, hw⟩; replace hw := hw.symm; subst hw))
    all_goals
      go_ret
      exact ⟨ret_bool (by rw [← HR2.out]; rfl), HW.out⟩
theorem for2_any (f : Fr) (nd : Int) (w : World) : Calls Try.prog 27 #[frV f, .int .i64 nd] w fun E w' => E = .returned (.bool (forR f nd)) ∧ Same w w' := by
  have hx : chk f = 0 ∨ chk f = 1 := by rcases chk_01 f with ⟨_, h⟩ | ⟨_, h⟩ <;> simp [h]
  have hR : ((chk f == 0) && ((f.t == nd && decide (0 ≤ nd)) || (f.t == -1 && f.s != nd && inB nd 0 31))) = forR f nd := by
    unfold forR
    rcases chk_01 f with ⟨h, h'⟩ | ⟨h, h'⟩
    · rw [h, h']
      have ho := (okB_iff f).1 h
      unfold Ok at ho
      unfold inB
      rw [Bool.eq_iff_iff]
      simp only [Bool.and_eq_true, Bool.or_eq_true, beq_iff_eq, bne_iff_ne, decide_eq_true_eq, true_and, eq_self]
      omega
    · rw [h, h']; rfl
  obtain ⟨k, s, t, l, q, fl, n, e, sl, r, ep, d⟩ := f
  exact for2_core k s t l q fl n e sl r ep d nd _ _ rfl hx rfl _ hR w
end Go.Proofs.Ytilpbbpdchbdfaa
