/- Acknowledgements, and who is meant, by both packages. -/
import Derived.Test.YtilpbbpdchbdfaaF7
import Derived.OwnWalk
namespace Go.Proofs.Ytilpbbpdchbdfaa
open Go.RowKit

abbrev fr0 : Fr := ⟨0, 0, 0, 0, 0, 0, 0, 0, 0, 0, 0, ⟨#[]⟩⟩
theorem z_cells {w : World} {b : Nat} {T : TypeId} (h : w.heap[b]? = some (.cells (frC fr0) T (0, 0))) :
    (w.cell? ⟨b, 0, none⟩ = some (.int .i64 0) ∧ w.cell? ⟨b, 1, none⟩ = some (.int .i64 0) ∧ w.cell? ⟨b, 2, none⟩ = some (.int .i64 0) ∧ w.cell? ⟨b, 3, none⟩ = some (.int .i64 0) ∧ w.cell? ⟨b, 4, none⟩ = some (.int .i64 0) ∧ w.cell? ⟨b, 5, none⟩ = some (.int .i64 0) ∧ w.cell? ⟨b, 6, none⟩ = some (.int .i64 0) ∧ w.cell? ⟨b, 7, none⟩ = some (.int .i64 0) ∧ w.cell? ⟨b, 8, none⟩ = some (.int .i64 0) ∧ w.cell? ⟨b, 9, none⟩ = some (.int .i64 0) ∧ w.cell? ⟨b, 10, none⟩ = some (.int .i64 0) ∧ w.cell? ⟨b, 11, none⟩ = some (.string ⟨#[]⟩)) ∧ (w.frozen? ⟨b, 0, none⟩ = false ∧ w.frozen? ⟨b, 1, none⟩ = false ∧ w.frozen? ⟨b, 2, none⟩ = false ∧ w.frozen? ⟨b, 3, none⟩ = false ∧ w.frozen? ⟨b, 4, none⟩ = false ∧ w.frozen? ⟨b, 5, none⟩ = false ∧ w.frozen? ⟨b, 6, none⟩ = false ∧ w.frozen? ⟨b, 7, none⟩ = false ∧ w.frozen? ⟨b, 8, none⟩ = false ∧ w.frozen? ⟨b, 9, none⟩ = false ∧ w.frozen? ⟨b, 10, none⟩ = false ∧ w.frozen? ⟨b, 11, none⟩ = false) := by
  simp [World.cell?, World.frozen?, h]
theorem fr_two {w w1 : World} {k s t l q fl n e sl r ep : Int} {d : ByteArray} (h : Same ((w.alloc (.cells (frC ⟨k, s, t, l, q, fl, n, e, sl, r, ep, d⟩) 23)).alloc (.cells (frC fr0) 23)) w1) :
    w1.heap[w.heap.size]? = some (.cells (frC ⟨k, s, t, l, q, fl, n, e, sl, r, ep, d⟩) 23 (0, 0)) ∧ w1.heap[w.heap.size + 1]? = some (.cells (frC fr0) 23 (0, 0)) := by
  refine ⟨h.at ?_, h.at ?_⟩
  · rw [Below.heap_alloc _ _ _ (by simp)]; exact heap_alloc_new w _
  · have := heap_alloc_new (w.alloc (.cells (frC ⟨k, s, t, l, q, fl, n, e, sl, r, ep, d⟩) 23)) (.cells (frC fr0) 23)
    simpa using this
/-- Whether a valid frame is acknowledged. -/
def ansB (f : Fr) : Bool := f.k != 2 && f.t != -1
set_option maxRecDepth 100000 in
theorem isAnswered_any (k s t l q fl n e sl r ep : Int) (d : ByteArray) (b : Bool) (hb : ansB ⟨k, s, t, l, q, fl, n, e, sl, r, ep, d⟩ = b) (w : World) : Calls Try.prog 51 #[frV ⟨k, s, t, l, q, fl, n, e, sl, r, ep, d⟩] w fun E w' => E = .returned (.bool b) ∧ Same w w' := by
  have HS := Lib.hid ((Same.refl w).alloc (.cells (frC ⟨k, s, t, l, q, fl, n, e, sl, r, ep, d⟩) 23))
  unfold ansB at hb
  dsimp only at hb
  obtain ⟨u, hu⟩ : ∃ u, (k != 2) = u := ⟨_, rfl⟩
  obtain ⟨v, hv⟩ : ∃ v, (t != -1) = v := ⟨_, rfl⟩
  rw [hu, hv] at hb
  subst hb
  cases u with
  | false =>
    rw [Bool.false_and]
    clear hv
    go_enter Try.func51, Try.ntmps51
    go_wp2
    go_ret
    exact ⟨rfl, HS.out⟩
  | true =>
    rw [Bool.true_and]
    cases v
    all_goals
      go_enter Try.func51, Try.ntmps51
      go_wp2
      go_ret
      exact ⟨rfl, HS.out⟩
theorem done12 {W w2 : World} {b : Nat} (h : Same W w2) (hb : W.heap.size ≤ b) (u0 u1 u2 u3 u4 u5 u6 u7 u8 u9 u10 u11 : Value) : Same W ((((((((((((w2.setCell ⟨b, 0, none⟩ u0).setCell ⟨b, 1, none⟩ u1).setCell ⟨b, 2, none⟩ u2).setCell ⟨b, 3, none⟩ u3).setCell ⟨b, 4, none⟩ u4).setCell ⟨b, 5, none⟩ u5).setCell ⟨b, 6, none⟩ u6).setCell ⟨b, 7, none⟩ u7).setCell ⟨b, 8, none⟩ u8).setCell ⟨b, 9, none⟩ u9).setCell ⟨b, 10, none⟩ u10).setCell ⟨b, 11, none⟩ u11) :=
  ((((((((((((h.setCell hb u0).setCell hb u1).setCell hb u2).setCell hb u3).setCell hb u4).setCell hb u5).setCell hb u6).setCell hb u7).setCell hb u8).setCell hb u9).setCell hb u10).setCell hb u11)
def ackR (f : Fr) (li di : Int) : Fr × Int := if okB f = true ∧ ansB f = true then (if inB li 0 255 = true ∧ inB di (-32768) 32767 = true then (⟨2, f.t, f.s, li, f.q, 0, 0, di, 0, 0, 0, ⟨#[]⟩⟩, 0) else (fr0, 2)) else (fr0, 1)
set_option maxRecDepth 100000 in
set_option maxHeartbeats 1600000 in
theorem ack_1 (k s t l q fl n e sl r ep : Int) (d : ByteArray) (li di : Int) (hc : chk ⟨k, s, t, l, q, fl, n, e, sl, r, ep, d⟩ = 1) (w : World) :
    Calls Try.prog 22 #[frV ⟨k, s, t, l, q, fl, n, e, sl, r, ep, d⟩, .int .i64 li, .int .i64 di] w fun E w' => E = .returned (.tuple #[frV fr0, .int .i64 1]) ∧ Same w w' := by
  have HS := Lib.hid (((Same.refl w).alloc (.cells (frC ⟨k, s, t, l, q, fl, n, e, sl, r, ep, d⟩) 23)).alloc (.cells (frC fr0) 23))
  have HB0 := Lib.hid (fun (w1 : World) (h : Same ((w.alloc (.cells (frC ⟨k, s, t, l, q, fl, n, e, sl, r, ep, d⟩) 23)).alloc (.cells (frC fr0) 23)) w1) => And.intro (fr_cells (fr_two h).1) (z_cells (fr_two h).2))
  have k0 := fun w1 => check_any ⟨k, s, t, l, q, fl, n, e, sl, r, ep, d⟩ w1
  rw [hc] at k0
  have K0 := Lib.hid k0; clear k0
  clear hc
  go_enter Try.func22, Try.ntmps22
  go_wp2_with (first
    | (go_at_call 18; (with_reducible refine (K0.out _).mono ?_); rintro E1 w1 ⟨rfl, hw⟩; obtain ⟨⟨c0, c1, c2, c3, c4, c5, c6, c7, c8, c9, c10, c11⟩, ⟨z0, z1, z2, z3, z4, z5, z6, z7, z8, z9, z10, z11⟩, ⟨g0, g1, g2, g3, g4, g5, g6, g7, g8, g9, g10, g11⟩⟩ := HB0.out _ hw; have HX := Lib.hid hw; clear hw))
  exact bodyPost_ret (v := .tuple #[frV fr0, .int .i64 1]) (by simp [results, Try.results22, go_sem, z0, z1, z2, z3, z4, z5, z6, z7, z8, z9, z10, z11]) rfl ⟨rfl, by first | exact done12 (HS.out.trans HX.out) (Nat.le_succ _) _ _ _ _ _ _ _ _ _ _ _ _ | exact HS.out.trans HX.out⟩
set_option maxRecDepth 100000 in
set_option maxHeartbeats 1600000 in
theorem ack_2 (k s t l q fl n e sl r ep : Int) (d : ByteArray) (li di : Int) (hc : chk ⟨k, s, t, l, q, fl, n, e, sl, r, ep, d⟩ = 0) (ha : ansB ⟨k, s, t, l, q, fl, n, e, sl, r, ep, d⟩ = false) (w : World) :
    Calls Try.prog 22 #[frV ⟨k, s, t, l, q, fl, n, e, sl, r, ep, d⟩, .int .i64 li, .int .i64 di] w fun E w' => E = .returned (.tuple #[frV fr0, .int .i64 1]) ∧ Same w w' := by
  have HS := Lib.hid (((Same.refl w).alloc (.cells (frC ⟨k, s, t, l, q, fl, n, e, sl, r, ep, d⟩) 23)).alloc (.cells (frC fr0) 23))
  have HB0 := Lib.hid (fun (w1 : World) (h : Same ((w.alloc (.cells (frC ⟨k, s, t, l, q, fl, n, e, sl, r, ep, d⟩) 23)).alloc (.cells (frC fr0) 23)) w1) => And.intro (fr_cells (fr_two h).1) (z_cells (fr_two h).2))
  have k0 := fun w1 => check_any ⟨k, s, t, l, q, fl, n, e, sl, r, ep, d⟩ w1
  rw [hc] at k0
  have K0 := Lib.hid k0; clear k0
  have k1 := fun w1 => isAnswered_any k s t l q fl n e sl r ep d false ha w1
  have K1 := Lib.hid k1; clear k1
  clear hc
  go_enter Try.func22, Try.ntmps22
  go_wp2_with (first
    | (go_at_call 18; (with_reducible refine (K0.out _).mono ?_); rintro E1 w1 ⟨rfl, hw⟩; obtain ⟨⟨c0, c1, c2, c3, c4, c5, c6, c7, c8, c9, c10, c11⟩, ⟨z0, z1, z2, z3, z4, z5, z6, z7, z8, z9, z10, z11⟩, ⟨g0, g1, g2, g3, g4, g5, g6, g7, g8, g9, g10, g11⟩⟩ := HB0.out _ hw; have HX := Lib.hid hw; clear hw)
    | (go_at_call 51; (with_reducible refine (K1.out _).mono ?_); rintro E1 w2 ⟨rfl, hw⟩; have hw0 := HX.out.trans hw; clear hw c0 c1 c2 c3 c4 c5 c6 c7 c8 c9 c10 c11 z0 z1 z2 z3 z4 z5 z6 z7 z8 z9 z10 z11 g0 g1 g2 g3 g4 g5 g6 g7 g8 g9 g10 g11; obtain ⟨⟨c0, c1, c2, c3, c4, c5, c6, c7, c8, c9, c10, c11⟩, ⟨z0, z1, z2, z3, z4, z5, z6, z7, z8, z9, z10, z11⟩, ⟨g0, g1, g2, g3, g4, g5, g6, g7, g8, g9, g10, g11⟩⟩ := HB0.out _ hw0; have HY := Lib.hid hw0; clear hw0))
  exact bodyPost_ret (v := .tuple #[frV fr0, .int .i64 1]) (by simp [results, Try.results22, go_sem, z0, z1, z2, z3, z4, z5, z6, z7, z8, z9, z10, z11]) rfl ⟨rfl, by first | exact done12 (HS.out.trans HY.out) (Nat.le_succ _) _ _ _ _ _ _ _ _ _ _ _ _ | exact HS.out.trans HY.out⟩
set_option maxRecDepth 100000 in
set_option maxHeartbeats 1600000 in
theorem ack_3 (k s t l q fl n e sl r ep : Int) (d : ByteArray) (li di : Int) (hc : chk ⟨k, s, t, l, q, fl, n, e, sl, r, ep, d⟩ = 0) (ha : ansB ⟨k, s, t, l, q, fl, n, e, sl, r, ep, d⟩ = true) (h1 : inB li 0 255 = false) (w : World) :
    Calls Try.prog 22 #[frV ⟨k, s, t, l, q, fl, n, e, sl, r, ep, d⟩, .int .i64 li, .int .i64 di] w fun E w' => E = .returned (.tuple #[frV fr0, .int .i64 2]) ∧ Same w w' := by
  have HS := Lib.hid (((Same.refl w).alloc (.cells (frC ⟨k, s, t, l, q, fl, n, e, sl, r, ep, d⟩) 23)).alloc (.cells (frC fr0) 23))
  have HB0 := Lib.hid (fun (w1 : World) (h : Same ((w.alloc (.cells (frC ⟨k, s, t, l, q, fl, n, e, sl, r, ep, d⟩) 23)).alloc (.cells (frC fr0) 23)) w1) => And.intro (fr_cells (fr_two h).1) (z_cells (fr_two h).2))
  have k0 := fun w1 => check_any ⟨k, s, t, l, q, fl, n, e, sl, r, ep, d⟩ w1
  rw [hc] at k0
  have K0 := Lib.hid k0; clear k0
  have k1 := fun w1 => isAnswered_any k s t l q fl n e sl r ep d true ha w1
  have K1 := Lib.hid k1; clear k1
  have k2 := fun w1 => within_any li 0 255 w1
  rw [h1] at k2
  have K2 := Lib.hid k2; clear k2
  clear hc h1
  go_enter Try.func22, Try.ntmps22
  go_wp2_with (first
    | (go_at_call 18; (with_reducible refine (K0.out _).mono ?_); rintro E1 w1 ⟨rfl, hw⟩; obtain ⟨⟨c0, c1, c2, c3, c4, c5, c6, c7, c8, c9, c10, c11⟩, ⟨z0, z1, z2, z3, z4, z5, z6, z7, z8, z9, z10, z11⟩, ⟨g0, g1, g2, g3, g4, g5, g6, g7, g8, g9, g10, g11⟩⟩ := HB0.out _ hw; have HX := Lib.hid hw; clear hw)
    | (go_at_call 51; (with_reducible refine (K1.out _).mono ?_); rintro E1 w2 ⟨rfl, hw⟩; have hw0 := HX.out.trans hw; clear hw c0 c1 c2 c3 c4 c5 c6 c7 c8 c9 c10 c11 z0 z1 z2 z3 z4 z5 z6 z7 z8 z9 z10 z11 g0 g1 g2 g3 g4 g5 g6 g7 g8 g9 g10 g11; obtain ⟨⟨c0, c1, c2, c3, c4, c5, c6, c7, c8, c9, c10, c11⟩, ⟨z0, z1, z2, z3, z4, z5, z6, z7, z8, z9, z10, z11⟩, ⟨g0, g1, g2, g3, g4, g5, g6, g7, g8, g9, g10, g11⟩⟩ := HB0.out _ hw0; have HY := Lib.hid hw0; clear hw0)
    | (go_at_call 39; (with_reducible refine (K2.out _).mono ?_); rintro E1 w3 ⟨rfl, hw⟩; replace hw := hw.symm; subst hw))
  exact bodyPost_ret (v := .tuple #[frV fr0, .int .i64 2]) (by simp [results, Try.results22, go_sem, z0, z1, z2, z3, z4, z5, z6, z7, z8, z9, z10, z11]) rfl ⟨rfl, by first | exact done12 (HS.out.trans HY.out) (Nat.le_succ _) _ _ _ _ _ _ _ _ _ _ _ _ | exact HS.out.trans HY.out⟩
set_option maxRecDepth 100000 in
set_option maxHeartbeats 1600000 in
theorem ack_4 (k s t l q fl n e sl r ep : Int) (d : ByteArray) (li di : Int) (hc : chk ⟨k, s, t, l, q, fl, n, e, sl, r, ep, d⟩ = 0) (ha : ansB ⟨k, s, t, l, q, fl, n, e, sl, r, ep, d⟩ = true) (h1 : inB li 0 255 = true) (h2 : inB di (-32768) 32767 = false) (w : World) :
    Calls Try.prog 22 #[frV ⟨k, s, t, l, q, fl, n, e, sl, r, ep, d⟩, .int .i64 li, .int .i64 di] w fun E w' => E = .returned (.tuple #[frV fr0, .int .i64 2]) ∧ Same w w' := by
  have HS := Lib.hid (((Same.refl w).alloc (.cells (frC ⟨k, s, t, l, q, fl, n, e, sl, r, ep, d⟩) 23)).alloc (.cells (frC fr0) 23))
  have HB0 := Lib.hid (fun (w1 : World) (h : Same ((w.alloc (.cells (frC ⟨k, s, t, l, q, fl, n, e, sl, r, ep, d⟩) 23)).alloc (.cells (frC fr0) 23)) w1) => And.intro (fr_cells (fr_two h).1) (z_cells (fr_two h).2))
  have k0 := fun w1 => check_any ⟨k, s, t, l, q, fl, n, e, sl, r, ep, d⟩ w1
  rw [hc] at k0
  have K0 := Lib.hid k0; clear k0
  have k1 := fun w1 => isAnswered_any k s t l q fl n e sl r ep d true ha w1
  have K1 := Lib.hid k1; clear k1
  have k2 := fun w1 => within_any li 0 255 w1
  rw [h1] at k2
  have K2 := Lib.hid k2; clear k2
  have k3 := fun w1 => isDifference_any di w1
  rw [h2] at k3
  have K3 := Lib.hid k3; clear k3
  clear hc h1 h2
  go_enter Try.func22, Try.ntmps22
  go_wp2_with (first
    | (go_at_call 18; (with_reducible refine (K0.out _).mono ?_); rintro E1 w1 ⟨rfl, hw⟩; obtain ⟨⟨c0, c1, c2, c3, c4, c5, c6, c7, c8, c9, c10, c11⟩, ⟨z0, z1, z2, z3, z4, z5, z6, z7, z8, z9, z10, z11⟩, ⟨g0, g1, g2, g3, g4, g5, g6, g7, g8, g9, g10, g11⟩⟩ := HB0.out _ hw; have HX := Lib.hid hw; clear hw)
    | (go_at_call 51; (with_reducible refine (K1.out _).mono ?_); rintro E1 w2 ⟨rfl, hw⟩; have hw0 := HX.out.trans hw; clear hw c0 c1 c2 c3 c4 c5 c6 c7 c8 c9 c10 c11 z0 z1 z2 z3 z4 z5 z6 z7 z8 z9 z10 z11 g0 g1 g2 g3 g4 g5 g6 g7 g8 g9 g10 g11; obtain ⟨⟨c0, c1, c2, c3, c4, c5, c6, c7, c8, c9, c10, c11⟩, ⟨z0, z1, z2, z3, z4, z5, z6, z7, z8, z9, z10, z11⟩, ⟨g0, g1, g2, g3, g4, g5, g6, g7, g8, g9, g10, g11⟩⟩ := HB0.out _ hw0; have HY := Lib.hid hw0; clear hw0)
    | (go_at_call 39; (with_reducible refine (K2.out _).mono ?_); rintro E1 w3 ⟨rfl, hw⟩; replace hw := hw.symm; subst hw)
    | (go_at_call 52; (with_reducible refine (K3.out _).mono ?_); rintro E1 w3 ⟨rfl, hw⟩; replace hw := hw.symm; subst hw))
  exact bodyPost_ret (v := .tuple #[frV fr0, .int .i64 2]) (by simp [results, Try.results22, go_sem, z0, z1, z2, z3, z4, z5, z6, z7, z8, z9, z10, z11]) rfl ⟨rfl, by first | exact done12 (HS.out.trans HY.out) (Nat.le_succ _) _ _ _ _ _ _ _ _ _ _ _ _ | exact HS.out.trans HY.out⟩
set_option maxRecDepth 100000 in
set_option maxHeartbeats 1600000 in
theorem ack_5 (k s t l q fl n e sl r ep : Int) (d : ByteArray) (li di : Int) (hc : chk ⟨k, s, t, l, q, fl, n, e, sl, r, ep, d⟩ = 0) (ha : ansB ⟨k, s, t, l, q, fl, n, e, sl, r, ep, d⟩ = true) (h1 : inB li 0 255 = true) (h2 : inB di (-32768) 32767 = true) (w : World) :
    Calls Try.prog 22 #[frV ⟨k, s, t, l, q, fl, n, e, sl, r, ep, d⟩, .int .i64 li, .int .i64 di] w fun E w' => E = .returned (.tuple #[frV ⟨2, t, s, li, q, 0, 0, di, 0, 0, 0, ⟨#[]⟩⟩, .int .i64 0]) ∧ Same w w' := by
  have HS := Lib.hid (((Same.refl w).alloc (.cells (frC ⟨k, s, t, l, q, fl, n, e, sl, r, ep, d⟩) 23)).alloc (.cells (frC fr0) 23))
  have HB0 := Lib.hid (fun (w1 : World) (h : Same ((w.alloc (.cells (frC ⟨k, s, t, l, q, fl, n, e, sl, r, ep, d⟩) 23)).alloc (.cells (frC fr0) 23)) w1) => And.intro (fr_cells (fr_two h).1) (z_cells (fr_two h).2))
  have k0 := fun w1 => check_any ⟨k, s, t, l, q, fl, n, e, sl, r, ep, d⟩ w1
  rw [hc] at k0
  have K0 := Lib.hid k0; clear k0
  have k1 := fun w1 => isAnswered_any k s t l q fl n e sl r ep d true ha w1
  have K1 := Lib.hid k1; clear k1
  have k2 := fun w1 => within_any li 0 255 w1
  rw [h1] at k2
  have K2 := Lib.hid k2; clear k2
  have k3 := fun w1 => isDifference_any di w1
  rw [h2] at k3
  have K3 := Lib.hid k3; clear k3
  clear hc h1 h2
  go_enter Try.func22, Try.ntmps22
  go_wp2_with (first
    | (go_at_call 18; (with_reducible refine (K0.out _).mono ?_); rintro E1 w1 ⟨rfl, hw⟩; obtain ⟨⟨c0, c1, c2, c3, c4, c5, c6, c7, c8, c9, c10, c11⟩, ⟨z0, z1, z2, z3, z4, z5, z6, z7, z8, z9, z10, z11⟩, ⟨g0, g1, g2, g3, g4, g5, g6, g7, g8, g9, g10, g11⟩⟩ := HB0.out _ hw; have HX := Lib.hid hw; clear hw)
    | (go_at_call 51; (with_reducible refine (K1.out _).mono ?_); rintro E1 w2 ⟨rfl, hw⟩; have hw0 := HX.out.trans hw; clear hw c0 c1 c2 c3 c4 c5 c6 c7 c8 c9 c10 c11 z0 z1 z2 z3 z4 z5 z6 z7 z8 z9 z10 z11 g0 g1 g2 g3 g4 g5 g6 g7 g8 g9 g10 g11; obtain ⟨⟨c0, c1, c2, c3, c4, c5, c6, c7, c8, c9, c10, c11⟩, ⟨z0, z1, z2, z3, z4, z5, z6, z7, z8, z9, z10, z11⟩, ⟨g0, g1, g2, g3, g4, g5, g6, g7, g8, g9, g10, g11⟩⟩ := HB0.out _ hw0; have HY := Lib.hid hw0; clear hw0)
    | (go_at_call 39; (with_reducible refine (K2.out _).mono ?_); rintro E1 w3 ⟨rfl, hw⟩; replace hw := hw.symm; subst hw)
    | (go_at_call 52; (with_reducible refine (K3.out _).mono ?_); rintro E1 w3 ⟨rfl, hw⟩; replace hw := hw.symm; subst hw))
  exact bodyPost_ret (v := .tuple #[frV ⟨2, t, s, li, q, 0, 0, di, 0, 0, 0, ⟨#[]⟩⟩, .int .i64 0]) (by simp [results, Try.results22, go_sem, z0, z1, z2, z3, z4, z5, z6, z7, z8, z9, z10, z11]) rfl ⟨rfl, by first | exact done12 (HS.out.trans HY.out) (Nat.le_succ _) _ _ _ _ _ _ _ _ _ _ _ _ | exact HS.out.trans HY.out⟩
end Go.Proofs.Ytilpbbpdchbdfaa
