/- Acknowledgements by the reference. -/
import Derived.Test.YtilpbbpdchbdfaaFA
namespace Go.Proofs.Ytilpbbpdchbdfaa
open Go.RowKit

set_option maxRecDepth 100000 in
set_option maxHeartbeats 1600000 in
theorem ack2_1 (k s t l q fl n e sl r ep : Int) (d : ByteArray) (li di : Int) (hc : chk ⟨k, s, t, l, q, fl, n, e, sl, r, ep, d⟩ = 1) (w : World) :
    Calls Try.prog 23 #[frV ⟨k, s, t, l, q, fl, n, e, sl, r, ep, d⟩, .int .i64 li, .int .i64 di] w fun E w' => E = .returned (.tuple #[frV fr0, .int .i64 1]) ∧ Same w w' := by
  have HS := Lib.hid (((Same.refl w).alloc (.cells (frC ⟨k, s, t, l, q, fl, n, e, sl, r, ep, d⟩) 23)).alloc (.cells (frC fr0) 23))
  have HB0 := Lib.hid (fun (w1 : World) (h : Same ((w.alloc (.cells (frC ⟨k, s, t, l, q, fl, n, e, sl, r, ep, d⟩) 23)).alloc (.cells (frC fr0) 23)) w1) => And.intro (fr_cells (fr_two h).1) (z_cells (fr_two h).2))
  have k0 := fun w1 => check2_any ⟨k, s, t, l, q, fl, n, e, sl, r, ep, d⟩ w1
  rw [hc] at k0
  have K0 := Lib.hid k0; clear k0
  clear hc
  go_enter Try.func23, Try.ntmps23
  go_wp2_with (first
    | (go_at_call 19; (with_reducible refine (K0.out _).mono ?_); rintro E1 w1 ⟨rfl, hw⟩; obtain ⟨⟨c0, c1, c2, c3, c4, c5, c6, c7, c8, c9, c10, c11⟩, ⟨z0, z1, z2, z3, z4, z5, z6, z7, z8, z9, z10, z11⟩, ⟨g0, g1, g2, g3, g4, g5, g6, g7, g8, g9, g10, g11⟩⟩ := HB0.out _ hw; have HX := Lib.hid hw; clear hw))
  exact bodyPost_ret (v := .tuple #[frV fr0, .int .i64 1]) (by simp [results, Try.results23, go_sem, z0, z1, z2, z3, z4, z5, z6, z7, z8, z9, z10, z11]) rfl ⟨rfl, by first | exact done12 (HS.out.trans HX.out) (Nat.le_succ _) _ _ _ _ _ _ _ _ _ _ _ _ | exact HS.out.trans HX.out⟩
set_option maxRecDepth 100000 in
set_option maxHeartbeats 1600000 in
theorem ack2_2 (s t l q fl n e sl r ep : Int) (d : ByteArray) (li di : Int) (hc : chk ⟨2, s, t, l, q, fl, n, e, sl, r, ep, d⟩ = 0) (w : World) :
    Calls Try.prog 23 #[frV ⟨2, s, t, l, q, fl, n, e, sl, r, ep, d⟩, .int .i64 li, .int .i64 di] w fun E w' => E = .returned (.tuple #[frV fr0, .int .i64 1]) ∧ Same w w' := by
  have HS := Lib.hid (((Same.refl w).alloc (.cells (frC ⟨2, s, t, l, q, fl, n, e, sl, r, ep, d⟩) 23)).alloc (.cells (frC fr0) 23))
  have HB0 := Lib.hid (fun (w1 : World) (h : Same ((w.alloc (.cells (frC ⟨2, s, t, l, q, fl, n, e, sl, r, ep, d⟩) 23)).alloc (.cells (frC fr0) 23)) w1) => And.intro (fr_cells (fr_two h).1) (z_cells (fr_two h).2))
  have k0 := fun w1 => check2_any ⟨2, s, t, l, q, fl, n, e, sl, r, ep, d⟩ w1
  rw [hc] at k0
  have K0 := Lib.hid k0; clear k0
  clear hc
  go_enter Try.func23, Try.ntmps23
  go_wp2_with (first
    | (go_at_call 19; (with_reducible refine (K0.out _).mono ?_); rintro E1 w1 ⟨rfl, hw⟩; obtain ⟨⟨c0, c1, c2, c3, c4, c5, c6, c7, c8, c9, c10, c11⟩, ⟨z0, z1, z2, z3, z4, z5, z6, z7, z8, z9, z10, z11⟩, ⟨g0, g1, g2, g3, g4, g5, g6, g7, g8, g9, g10, g11⟩⟩ := HB0.out _ hw; have HX := Lib.hid hw; clear hw))
  exact bodyPost_ret (v := .tuple #[frV fr0, .int .i64 1]) (by simp [results, Try.results23, go_sem, z0, z1, z2, z3, z4, z5, z6, z7, z8, z9, z10, z11]) rfl ⟨rfl, by first | exact done12 (HS.out.trans HX.out) (Nat.le_succ _) _ _ _ _ _ _ _ _ _ _ _ _ | exact HS.out.trans HX.out⟩
set_option maxRecDepth 100000 in
set_option maxHeartbeats 1600000 in
theorem ack2_3 (s t l q fl n e sl r ep : Int) (d : ByteArray) (li di : Int) (hc : chk ⟨3, s, t, l, q, fl, n, e, sl, r, ep, d⟩ = 0) (w : World) :
    Calls Try.prog 23 #[frV ⟨3, s, t, l, q, fl, n, e, sl, r, ep, d⟩, .int .i64 li, .int .i64 di] w fun E w' => E = .returned (.tuple #[frV fr0, .int .i64 1]) ∧ Same w w' := by
  have HS := Lib.hid (((Same.refl w).alloc (.cells (frC ⟨3, s, t, l, q, fl, n, e, sl, r, ep, d⟩) 23)).alloc (.cells (frC fr0) 23))
  have HB0 := Lib.hid (fun (w1 : World) (h : Same ((w.alloc (.cells (frC ⟨3, s, t, l, q, fl, n, e, sl, r, ep, d⟩) 23)).alloc (.cells (frC fr0) 23)) w1) => And.intro (fr_cells (fr_two h).1) (z_cells (fr_two h).2))
  have k0 := fun w1 => check2_any ⟨3, s, t, l, q, fl, n, e, sl, r, ep, d⟩ w1
  rw [hc] at k0
  have K0 := Lib.hid k0; clear k0
  clear hc
  go_enter Try.func23, Try.ntmps23
  go_wp2_with (first
    | (go_at_call 19; (with_reducible refine (K0.out _).mono ?_); rintro E1 w1 ⟨rfl, hw⟩; obtain ⟨⟨c0, c1, c2, c3, c4, c5, c6, c7, c8, c9, c10, c11⟩, ⟨z0, z1, z2, z3, z4, z5, z6, z7, z8, z9, z10, z11⟩, ⟨g0, g1, g2, g3, g4, g5, g6, g7, g8, g9, g10, g11⟩⟩ := HB0.out _ hw; have HX := Lib.hid hw; clear hw))
  exact bodyPost_ret (v := .tuple #[frV fr0, .int .i64 1]) (by simp [results, Try.results23, go_sem, z0, z1, z2, z3, z4, z5, z6, z7, z8, z9, z10, z11]) rfl ⟨rfl, by first | exact done12 (HS.out.trans HX.out) (Nat.le_succ _) _ _ _ _ _ _ _ _ _ _ _ _ | exact HS.out.trans HX.out⟩
set_option maxRecDepth 100000 in
set_option maxHeartbeats 1600000 in
theorem ack2_4 (s l q fl n e sl r ep : Int) (d : ByteArray) (li di : Int) (hc : chk ⟨4, s, (-1), l, q, fl, n, e, sl, r, ep, d⟩ = 0) (w : World) :
    Calls Try.prog 23 #[frV ⟨4, s, (-1), l, q, fl, n, e, sl, r, ep, d⟩, .int .i64 li, .int .i64 di] w fun E w' => E = .returned (.tuple #[frV fr0, .int .i64 1]) ∧ Same w w' := by
  have HS := Lib.hid (((Same.refl w).alloc (.cells (frC ⟨4, s, (-1), l, q, fl, n, e, sl, r, ep, d⟩) 23)).alloc (.cells (frC fr0) 23))
  have HB0 := Lib.hid (fun (w1 : World) (h : Same ((w.alloc (.cells (frC ⟨4, s, (-1), l, q, fl, n, e, sl, r, ep, d⟩) 23)).alloc (.cells (frC fr0) 23)) w1) => And.intro (fr_cells (fr_two h).1) (z_cells (fr_two h).2))
  have k0 := fun w1 => check2_any ⟨4, s, (-1), l, q, fl, n, e, sl, r, ep, d⟩ w1
  rw [hc] at k0
  have K0 := Lib.hid k0; clear k0
  clear hc
  go_enter Try.func23, Try.ntmps23
  go_wp2_with (first
    | (go_at_call 19; (with_reducible refine (K0.out _).mono ?_); rintro E1 w1 ⟨rfl, hw⟩; obtain ⟨⟨c0, c1, c2, c3, c4, c5, c6, c7, c8, c9, c10, c11⟩, ⟨z0, z1, z2, z3, z4, z5, z6, z7, z8, z9, z10, z11⟩, ⟨g0, g1, g2, g3, g4, g5, g6, g7, g8, g9, g10, g11⟩⟩ := HB0.out _ hw; have HX := Lib.hid hw; clear hw))
  exact bodyPost_ret (v := .tuple #[frV fr0, .int .i64 1]) (by simp [results, Try.results23, go_sem, z0, z1, z2, z3, z4, z5, z6, z7, z8, z9, z10, z11]) rfl ⟨rfl, by first | exact done12 (HS.out.trans HX.out) (Nat.le_succ _) _ _ _ _ _ _ _ _ _ _ _ _ | exact HS.out.trans HX.out⟩
set_option maxRecDepth 100000 in
set_option maxHeartbeats 1600000 in
theorem ack2_1a (s t l q fl n e sl r ep : Int) (d : ByteArray) (li di : Int) (hc : chk ⟨1, s, t, l, q, fl, n, e, sl, r, ep, d⟩ = 0) (ht : decide (t < 0) = false) (h1 : inB li 0 255 = false) (w : World) :
    Calls Try.prog 23 #[frV ⟨1, s, t, l, q, fl, n, e, sl, r, ep, d⟩, .int .i64 li, .int .i64 di] w fun E w' => E = .returned (.tuple #[frV fr0, .int .i64 2]) ∧ Same w w' := by
  have HS := Lib.hid (((Same.refl w).alloc (.cells (frC ⟨1, s, t, l, q, fl, n, e, sl, r, ep, d⟩) 23)).alloc (.cells (frC fr0) 23))
  have HB0 := Lib.hid (fun (w1 : World) (h : Same ((w.alloc (.cells (frC ⟨1, s, t, l, q, fl, n, e, sl, r, ep, d⟩) 23)).alloc (.cells (frC fr0) 23)) w1) => And.intro (fr_cells (fr_two h).1) (z_cells (fr_two h).2))
  have k0 := fun w1 => check2_any ⟨1, s, t, l, q, fl, n, e, sl, r, ep, d⟩ w1
  rw [hc] at k0
  have K0 := Lib.hid k0; clear k0
  have k1 := fun w1 => within2_any li 255 w1
  rw [h1] at k1
  have K1 := Lib.hid k1; clear k1
  clear hc h1
  go_enter Try.func23, Try.ntmps23
  go_wp2_with (first
    | (go_at_call 19; (with_reducible refine (K0.out _).mono ?_); rintro E1 w1 ⟨rfl, hw⟩; obtain ⟨⟨c0, c1, c2, c3, c4, c5, c6, c7, c8, c9, c10, c11⟩, ⟨z0, z1, z2, z3, z4, z5, z6, z7, z8, z9, z10, z11⟩, ⟨g0, g1, g2, g3, g4, g5, g6, g7, g8, g9, g10, g11⟩⟩ := HB0.out _ hw; have HX := Lib.hid hw; clear hw)
    | (go_at_call 41; (with_reducible refine (K1.out _).mono ?_); rintro E1 w3 ⟨rfl, hw⟩; replace hw := hw.symm; subst hw))
  exact bodyPost_ret (v := .tuple #[frV fr0, .int .i64 2]) (by simp [results, Try.results23, go_sem, z0, z1, z2, z3, z4, z5, z6, z7, z8, z9, z10, z11]) rfl ⟨rfl, by first | exact done12 (HS.out.trans HX.out) (Nat.le_succ _) _ _ _ _ _ _ _ _ _ _ _ _ | exact HS.out.trans HX.out⟩
set_option maxRecDepth 100000 in
set_option maxHeartbeats 1600000 in
theorem ack2_1b (s t l q fl n e sl r ep : Int) (d : ByteArray) (li di : Int) (hc : chk ⟨1, s, t, l, q, fl, n, e, sl, r, ep, d⟩ = 0) (ht : decide (t < 0) = false) (h1 : inB li 0 255 = true) (d1 : decide (di < -32768) = true) (w : World) :
    Calls Try.prog 23 #[frV ⟨1, s, t, l, q, fl, n, e, sl, r, ep, d⟩, .int .i64 li, .int .i64 di] w fun E w' => E = .returned (.tuple #[frV fr0, .int .i64 2]) ∧ Same w w' := by
  have HS := Lib.hid (((Same.refl w).alloc (.cells (frC ⟨1, s, t, l, q, fl, n, e, sl, r, ep, d⟩) 23)).alloc (.cells (frC fr0) 23))
  have HB0 := Lib.hid (fun (w1 : World) (h : Same ((w.alloc (.cells (frC ⟨1, s, t, l, q, fl, n, e, sl, r, ep, d⟩) 23)).alloc (.cells (frC fr0) 23)) w1) => And.intro (fr_cells (fr_two h).1) (z_cells (fr_two h).2))
  have k0 := fun w1 => check2_any ⟨1, s, t, l, q, fl, n, e, sl, r, ep, d⟩ w1
  rw [hc] at k0
  have K0 := Lib.hid k0; clear k0
  have k1 := fun w1 => within2_any li 255 w1
  rw [h1] at k1
  have K1 := Lib.hid k1; clear k1
  clear hc h1
  go_enter Try.func23, Try.ntmps23
  go_wp2_with (first
    | (go_at_call 19; (with_reducible refine (K0.out _).mono ?_); rintro E1 w1 ⟨rfl, hw⟩; obtain ⟨⟨c0, c1, c2, c3, c4, c5, c6, c7, c8, c9, c10, c11⟩, ⟨z0, z1, z2, z3, z4, z5, z6, z7, z8, z9, z10, z11⟩, ⟨g0, g1, g2, g3, g4, g5, g6, g7, g8, g9, g10, g11⟩⟩ := HB0.out _ hw; have HX := Lib.hid hw; clear hw)
    | (go_at_call 41; (with_reducible refine (K1.out _).mono ?_); rintro E1 w3 ⟨rfl, hw⟩; replace hw := hw.symm; subst hw))
  exact bodyPost_ret (v := .tuple #[frV fr0, .int .i64 2]) (by simp [results, Try.results23, go_sem, z0, z1, z2, z3, z4, z5, z6, z7, z8, z9, z10, z11]) rfl ⟨rfl, by first | exact done12 (HS.out.trans HX.out) (Nat.le_succ _) _ _ _ _ _ _ _ _ _ _ _ _ | exact HS.out.trans HX.out⟩
set_option maxRecDepth 100000 in
set_option maxHeartbeats 1600000 in
theorem ack2_1c (s t l q fl n e sl r ep : Int) (d : ByteArray) (li di : Int) (hc : chk ⟨1, s, t, l, q, fl, n, e, sl, r, ep, d⟩ = 0) (ht : decide (t < 0) = false) (h1 : inB li 0 255 = true) (d1 : decide (di < -32768) = false) (d2 : decide (32767 < di) = true) (w : World) :
    Calls Try.prog 23 #[frV ⟨1, s, t, l, q, fl, n, e, sl, r, ep, d⟩, .int .i64 li, .int .i64 di] w fun E w' => E = .returned (.tuple #[frV fr0, .int .i64 2]) ∧ Same w w' := by
  have HS := Lib.hid (((Same.refl w).alloc (.cells (frC ⟨1, s, t, l, q, fl, n, e, sl, r, ep, d⟩) 23)).alloc (.cells (frC fr0) 23))
  have HB0 := Lib.hid (fun (w1 : World) (h : Same ((w.alloc (.cells (frC ⟨1, s, t, l, q, fl, n, e, sl, r, ep, d⟩) 23)).alloc (.cells (frC fr0) 23)) w1) => And.intro (fr_cells (fr_two h).1) (z_cells (fr_two h).2))
  have k0 := fun w1 => check2_any ⟨1, s, t, l, q, fl, n, e, sl, r, ep, d⟩ w1
  rw [hc] at k0
  have K0 := Lib.hid k0; clear k0
  have k1 := fun w1 => within2_any li 255 w1
  rw [h1] at k1
  have K1 := Lib.hid k1; clear k1
  clear hc h1
  go_enter Try.func23, Try.ntmps23
  go_wp2_with (first
    | (go_at_call 19; (with_reducible refine (K0.out _).mono ?_); rintro E1 w1 ⟨rfl, hw⟩; obtain ⟨⟨c0, c1, c2, c3, c4, c5, c6, c7, c8, c9, c10, c11⟩, ⟨z0, z1, z2, z3, z4, z5, z6, z7, z8, z9, z10, z11⟩, ⟨g0, g1, g2, g3, g4, g5, g6, g7, g8, g9, g10, g11⟩⟩ := HB0.out _ hw; have HX := Lib.hid hw; clear hw)
    | (go_at_call 41; (with_reducible refine (K1.out _).mono ?_); rintro E1 w3 ⟨rfl, hw⟩; replace hw := hw.symm; subst hw))
  exact bodyPost_ret (v := .tuple #[frV fr0, .int .i64 2]) (by simp [results, Try.results23, go_sem, z0, z1, z2, z3, z4, z5, z6, z7, z8, z9, z10, z11]) rfl ⟨rfl, by first | exact done12 (HS.out.trans HX.out) (Nat.le_succ _) _ _ _ _ _ _ _ _ _ _ _ _ | exact HS.out.trans HX.out⟩
set_option maxRecDepth 100000 in
set_option maxHeartbeats 1600000 in
theorem ack2_1d (s t l q fl n e sl r ep : Int) (d : ByteArray) (li di : Int) (hc : chk ⟨1, s, t, l, q, fl, n, e, sl, r, ep, d⟩ = 0) (ht : decide (t < 0) = false) (h1 : inB li 0 255 = true) (d1 : decide (di < -32768) = false) (d2 : decide (32767 < di) = false) (w : World) :
    Calls Try.prog 23 #[frV ⟨1, s, t, l, q, fl, n, e, sl, r, ep, d⟩, .int .i64 li, .int .i64 di] w fun E w' => E = .returned (.tuple #[frV ⟨2, t, s, li, q, 0, 0, di, 0, 0, 0, ⟨#[]⟩⟩, .int .i64 0]) ∧ Same w w' := by
  have HS := Lib.hid (((Same.refl w).alloc (.cells (frC ⟨1, s, t, l, q, fl, n, e, sl, r, ep, d⟩) 23)).alloc (.cells (frC fr0) 23))
  have HB0 := Lib.hid (fun (w1 : World) (h : Same ((w.alloc (.cells (frC ⟨1, s, t, l, q, fl, n, e, sl, r, ep, d⟩) 23)).alloc (.cells (frC fr0) 23)) w1) => And.intro (fr_cells (fr_two h).1) (z_cells (fr_two h).2))
  have k0 := fun w1 => check2_any ⟨1, s, t, l, q, fl, n, e, sl, r, ep, d⟩ w1
  rw [hc] at k0
  have K0 := Lib.hid k0; clear k0
  have k1 := fun w1 => within2_any li 255 w1
  rw [h1] at k1
  have K1 := Lib.hid k1; clear k1
  clear hc h1
  go_enter Try.func23, Try.ntmps23
  go_wp2_with (first
    | (go_at_call 19; (with_reducible refine (K0.out _).mono ?_); rintro E1 w1 ⟨rfl, hw⟩; obtain ⟨⟨c0, c1, c2, c3, c4, c5, c6, c7, c8, c9, c10, c11⟩, ⟨z0, z1, z2, z3, z4, z5, z6, z7, z8, z9, z10, z11⟩, ⟨g0, g1, g2, g3, g4, g5, g6, g7, g8, g9, g10, g11⟩⟩ := HB0.out _ hw; have HX := Lib.hid hw; clear hw)
    | (go_at_call 41; (with_reducible refine (K1.out _).mono ?_); rintro E1 w3 ⟨rfl, hw⟩; replace hw := hw.symm; subst hw))
  exact bodyPost_ret (v := .tuple #[frV ⟨2, t, s, li, q, 0, 0, di, 0, 0, 0, ⟨#[]⟩⟩, .int .i64 0]) (by simp [results, Try.results23, go_sem, z0, z1, z2, z3, z4, z5, z6, z7, z8, z9, z10, z11]) rfl ⟨rfl, by first | exact done12 (HS.out.trans HX.out) (Nat.le_succ _) _ _ _ _ _ _ _ _ _ _ _ _ | exact HS.out.trans HX.out⟩
set_option maxRecDepth 100000 in
set_option maxHeartbeats 1600000 in
theorem ack2_4a (s t l q fl n e sl r ep : Int) (d : ByteArray) (li di : Int) (hc : chk ⟨4, s, t, l, q, fl, n, e, sl, r, ep, d⟩ = 0) (ht : decide (t < 0) = false) (h1 : inB li 0 255 = false) (w : World) :
    Calls Try.prog 23 #[frV ⟨4, s, t, l, q, fl, n, e, sl, r, ep, d⟩, .int .i64 li, .int .i64 di] w fun E w' => E = .returned (.tuple #[frV fr0, .int .i64 2]) ∧ Same w w' := by
  have HS := Lib.hid (((Same.refl w).alloc (.cells (frC ⟨4, s, t, l, q, fl, n, e, sl, r, ep, d⟩) 23)).alloc (.cells (frC fr0) 23))
  have HB0 := Lib.hid (fun (w1 : World) (h : Same ((w.alloc (.cells (frC ⟨4, s, t, l, q, fl, n, e, sl, r, ep, d⟩) 23)).alloc (.cells (frC fr0) 23)) w1) => And.intro (fr_cells (fr_two h).1) (z_cells (fr_two h).2))
  have k0 := fun w1 => check2_any ⟨4, s, t, l, q, fl, n, e, sl, r, ep, d⟩ w1
  rw [hc] at k0
  have K0 := Lib.hid k0; clear k0
  have k1 := fun w1 => within2_any li 255 w1
  rw [h1] at k1
  have K1 := Lib.hid k1; clear k1
  clear hc h1
  go_enter Try.func23, Try.ntmps23
  go_wp2_with (first
    | (go_at_call 19; (with_reducible refine (K0.out _).mono ?_); rintro E1 w1 ⟨rfl, hw⟩; obtain ⟨⟨c0, c1, c2, c3, c4, c5, c6, c7, c8, c9, c10, c11⟩, ⟨z0, z1, z2, z3, z4, z5, z6, z7, z8, z9, z10, z11⟩, ⟨g0, g1, g2, g3, g4, g5, g6, g7, g8, g9, g10, g11⟩⟩ := HB0.out _ hw; have HX := Lib.hid hw; clear hw)
    | (go_at_call 41; (with_reducible refine (K1.out _).mono ?_); rintro E1 w3 ⟨rfl, hw⟩; replace hw := hw.symm; subst hw))
  exact bodyPost_ret (v := .tuple #[frV fr0, .int .i64 2]) (by simp [results, Try.results23, go_sem, z0, z1, z2, z3, z4, z5, z6, z7, z8, z9, z10, z11]) rfl ⟨rfl, by first | exact done12 (HS.out.trans HX.out) (Nat.le_succ _) _ _ _ _ _ _ _ _ _ _ _ _ | exact HS.out.trans HX.out⟩
set_option maxRecDepth 100000 in
set_option maxHeartbeats 1600000 in
theorem ack2_4b (s t l q fl n e sl r ep : Int) (d : ByteArray) (li di : Int) (hc : chk ⟨4, s, t, l, q, fl, n, e, sl, r, ep, d⟩ = 0) (ht : decide (t < 0) = false) (h1 : inB li 0 255 = true) (d1 : decide (di < -32768) = true) (w : World) :
    Calls Try.prog 23 #[frV ⟨4, s, t, l, q, fl, n, e, sl, r, ep, d⟩, .int .i64 li, .int .i64 di] w fun E w' => E = .returned (.tuple #[frV fr0, .int .i64 2]) ∧ Same w w' := by
  have HS := Lib.hid (((Same.refl w).alloc (.cells (frC ⟨4, s, t, l, q, fl, n, e, sl, r, ep, d⟩) 23)).alloc (.cells (frC fr0) 23))
  have HB0 := Lib.hid (fun (w1 : World) (h : Same ((w.alloc (.cells (frC ⟨4, s, t, l, q, fl, n, e, sl, r, ep, d⟩) 23)).alloc (.cells (frC fr0) 23)) w1) => And.intro (fr_cells (fr_two h).1) (z_cells (fr_two h).2))
  have k0 := fun w1 => check2_any ⟨4, s, t, l, q, fl, n, e, sl, r, ep, d⟩ w1
  rw [hc] at k0
  have K0 := Lib.hid k0; clear k0
  have k1 := fun w1 => within2_any li 255 w1
  rw [h1] at k1
  have K1 := Lib.hid k1; clear k1
  clear hc h1
  go_enter Try.func23, Try.ntmps23
  go_wp2_with (first
    | (go_at_call 19; (with_reducible refine (K0.out _).mono ?_); rintro E1 w1 ⟨rfl, hw⟩; obtain ⟨⟨c0, c1, c2, c3, c4, c5, c6, c7, c8, c9, c10, c11⟩, ⟨z0, z1, z2, z3, z4, z5, z6, z7, z8, z9, z10, z11⟩, ⟨g0, g1, g2, g3, g4, g5, g6, g7, g8, g9, g10, g11⟩⟩ := HB0.out _ hw; have HX := Lib.hid hw; clear hw)
    | (go_at_call 41; (with_reducible refine (K1.out _).mono ?_); rintro E1 w3 ⟨rfl, hw⟩; replace hw := hw.symm; subst hw))
  exact bodyPost_ret (v := .tuple #[frV fr0, .int .i64 2]) (by simp [results, Try.results23, go_sem, z0, z1, z2, z3, z4, z5, z6, z7, z8, z9, z10, z11]) rfl ⟨rfl, by first | exact done12 (HS.out.trans HX.out) (Nat.le_succ _) _ _ _ _ _ _ _ _ _ _ _ _ | exact HS.out.trans HX.out⟩
set_option maxRecDepth 100000 in
set_option maxHeartbeats 1600000 in
theorem ack2_4c (s t l q fl n e sl r ep : Int) (d : ByteArray) (li di : Int) (hc : chk ⟨4, s, t, l, q, fl, n, e, sl, r, ep, d⟩ = 0) (ht : decide (t < 0) = false) (h1 : inB li 0 255 = true) (d1 : decide (di < -32768) = false) (d2 : decide (32767 < di) = true) (w : World) :
    Calls Try.prog 23 #[frV ⟨4, s, t, l, q, fl, n, e, sl, r, ep, d⟩, .int .i64 li, .int .i64 di] w fun E w' => E = .returned (.tuple #[frV fr0, .int .i64 2]) ∧ Same w w' := by
  have HS := Lib.hid (((Same.refl w).alloc (.cells (frC ⟨4, s, t, l, q, fl, n, e, sl, r, ep, d⟩) 23)).alloc (.cells (frC fr0) 23))
  have HB0 := Lib.hid (fun (w1 : World) (h : Same ((w.alloc (.cells (frC ⟨4, s, t, l, q, fl, n, e, sl, r, ep, d⟩) 23)).alloc (.cells (frC fr0) 23)) w1) => And.intro (fr_cells (fr_two h).1) (z_cells (fr_two h).2))
  have k0 := fun w1 => check2_any ⟨4, s, t, l, q, fl, n, e, sl, r, ep, d⟩ w1
  rw [hc] at k0
  have K0 := Lib.hid k0; clear k0
  have k1 := fun w1 => within2_any li 255 w1
  rw [h1] at k1
  have K1 := Lib.hid k1; clear k1
  clear hc h1
  go_enter Try.func23, Try.ntmps23
  go_wp2_with (first
    | (go_at_call 19; (with_reducible refine (K0.out _).mono ?_); rintro E1 w1 ⟨rfl, hw⟩; obtain ⟨⟨c0, c1, c2, c3, c4, c5, c6, c7, c8, c9, c10, c11⟩, ⟨z0, z1, z2, z3, z4, z5, z6, z7, z8, z9, z10, z11⟩, ⟨g0, g1, g2, g3, g4, g5, g6, g7, g8, g9, g10, g11⟩⟩ := HB0.out _ hw; have HX := Lib.hid hw; clear hw)
    | (go_at_call 41; (with_reducible refine (K1.out _).mono ?_); rintro E1 w3 ⟨rfl, hw⟩; replace hw := hw.symm; subst hw))
  exact bodyPost_ret (v := .tuple #[frV fr0, .int .i64 2]) (by simp [results, Try.results23, go_sem, z0, z1, z2, z3, z4, z5, z6, z7, z8, z9, z10, z11]) rfl ⟨rfl, by first | exact done12 (HS.out.trans HX.out) (Nat.le_succ _) _ _ _ _ _ _ _ _ _ _ _ _ | exact HS.out.trans HX.out⟩
set_option maxRecDepth 100000 in
set_option maxHeartbeats 1600000 in
theorem ack2_4d (s t l q fl n e sl r ep : Int) (d : ByteArray) (li di : Int) (hc : chk ⟨4, s, t, l, q, fl, n, e, sl, r, ep, d⟩ = 0) (ht : decide (t < 0) = false) (h1 : inB li 0 255 = true) (d1 : decide (di < -32768) = false) (d2 : decide (32767 < di) = false) (w : World) :
    Calls Try.prog 23 #[frV ⟨4, s, t, l, q, fl, n, e, sl, r, ep, d⟩, .int .i64 li, .int .i64 di] w fun E w' => E = .returned (.tuple #[frV ⟨2, t, s, li, q, 0, 0, di, 0, 0, 0, ⟨#[]⟩⟩, .int .i64 0]) ∧ Same w w' := by
  have HS := Lib.hid (((Same.refl w).alloc (.cells (frC ⟨4, s, t, l, q, fl, n, e, sl, r, ep, d⟩) 23)).alloc (.cells (frC fr0) 23))
  have HB0 := Lib.hid (fun (w1 : World) (h : Same ((w.alloc (.cells (frC ⟨4, s, t, l, q, fl, n, e, sl, r, ep, d⟩) 23)).alloc (.cells (frC fr0) 23)) w1) => And.intro (fr_cells (fr_two h).1) (z_cells (fr_two h).2))
  have k0 := fun w1 => check2_any ⟨4, s, t, l, q, fl, n, e, sl, r, ep, d⟩ w1
  rw [hc] at k0
  have K0 := Lib.hid k0; clear k0
  have k1 := fun w1 => within2_any li 255 w1
  rw [h1] at k1
  have K1 := Lib.hid k1; clear k1
  clear hc h1
  go_enter Try.func23, Try.ntmps23
  go_wp2_with (first
    | (go_at_call 19; (with_reducible refine (K0.out _).mono ?_); rintro E1 w1 ⟨rfl, hw⟩; obtain ⟨⟨c0, c1, c2, c3, c4, c5, c6, c7, c8, c9, c10, c11⟩, ⟨z0, z1, z2, z3, z4, z5, z6, z7, z8, z9, z10, z11⟩, ⟨g0, g1, g2, g3, g4, g5, g6, g7, g8, g9, g10, g11⟩⟩ := HB0.out _ hw; have HX := Lib.hid hw; clear hw)
    | (go_at_call 41; (with_reducible refine (K1.out _).mono ?_); rintro E1 w3 ⟨rfl, hw⟩; replace hw := hw.symm; subst hw))
  exact bodyPost_ret (v := .tuple #[frV ⟨2, t, s, li, q, 0, 0, di, 0, 0, 0, ⟨#[]⟩⟩, .int .i64 0]) (by simp [results, Try.results23, go_sem, z0, z1, z2, z3, z4, z5, z6, z7, z8, z9, z10, z11]) rfl ⟨rfl, by first | exact done12 (HS.out.trans HX.out) (Nat.le_succ _) _ _ _ _ _ _ _ _ _ _ _ _ | exact HS.out.trans HX.out⟩
end Go.Proofs.Ytilpbbpdchbdfaa
