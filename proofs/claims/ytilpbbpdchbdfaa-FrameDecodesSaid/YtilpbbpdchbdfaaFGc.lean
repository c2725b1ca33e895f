/- What the bytes of a frame are read as, by the reference: some kinds. -/
import Derived.Test.YtilpbbpdchbdfaaFG
namespace Go.Proofs.Ytilpbbpdchbdfaa
open Go.RowKit

set_option maxRecDepth 100000 in
set_option maxHeartbeats 6400000 in
theorem decode2_k2t (data : ByteArray) (h : decide ((127 : Int) < (data.size : Int)) = false) (S : ByteArray) (hS : S.size ≤ 300) (k1 : ∀ w1, Calls Try.prog 44 #[.string data] w1 fun e w' => e = .returned (.tuple #[.string S, .int .i64 0]) ∧ Same w1 w') (s1 s2 s3 s4 s5 s6 s7 : Nat × Int) (s l q t e : Int) (e1 : Rc.rU S 3 0 (0, 0) = (s1, 2)) (e2 : Rc.rU S 5 0 s1 = (s2, s)) (e3 : Bit.rflag S s2 = (s3, true)) (e4 : Rc.rU S 5 0 s3 = (s4, t)) (e5 : Rc.rU S 8 0 s4 = (s5, l)) (e6 : Rc.rU S 8 0 s5 = (s6, q)) (e7 : Rc.rS S 16 0 s6 = (s7, e)) (E : Int) (hE : Bit.rclose S s7 = E) (c : Int) (hc : chk ⟨2, s, t, l, q, 0, 0, e, 0, 0, 0, ⟨#[]⟩⟩ = c)
    (R : Fr × Int) (hx : ((E != 0) = true ∧ R = (fr0, 10)) ∨ (E = 0 ∧ c = 1 ∧ R = (fr0, 10)) ∨ (E = 0 ∧ c = 0 ∧ R = (⟨2, s, t, l, q, 0, 0, e, 0, 0, 0, ⟨#[]⟩⟩, 0))) (w : World) : Calls Try.prog 21 #[.string data] w fun e w' => e = .returned (.tuple #[frV R.1, .int .i64 R.2]) ∧ Same w w' := by
  have k3 := fun w1 => check2_any ⟨2, s, t, l, q, 0, 0, e, 0, 0, 0, ⟨#[]⟩⟩ w1
  rw [hc] at k3
  have K1 := Lib.hid k1; have K3 := Lib.hid k3; have HSZ := Lib.hid hS; have HC := Lib.hid hE
  have HE1 := Lib.hid e1
  have HE2 := Lib.hid e2
  have HE3 := Lib.hid e3
  have HE4 := Lib.hid e4
  have HE5 := Lib.hid e5
  have HE6 := Lib.hid e6
  have HE7 := Lib.hid e7
  clear k1 k3 hS hE hc e1 e2 e3 e4 e5 e6 e7
  have HS := Lib.hid ((Same.refl w).alloc (.cells (frC fr0) 23))
  have HZ := Lib.hid (fun (w1 : World) (h : Same (w.alloc (.cells (frC fr0) 23)) w1) => z_cells (h.at (heap_alloc_new w _)))
  rcases hx with ⟨hE, rfl⟩ | ⟨rfl, rfl, rfl⟩ | ⟨rfl, rfl, rfl⟩
  all_goals
    go_enter Try.func21, Try.ntmps21
    go_wp2_with (first
      | (go_at_call 44; (with_reducible refine (K1.out _).mono ?_); rintro E1 w1 ⟨rfl, hw⟩; have HX := Lib.hid hw; clear hw)
      | (go_at_call 45; (with_reducible refine (rd_new HX.out HSZ.out).mono ?_); rintro E1 w2 ⟨rfl, hd⟩; have HR := Lib.hid hd; clear hd)
      | (go_at_call 46; (with_reducible refine (rd_un HE1.out HR.out).mono ?_); rintro E1 w2 ⟨rfl, hd⟩; have HR := Lib.hid hd; clear hd)
      | (go_at_call 46; (with_reducible refine (rd_un HE2.out HR.out).mono ?_); rintro E1 w2 ⟨rfl, hr⟩; have hd := hr.born 2 s; clear hr; obtain ⟨⟨c0, c1, c2, c3, c4, c5, c6, c7, c8, c9, c10, c11⟩, ⟨f0, f1, f2, f3, f4, f5, f6, f7, f8, f9, f10, f11⟩⟩ := fr_all hd.hf; have H := Lib.hid hd; clear hd)
      | (go_at_call 47; (with_reducible refine (di_flag HE3.out H.out).mono ?_); rintro E1 w2 ⟨rfl, hd⟩; clear c0 c1 c2 c3 c4 c5 c6 c7 c8 c9 c10 c11 f0 f1 f2 f3 f4 f5 f6 f7 f8 f9 f10 f11; obtain ⟨⟨c0, c1, c2, c3, c4, c5, c6, c7, c8, c9, c10, c11⟩, ⟨f0, f1, f2, f3, f4, f5, f6, f7, f8, f9, f10, f11⟩⟩ := fr_all hd.hf; have H := Lib.hid hd; clear hd)
      | (go_at_call 46; (with_reducible refine (di_un HE4.out H.out).mono ?_); rintro E1 w2 ⟨rfl, hd⟩; clear c0 c1 c2 c3 c4 c5 c6 c7 c8 c9 c10 c11 f0 f1 f2 f3 f4 f5 f6 f7 f8 f9 f10 f11; obtain ⟨⟨c0, c1, c2, c3, c4, c5, c6, c7, c8, c9, c10, c11⟩, ⟨f0, f1, f2, f3, f4, f5, f6, f7, f8, f9, f10, f11⟩⟩ := fr_all hd.hf; have H := Lib.hid hd; clear hd)
      | (go_at_call 46; (with_reducible refine (di_un HE5.out (H.out.st2 _)).mono ?_); rintro E1 w2 ⟨rfl, hd⟩; clear c0 c1 c2 c3 c4 c5 c6 c7 c8 c9 c10 c11 f0 f1 f2 f3 f4 f5 f6 f7 f8 f9 f10 f11; obtain ⟨⟨c0, c1, c2, c3, c4, c5, c6, c7, c8, c9, c10, c11⟩, ⟨f0, f1, f2, f3, f4, f5, f6, f7, f8, f9, f10, f11⟩⟩ := fr_all hd.hf; have H := Lib.hid hd; clear hd)
      | (go_at_call 46; (with_reducible refine (di_un HE6.out (H.out.st3 _)).mono ?_); rintro E1 w2 ⟨rfl, hd⟩; clear c0 c1 c2 c3 c4 c5 c6 c7 c8 c9 c10 c11 f0 f1 f2 f3 f4 f5 f6 f7 f8 f9 f10 f11; obtain ⟨⟨c0, c1, c2, c3, c4, c5, c6, c7, c8, c9, c10, c11⟩, ⟨f0, f1, f2, f3, f4, f5, f6, f7, f8, f9, f10, f11⟩⟩ := fr_all hd.hf; have H := Lib.hid hd; clear hd)
      | (go_at_call 48; (with_reducible refine (di_sig HE7.out (H.out.st4 _)).mono ?_); rintro E1 w2 ⟨rfl, hd⟩; clear c0 c1 c2 c3 c4 c5 c6 c7 c8 c9 c10 c11 f0 f1 f2 f3 f4 f5 f6 f7 f8 f9 f10 f11; obtain ⟨⟨c0, c1, c2, c3, c4, c5, c6, c7, c8, c9, c10, c11⟩, ⟨f0, f1, f2, f3, f4, f5, f6, f7, f8, f9, f10, f11⟩⟩ := fr_all hd.hf; have H := Lib.hid hd; clear hd)
      | (go_at_call 50; (with_reducible refine (di_close HC.out (H.out.st7 _)).mono ?_); rintro E1 w2 ⟨rfl, hd⟩; clear c0 c1 c2 c3 c4 c5 c6 c7 c8 c9 c10 c11 f0 f1 f2 f3 f4 f5 f6 f7 f8 f9 f10 f11; obtain ⟨⟨z0, z1, z2, z3, z4, z5, z6, z7, z8, z9, z10, z11⟩, ⟨g0, g1, g2, g3, g4, g5, g6, g7, g8, g9, g10, g11⟩⟩ := HZ.out _ hd.hs; have HW := Lib.hid hd.hs; obtain ⟨⟨c0, c1, c2, c3, c4, c5, c6, c7, c8, c9, c10, c11⟩, ⟨f0, f1, f2, f3, f4, f5, f6, f7, f8, f9, f10, f11⟩⟩ := fr_all hd.hf; have H := Lib.hid hd; clear hd)
      | (go_at_call 19; (with_reducible refine (K3.out _).mono ?_); rintro E1 w3 ⟨rfl, hw⟩; clear c0 c1 c2 c3 c4 c5 c6 c7 c8 c9 c10 c11 f0 f1 f2 f3 f4 f5 f6 f7 f8 f9 f10 f11; clear z0 z1 z2 z3 z4 z5 z6 z7 z8 z9 z10 z11 g0 g1 g2 g3 g4 g5 g6 g7 g8 g9 g10 g11; have hv := H.out.hs.trans hw; obtain ⟨⟨z0, z1, z2, z3, z4, z5, z6, z7, z8, z9, z10, z11⟩, ⟨g0, g1, g2, g3, g4, g5, g6, g7, g8, g9, g10, g11⟩⟩ := HZ.out _ hv; obtain ⟨⟨c0, c1, c2, c3, c4, c5, c6, c7, c8, c9, c10, c11⟩, ⟨f0, f1, f2, f3, f4, f5, f6, f7, f8, f9, f10, f11⟩⟩ := fr_all (hw.at H.out.hf); have HW := Lib.hid hv; clear hw hv))
  all_goals first
    | exact bodyPost_ret (v := .tuple #[frV fr0, .int .i64 10]) (by simp [results, Try.results21, go_sem, z0, z1, z2, z3, z4, z5, z6, z7, z8, z9, z10, z11]) rfl ⟨rfl, by first | exact done12 (HS.out.trans HW.out) (Nat.le_refl _) _ _ _ _ _ _ _ _ _ _ _ _ | exact HS.out.trans HW.out⟩
    | exact bodyPost_ret (v := .tuple #[frV ⟨2, s, t, l, q, 0, 0, e, 0, 0, 0, ⟨#[]⟩⟩, .int .i64 0]) (by simp [results, Try.results21, go_sem, z0, z1, z2, z3, z4, z5, z6, z7, z8, z9, z10, z11]) rfl ⟨rfl, by first | exact done12 (HS.out.trans HW.out) (Nat.le_refl _) _ _ _ _ _ _ _ _ _ _ _ _ | exact HS.out.trans HW.out⟩
set_option maxRecDepth 100000 in
set_option maxHeartbeats 6400000 in
theorem decode2_k2n (data : ByteArray) (h : decide ((127 : Int) < (data.size : Int)) = false) (S : ByteArray) (hS : S.size ≤ 300) (k1 : ∀ w1, Calls Try.prog 44 #[.string data] w1 fun e w' => e = .returned (.tuple #[.string S, .int .i64 0]) ∧ Same w1 w') (s1 s2 s3 s4 s5 s6 : Nat × Int) (s l q e : Int) (e1 : Rc.rU S 3 0 (0, 0) = (s1, 2)) (e2 : Rc.rU S 5 0 s1 = (s2, s)) (e3 : Bit.rflag S s2 = (s3, false)) (e4 : Rc.rU S 8 0 s3 = (s4, l)) (e5 : Rc.rU S 8 0 s4 = (s5, q)) (e6 : Rc.rS S 16 0 s5 = (s6, e)) (E : Int) (hE : Bit.rclose S s6 = E) (c : Int) (hc : chk ⟨2, s, (-1), l, q, 0, 0, e, 0, 0, 0, ⟨#[]⟩⟩ = c)
    (R : Fr × Int) (hx : ((E != 0) = true ∧ R = (fr0, 10)) ∨ (E = 0 ∧ c = 1 ∧ R = (fr0, 10)) ∨ (E = 0 ∧ c = 0 ∧ R = (⟨2, s, (-1), l, q, 0, 0, e, 0, 0, 0, ⟨#[]⟩⟩, 0))) (w : World) : Calls Try.prog 21 #[.string data] w fun e w' => e = .returned (.tuple #[frV R.1, .int .i64 R.2]) ∧ Same w w' := by
  have k3 := fun w1 => check2_any ⟨2, s, (-1), l, q, 0, 0, e, 0, 0, 0, ⟨#[]⟩⟩ w1
  rw [hc] at k3
  have K1 := Lib.hid k1; have K3 := Lib.hid k3; have HSZ := Lib.hid hS; have HC := Lib.hid hE
  have HE1 := Lib.hid e1
  have HE2 := Lib.hid e2
  have HE3 := Lib.hid e3
  have HE4 := Lib.hid e4
  have HE5 := Lib.hid e5
  have HE6 := Lib.hid e6
  clear k1 k3 hS hE hc e1 e2 e3 e4 e5 e6
  have HS := Lib.hid ((Same.refl w).alloc (.cells (frC fr0) 23))
  have HZ := Lib.hid (fun (w1 : World) (h : Same (w.alloc (.cells (frC fr0) 23)) w1) => z_cells (h.at (heap_alloc_new w _)))
  rcases hx with ⟨hE, rfl⟩ | ⟨rfl, rfl, rfl⟩ | ⟨rfl, rfl, rfl⟩
  all_goals
    go_enter Try.func21, Try.ntmps21
    go_wp2_with (first
      | (go_at_call 44; (with_reducible refine (K1.out _).mono ?_); rintro E1 w1 ⟨rfl, hw⟩; have HX := Lib.hid hw; clear hw)
      | (go_at_call 45; (with_reducible refine (rd_new HX.out HSZ.out).mono ?_); rintro E1 w2 ⟨rfl, hd⟩; have HR := Lib.hid hd; clear hd)
      | (go_at_call 46; (with_reducible refine (rd_un HE1.out HR.out).mono ?_); rintro E1 w2 ⟨rfl, hd⟩; have HR := Lib.hid hd; clear hd)
      | (go_at_call 46; (with_reducible refine (rd_un HE2.out HR.out).mono ?_); rintro E1 w2 ⟨rfl, hr⟩; have hd := hr.born 2 s; clear hr; obtain ⟨⟨c0, c1, c2, c3, c4, c5, c6, c7, c8, c9, c10, c11⟩, ⟨f0, f1, f2, f3, f4, f5, f6, f7, f8, f9, f10, f11⟩⟩ := fr_all hd.hf; have H := Lib.hid hd; clear hd)
      | (go_at_call 47; (with_reducible refine (di_flag HE3.out H.out).mono ?_); rintro E1 w2 ⟨rfl, hd⟩; clear c0 c1 c2 c3 c4 c5 c6 c7 c8 c9 c10 c11 f0 f1 f2 f3 f4 f5 f6 f7 f8 f9 f10 f11; obtain ⟨⟨c0, c1, c2, c3, c4, c5, c6, c7, c8, c9, c10, c11⟩, ⟨f0, f1, f2, f3, f4, f5, f6, f7, f8, f9, f10, f11⟩⟩ := fr_all hd.hf; have H := Lib.hid hd; clear hd)
      | (go_at_call 46; (with_reducible refine (di_un HE4.out H.out).mono ?_); rintro E1 w2 ⟨rfl, hd⟩; clear c0 c1 c2 c3 c4 c5 c6 c7 c8 c9 c10 c11 f0 f1 f2 f3 f4 f5 f6 f7 f8 f9 f10 f11; obtain ⟨⟨c0, c1, c2, c3, c4, c5, c6, c7, c8, c9, c10, c11⟩, ⟨f0, f1, f2, f3, f4, f5, f6, f7, f8, f9, f10, f11⟩⟩ := fr_all hd.hf; have H := Lib.hid hd; clear hd)
      | (go_at_call 46; (with_reducible refine (di_un HE5.out (H.out.st3 _)).mono ?_); rintro E1 w2 ⟨rfl, hd⟩; clear c0 c1 c2 c3 c4 c5 c6 c7 c8 c9 c10 c11 f0 f1 f2 f3 f4 f5 f6 f7 f8 f9 f10 f11; obtain ⟨⟨c0, c1, c2, c3, c4, c5, c6, c7, c8, c9, c10, c11⟩, ⟨f0, f1, f2, f3, f4, f5, f6, f7, f8, f9, f10, f11⟩⟩ := fr_all hd.hf; have H := Lib.hid hd; clear hd)
      | (go_at_call 48; (with_reducible refine (di_sig HE6.out (H.out.st4 _)).mono ?_); rintro E1 w2 ⟨rfl, hd⟩; clear c0 c1 c2 c3 c4 c5 c6 c7 c8 c9 c10 c11 f0 f1 f2 f3 f4 f5 f6 f7 f8 f9 f10 f11; obtain ⟨⟨c0, c1, c2, c3, c4, c5, c6, c7, c8, c9, c10, c11⟩, ⟨f0, f1, f2, f3, f4, f5, f6, f7, f8, f9, f10, f11⟩⟩ := fr_all hd.hf; have H := Lib.hid hd; clear hd)
      | (go_at_call 50; (with_reducible refine (di_close HC.out (H.out.st7 _)).mono ?_); rintro E1 w2 ⟨rfl, hd⟩; clear c0 c1 c2 c3 c4 c5 c6 c7 c8 c9 c10 c11 f0 f1 f2 f3 f4 f5 f6 f7 f8 f9 f10 f11; obtain ⟨⟨z0, z1, z2, z3, z4, z5, z6, z7, z8, z9, z10, z11⟩, ⟨g0, g1, g2, g3, g4, g5, g6, g7, g8, g9, g10, g11⟩⟩ := HZ.out _ hd.hs; have HW := Lib.hid hd.hs; obtain ⟨⟨c0, c1, c2, c3, c4, c5, c6, c7, c8, c9, c10, c11⟩, ⟨f0, f1, f2, f3, f4, f5, f6, f7, f8, f9, f10, f11⟩⟩ := fr_all hd.hf; have H := Lib.hid hd; clear hd)
      | (go_at_call 19; (with_reducible refine (K3.out _).mono ?_); rintro E1 w3 ⟨rfl, hw⟩; clear c0 c1 c2 c3 c4 c5 c6 c7 c8 c9 c10 c11 f0 f1 f2 f3 f4 f5 f6 f7 f8 f9 f10 f11; clear z0 z1 z2 z3 z4 z5 z6 z7 z8 z9 z10 z11 g0 g1 g2 g3 g4 g5 g6 g7 g8 g9 g10 g11; have hv := H.out.hs.trans hw; obtain ⟨⟨z0, z1, z2, z3, z4, z5, z6, z7, z8, z9, z10, z11⟩, ⟨g0, g1, g2, g3, g4, g5, g6, g7, g8, g9, g10, g11⟩⟩ := HZ.out _ hv; obtain ⟨⟨c0, c1, c2, c3, c4, c5, c6, c7, c8, c9, c10, c11⟩, ⟨f0, f1, f2, f3, f4, f5, f6, f7, f8, f9, f10, f11⟩⟩ := fr_all (hw.at H.out.hf); have HW := Lib.hid hv; clear hw hv))
  all_goals first
    | exact bodyPost_ret (v := .tuple #[frV fr0, .int .i64 10]) (by simp [results, Try.results21, go_sem, z0, z1, z2, z3, z4, z5, z6, z7, z8, z9, z10, z11]) rfl ⟨rfl, by first | exact done12 (HS.out.trans HW.out) (Nat.le_refl _) _ _ _ _ _ _ _ _ _ _ _ _ | exact HS.out.trans HW.out⟩
    | exact bodyPost_ret (v := .tuple #[frV ⟨2, s, (-1), l, q, 0, 0, e, 0, 0, 0, ⟨#[]⟩⟩, .int .i64 0]) (by simp [results, Try.results21, go_sem, z0, z1, z2, z3, z4, z5, z6, z7, z8, z9, z10, z11]) rfl ⟨rfl, by first | exact done12 (HS.out.trans HW.out) (Nat.le_refl _) _ _ _ _ _ _ _ _ _ _ _ _ | exact HS.out.trans HW.out⟩
set_option maxRecDepth 100000 in
set_option maxHeartbeats 6400000 in
theorem decode2_k4t (data : ByteArray) (h : decide ((127 : Int) < (data.size : Int)) = false) (S : ByteArray) (hS : S.size ≤ 300) (k1 : ∀ w1, Calls Try.prog 44 #[.string data] w1 fun e w' => e = .returned (.tuple #[.string S, .int .i64 0]) ∧ Same w1 w') (s1 s2 s3 s4 s5 s6 s7 : Nat × Int) (s l q t : Int) (d : ByteArray) (e1 : Rc.rU S 3 0 (0, 0) = (s1, 4)) (e2 : Rc.rU S 5 0 s1 = (s2, s)) (e3 : Bit.rflag S s2 = (s3, true)) (e4 : Rc.rU S 5 0 s3 = (s4, t)) (e5 : Rc.rU S 8 0 s4 = (s5, l)) (e6 : Rc.rU S 8 0 s5 = (s6, q)) (e7 : Rc.rT S 127 ⟨#[]⟩ s6 = (s7, d)) (E : Int) (hE : Bit.rclose S s7 = E) (c : Int) (hc : chk ⟨4, s, t, l, q, 0, 0, 0, 0, 0, 0, d⟩ = c)
    (R : Fr × Int) (hx : ((E != 0) = true ∧ R = (fr0, 10)) ∨ (E = 0 ∧ c = 1 ∧ R = (fr0, 10)) ∨ (E = 0 ∧ c = 0 ∧ R = (⟨4, s, t, l, q, 0, 0, 0, 0, 0, 0, d⟩, 0))) (w : World) : Calls Try.prog 21 #[.string data] w fun e w' => e = .returned (.tuple #[frV R.1, .int .i64 R.2]) ∧ Same w w' := by
  have k3 := fun w1 => check2_any ⟨4, s, t, l, q, 0, 0, 0, 0, 0, 0, d⟩ w1
  rw [hc] at k3
  have K1 := Lib.hid k1; have K3 := Lib.hid k3; have HSZ := Lib.hid hS; have HC := Lib.hid hE
  have HE1 := Lib.hid e1
  have HE2 := Lib.hid e2
  have HE3 := Lib.hid e3
  have HE4 := Lib.hid e4
  have HE5 := Lib.hid e5
  have HE6 := Lib.hid e6
  have HE7 := Lib.hid e7
  clear k1 k3 hS hE hc e1 e2 e3 e4 e5 e6 e7
  have HS := Lib.hid ((Same.refl w).alloc (.cells (frC fr0) 23))
  have HZ := Lib.hid (fun (w1 : World) (h : Same (w.alloc (.cells (frC fr0) 23)) w1) => z_cells (h.at (heap_alloc_new w _)))
  rcases hx with ⟨hE, rfl⟩ | ⟨rfl, rfl, rfl⟩ | ⟨rfl, rfl, rfl⟩
  all_goals
    go_enter Try.func21, Try.ntmps21
    go_wp2_with (first
      | (go_at_call 44; (with_reducible refine (K1.out _).mono ?_); rintro E1 w1 ⟨rfl, hw⟩; have HX := Lib.hid hw; clear hw)
      | (go_at_call 45; (with_reducible refine (rd_new HX.out HSZ.out).mono ?_); rintro E1 w2 ⟨rfl, hd⟩; have HR := Lib.hid hd; clear hd)
      | (go_at_call 46; (with_reducible refine (rd_un HE1.out HR.out).mono ?_); rintro E1 w2 ⟨rfl, hd⟩; have HR := Lib.hid hd; clear hd)
      | (go_at_call 46; (with_reducible refine (rd_un HE2.out HR.out).mono ?_); rintro E1 w2 ⟨rfl, hr⟩; have hd := hr.born 4 s; clear hr; obtain ⟨⟨c0, c1, c2, c3, c4, c5, c6, c7, c8, c9, c10, c11⟩, ⟨f0, f1, f2, f3, f4, f5, f6, f7, f8, f9, f10, f11⟩⟩ := fr_all hd.hf; have H := Lib.hid hd; clear hd)
      | (go_at_call 47; (with_reducible refine (di_flag HE3.out H.out).mono ?_); rintro E1 w2 ⟨rfl, hd⟩; clear c0 c1 c2 c3 c4 c5 c6 c7 c8 c9 c10 c11 f0 f1 f2 f3 f4 f5 f6 f7 f8 f9 f10 f11; obtain ⟨⟨c0, c1, c2, c3, c4, c5, c6, c7, c8, c9, c10, c11⟩, ⟨f0, f1, f2, f3, f4, f5, f6, f7, f8, f9, f10, f11⟩⟩ := fr_all hd.hf; have H := Lib.hid hd; clear hd)
      | (go_at_call 46; (with_reducible refine (di_un HE4.out H.out).mono ?_); rintro E1 w2 ⟨rfl, hd⟩; clear c0 c1 c2 c3 c4 c5 c6 c7 c8 c9 c10 c11 f0 f1 f2 f3 f4 f5 f6 f7 f8 f9 f10 f11; obtain ⟨⟨c0, c1, c2, c3, c4, c5, c6, c7, c8, c9, c10, c11⟩, ⟨f0, f1, f2, f3, f4, f5, f6, f7, f8, f9, f10, f11⟩⟩ := fr_all hd.hf; have H := Lib.hid hd; clear hd)
      | (go_at_call 46; (with_reducible refine (di_un HE5.out (H.out.st2 _)).mono ?_); rintro E1 w2 ⟨rfl, hd⟩; clear c0 c1 c2 c3 c4 c5 c6 c7 c8 c9 c10 c11 f0 f1 f2 f3 f4 f5 f6 f7 f8 f9 f10 f11; obtain ⟨⟨c0, c1, c2, c3, c4, c5, c6, c7, c8, c9, c10, c11⟩, ⟨f0, f1, f2, f3, f4, f5, f6, f7, f8, f9, f10, f11⟩⟩ := fr_all hd.hf; have H := Lib.hid hd; clear hd)
      | (go_at_call 46; (with_reducible refine (di_un HE6.out (H.out.st3 _)).mono ?_); rintro E1 w2 ⟨rfl, hd⟩; clear c0 c1 c2 c3 c4 c5 c6 c7 c8 c9 c10 c11 f0 f1 f2 f3 f4 f5 f6 f7 f8 f9 f10 f11; obtain ⟨⟨c0, c1, c2, c3, c4, c5, c6, c7, c8, c9, c10, c11⟩, ⟨f0, f1, f2, f3, f4, f5, f6, f7, f8, f9, f10, f11⟩⟩ := fr_all hd.hf; have H := Lib.hid hd; clear hd)
      | (go_at_call 49; (with_reducible refine (di_text HE7.out (H.out.st4 _)).mono ?_); rintro E1 w2 ⟨rfl, hd⟩; clear c0 c1 c2 c3 c4 c5 c6 c7 c8 c9 c10 c11 f0 f1 f2 f3 f4 f5 f6 f7 f8 f9 f10 f11; obtain ⟨⟨c0, c1, c2, c3, c4, c5, c6, c7, c8, c9, c10, c11⟩, ⟨f0, f1, f2, f3, f4, f5, f6, f7, f8, f9, f10, f11⟩⟩ := fr_all hd.hf; have H := Lib.hid hd; clear hd)
      | (go_at_call 50; (with_reducible refine (di_close HC.out (H.out.st11 _)).mono ?_); rintro E1 w2 ⟨rfl, hd⟩; clear c0 c1 c2 c3 c4 c5 c6 c7 c8 c9 c10 c11 f0 f1 f2 f3 f4 f5 f6 f7 f8 f9 f10 f11; obtain ⟨⟨z0, z1, z2, z3, z4, z5, z6, z7, z8, z9, z10, z11⟩, ⟨g0, g1, g2, g3, g4, g5, g6, g7, g8, g9, g10, g11⟩⟩ := HZ.out _ hd.hs; have HW := Lib.hid hd.hs; obtain ⟨⟨c0, c1, c2, c3, c4, c5, c6, c7, c8, c9, c10, c11⟩, ⟨f0, f1, f2, f3, f4, f5, f6, f7, f8, f9, f10, f11⟩⟩ := fr_all hd.hf; have H := Lib.hid hd; clear hd)
      | (go_at_call 19; (with_reducible refine (K3.out _).mono ?_); rintro E1 w3 ⟨rfl, hw⟩; clear c0 c1 c2 c3 c4 c5 c6 c7 c8 c9 c10 c11 f0 f1 f2 f3 f4 f5 f6 f7 f8 f9 f10 f11; clear z0 z1 z2 z3 z4 z5 z6 z7 z8 z9 z10 z11 g0 g1 g2 g3 g4 g5 g6 g7 g8 g9 g10 g11; have hv := H.out.hs.trans hw; obtain ⟨⟨z0, z1, z2, z3, z4, z5, z6, z7, z8, z9, z10, z11⟩, ⟨g0, g1, g2, g3, g4, g5, g6, g7, g8, g9, g10, g11⟩⟩ := HZ.out _ hv; obtain ⟨⟨c0, c1, c2, c3, c4, c5, c6, c7, c8, c9, c10, c11⟩, ⟨f0, f1, f2, f3, f4, f5, f6, f7, f8, f9, f10, f11⟩⟩ := fr_all (hw.at H.out.hf); have HW := Lib.hid hv; clear hw hv))
  all_goals first
    | exact bodyPost_ret (v := .tuple #[frV fr0, .int .i64 10]) (by simp [results, Try.results21, go_sem, z0, z1, z2, z3, z4, z5, z6, z7, z8, z9, z10, z11]) rfl ⟨rfl, by first | exact done12 (HS.out.trans HW.out) (Nat.le_refl _) _ _ _ _ _ _ _ _ _ _ _ _ | exact HS.out.trans HW.out⟩
    | exact bodyPost_ret (v := .tuple #[frV ⟨4, s, t, l, q, 0, 0, 0, 0, 0, 0, d⟩, .int .i64 0]) (by simp [results, Try.results21, go_sem, z0, z1, z2, z3, z4, z5, z6, z7, z8, z9, z10, z11]) rfl ⟨rfl, by first | exact done12 (HS.out.trans HW.out) (Nat.le_refl _) _ _ _ _ _ _ _ _ _ _ _ _ | exact HS.out.trans HW.out⟩
end Go.Proofs.Ytilpbbpdchbdfaa
