/- FrameEncodes: for every frame the law returns true: what is sent, its time and its room are what the reference says. No condition on the input. -/
import Derived.Test.YtilpbbpdchbdfaaFE3
import Derived.Test.YtilpbbpdchbdfaaFAw
import Derived.Test.YtilpbbpdchbdfaaFArg
namespace Go.Proofs.Ytilpbbpdchbdfaa
open Go.RowKit

namespace frameEncodes
theorem keepS {b : Nat} {f : Fr} {x0 w1 w2 : World} (h : x0.heap[b]? = some (.cells (frC f) 23 (0, 0))) (h1 : w1.cell? ⟨b, 0, none⟩ = some (.int .i64 f.k) ∧ w1.cell? ⟨b, 1, none⟩ = some (.int .i64 f.s) ∧ w1.cell? ⟨b, 2, none⟩ = some (.int .i64 f.t) ∧ w1.cell? ⟨b, 3, none⟩ = some (.int .i64 f.l) ∧ w1.cell? ⟨b, 4, none⟩ = some (.int .i64 f.q) ∧ w1.cell? ⟨b, 5, none⟩ = some (.int .i64 f.fl) ∧ w1.cell? ⟨b, 6, none⟩ = some (.int .i64 f.n) ∧ w1.cell? ⟨b, 7, none⟩ = some (.int .i64 f.e) ∧ w1.cell? ⟨b, 8, none⟩ = some (.int .i64 f.sl) ∧ w1.cell? ⟨b, 9, none⟩ = some (.int .i64 f.r) ∧ w1.cell? ⟨b, 10, none⟩ = some (.int .i64 f.ep) ∧ w1.cell? ⟨b, 11, none⟩ = some (.string f.d) ∧ Same x0 w1) (k : Same w1 w2) : w2.cell? ⟨b, 0, none⟩ = some (.int .i64 f.k) ∧ w2.cell? ⟨b, 1, none⟩ = some (.int .i64 f.s) ∧ w2.cell? ⟨b, 2, none⟩ = some (.int .i64 f.t) ∧ w2.cell? ⟨b, 3, none⟩ = some (.int .i64 f.l) ∧ w2.cell? ⟨b, 4, none⟩ = some (.int .i64 f.q) ∧ w2.cell? ⟨b, 5, none⟩ = some (.int .i64 f.fl) ∧ w2.cell? ⟨b, 6, none⟩ = some (.int .i64 f.n) ∧ w2.cell? ⟨b, 7, none⟩ = some (.int .i64 f.e) ∧ w2.cell? ⟨b, 8, none⟩ = some (.int .i64 f.sl) ∧ w2.cell? ⟨b, 9, none⟩ = some (.int .i64 f.r) ∧ w2.cell? ⟨b, 10, none⟩ = some (.int .i64 f.ep) ∧ w2.cell? ⟨b, 11, none⟩ = some (.string f.d) ∧ Same x0 w2 := by
  obtain ⟨_, _, _, _, _, _, _, _, _, _, _, _, hs⟩ := h1
  obtain ⟨c0, c1, c2, c3, c4, c5, c6, c7, c8, c9, c10, c11⟩ := fr_cells ((hs.trans k).at h)
  exact ⟨c0, c1, c2, c3, c4, c5, c6, c7, c8, c9, c10, c11, hs.trans k⟩
theorem startS {b : Nat} {f : Fr} {x0 : World} (h : x0.heap[b]? = some (.cells (frC f) 23 (0, 0))) : x0.drew.cell? ⟨b, 0, none⟩ = some (.int .i64 f.k) ∧ x0.drew.cell? ⟨b, 1, none⟩ = some (.int .i64 f.s) ∧ x0.drew.cell? ⟨b, 2, none⟩ = some (.int .i64 f.t) ∧ x0.drew.cell? ⟨b, 3, none⟩ = some (.int .i64 f.l) ∧ x0.drew.cell? ⟨b, 4, none⟩ = some (.int .i64 f.q) ∧ x0.drew.cell? ⟨b, 5, none⟩ = some (.int .i64 f.fl) ∧ x0.drew.cell? ⟨b, 6, none⟩ = some (.int .i64 f.n) ∧ x0.drew.cell? ⟨b, 7, none⟩ = some (.int .i64 f.e) ∧ x0.drew.cell? ⟨b, 8, none⟩ = some (.int .i64 f.sl) ∧ x0.drew.cell? ⟨b, 9, none⟩ = some (.int .i64 f.r) ∧ x0.drew.cell? ⟨b, 10, none⟩ = some (.int .i64 f.ep) ∧ x0.drew.cell? ⟨b, 11, none⟩ = some (.string f.d) ∧ Same x0 x0.drew := by
  obtain ⟨c0, c1, c2, c3, c4, c5, c6, c7, c8, c9, c10, c11⟩ := fr_cells (((Same.refl x0).drew).at h)
  exact ⟨c0, c1, c2, c3, c4, c5, c6, c7, c8, c9, c10, c11, (Same.refl x0).drew⟩
set_option maxRecDepth 100000 in
theorem long (f : Fr) (h : decide ((300 : Int) < (f.d.size : Int)) = true) (w : World) :
    Calls Try.prog 3 #[frV f] w fun e w' => e = .returned (.bool true) ∧ Same w w' := by
  have HS := Lib.hid ((Same.refl w).alloc (.cells (frC f) 23))
  have HB := Lib.hid (fun (w1 : World) (h : Same (w.alloc (.cells (frC f) 23)) w1) => fr_cells (h.at (heap_alloc_new w _)))
  go_enter Try.func3, Try.ntmps3
  go_wp2_with (go_at_call 11; (with_reducible refine (awake_any _).mono ?_); rintro E1 w1 ⟨rfl, hw⟩; obtain ⟨c0, c1, c2, c3, c4, c5, c6, c7, c8, c9, c10, c11⟩ := HB.out _ hw; have HX := Lib.hid hw; clear hw)
  go_ret
  exact ⟨rfl, HS.out.trans HX.out⟩
set_option maxRecDepth 100000 in
set_option maxHeartbeats 3200000 in
theorem main (f : Fr) (hd : f.d.size ≤ 9223372036854775807) (h : decide ((300 : Int) < (f.d.size : Int)) = false) (w : World) :
    Calls Try.prog 3 #[frV f] w fun e w' => e = .returned (.bool true) ∧ Same w w' := by
  have k1 := fun w1 => encode_any f hd w1
  have k2 := fun w1 => encode2_any f w1
  have k3 := fun w1 => time_any f hd w1
  have k4 := fun w1 => time2_any f w1
  have k5 := fun w1 => room_any f hd w1
  have k6 := fun w1 => room2_any f w1
  have k7 := fun w1 => check_any f w1
  have k8 := fun w1 => check2_any f w1
  generalize encR f = R at *
  generalize timR f = T at *
  generalize romR f = M at *
  generalize chk f = c at *
  obtain ⟨S, E⟩ := R
  obtain ⟨t, E2⟩ := T
  obtain ⟨m, E3⟩ := M
  dsimp only at k1 k2 k3 k4 k5 k6 k7 k8
  have b0 : (S.toList == S.toList) = true := by simp
  have b1 : (E == E) = true := by simp
  have b2 : (E2 == E2) = true := by simp
  have b3 : (E3 == E3) = true := by simp
  have b4 : (c == c) = true := by simp
  have b5 : (t == t) = true := by simp
  have b6 : (m == m) = true := by simp
  have K1 := Lib.hid k1; have K2 := Lib.hid k2; have K3 := Lib.hid k3; have K4 := Lib.hid k4
  have K5 := Lib.hid k5; have K6 := Lib.hid k6; have K7 := Lib.hid k7; have K8 := Lib.hid k8
  clear k1 k2 k3 k4 k5 k6 k7 k8 hd
  have HS := Lib.hid ((Same.refl w).alloc (.cells (frC f) 23))
  have HB := Lib.hid (fun (w1 : World) (h : Same (w.alloc (.cells (frC f) 23)) w1) => fr_cells (h.at (heap_alloc_new w _)))
  go_enter Try.func3, Try.ntmps3
  go_wp2_with (first
    | (go_at_call 11; (with_reducible refine (awake_any _).mono ?_); rintro E1 w2 ⟨rfl, hw⟩; obtain ⟨c0, c1, c2, c3, c4, c5, c6, c7, c8, c9, c10, c11⟩ := HB.out _ hw; have HX := Lib.hid hw; clear hw)
    | (go_at_call 12; (with_reducible refine (K1.out _).mono ?_); rintro E1 w2 ⟨rfl, hw⟩; have hw0 := HX.out.trans hw; clear hw c0 c1 c2 c3 c4 c5 c6 c7 c8 c9 c10 c11; obtain ⟨c0, c1, c2, c3, c4, c5, c6, c7, c8, c9, c10, c11⟩ := HB.out _ hw0; have HX := Lib.hid hw0; clear hw0)
    | (go_at_call 13; (with_reducible refine (K2.out _).mono ?_); rintro E1 w2 ⟨rfl, hw⟩; have hw0 := HX.out.trans hw; clear hw c0 c1 c2 c3 c4 c5 c6 c7 c8 c9 c10 c11; obtain ⟨c0, c1, c2, c3, c4, c5, c6, c7, c8, c9, c10, c11⟩ := HB.out _ hw0; have HX := Lib.hid hw0; clear hw0)
    | (go_at_call 14; (with_reducible refine (K3.out _).mono ?_); rintro E1 w2 ⟨rfl, hw⟩; have hw0 := HX.out.trans hw; clear hw c0 c1 c2 c3 c4 c5 c6 c7 c8 c9 c10 c11; obtain ⟨c0, c1, c2, c3, c4, c5, c6, c7, c8, c9, c10, c11⟩ := HB.out _ hw0; have HX := Lib.hid hw0; clear hw0)
    | (go_at_call 15; (with_reducible refine (K4.out _).mono ?_); rintro E1 w2 ⟨rfl, hw⟩; have hw0 := HX.out.trans hw; clear hw c0 c1 c2 c3 c4 c5 c6 c7 c8 c9 c10 c11; obtain ⟨c0, c1, c2, c3, c4, c5, c6, c7, c8, c9, c10, c11⟩ := HB.out _ hw0; have HX := Lib.hid hw0; clear hw0)
    | (go_at_call 16; (with_reducible refine (K5.out _).mono ?_); rintro E1 w2 ⟨rfl, hw⟩; have hw0 := HX.out.trans hw; clear hw c0 c1 c2 c3 c4 c5 c6 c7 c8 c9 c10 c11; obtain ⟨c0, c1, c2, c3, c4, c5, c6, c7, c8, c9, c10, c11⟩ := HB.out _ hw0; have HX := Lib.hid hw0; clear hw0)
    | (go_at_call 17; (with_reducible refine (K6.out _).mono ?_); rintro E1 w2 ⟨rfl, hw⟩; have hw0 := HX.out.trans hw; clear hw c0 c1 c2 c3 c4 c5 c6 c7 c8 c9 c10 c11; obtain ⟨c0, c1, c2, c3, c4, c5, c6, c7, c8, c9, c10, c11⟩ := HB.out _ hw0; have HX := Lib.hid hw0; clear hw0))
  have hb0 := HX.out.at (heap_alloc_new w _)
  have hfin := HS.out.trans HX.out
  have hd0 := startS hb0
  generalize w.heap.size = b at *
  have HF := Lib.hid hfin
  have HC := Lib.hid (fun (v1 v2 : World) (h1 : v1.cell? ⟨b, 0, none⟩ = some (.int .i64 f.k) ∧ v1.cell? ⟨b, 1, none⟩ = some (.int .i64 f.s) ∧ v1.cell? ⟨b, 2, none⟩ = some (.int .i64 f.t) ∧ v1.cell? ⟨b, 3, none⟩ = some (.int .i64 f.l) ∧ v1.cell? ⟨b, 4, none⟩ = some (.int .i64 f.q) ∧ v1.cell? ⟨b, 5, none⟩ = some (.int .i64 f.fl) ∧ v1.cell? ⟨b, 6, none⟩ = some (.int .i64 f.n) ∧ v1.cell? ⟨b, 7, none⟩ = some (.int .i64 f.e) ∧ v1.cell? ⟨b, 8, none⟩ = some (.int .i64 f.sl) ∧ v1.cell? ⟨b, 9, none⟩ = some (.int .i64 f.r) ∧ v1.cell? ⟨b, 10, none⟩ = some (.int .i64 f.ep) ∧ v1.cell? ⟨b, 11, none⟩ = some (.string f.d) ∧ Same w2 v1) (k : Same v1 v2) => keepS hb0 h1 k)
  clear hb0 hfin HX HB HS K1 K2 K3 K4 K5 K6
  go_region_held3 (fun w' => w'.cell? ⟨b, 0, none⟩ = some (.int .i64 f.k) ∧ w'.cell? ⟨b, 1, none⟩ = some (.int .i64 f.s) ∧ w'.cell? ⟨b, 2, none⟩ = some (.int .i64 f.t) ∧ w'.cell? ⟨b, 3, none⟩ = some (.int .i64 f.l) ∧ w'.cell? ⟨b, 4, none⟩ = some (.int .i64 f.q) ∧ w'.cell? ⟨b, 5, none⟩ = some (.int .i64 f.fl) ∧ w'.cell? ⟨b, 6, none⟩ = some (.int .i64 f.n) ∧ w'.cell? ⟨b, 7, none⟩ = some (.int .i64 f.e) ∧ w'.cell? ⟨b, 8, none⟩ = some (.int .i64 f.sl) ∧ w'.cell? ⟨b, 9, none⟩ = some (.int .i64 f.r) ∧ w'.cell? ⟨b, 10, none⟩ = some (.int .i64 f.ep) ∧ w'.cell? ⟨b, 11, none⟩ = some (.string f.d) ∧ Same w2 w')
    (first | exact hd0 | exact HC.out _ _ hd0 hw3 | exact HC.out _ _ (by assumption) hw3 | assumption)
    (first
      | (go_at_call 18; (with_reducible refine (K7.out _).mono ?_); rintro E1 w3 ⟨rfl, hw3⟩)
      | (go_at_call 19; (with_reducible refine (K8.out _).mono ?_); rintro E1 w3 ⟨rfl, hw3⟩)
      | fail)
  obtain ⟨_, _, _, _, _, _, _, _, _, _, _, _, hs⟩ := (by assumption : w3.cell? ⟨b, 0, none⟩ = some (.int .i64 f.k) ∧ w3.cell? ⟨b, 1, none⟩ = some (.int .i64 f.s) ∧ w3.cell? ⟨b, 2, none⟩ = some (.int .i64 f.t) ∧ w3.cell? ⟨b, 3, none⟩ = some (.int .i64 f.l) ∧ w3.cell? ⟨b, 4, none⟩ = some (.int .i64 f.q) ∧ w3.cell? ⟨b, 5, none⟩ = some (.int .i64 f.fl) ∧ w3.cell? ⟨b, 6, none⟩ = some (.int .i64 f.n) ∧ w3.cell? ⟨b, 7, none⟩ = some (.int .i64 f.e) ∧ w3.cell? ⟨b, 8, none⟩ = some (.int .i64 f.sl) ∧ w3.cell? ⟨b, 9, none⟩ = some (.int .i64 f.r) ∧ w3.cell? ⟨b, 10, none⟩ = some (.int .i64 f.ep) ∧ w3.cell? ⟨b, 11, none⟩ = some (.string f.d) ∧ Same w2 w3)
  have HE := Lib.hid (HF.out.trans hs)
  clear hs
  go_wp2
  go_ret
  exact ⟨rfl, HE.out⟩
theorem walk (f : Fr) (hf : f.d.size ≤ 9223372036854775807) (w : World) :
    Calls Try.prog 3 #[frV f] w fun e w' => e = .returned (.bool true) ∧ Same w w' := by
  cases hu : decide ((300 : Int) < (f.d.size : Int)) with
  | true => exact long f hu w
  | false => exact main f hf hu w

open Go.ChangeShapes Go.WideShapes Go.ChangeAt
theorem own : ownKnob Try.prog.godebug = none := by kernel_rfl

set_option maxRecDepth 100000 in
theorem lifted (os : Os) (started : os.Started) (H : Type) (enc : TypeId × Value → H) :
    ReturnsInHanded {} Try.checked os 3 .any (Rows.frameEncodesSpec.pre6 enc Try.prog Try.f3 Rows.frameEncodesRow.domain false) (Rows.frameEncodesSpec.post enc Try.prog Try.f3 false true false false) := by
  refine returnsInHanded_of_change (C := Try.checked) own started (by kernel_rfl) Try.func3
    (ChangeSpec.witness6 (enc := enc) (C := Try.checked) false ⟨#[], #[.agg #[.int .i64 0, .int .i64 0, .int .i64 0, .int .i64 0, .int .i64 0, .int .i64 0, .int .i64 0, .int .i64 0, .int .i64 0, .int .i64 0, .int .i64 0, .string ⟨#[]⟩]], []⟩ 8 (by kernel_rfl) (by kernel_rfl) (by kernel_rfl) (by kernel_rfl)) ?_
  intro W base args ds gs before hval0 hW hcnd _
  have hval : ∀ (j : Nat) t v, Try.f3.params[j]? = some t → args[j]? = some v → Value.okWide Try.prog W .any base t v := hval0
  have hW' := hW
  obtain ⟨p, q, hA0, hV, rfl, hfz, hnd⟩ := hW
  have hA : DataW.TrodAll enc Try.prog W 0 (fun _ => true) true Try.f3.params.toList args.toList ds p := hA0
  rw [Try.params3] at hA hval
  obtain ⟨v0, vs0, d0, ds0, p0, q0, hargs, rfl, rfl, h0, r0⟩ := trodAll_cons hA
  obtain ⟨rfl, rfl, rfl⟩ := trodAll_nil r0
  obtain rfl : args = #[v0] := by cases args; simp_all
  obtain ⟨rfl, rfl⟩ := trodVars_none hV
  obtain ⟨f0, rfl, fz0, fe0, fl0⟩ := open_frame (hval 0 23 v0 rfl rfl) h0
  clear hA0 hval0
  try simp only [List.append_nil] at hW'
  try simp only [List.nil_append] at hW'
  have hlt : ∀ x ∈ p0, x.block < W.heap.size := fun x hx => by
    have := hW'.lt x (by simpa using hx)
    simpa using this
  refine (walk f0 fz0 W).mono fun e W' ⟨he, hg⟩ => ?_
  subst he
  exact ⟨_, rfl, _, _, _, [], _, [], hW', trodAll_cons_mk (shut_bool Try.underlying4 _) trodAll_mk0, trodAll_cons_mk (Below.trod Try.laidOut (by kernel_rfl) (of_decide_eq_true (by kernel_rfl)) h0 (Same.toBelow hg) (fun x hx => hlt x (by simp [hx]))) trodAll_mk0, rfl, (Same.toBelow hg).frame _, fun h => by cases h⟩

theorem over : Rows.frameEncodesRow.holds Try.pinned (OpenSpec.ofChange Rows.frameEncodesSpec) :=
  OpenClaim.holds_of_wide 3 Try.f3 rfl rfl rfl rfl rfl rfl rfl ⟨rfl, rfl, rfl, rfl, rfl⟩ rfl rfl rfl rfl rfl (by kernel_rfl) Try.func3 (by kernel_rfl)
    (of_decide_eq_true (by kernel_rfl)) (by unfold Func.isWrapper; first | (rw [if_pos (by decide +kernel)]; kernel_rfl) | (rw [if_neg (by decide +kernel)]; exact ⟨rfl, rfl⟩))
    (fun os started H enc _ => lifted os started H enc)

theorem proved : Rows.FrameEncodesSaid :=
  over
end frameEncodes
end Go.Proofs.Ytilpbbpdchbdfaa
