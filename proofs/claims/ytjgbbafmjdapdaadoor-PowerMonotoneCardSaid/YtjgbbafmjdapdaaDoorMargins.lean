/- PowerMargins: for all cases the law returns true: a signal is received exactly if the interference is at most its margin, and exactly if it is at least the least signal. The condition: the package's table of a decade holds what the program's text lays; the card ties it. -/
import Derived.Test.YtjgbbafmjdapdaaDoorReceives
import Derived.Test.YtjgbbafmjdapdaaDoorCapture
namespace Go.Proofs.YtjgbbafmjdapdaaDoor
open Go.RowKit

namespace powerMargins
theorem margin_iff (s t n S : Int) (hr : Rt t n) (hS : 0 ≤ S) : t * (n + S) ≤ 1000 * s ↔ S ≤ max (-1) (1000 * s / t - n) := by
  obtain ⟨⟨r1, _⟩, _⟩ := hr
  have h1 : n + S ≤ 1000 * s / t ↔ (n + S) * t ≤ 1000 * s := Int.le_ediv_iff_mul_le (by omega)
  rw [Int.mul_comm (n + S) t] at h1
  omega
theorem sum_nonneg (zs : List Int) (hp : ∀ z ∈ zs, Pw z) : 0 ≤ zs.sum := by
  have := (sum_bd zs hp zs.length (Nat.le_refl _)).1
  rwa [List.take_of_length_le (Nat.le_refl _)] at this
theorem recS_ok {s t n : Int} {zs : List Int} (h0 : (recS s t n zs).2 = 0) : Pw s ∧ Rt t n ∧ (∀ z ∈ zs, Pw z) ∧ zs.length ≤ 64 ∧ (recS s t n zs).1 = decide (t * (n + zs.sum) ≤ 1000 * s) := by
  unfold recS at h0 ⊢
  by_cases h : Pw s ∧ Rt t n
  · rw [if_pos h] at h0 ⊢
    by_cases h1 : (sumS zs).2 = 0
    · rw [if_pos h1] at h0 ⊢
      have hl : ¬ 64 < zs.length := fun hl => by unfold sumS at h1; rw [if_pos hl] at h1; simp at h1
      have hp : ∀ z ∈ zs, Pw z := Decidable.byContradiction fun hp => by unfold sumS at h1; rw [if_neg hl, if_neg hp] at h1; simp at h1
      have e : (sumS zs).1 = zs.sum := by unfold sumS; rw [if_neg hl, if_pos hp]
      exact ⟨h.1, h.2, hp, by omega, by rw [e]⟩
    · rw [if_neg h1] at h0; exact absurd h0 h1
  · rw [if_neg h] at h0; simp at h0
set_option maxHeartbeats 3200000 in
set_option maxRecDepth 100000 in
theorem fails (s t n : Int) (sl : Value) (zs : List Int) (e : Int) (w : World) (hI : Ints w sl zs) (hl : zs.length ≤ 64) (he : recS s t n zs = (false, e)) (he0 : (e == 0) = false) (ht : Tab w) :
    Calls Tryd.prog 8 #[.agg #[.int .i64 s, .int .i64 t, .int .i64 n, sl]] w fun e w' => e = .returned (.bool true) ∧ Same w w' := by
  obtain ⟨ao, cap, rfl⟩ := hI.shape
  have HAW := Lib.hid (awake_any (w.alloc (.cells #[.int .i64 s, .int .i64 t, .int .i64 n, .slice ao zs.length cap] 30)) (ht.same ((Same.refl w).alloc _)))
  have HCL := Lib.hid (fun (w1 : World) (h : Same w w1) => clone_any w1 _ zs (hI.same h) (by omega))
  have hs := fun (w1 : World) (v : Value) (h : Ints w1 v zs) => sum_any w1 v zs h
  have hr := fun (w1 : World) (v : Value) (h : Ints w1 v zs) => received_any s t n zs v w1 h
  have hl' : (zs.length : Int) ≤ 64 := by omega
  rw [he] at hr
  have HR := Lib.hid hr; clear hr hs
  have hne : (e != 0) = true := by simpa using he0
  clear he he0 ht hI
  go_enter Tryd.func8, Tryd.ntmps8
  go_wp2_with (go_at_call 11; with_reducible refine HAW.out.mono ?_; rintro e w1 ⟨rfl, h⟩; obtain ⟨k0, k1, k2, k3, hS⟩ := box4 h; clear h)
  go_region_held3 (fun w' => w'.cell? ⟨w.heap.size, 0, none⟩ = some (.int .i64 s) ∧ w'.cell? ⟨w.heap.size, 1, none⟩ = some (.int .i64 t) ∧ w'.cell? ⟨w.heap.size, 2, none⟩ = some (.int .i64 n) ∧ w'.cell? ⟨w.heap.size, 3, none⟩ = some (.slice ao zs.length cap) ∧ Same w w')
    (first | exact ⟨k0, k1, k2, k3, hS.drew⟩ | exact keep4 (by assumption) (by assumption) | assumption)
    (first
      | (go_at_call 19; refine (HCL.out _ (by first | exact hS.drew | exact (by assumption : _ ∧ _ ∧ _ ∧ _ ∧ Same w _).2.2.2.2)).mono ?_; rintro e w4 ⟨v2, rfl, hi2, hw4⟩)
      | (go_at_call 21; refine (HR.out _ _ (by assumption)).mono ?_; rintro e w5 ⟨rfl, rfl⟩))
  obtain ⟨j0, j1, j2, j3, hS5⟩ := (by assumption : World.cell? w5 ⟨w.heap.size, 0, none⟩ = some (.int .i64 s) ∧ World.cell? w5 ⟨w.heap.size, 1, none⟩ = some (.int .i64 t) ∧ World.cell? w5 ⟨w.heap.size, 2, none⟩ = some (.int .i64 n) ∧ World.cell? w5 ⟨w.heap.size, 3, none⟩ = some (.slice ao zs.length cap) ∧ Same w w5)
  have H := Lib.hid hS5
  clear hS5 k0 k1 k2 k3 hS
  have k0 := j0; have k1 := j1; have k2 := j2; have k3 := j3
  clear j0 j1 j2 j3
  go_wp2
  go_ret
  exact ⟨rfl, H.out⟩
set_option maxHeartbeats 3200000 in
set_option maxRecDepth 100000 in
theorem holds (s t n : Int) (sl : Value) (zs : List Int) (ok : Bool) (S m L : Int) (h : Int) (w : World) (hI : Ints w sl zs) (hl : zs.length ≤ 64) (he : recS s t n zs = (ok, 0)) (hsum : sumS zs = (S, 0)) (hm : marginS s t n = (m, 0)) (hL : leastS t n S = (L, h))
    (hm1 : -1 ≤ m) (hcase : (ok = true ∧ S ≤ m ∧ h = 0 ∧ L ≤ s) ∨ (ok = false ∧ m < S ∧ h = 0 ∧ s < L) ∨ (ok = false ∧ m < S ∧ h = 8)) (ht : Tab w) :
    Calls Tryd.prog 8 #[.agg #[.int .i64 s, .int .i64 t, .int .i64 n, sl]] w fun e w' => e = .returned (.bool true) ∧ Same w w' := by
  obtain ⟨ao, cap, rfl⟩ := hI.shape
  have HAW := Lib.hid (awake_any (w.alloc (.cells #[.int .i64 s, .int .i64 t, .int .i64 n, .slice ao zs.length cap] 30)) (ht.same ((Same.refl w).alloc _)))
  have HCL := Lib.hid (fun (w1 : World) (h : Same w w1) => clone_any w1 _ zs (hI.same h) (by omega))
  have hs := fun (w1 : World) (v : Value) (h : Ints w1 v zs) => sum_any w1 v zs h
  have hr := fun (w1 : World) (v : Value) (h : Ints w1 v zs) => received_any s t n zs v w1 h
  have hl' : (zs.length : Int) ≤ 64 := by omega
  rw [he] at hr
  rw [hsum] at hs
  have c1 := fun w => margin_any s t n w
  have c2 := fun w => least_any t n S w
  rw [hm] at c1
  rw [hL] at c2
  have HR := Lib.hid hr; clear hr
  have HS := Lib.hid hs; clear hs
  have HM := Lib.hid c1; clear c1
  have HL := Lib.hid c2; clear c2
  clear he hsum hm hL ht hI
  have hdn : s < L → decide (L ≤ s) = false := fun h => by simp; omega
  rcases hcase with ⟨rfl, q1, rfl, q2⟩ | ⟨rfl, q1, rfl, q2⟩ | ⟨rfl, q1, rfl⟩
  all_goals
    try have hd := hdn q2
    clear hdn
    go_enter Tryd.func8, Tryd.ntmps8
    go_wp2_with (go_at_call 11; with_reducible refine HAW.out.mono ?_; rintro e w1 ⟨rfl, h⟩; obtain ⟨k0, k1, k2, k3, hS⟩ := box4 h; clear h)
    go_region_held3 (fun w' => w'.cell? ⟨w.heap.size, 0, none⟩ = some (.int .i64 s) ∧ w'.cell? ⟨w.heap.size, 1, none⟩ = some (.int .i64 t) ∧ w'.cell? ⟨w.heap.size, 2, none⟩ = some (.int .i64 n) ∧ w'.cell? ⟨w.heap.size, 3, none⟩ = some (.slice ao zs.length cap) ∧ Same w w')
      (first | exact ⟨k0, k1, k2, k3, hS.drew⟩ | exact keep4 (by assumption) (by assumption) | assumption)
      (first
        | (go_at_call 19; refine (HCL.out _ (by first | exact hS.drew | exact (by assumption : _ ∧ _ ∧ _ ∧ _ ∧ Same w _).2.2.2.2)).mono ?_; rintro e w4 ⟨v2, rfl, hi2, hw4⟩)
        | (go_at_call 21; refine (HR.out _ _ (by assumption)).mono ?_; rintro e w5 ⟨rfl, rfl⟩))
    obtain ⟨j0, j1, j2, j3, hS5⟩ := (by assumption : World.cell? w5 ⟨w.heap.size, 0, none⟩ = some (.int .i64 s) ∧ World.cell? w5 ⟨w.heap.size, 1, none⟩ = some (.int .i64 t) ∧ World.cell? w5 ⟨w.heap.size, 2, none⟩ = some (.int .i64 n) ∧ World.cell? w5 ⟨w.heap.size, 3, none⟩ = some (.slice ao zs.length cap) ∧ Same w w5)
    have H := Lib.hid hS5
    clear hS5 k0 k1 k2 k3 hS
    have k0 := j0; have k1 := j1; have k2 := j2; have k3 := j3
    clear j0 j1 j2 j3
    go_wp2_with (first
      | (go_at_call 19; with_reducible refine (HCL.out _ H.out).mono ?_; rintro e w2 ⟨v1, rfl, hi, h⟩; have HV := Lib.hid hi; have k0' := h.cell k0; have k1' := h.cell k1; have k2' := h.cell k2; have k3' := h.cell k3; have H' := Lib.hid (H.out.trans h); clear h H k0 k1 k2 k3 hi; have H := H'; have k0 := k0'; have k1 := k1'; have k2 := k2'; have k3 := k3'; clear H' k0' k1' k2' k3')
      | (go_at_call 18; with_reducible refine (HS.out _ _ HV.out).mono ?_; rintro e w3 ⟨rfl, rfl⟩)
      | (go_at_call 23; with_reducible refine (HM.out _).mono ?_; rintro e w6 ⟨rfl, rfl⟩)
      | (go_at_call 25; with_reducible refine (HL.out _).mono ?_; rintro e w6 ⟨rfl, rfl⟩))
    go_ret
    exact ⟨rfl, H.out⟩
theorem walk (w : World) (s t n : Int) (sl : Value) (zs : List Int) (hI : Ints w sl zs) (_hs : -9223372036854775808 ≤ s ∧ s ≤ 9223372036854775807) (ht : Tab w) :
    Calls Tryd.prog 8 #[.agg #[.int .i64 s, .int .i64 t, .int .i64 n, sl]] w fun e w' => e = .returned (.bool true) ∧ Same w w' := by
  by_cases hl : zs.length ≤ 64
  · by_cases h0 : (recS s t n zs).2 = 0
    · obtain ⟨hp, hr, hz, _, hok⟩ := recS_ok h0
      have hS0 := sum_nonneg zs hz
      have hSb := sumS_bd zs
      have hsum : sumS zs = (zs.sum, 0) := by unfold sumS; rw [if_neg (by omega), if_pos hz]
      rw [hsum] at hSb
      have hm : marginS s t n = (max (-1) (1000 * s / t - n), 0) := if_pos ⟨hp, hr⟩
      have hiff := margin_iff s t n zs.sum hr hS0
      have hL : leastS t n zs.sum = _ := if_pos ⟨hr, hSb⟩
      have hp2 : s ≤ 68719476736 := hp.2
      by_cases hq : (t * (n + zs.sum) + 999) / 1000 ≤ 68719476736
      · rw [if_pos hq] at hL
        refine holds s t n sl zs _ _ _ _ _ w hI hl (Prod.ext hok h0) hsum hm hL (by omega) ?_ ht
        by_cases hc : t * (n + zs.sum) ≤ 1000 * s
        · exact .inl ⟨decide_eq_true hc, hiff.1 hc, rfl, by omega⟩
        · exact .inr (.inl ⟨decide_eq_false hc, by omega, rfl, by omega⟩)
      · rw [if_neg hq] at hL
        refine holds s t n sl zs _ _ _ _ _ w hI hl (Prod.ext hok h0) hsum hm hL (by omega) ?_ ht
        have hc : ¬ t * (n + zs.sum) ≤ 1000 * s := by omega
        exact .inr (.inr ⟨decide_eq_false hc, by omega, rfl⟩)
    · rcases rec_cases s t n zs with ⟨e1, _⟩ | e1 | ⟨e, e1, e2⟩
      · rw [e1] at h0; exact absurd rfl h0
      · rw [e1] at h0; exact absurd rfl h0
      · exact fails s t n sl zs e w hI hl e1 e2 ht
  · obtain ⟨ao, cap, rfl⟩ := hI.shape
    have HAW := Lib.hid (awake_any (w.alloc (.cells #[.int .i64 s, .int .i64 t, .int .i64 n, .slice ao zs.length cap] 30)) (ht.same ((Same.refl w).alloc _)))
    have hl' : 64 < (zs.length : Int) := by omega
    clear ht hI _hs
    go_enter Tryd.func8, Tryd.ntmps8
    go_wp2_with (go_at_call 11; with_reducible refine HAW.out.mono ?_; rintro e w1 ⟨rfl, h⟩; obtain ⟨k0, k1, k2, k3, hs⟩ := box4 h; have H := Lib.hid hs; clear h hs)
    go_ret
    exact ⟨rfl, H.out⟩
open Go.ChangeShapes Go.WideShapes Go.ChangeAt
theorem own : ownKnob Tryd.prog.godebug = none := by kernel_rfl

set_option maxRecDepth 100000 in
theorem lifted (os : Os) (started : os.Started) (H : Type) (enc : TypeId × Value → H) :
    ReturnsInHanded {} Tryd.checked os 8 .any (fun w args => (Rows.powerMarginsSpec.pre enc Tryd.prog Tryd.f8 [] false w args ∧ laidMetH Tryd.prog laidL w) ∧ sizedMet enc Tryd.prog Tryd.f8 (OpenSpec.ofChange Rows.powerMarginsSpec) false w args) (Rows.powerMarginsSpec.post enc Tryd.prog Tryd.f8 false true false false) := by
  refine returnsInHanded_of_change_and (C := Tryd.checked) (X := fun w _ => laidMetH Tryd.prog laidL w) (fun _ _ _ hh h => h.of_heap hh) own started (by kernel_rfl) Tryd.func8
    (ChangeSpec.witness_shaped (enc := enc) (C := Tryd.checked) (os := os) (X := fun w _ => laidMetH Tryd.prog laidL w) false (World.doorLaid Tryd.prog doorSteps os) #[.agg #[.int .i64 0, .int .i64 0, .int .i64 0, .slice none 0 0]] 8 rfl (World.shaped_of_RefB (by kernel_rfl) (by kernel_rfl)) (by kernel_rfl) (by kernel_rfl) (by kernel_rfl) (door_met os _)) ?_
  intro W base args ds gs before hval0 hW _ _ hL _
  have hval : ∀ (j : Nat) t v, Tryd.f8.params[j]? = some t → args[j]? = some v → Value.okWide Tryd.prog W .any base t v := hval0
  have hW' := hW
  obtain ⟨p, q, hA0, hV, rfl, hfz, hnd⟩ := hW
  have hA : DataW.TrodAll enc Tryd.prog W 0 (fun _ => true) true Tryd.f8.params.toList args.toList ds p := hA0
  rw [Tryd.params8] at hA hval
  obtain ⟨v0, vs0, d0, ds0, p0, q0, hargs, rfl, rfl, h0, r0⟩ := trodAll_cons hA
  obtain ⟨rfl, rfl, rfl⟩ := trodAll_nil r0
  obtain rfl : args = #[v0] := by cases args; simp_all
  obtain ⟨rfl, rfl⟩ := trodVars_none hV
  obtain ⟨x0, y0, z0, sl0, zs0, rfl, bx0, be0, bz0, hz0⟩ := open_case (hval 0 30 v0 rfl rfl) h0
  clear hA0 hval0
  try simp only [List.append_nil] at hW'
  try simp only [List.nil_append] at hW'
  have hlt : ∀ x ∈ p0, x.block < W.heap.size := fun x hx => by
    have := hW'.lt x (by simpa using hx)
    simpa using this
  have ht := of_laid hL
  refine (walk W x0 y0 z0 sl0 zs0 hz0 bx0 ht).mono fun e W' ⟨he, hg⟩ => ?_
  subst he
  exact ⟨_, rfl, _, _, _, [], _, [], hW', trodAll_cons_mk (shut_bool Tryd.underlying4 _) trodAll_mk0, trodAll_cons_mk (Below.trod Tryd.laidOut (by kernel_rfl) (of_decide_eq_true (by kernel_rfl)) h0 (Same.toBelow hg) (fun x hx => hlt x (by simp [hx]))) trodAll_mk0, rfl, (Same.toBelow hg).frame _, fun h => by cases h⟩

theorem row : Rows.PowerMarginsSaid :=
  OpenClaim.holds_of_wide 8 Tryd.f8 rfl rfl rfl rfl rfl rfl rfl ⟨rfl, rfl, rfl, rfl, rfl⟩ rfl rfl rfl rfl rfl (by kernel_rfl) Tryd.func8 (by kernel_rfl)
    (of_decide_eq_true (by kernel_rfl)) (by unfold Func.isWrapper; first | (rw [if_pos (by decide +kernel)]; kernel_rfl) | (rw [if_neg (by decide +kernel)]; exact ⟨rfl, rfl⟩))
    (fun os started H enc _ => lifted os started H enc)

theorem proved : Rows.PowerMarginsCardSaid :=
  Claim7.holds_tied_plain_at .later [] [.data, .data, .data, .data] true (true, "d6ae8d60838ff313198b094a43dac2e43326492e458907477987a915bcad92b0") true
    row (fun _ h => by cases h) (by kernel_rfl) (fun _ h => by cases h) powerMargins_row_tie rfl ⟨rfl, rfl⟩ (by kernel_rfl) rfl
    (fun f fn hf hfn => by
      obtain rfl : f = 8 := Option.some.inj ((show Tryd.prog.funcNamed "hopmesh/hopmeshlaw04.PowerMargins" = some 8 by kernel_rfl).symm.trans hf) |>.symm
      obtain rfl : fn = Tryd.f8 := (Option.some.inj (Tryd.func8.symm.trans hfn)).symm
      exact ⟨by kernel_rfl, fun j t ht => by
        rw [Tryd.params8] at ht
        have hm : t ∈ [30] := by have hm0 := Array.mem_of_getElem? ht; simp at hm0 ⊢; omega
        have hall : ([30].all fun u => !Tryd.prog.wantsStandIn u) = true := by kernel_rfl
        exact (show Tryd.prog.wantsStandIn t = false by simpa using List.all_eq_true.1 hall t hm)⟩)
    (by kernel_rfl)
end powerMargins
end Go.Proofs.YtjgbbafmjdapdaaDoor
