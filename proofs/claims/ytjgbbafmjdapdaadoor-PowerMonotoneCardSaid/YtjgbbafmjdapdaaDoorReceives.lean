/- PowerReceives: for all cases the law returns true: Sum, Received, Margin and Least return the numbers and errors of the reference. The condition: the package's table of a decade holds what the program's text lays; the card ties it. -/
import Derived.Test.YtjgbbafmjdapdaaDoorArgs
import Derived.Test.YtjgbbafmjdapdaaDoorRecv2
namespace Go.Proofs.YtjgbbafmjdapdaaDoor
open Go.RowKit

theorem Ints.shape {w : World} {v : Value} {zs : List Int} (h : Ints w v zs) : ∃ ao cap, v = .slice ao zs.length cap := by
  rcases h with ⟨b, off, cap, h1, _⟩ | ⟨ao, cap, rfl, rfl⟩
  · exact ⟨_, cap, h1⟩
  · exact ⟨ao, cap, rfl⟩
/-- A box of four cells, made ahead of what keeps all that was there. -/
theorem box4 {w w1 : World} {x y z u : Value} {T : TypeId} (h : Same (w.alloc (.cells #[x, y, z, u] T)) w1) :
    w1.cell? ⟨w.heap.size, 0, none⟩ = some x ∧ w1.cell? ⟨w.heap.size, 1, none⟩ = some y ∧ w1.cell? ⟨w.heap.size, 2, none⟩ = some z ∧ w1.cell? ⟨w.heap.size, 3, none⟩ = some u ∧ Same w w1 := by
  have hb := h.block w.heap.size (by simp)
  rw [heap_alloc_new] at hb
  exact ⟨by rw [cell_of_row _ _ _ _ _ _ hb]; rfl, by rw [cell_of_row _ _ _ _ _ _ hb]; rfl, by rw [cell_of_row _ _ _ _ _ _ hb]; rfl, by rw [cell_of_row _ _ _ _ _ _ hb]; rfl, ((Same.refl w).alloc _).trans h⟩
theorem keep4 {w0 w w1 : World} {p q r s : Addr} {x y z u : Value} (h : w.cell? p = some x ∧ w.cell? q = some y ∧ w.cell? r = some z ∧ w.cell? s = some u ∧ Same w0 w) (hs : Same w w1) :
    w1.cell? p = some x ∧ w1.cell? q = some y ∧ w1.cell? r = some z ∧ w1.cell? s = some u ∧ Same w0 w1 :=
  ⟨hs.cell h.1, hs.cell h.2.1, hs.cell h.2.2.1, hs.cell h.2.2.2.1, h.2.2.2.2.trans hs⟩
namespace powerReceives
set_option maxHeartbeats 3200000 in
set_option maxRecDepth 100000 in
theorem main (s t n : Int) (sl : Value) (zs : List Int) (x : Int) (w : World) (hI : Ints w sl zs) (hl : zs.length ≤ 100) (ht : Tab w) :
    Calls Tryd.prog 4 #[.agg #[.int .i64 s, .int .i64 t, .int .i64 n, sl], .int .i64 x] w fun e w' => e = .returned (.bool true) ∧ Same w w' := by
  obtain ⟨ao, cap, rfl⟩ := hI.shape
  have HAW := Lib.hid (awake_any (w.alloc (.cells #[.int .i64 s, .int .i64 t, .int .i64 n, .slice ao zs.length cap] 30)) (ht.same ((Same.refl w).alloc _)))
  have HI := Lib.hid (fun (w1 : World) (h : Same w w1) => hI.same h)
  have HCL := Lib.hid (fun (w1 : World) (h : Same w w1) => clone_any w1 _ zs (hI.same h) (by omega))
  have HS2 := Lib.hid (fun (w1 : World) (h : Same w w1) => sum2_any w1 _ zs (hI.same h))
  have HR2 := Lib.hid (fun (w1 : World) (h : Same w w1) => received2_any s t n zs _ w1 (hI.same h))
  have HS := Lib.hid (fun (w1 : World) (v : Value) (h : Ints w1 v zs) => sum_any w1 v zs h)
  have HR := Lib.hid (fun (w1 : World) (v : Value) (h : Ints w1 v zs) => received_any s t n zs v w1 h)
  have HM := Lib.hid (fun w => margin_any s t n w)
  have HM2 := Lib.hid (fun w => margin2_any s t n w)
  have HL := Lib.hid (fun w => least_any t n x w)
  have HL2 := Lib.hid (fun w => least2_any t n x w)
  have hl' : (zs.length : Int) ≤ 100 := by omega
  clear ht hI
  generalize (sumS zs).1 = a1 at *
  generalize (sumS zs).2 = a2 at *
  generalize (recS s t n zs).1 = a3 at *
  generalize (recS s t n zs).2 = a4 at *
  generalize (marginS s t n).1 = a5 at *
  generalize (marginS s t n).2 = a6 at *
  generalize (leastS t n x).1 = a7 at *
  generalize (leastS t n x).2 = a8 at *
  go_enter Tryd.func4, Tryd.ntmps4
  go_wp2_with (first
    | (go_at_call 11; with_reducible refine HAW.out.mono ?_; rintro e w1 ⟨rfl, h⟩; obtain ⟨k0, k1, k2, k3, hs⟩ := box4 h; have H := Lib.hid hs; clear h hs)
    | (go_at_call 19; with_reducible refine (HCL.out _ H.out).mono ?_; rintro e w2 ⟨v1, rfl, hi, h⟩; have HV := Lib.hid hi; have k0' := h.cell k0; have k1' := h.cell k1; have k2' := h.cell k2; have k3' := h.cell k3; have H' := Lib.hid (H.out.trans h); clear h H k0 k1 k2 k3 hi; have H := H'; have k0 := k0'; have k1 := k1'; have k2 := k2'; have k3 := k3'; clear H' k0' k1' k2' k3')
    | (go_at_call 18; with_reducible refine (HS.out _ _ HV.out).mono ?_; rintro e w3 ⟨rfl, rfl⟩)
    | (go_at_call 20; with_reducible refine (HS2.out _ H.out).mono ?_; rintro e w3 ⟨rfl, rfl⟩))
  have hS := H.out
  clear H
  go_region_held3 (fun w' => w'.cell? ⟨w.heap.size, 0, none⟩ = some (.int .i64 s) ∧ w'.cell? ⟨w.heap.size, 1, none⟩ = some (.int .i64 t) ∧ w'.cell? ⟨w.heap.size, 2, none⟩ = some (.int .i64 n) ∧ w'.cell? ⟨w.heap.size, 3, none⟩ = some (.slice ao zs.length cap) ∧ Same w w')
    (first | exact ⟨k0, k1, k2, k3, hS.drew⟩ | exact keep4 (by assumption) (by assumption) | assumption)
    (first
      | (go_at_call 19; refine (HCL.out _ (by first | exact hS.drew | exact (by assumption : _ ∧ _ ∧ _ ∧ _ ∧ Same w _).2.2.2.2)).mono ?_; rintro e w4 ⟨v2, rfl, hi2, hw4⟩)
      | (go_at_call 21; refine (HR.out _ _ (by assumption)).mono ?_; rintro e w5 ⟨rfl, rfl⟩))
  obtain ⟨j0, j1, j2, j3, hS5⟩ := (by assumption : World.cell? w5 ⟨w.heap.size, 0, none⟩ = some (.int .i64 s) ∧ World.cell? w5 ⟨w.heap.size, 1, none⟩ = some (.int .i64 t) ∧ World.cell? w5 ⟨w.heap.size, 2, none⟩ = some (.int .i64 n) ∧ World.cell? w5 ⟨w.heap.size, 3, none⟩ = some (.slice ao zs.length cap) ∧ Same w w5)
  have H := Lib.hid hS5
  clear hS5 k0 k1 k2 k3 hS HV
  go_wp2_with (first
    | (go_at_call 22; with_reducible refine (HR2.out _ H.out).mono ?_; rintro e w6 ⟨rfl, rfl⟩)
    | (go_at_call 23; with_reducible refine (HM.out _).mono ?_; rintro e w6 ⟨rfl, rfl⟩)
    | (go_at_call 24; with_reducible refine (HM2.out _).mono ?_; rintro e w6 ⟨rfl, rfl⟩)
    | (go_at_call 25; with_reducible refine (HL.out _).mono ?_; rintro e w6 ⟨rfl, rfl⟩)
    | (go_at_call 26; with_reducible refine (HL2.out _).mono ?_; rintro e w6 ⟨rfl, rfl⟩))
  go_ret
  exact ⟨rfl, H.out⟩
theorem walk (w : World) (s t n : Int) (sl : Value) (zs : List Int) (hI : Ints w sl zs) (_hs : -9223372036854775808 ≤ s ∧ s ≤ 9223372036854775807) (x : Int) (_hx : -9223372036854775808 ≤ x ∧ x ≤ 9223372036854775807) (ht : Tab w) :
    Calls Tryd.prog 4 #[.agg #[.int .i64 s, .int .i64 t, .int .i64 n, sl], .int .i64 x] w fun e w' => e = .returned (.bool true) ∧ Same w w' := by
  by_cases hl : zs.length ≤ 100
  · exact main s t n sl zs x w hI hl ht
  · obtain ⟨ao, cap, rfl⟩ := hI.shape
    have HAW := Lib.hid (awake_any (w.alloc (.cells #[.int .i64 s, .int .i64 t, .int .i64 n, .slice ao zs.length cap] 30)) (ht.same ((Same.refl w).alloc _)))
    have hl' : 100 < (zs.length : Int) := by omega
    clear ht hI _hs _hx
    go_enter Tryd.func4, Tryd.ntmps4
    go_wp2_with (go_at_call 11; with_reducible refine HAW.out.mono ?_; rintro e w1 ⟨rfl, h⟩; obtain ⟨k0, k1, k2, k3, hs⟩ := box4 h; have H := Lib.hid hs; clear h hs)
    go_ret
    exact ⟨rfl, H.out⟩
open Go.ChangeShapes Go.WideShapes Go.ChangeAt
theorem own : ownKnob Tryd.prog.godebug = none := by kernel_rfl

set_option maxRecDepth 100000 in
theorem lifted (os : Os) (started : os.Started) (H : Type) (enc : TypeId × Value → H) :
    ReturnsInHanded {} Tryd.checked os 4 .any (fun w args => (Rows.powerReceivesSpec.pre enc Tryd.prog Tryd.f4 [] false w args ∧ laidMetH Tryd.prog laidL w) ∧ sizedMet enc Tryd.prog Tryd.f4 (OpenSpec.ofChange Rows.powerReceivesSpec) false w args) (Rows.powerReceivesSpec.post enc Tryd.prog Tryd.f4 false true false false) := by
  refine returnsInHanded_of_change_and (C := Tryd.checked) (X := fun w _ => laidMetH Tryd.prog laidL w) (fun _ _ _ hh h => h.of_heap hh) own started (by kernel_rfl) Tryd.func4
    (ChangeSpec.witness_shaped (enc := enc) (C := Tryd.checked) (os := os) (X := fun w _ => laidMetH Tryd.prog laidL w) false (World.doorLaid Tryd.prog doorSteps os) #[.agg #[.int .i64 0, .int .i64 0, .int .i64 0, .slice none 0 0], .int .i64 0] 8 rfl (World.shaped_of_RefB (by kernel_rfl) (by kernel_rfl)) (by kernel_rfl) (by kernel_rfl) (by kernel_rfl) (door_met os _)) ?_
  intro W base args ds gs before hval0 hW _ _ hL _
  have hval : ∀ (j : Nat) t v, Tryd.f4.params[j]? = some t → args[j]? = some v → Value.okWide Tryd.prog W .any base t v := hval0
  have hW' := hW
  obtain ⟨p, q, hA0, hV, rfl, hfz, hnd⟩ := hW
  have hA : DataW.TrodAll enc Tryd.prog W 0 (fun _ => true) true Tryd.f4.params.toList args.toList ds p := hA0
  rw [Tryd.params4] at hA hval
  obtain ⟨v0, vs0, d0, ds0, p0, q0, hargs, rfl, rfl, h0, r0⟩ := trodAll_cons hA
  obtain ⟨v1, vs1, d1, ds1, p1, q1, rfl, rfl, rfl, h1, r1⟩ := trodAll_cons r0
  obtain ⟨rfl, rfl, rfl⟩ := trodAll_nil r1
  obtain rfl : args = #[v0, v1] := by cases args; simp_all
  obtain ⟨rfl, rfl⟩ := trodVars_none hV
  obtain ⟨x0, y0, z0, sl0, zs0, rfl, bx0, be0, bz0, hz0⟩ := open_case (hval 0 30 v0 rfl rfl) h0
  obtain ⟨a1, rfl, rfl, rfl, w1⟩ := open_int Tryd.underlying3 (hval 1 3 v1 rfl rfl) h1
  clear hA0 hval0
  try simp only [List.append_nil] at hW'
  try simp only [List.nil_append] at hW'
  have hlt : ∀ x ∈ p0, x.block < W.heap.size := fun x hx => by
    have := hW'.lt x (by simpa using hx)
    simpa using this
  have ht := of_laid hL
  refine (walk W x0 y0 z0 sl0 zs0 hz0 bx0 a1 (bounds_i64 w1) ht).mono fun e W' ⟨he, hg⟩ => ?_
  subst he
  exact ⟨_, rfl, _, _, _, [], _, [], hW', trodAll_cons_mk (shut_bool Tryd.underlying4 _) trodAll_mk0, trodAll_cons_mk (Below.trod Tryd.laidOut (by kernel_rfl) (of_decide_eq_true (by kernel_rfl)) h0 (Same.toBelow hg) (fun x hx => hlt x (by simp [hx]))) (trodAll_cons_mk (shut_int Tryd.underlying3 w1) trodAll_mk0), rfl, (Same.toBelow hg).frame _, fun h => by cases h⟩

theorem row : Rows.PowerReceivesSaid :=
  OpenClaim.holds_of_wide 4 Tryd.f4 rfl rfl rfl rfl rfl rfl rfl ⟨rfl, rfl, rfl, rfl, rfl⟩ rfl rfl rfl rfl rfl (by kernel_rfl) Tryd.func4 (by kernel_rfl)
    (of_decide_eq_true (by kernel_rfl)) (by unfold Func.isWrapper; first | (rw [if_pos (by decide +kernel)]; kernel_rfl) | (rw [if_neg (by decide +kernel)]; exact ⟨rfl, rfl⟩))
    (fun os started H enc _ => lifted os started H enc)

theorem proved : Rows.PowerReceivesCardSaid :=
  Claim7.holds_tied_plain_at .later [] [.data, .data, .data, .data] true (true, "d6ae8d60838ff313198b094a43dac2e43326492e458907477987a915bcad92b0") true
    row (fun _ h => by cases h) (by kernel_rfl) (fun _ h => by cases h) powerReceives_row_tie rfl ⟨rfl, rfl⟩ (by kernel_rfl) rfl
    (fun f fn hf hfn => by
      obtain rfl : f = 4 := Option.some.inj ((show Tryd.prog.funcNamed "hopmesh/hopmeshlaw04.PowerReceives" = some 4 by kernel_rfl).symm.trans hf) |>.symm
      obtain rfl : fn = Tryd.f4 := (Option.some.inj (Tryd.func4.symm.trans hfn)).symm
      exact ⟨by kernel_rfl, fun j t ht => by
        rw [Tryd.params4] at ht
        have hm : t ∈ [30, 3] := by have hm0 := Array.mem_of_getElem? ht; simp at hm0 ⊢; omega
        have hall : ([30, 3].all fun u => !Tryd.prog.wantsStandIn u) = true := by kernel_rfl
        exact (show Tryd.prog.wantsStandIn t = false by simpa using List.all_eq_true.1 hall t hm)⟩)
    (by kernel_rfl)
end powerReceives
end Go.Proofs.YtjgbbafmjdapdaaDoor
