/- PowerCapture: for all ints the law returns true: of two signals that are each the other one's interference at most one is received. The condition: the package's table of a decade holds what the program's text lays; the card ties it. -/
import Derived.Test.YtjgbbafmjdapdaaDoorArgs
namespace Go.Proofs.YtjgbbafmjdapdaaDoor
open Go.RowKit

theorem rec_cases (s t n : Int) (zs : List Int) : (recS s t n zs = (true, 0) ∧ t * (n + zs.sum) ≤ 1000 * s ∧ Pw s ∧ Rt t n ∧ (∀ z ∈ zs, Pw z) ∧ zs.length ≤ 64) ∨ recS s t n zs = (false, 0) ∨ ∃ e : Int, recS s t n zs = (false, e) ∧ (e == 0) = false := by
  unfold recS
  by_cases h : Pw s ∧ Rt t n
  · rw [if_pos h]
    by_cases h0 : (sumS zs).2 = 0
    · rw [if_pos h0]
      by_cases h1 : t * (n + (sumS zs).1) ≤ 1000 * s
      · left
        have hl : ¬ 64 < zs.length := fun hl => by unfold sumS at h0; rw [if_pos hl] at h0; simp at h0
        have hp : ∀ z ∈ zs, Pw z := Decidable.byContradiction fun hp => by unfold sumS at h0; rw [if_neg hl, if_neg hp] at h0; simp at h0
        have e : (sumS zs).1 = zs.sum := by unfold sumS; rw [if_neg hl, if_pos hp]
        refine ⟨by simp [h1], by rw [e] at h1; exact h1, h.1, h.2, hp, by omega⟩
      · right; left; simp [h1]
    · rw [if_neg h0]; right; right; exact ⟨_, rfl, by simpa using h0⟩
  · rw [if_neg h]; right; right; exact ⟨2, rfl, by decide⟩
/-- A box of two cells, made ahead of what keeps all that was there. -/
theorem box2 {w w1 : World} {x y : Value} {T : TypeId} (h : Same (w.alloc (.cells #[x, y] T)) w1) :
    w1.cell? ⟨w.heap.size, 0, none⟩ = some x ∧ w1.cell? ⟨w.heap.size, 1, none⟩ = some y ∧ Same w w1 := by
  have hb := h.block w.heap.size (by simp)
  rw [heap_alloc_new] at hb
  exact ⟨by rw [cell_of_row _ _ _ _ _ _ hb]; rfl, by rw [cell_of_row _ _ _ _ _ _ hb]; rfl, ((Same.refl w).alloc _).trans h⟩
theorem ints_one (w : World) (b : Int) (T : TypeId) : Ints (w.alloc (.cells #[.int .i64 b] T)) (.slice (some ⟨w.heap.size, 0, none⟩) 1 1) [b] :=
  .inl ⟨w.heap.size, 0, 1, rfl, by simp, fun i hi => by
    have : i = 0 := by simpa using hi
    subst this
    rw [cell_of_row _ _ _ _ _ _ (heap_alloc_new w _)]; rfl⟩
namespace powerCapture
theorem not_both (a b t n : Int) (h1 : t * (n + b) ≤ 1000 * a) (h2 : t * (n + a) ≤ 1000 * b) (_ha : Pw a) (hb : Pw b) (hr : Rt t n) : False := by
  obtain ⟨⟨r1, _⟩, r3, _⟩ := hr
  unfold Pw at hb _ha
  have m1 : 1000 * (n + b) ≤ t * (n + b) := Int.mul_le_mul_of_nonneg_right r1 (by omega)
  have m2 : 1000 * (n + a) ≤ t * (n + a) := Int.mul_le_mul_of_nonneg_right r1 (by omega)
  omega
theorem recv (a t n b : Int) (w1 : World) : Calls Tryd.prog 21 #[.int .i64 a, .int .i64 t, .int .i64 n, .slice (some ⟨w1.heap.size, 0, none⟩) 1 1] (w1.alloc (.cells #[.int .i64 b] 3)) fun e w' => e = .returned (.tuple #[.bool (recS a t n [b]).1, .int .i64 (recS a t n [b]).2]) ∧ Same w1 w' :=
  (received_any a t n [b] _ _ (ints_one w1 b 3)).mono fun _ _ ⟨he, hw⟩ => ⟨he, hw ▸ (Same.refl w1).alloc _⟩
set_option maxHeartbeats 1600000 in
theorem walk (a : Int) (_ha : -9223372036854775808 ≤ a ∧ a ≤ 9223372036854775807) (b : Int) (_hb : -9223372036854775808 ≤ b ∧ b ≤ 9223372036854775807) (t n : Int) (w : World) (ht : Tab w) :
    Calls Tryd.prog 9 #[.int .i64 a, .int .i64 b, .agg #[.int .i64 t, .int .i64 n]] w fun e w' => e = .returned (.bool true) ∧ Same w w' := by
  clear _ha _hb
  have HAW := Lib.hid (awake_any (w.alloc (.cells #[.int .i64 t, .int .i64 n] 45)) (ht.same ((Same.refl w).alloc _)))
  clear ht
  have c1 := fun w1 => recv a t n b w1
  have c2 := fun w1 => recv b t n a w1
  have hx := rec_cases a t n [b]
  have hy := rec_cases b t n [a]
  rcases hx with ⟨e1, h1, p1, r1, _⟩ | e1 | ⟨x2, e1, f1⟩ <;> rcases hy with ⟨e2, h2, p2, _, _⟩ | e2 | ⟨y2, e2, f2⟩
  · exact (not_both a b t n (by simpa using h1) (by simpa using h2) p1 p2 r1).elim
  all_goals
    rw [e1] at c1
    rw [e2] at c2
    clear e1 e2
    try clear h1 p1 r1
    try clear h2 p2
    have C1 := Lib.hid c1; clear c1
    have C2 := Lib.hid c2; clear c2
    go_enter Tryd.func9, Tryd.ntmps9
    go_wp2_with (first
      | (go_at_call 11; with_reducible refine HAW.out.mono ?_; rintro e w1 ⟨rfl, h⟩; obtain ⟨k0, k1, hs⟩ := box2 h; have H := Lib.hid hs; clear h hs)
      | (go_at_call 21; with_reducible refine (C1.out _).mono ?_; rintro e w2 ⟨rfl, h⟩; have k0' := h.cell k0; have k1' := h.cell k1; have H' := Lib.hid (H.out.trans h); clear h H k0 k1; have H := H'; have k0 := k0'; have k1 := k1'; clear H' k0' k1')
      | (go_at_call 21; with_reducible refine (C2.out _).mono ?_; rintro e w2 ⟨rfl, h⟩; have k0' := h.cell k0; have k1' := h.cell k1; have H' := Lib.hid (H.out.trans h); clear h H k0 k1; have H := H'; have k0 := k0'; have k1 := k1'; clear H' k0' k1'))
    go_ret
    exact ⟨rfl, H.out⟩
open Go.ChangeShapes Go.WideShapes Go.ChangeAt
theorem own : ownKnob Tryd.prog.godebug = none := by kernel_rfl

set_option maxRecDepth 100000 in
theorem lifted (os : Os) (started : os.Started) (H : Type) (enc : TypeId × Value → H) :
    ReturnsInHanded {} Tryd.checked os 9 .any (fun w args => (Rows.powerCaptureSpec.pre enc Tryd.prog Tryd.f9 [] false w args ∧ laidMetH Tryd.prog laidL w) ∧ sizedMet enc Tryd.prog Tryd.f9 (OpenSpec.ofChange Rows.powerCaptureSpec) false w args) (Rows.powerCaptureSpec.post enc Tryd.prog Tryd.f9 false true false false) := by
  refine returnsInHanded_of_change_and (C := Tryd.checked) (X := fun w _ => laidMetH Tryd.prog laidL w) (fun _ _ _ hh h => h.of_heap hh) own started (by kernel_rfl) Tryd.func9
    (ChangeSpec.witness_shaped (enc := enc) (C := Tryd.checked) (os := os) (X := fun w _ => laidMetH Tryd.prog laidL w) false (World.doorLaid Tryd.prog doorSteps os) #[.int .i64 0, .int .i64 0, .agg #[.int .i64 0, .int .i64 0]] 8 rfl (World.shaped_of_RefB (by kernel_rfl) (by kernel_rfl)) (by kernel_rfl) (by kernel_rfl) (by kernel_rfl) (door_met os _)) ?_
  intro W base args ds gs before hval0 hW _ _ hL _
  have hval : ∀ (j : Nat) t v, Tryd.f9.params[j]? = some t → args[j]? = some v → Value.okWide Tryd.prog W .any base t v := hval0
  have hW' := hW
  obtain ⟨p, q, hA0, hV, rfl, hfz, hnd⟩ := hW
  have hA : DataW.TrodAll enc Tryd.prog W 0 (fun _ => true) true Tryd.f9.params.toList args.toList ds p := hA0
  rw [Tryd.params9] at hA hval
  obtain ⟨v0, vs0, d0, ds0, p0, q0, hargs, rfl, rfl, h0, r0⟩ := trodAll_cons hA
  obtain ⟨v1, vs1, d1, ds1, p1, q1, rfl, rfl, rfl, h1, r1⟩ := trodAll_cons r0
  obtain ⟨v2, vs2, d2, ds2, p2, q2, rfl, rfl, rfl, h2, r2⟩ := trodAll_cons r1
  obtain ⟨rfl, rfl, rfl⟩ := trodAll_nil r2
  obtain rfl : args = #[v0, v1, v2] := by cases args; simp_all
  obtain ⟨rfl, rfl⟩ := trodVars_none hV
  obtain ⟨a0, rfl, rfl, rfl, w0⟩ := open_int Tryd.underlying3 (hval 0 3 v0 rfl rfl) h0
  obtain ⟨a1, rfl, rfl, rfl, w1⟩ := open_int Tryd.underlying3 (hval 1 3 v1 rfl rfl) h1
  obtain ⟨x2, y2, rfl, bx2, be2⟩ := open_a2 (hval 2 45 v2 rfl rfl) h2
  clear hA0 hval0
  try simp only [List.append_nil] at hW'
  try simp only [List.nil_append] at hW'
  have hlt : ∀ x ∈ p2, x.block < W.heap.size := fun x hx => by
    have := hW'.lt x (by simpa using hx)
    simpa using this
  have ht := of_laid hL
  refine (walk a0 (bounds_i64 w0) a1 (bounds_i64 w1) x2 y2 W ht).mono fun e W' ⟨he, hg⟩ => ?_
  subst he
  exact ⟨_, rfl, _, _, _, [], _, [], hW', trodAll_cons_mk (shut_bool Tryd.underlying4 _) trodAll_mk0, trodAll_cons_mk (shut_int Tryd.underlying3 w0) (trodAll_cons_mk (shut_int Tryd.underlying3 w1) (trodAll_cons_mk (Below.trod Tryd.laidOut (by kernel_rfl) (of_decide_eq_true (by kernel_rfl)) h2 (Same.toBelow hg) (fun x hx => hlt x (by simp [hx]))) trodAll_mk0)), rfl, (Same.toBelow hg).frame _, fun h => by cases h⟩

theorem row : Rows.PowerCaptureSaid :=
  OpenClaim.holds_of_wide 9 Tryd.f9 rfl rfl rfl rfl rfl rfl rfl ⟨rfl, rfl, rfl, rfl, rfl⟩ rfl rfl rfl rfl rfl (by kernel_rfl) Tryd.func9 (by kernel_rfl)
    (of_decide_eq_true (by kernel_rfl)) (by unfold Func.isWrapper; first | (rw [if_pos (by decide +kernel)]; kernel_rfl) | (rw [if_neg (by decide +kernel)]; exact ⟨rfl, rfl⟩))
    (fun os started H enc _ => lifted os started H enc)

theorem proved : Rows.PowerCaptureCardSaid :=
  Claim7.holds_tied_plain_at .later [] [.data, .data, .data, .data] true (true, "d6ae8d60838ff313198b094a43dac2e43326492e458907477987a915bcad92b0") true
    row (fun _ h => by cases h) (by kernel_rfl) (fun _ h => by cases h) powerCapture_row_tie rfl ⟨rfl, rfl⟩ (by kernel_rfl) rfl
    (fun f fn hf hfn => by
      obtain rfl : f = 9 := Option.some.inj ((show Tryd.prog.funcNamed "hopmesh/hopmeshlaw04.PowerCapture" = some 9 by kernel_rfl).symm.trans hf) |>.symm
      obtain rfl : fn = Tryd.f9 := (Option.some.inj (Tryd.func9.symm.trans hfn)).symm
      exact ⟨by kernel_rfl, fun j t ht => by
        rw [Tryd.params9] at ht
        have hm : t ∈ [3, 45] := by have hm0 := Array.mem_of_getElem? ht; simp at hm0 ⊢; omega
        have hall : ([3, 45].all fun u => !Tryd.prog.wantsStandIn u) = true := by kernel_rfl
        exact (show Tryd.prog.wantsStandIn t = false by simpa using List.all_eq_true.1 hall t hm)⟩)
    (by kernel_rfl)
end powerCapture
end Go.Proofs.YtjgbbafmjdapdaaDoor
