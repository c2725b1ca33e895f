/- PowerMonotone: for all cases the law returns true: a signal that is received is received with a part of the interference, and if it is greater. The condition: the package's table of a decade holds what the program's text lays; the card ties it. -/
import Derived.Test.YtjgbbafmjdapdaaDoorMonoA
import Derived.Test.YtjgbbafmjdapdaaDoorMonoB
import Derived.Test.YtjgbbafmjdapdaaDoorMonoC
import Derived.Test.YtjgbbafmjdapdaaDoorMargins
namespace Go.Proofs.YtjgbbafmjdapdaaDoor
open Go.RowKit

namespace powerMonotone
theorem recS_val {s t n : Int} {zs : List Int} (hp : Pw s) (hr : Rt t n) (hz : ∀ z ∈ zs, Pw z) (hl : zs.length ≤ 64) : recS s t n zs = (decide (t * (n + zs.sum) ≤ 1000 * s), 0) := by
  have hs : sumS zs = (zs.sum, 0) := by unfold sumS; rw [if_neg (by omega), if_pos hz]
  unfold recS
  rw [if_pos ⟨hp, hr⟩, hs, if_pos rfl]
theorem rec_more {s t n more : Int} {zs : List Int} {ok : Bool} (h : recS s t n zs = (ok, 0)) (h1 : 0 ≤ more) (h2 : more ≤ 68719476736 - s) : ∃ ok2, recS (s + more) t n zs = (ok2, 0) ∧ (ok = true → ok2 = true) := by
  obtain ⟨hp, hr, hz, hl, hok⟩ := powerMargins.recS_ok (show (recS s t n zs).2 = 0 by rw [h])
  rw [h] at hok
  refine ⟨_, recS_val (s := s + more) (by unfold Pw at hp ⊢; omega) hr hz hl, fun e => ?_⟩
  rw [e] at hok
  have hd := of_decide_eq_true hok.symm
  exact decide_eq_true (by omega)
theorem rec_without {s t n : Int} {zs : List Int} {ok : Bool} {k : Nat} (h : recS s t n zs = (ok, 0)) (hk : k < zs.length) : ∃ ok3, recS s t n (without zs k) = (ok3, 0) ∧ (ok = true → ok3 = true) := by
  obtain ⟨hp, hr, hz, hl, hok⟩ := powerMargins.recS_ok (show (recS s t n zs).2 = 0 by rw [h])
  rw [h] at hok
  refine ⟨_, recS_val hp hr (pw_without hz) (by rw [without_length zs k hk]; omega), fun e => ?_⟩
  rw [e] at hok
  have hd := of_decide_eq_true hok.symm
  have hs := sum_without hz hk
  have hm : t * (n + (without zs k).sum) ≤ t * (n + zs.sum) := Int.mul_le_mul_of_nonneg_left (by omega) (by have := hr.1.1; omega)
  exact decide_eq_true (by omega)
theorem walk (w : World) (s t n : Int) (sl : Value) (zs : List Int) (hI : Ints w sl zs) (_hs : -9223372036854775808 ≤ s ∧ s ≤ 9223372036854775807) (more : Int) (_hm : -9223372036854775808 ≤ more ∧ more ≤ 9223372036854775807) (u : Int) (hu : 0 ≤ u ∧ u ≤ 255) (ht : Tab w) :
    Calls Tryd.prog 7 #[.agg #[.int .i64 s, .int .i64 t, .int .i64 n, sl], .int .i64 more, .int .u8 u] w fun e w' => e = .returned (.bool true) ∧ Same w w' := by
  by_cases hl : zs.length ≤ 64
  · by_cases h0 : (recS s t n zs).2 = 0
    · obtain ⟨hp, _⟩ := powerMargins.recS_ok h0
      have he : recS s t n zs = ((recS s t n zs).1, 0) := Prod.ext rfl h0
      generalize (recS s t n zs).1 = ok at he
      have imp2 : ∀ ok2 : Bool, (ok = true → ok2 = true) → (ok = true ∧ ok2 = true) ∨ ok = false := by cases ok <;> simp
      have imp3 : ∀ ok2 ok3 : Bool, (ok = true → ok2 = true) → (ok = true → ok3 = true) → (ok = true ∧ ok2 = true ∧ ok3 = true) ∨ ok = false := by cases ok <;> simp
      by_cases hz : zs = []
      · subst hz
        by_cases m1 : 0 ≤ more
        · by_cases m2 : more ≤ 68719476736 - s
          · obtain ⟨ok2, e2, i2⟩ := rec_more he m1 m2
            exact emptyMore s t n sl more u ok ok2 w hI he hp m1 m2 e2 (imp2 ok2 i2) ht
          · exact emptyHigh s t n sl more u ok ok w hI he hp m1 (by omega) rfl (imp2 ok (fun h => h)) ht
        · exact emptyLow s t n sl more u ok ok w hI he hp (by omega) rfl (imp2 ok (fun h => h)) ht
      · have hpos : 0 < zs.length := List.length_pos_iff.2 hz
        obtain ⟨u, rfl⟩ := Int.eq_ofNat_of_zero_le hu.1
        obtain ⟨ok3, e3, i3⟩ := rec_without (k := u % zs.length) he (Nat.mod_lt _ hpos)
        by_cases m1 : 0 ≤ more
        · by_cases m2 : more ≤ 68719476736 - s
          · obtain ⟨ok2, e2, i2⟩ := rec_more he m1 m2
            exact fullMore s t n sl zs more u (by omega) ok ok2 ok3 w hI hl hpos he hp m1 m2 e2 e3 (imp3 ok2 ok3 i2 i3) ht
          · exact fullHigh s t n sl zs more u (by omega) ok ok ok3 w hI hl hpos he hp m1 (by omega) rfl e3 (imp3 ok ok3 (fun h => h) i3) ht
        · exact fullLow s t n sl zs more u (by omega) ok ok ok3 w hI hl hpos he hp (by omega) rfl e3 (imp3 ok ok3 (fun h => h) i3) ht
    · rcases rec_cases s t n zs with ⟨e1, _⟩ | e1 | ⟨e, e1, e2⟩
      · rw [e1] at h0; exact absurd rfl h0
      · rw [e1] at h0; exact absurd rfl h0
      · exact fails s t n sl zs more u e w hI hl e1 e2 ht
  · obtain ⟨ao, cap, rfl⟩ := hI.shape
    have HAW := Lib.hid (awake_any (w.alloc (.cells #[.int .i64 s, .int .i64 t, .int .i64 n, .slice ao zs.length cap] 30)) (ht.same ((Same.refl w).alloc _)))
    have hl' : 64 < (zs.length : Int) := by omega
    clear ht hI _hs _hm hu
    go_enter Tryd.func7, Tryd.ntmps7
    go_wp2_with (go_at_call 11; with_reducible refine HAW.out.mono ?_; rintro e w1 ⟨rfl, h⟩; obtain ⟨k0, k1, k2, k3, hs⟩ := box4 h; have H := Lib.hid hs; clear h hs)
    go_ret
    exact ⟨rfl, H.out⟩
open Go.ChangeShapes Go.WideShapes Go.ChangeAt
theorem own : ownKnob Tryd.prog.godebug = none := by kernel_rfl

set_option maxRecDepth 100000 in
theorem lifted (os : Os) (started : os.Started) (H : Type) (enc : TypeId × Value → H) :
    ReturnsInHanded {} Tryd.checked os 7 .any (fun w args => (Rows.powerMonotoneSpec.pre enc Tryd.prog Tryd.f7 [] false w args ∧ laidMetH Tryd.prog laidL w) ∧ sizedMet enc Tryd.prog Tryd.f7 (OpenSpec.ofChange Rows.powerMonotoneSpec) false w args) (Rows.powerMonotoneSpec.post enc Tryd.prog Tryd.f7 false true false false) := by
  refine returnsInHanded_of_change_and (C := Tryd.checked) (X := fun w _ => laidMetH Tryd.prog laidL w) (fun _ _ _ hh h => h.of_heap hh) own started (by kernel_rfl) Tryd.func7
    (ChangeSpec.witness_shaped (enc := enc) (C := Tryd.checked) (os := os) (X := fun w _ => laidMetH Tryd.prog laidL w) false (World.doorLaid Tryd.prog doorSteps os) #[.agg #[.int .i64 0, .int .i64 0, .int .i64 0, .slice none 0 0], .int .i64 0, .int .u8 0] 8 rfl (World.shaped_of_RefB (by kernel_rfl) (by kernel_rfl)) (by kernel_rfl) (by kernel_rfl) (by kernel_rfl) (door_met os _)) ?_
  intro W base args ds gs before hval0 hW _ _ hL _
  have hval : ∀ (j : Nat) t v, Tryd.f7.params[j]? = some t → args[j]? = some v → Value.okWide Tryd.prog W .any base t v := hval0
  have hW' := hW
  obtain ⟨p, q, hA0, hV, rfl, hfz, hnd⟩ := hW
  have hA : DataW.TrodAll enc Tryd.prog W 0 (fun _ => true) true Tryd.f7.params.toList args.toList ds p := hA0
  rw [Tryd.params7] at hA hval
  obtain ⟨v0, vs0, d0, ds0, p0, q0, hargs, rfl, rfl, h0, r0⟩ := trodAll_cons hA
  obtain ⟨v1, vs1, d1, ds1, p1, q1, rfl, rfl, rfl, h1, r1⟩ := trodAll_cons r0
  obtain ⟨v2, vs2, d2, ds2, p2, q2, rfl, rfl, rfl, h2, r2⟩ := trodAll_cons r1
  obtain ⟨rfl, rfl, rfl⟩ := trodAll_nil r2
  obtain rfl : args = #[v0, v1, v2] := by cases args; simp_all
  obtain ⟨rfl, rfl⟩ := trodVars_none hV
  obtain ⟨x0, y0, z0, sl0, zs0, rfl, bx0, be0, bz0, hz0⟩ := open_case (hval 0 30 v0 rfl rfl) h0
  obtain ⟨a1, rfl, rfl, rfl, w1⟩ := open_int Tryd.underlying3 (hval 1 3 v1 rfl rfl) h1
  obtain ⟨a2, rfl, rfl, rfl, w2⟩ := open_int Tryd.underlying5 (hval 2 5 v2 rfl rfl) h2
  clear hA0 hval0
  try simp only [List.append_nil] at hW'
  try simp only [List.nil_append] at hW'
  have hlt : ∀ x ∈ p0, x.block < W.heap.size := fun x hx => by
    have := hW'.lt x (by simpa using hx)
    simpa using this
  have ht := of_laid hL
  refine (walk W x0 y0 z0 sl0 zs0 hz0 bx0 a1 (bounds_i64 w1) a2 (bounds_u8 w2) ht).mono fun e W' ⟨he, hg⟩ => ?_
  subst he
  exact ⟨_, rfl, _, _, _, [], _, [], hW', trodAll_cons_mk (shut_bool Tryd.underlying4 _) trodAll_mk0, trodAll_cons_mk (Below.trod Tryd.laidOut (by kernel_rfl) (of_decide_eq_true (by kernel_rfl)) h0 (Same.toBelow hg) (fun x hx => hlt x (by simp [hx]))) (trodAll_cons_mk (shut_int Tryd.underlying3 w1) (trodAll_cons_mk (shut_int Tryd.underlying5 w2) trodAll_mk0)), rfl, (Same.toBelow hg).frame _, fun h => by cases h⟩

theorem row : Rows.PowerMonotoneSaid :=
  OpenClaim.holds_of_wide 7 Tryd.f7 rfl rfl rfl rfl rfl rfl rfl ⟨rfl, rfl, rfl, rfl, rfl⟩ rfl rfl rfl rfl rfl (by kernel_rfl) Tryd.func7 (by kernel_rfl)
    (of_decide_eq_true (by kernel_rfl)) (by unfold Func.isWrapper; first | (rw [if_pos (by decide +kernel)]; kernel_rfl) | (rw [if_neg (by decide +kernel)]; exact ⟨rfl, rfl⟩))
    (fun os started H enc _ => lifted os started H enc)

theorem proved : Rows.PowerMonotoneCardSaid :=
  Claim7.holds_tied_plain_at .later [] [.data, .data, .data, .data] true (true, "d6ae8d60838ff313198b094a43dac2e43326492e458907477987a915bcad92b0") true
    row (fun _ h => by cases h) (by kernel_rfl) (fun _ h => by cases h) powerMonotone_row_tie rfl ⟨rfl, rfl⟩ (by kernel_rfl) rfl
    (fun f fn hf hfn => by
      obtain rfl : f = 7 := Option.some.inj ((show Tryd.prog.funcNamed "hopmesh/hopmeshlaw04.PowerMonotone" = some 7 by kernel_rfl).symm.trans hf) |>.symm
      obtain rfl : fn = Tryd.f7 := (Option.some.inj (Tryd.func7.symm.trans hfn)).symm
      exact ⟨by kernel_rfl, fun j t ht => by
        rw [Tryd.params7] at ht
        have hm : t ∈ [30, 3, 5] := by have hm0 := Array.mem_of_getElem? ht; simp at hm0 ⊢; omega
        have hall : ([30, 3, 5].all fun u => !Tryd.prog.wantsStandIn u) = true := by kernel_rfl
        exact (show Tryd.prog.wantsStandIn t = false by simpa using List.all_eq_true.1 hall t hm)⟩)
    (by kernel_rfl)
end powerMonotone
end Go.Proofs.YtjgbbafmjdapdaaDoor
