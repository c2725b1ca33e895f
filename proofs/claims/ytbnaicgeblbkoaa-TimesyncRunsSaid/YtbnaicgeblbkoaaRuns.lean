/- TimesyncRuns: Depths, Run and Spread of both packages. -/
import Derived.Test.YtbnaicgeblbkoaaRunU
import Derived.Deep.RegionHeld3
namespace Go.Proofs.Ytbnaicgeblbkoaa
open Go.RowKit Go.Deep

namespace timesyncRuns
theorem keepT {w0 w w1 w2 : World} {a b : Value} {g : Nat} (h : w1.cell? ⟨g, 0, none⟩ = some a ∧ w1.cell? ⟨g, 1, none⟩ = some b ∧ Same w0 w1 ∧ Same w w1) (k : Same w1 w2) : w2.cell? ⟨g, 0, none⟩ = some a ∧ w2.cell? ⟨g, 1, none⟩ = some b ∧ Same w0 w2 ∧ Same w w2 := ⟨k.cell h.1, k.cell h.2.1, h.2.2.1.trans k, h.2.2.2.trans k⟩
theorem spr_two (l : List St) (t : Int) : ∃ M x : Int, ∀ w1 e w', SprP w1 l t e w' → e = .returned (.tuple #[.int .i64 M, .int .i64 x]) ∧ Same w1 w' := by
  by_cases h : ∃ w1 e w', SprP w1 l t e w'
  · obtain ⟨w1, e, w', h⟩ := h
    obtain ⟨M, x, he, _⟩ := id h
    refine ⟨M, x, fun w2 e2 w2' h2 => ⟨by rw [h.uni _ _ _ h2, he], ?_⟩⟩
    obtain ⟨_, _, _, hs, _⟩ := h2
    exact hs
  · exact ⟨0, 0, fun w1 e w' h' => absurd ⟨w1, e, w', h'⟩ h⟩
set_option maxHeartbeats 6400000 in
set_option maxRecDepth 100000 in
theorem early (w : World) (v0 v1 v2 : Value) (l : List St) (zs : List Int) (xs : List Sn) (t : Int) (h0 : Lst w v0 l.length (ycells l)) (h1 : Lst w v1 zs.length (icells zs)) (h2 : Lst w v2 xs.length (xcells xs)) (hl : 40 < l.length ∨ (l.length ≤ 40 ∧ 40 < zs.length) ∨ (l.length ≤ 40 ∧ zs.length ≤ 40 ∧ 40 < xs.length)) :
    Calls Try.prog 4 #[.agg #[v0, v1], v2, .int .i64 t] w fun e w' => e = .returned (.bool true) ∧ Same w w' := by
  have HAW := Lib.hid (fun w => tawake_any w)
  obtain ⟨a0, k0, rfl⟩ := h0.shape
  obtain ⟨a1, k1, rfl⟩ := h1.shape
  obtain ⟨a2, k2, rfl⟩ := h2.shape
  clear h0 h1 h2
  generalize l.length = n0 at *
  generalize zs.length = n1 at *
  generalize xs.length = n2 at *
  have c0 : ((w.alloc (.cells #[.slice a0 n0 k0, .slice a1 n1 k1] 39)).cell? ⟨w.heap.size, 0, none⟩) = some (.slice a0 n0 k0) := by go_simp
  have c1 : ((w.alloc (.cells #[.slice a0 n0 k0, .slice a1 n1 k1] 39)).cell? ⟨w.heap.size, 1, none⟩) = some (.slice a1 n1 k1) := by go_simp
  have HC := Lib.hid (And.intro c0 c1); clear c0 c1
  have HS0 := Lib.hid ((Same.refl w).alloc (.cells #[.slice a0 n0 k0, .slice a1 n1 k1] 39))
  rcases hl with hl | ⟨hl, hl2⟩ | ⟨hl, hl2, hl3⟩
  all_goals
    go_enter Try.func4, Try.ntmps4
    go_wp2_with (go_at_call 10; (with_reducible refine (HAW.out _).mono ?_); rintro e w1 ⟨rfl, hw⟩; have HB := Lib.hid (HS0.out.trans hw); have d0 := hw.cell HC.out.1; have d1 := hw.cell HC.out.2; clear hw)
    go_ret
    exact ⟨rfl, HB.out⟩
set_option maxHeartbeats 6400000 in
set_option maxRecDepth 100000 in
theorem late (w : World) (v0 v1 v2 : Value) (l : List St) (zs : List Int) (xs : List Sn) (t : Int) (h0 : Lst w v0 l.length (ycells l)) (h1 : Lst w v1 zs.length (icells zs)) (h2 : Lst w v2 xs.length (xcells xs)) (hl0 : l.length ≤ 40) (hl1 : zs.length ≤ 40) (hl2 : xs.length ≤ 40) :
    Calls Try.prog 4 #[.agg #[v0, v1], v2, .int .i64 t] w fun e w' => e = .returned (.bool true) ∧ Same w w' := by
  have HAW := Lib.hid (fun w => tawake_any w)
  have HCI := Lib.hid (fun (w1 : World) (hs : Same w w1) => (CloneI_any w1 v1 zs.length (icells zs) (h1.same hs) (icells_length zs) (icells_one zs) hl1).mono (fun e w' h => (show ∃ v', e = .returned v' ∧ Same w1 w' ∧ Lst w' v' zs.length (icells zs) from by obtain ⟨v', he, ho, hs'⟩ := h; exact ⟨v', he, hs', Lst.of_own ho⟩)))
  have HCY := Lib.hid (fun (w1 : World) (hs : Same w w1) => (CloneY_any w1 v0 l.length (ycells l) (h0.same hs) (ycells_length l) (ycells_one l) hl0).mono (fun e w' h => (show ∃ v', e = .returned v' ∧ Same w1 w' ∧ Lst w' v' l.length (ycells l) from by obtain ⟨v', he, ho, hs'⟩ := h; exact ⟨v', he, hs', Lst.of_own ho⟩)))
  have HCX := Lib.hid (fun (w1 : World) (hs : Same w w1) => (CloneX_any w1 v2 xs.length (xcells xs) (h2.same hs) (xcells_length xs) (xcells_one xs) hl2).mono (fun e w' h => (show ∃ v', e = .returned v' ∧ Same w1 w' ∧ Lst w' v' xs.length (xcells xs) from by obtain ⟨v', he, ho, hs'⟩ := h; exact ⟨v', he, hs', Lst.of_own ho⟩)))
  have hd := fun (w1 : World) (v : Value) (h : Lst w1 v zs.length (icells zs)) => (Depths_any w1 v zs h (by omega)).mono (fun e w' h => h.uni)
  have hd2 := fun (w1 : World) (hs : Same w w1) => (Depths2_any w1 v1 zs (h1.same hs) (by omega)).mono (fun e w' h => h.uni)
  have hr := fun (w1 : World) (u0 u1 u2 : Value) (g0 : Lst w1 u0 l.length (ycells l)) (g1 : Lst w1 u1 zs.length (icells zs)) (g2 : Lst w1 u2 xs.length (xcells xs)) => (Run_any w1 u0 u1 u2 l zs xs g0 g1 g2 (by omega) (by omega) (by omega)).mono (fun e w' h => h.uni)
  have hr2 := fun (w1 : World) (hs : Same w w1) => (Run2_any w1 v0 v1 v2 l zs xs (h0.same hs) (h1.same hs) (h2.same hs) (by omega)).mono (fun e w' h => h.uni)
  obtain ⟨M, sx, hM⟩ := spr_two l t
  have HSP := Lib.hid (fun (w1 : World) (v : Value) (h : Lst w1 v l.length (ycells l)) => (Spread_any w1 v l t h (by omega)).mono (fun e w' h => hM _ _ _ h))
  have HSP2 := Lib.hid (fun (w1 : World) (hs : Same w w1) => (Spread2_any w1 v0 l t (h0.same hs) (by omega)).mono (fun e w' h => hM _ _ _ h))
  have hdl := depU_length zs
  have hrl := runU_length l zs xs
  generalize depU zs = DU at *
  generalize runU l zs xs = RU at *
  obtain ⟨DU, dx⟩ := DU
  obtain ⟨RU, ri, re⟩ := RU
  have HEI := Lib.hid (fun (w1 : World) (u1 u2 : Value) (g1 : Lst w1 u1 DU.length (icells DU)) (g2 : Lst w1 u2 DU.length (icells DU)) => EqualI_any w1 u1 u2 DU g1 g2 (by simp only at hdl; omega))
  have HSY := Lib.hid (fun (w1 : World) (u1 u2 : Value) (g1 : Lst w1 u1 RU.length (ycells RU)) (g2 : Lst w1 u2 RU.length (ycells RU)) => SameY_any w1 u1 u2 RU g1 g2 (by simp only at hrl; omega))
  have HD := Lib.hid hd; clear hd
  have HD2 := Lib.hid hd2; clear hd2
  have HR := Lib.hid hr; clear hr
  have HR2 := Lib.hid hr2; clear hr2 hM hdl hrl
  obtain ⟨a0, k0, rfl⟩ := h0.shape
  obtain ⟨a1, k1, rfl⟩ := h1.shape
  obtain ⟨a2, k2, rfl⟩ := h2.shape
  clear h0 h1 h2
  generalize l.length = n0 at *
  generalize zs.length = n1 at *
  generalize xs.length = n2 at *
  have c0 : ((w.alloc (.cells #[.slice a0 n0 k0, .slice a1 n1 k1] 39)).cell? ⟨w.heap.size, 0, none⟩) = some (.slice a0 n0 k0) := by go_simp
  have c1 : ((w.alloc (.cells #[.slice a0 n0 k0, .slice a1 n1 k1] 39)).cell? ⟨w.heap.size, 1, none⟩) = some (.slice a1 n1 k1) := by go_simp
  have HC := Lib.hid (And.intro c0 c1); clear c0 c1
  have HS0 := Lib.hid ((Same.refl w).alloc (.cells #[.slice a0 n0 k0, .slice a1 n1 k1] 39))
  go_enter Try.func4, Try.ntmps4
  go_wp2_with (first
    | (go_at_call 10; (with_reducible refine (HAW.out _).mono ?_); rintro e w1 ⟨rfl, hw⟩; have HB := Lib.hid (HS0.out.trans hw); have d0 := hw.cell HC.out.1; have d1 := hw.cell HC.out.2; clear hw)
    | (go_at_call 22; (with_reducible refine (HCI.out _ HB.out).mono ?_); rintro e w2 ⟨u1, rfl, hw, hL⟩; have HB2 := Lib.hid (HB.out.trans hw); replace d0 := hw.cell d0; replace d1 := hw.cell d1; have HL1 := Lib.hid hL; clear hw hL)
    | (go_at_call 21; (with_reducible refine (HD.out _ _ HL1.out).mono ?_); rintro e w3 ⟨va, rfl, hw, hL⟩; have HB3 := Lib.hid (HB2.out.trans hw); replace d0 := hw.cell d0; replace d1 := hw.cell d1; have HA := Lib.hid hL; clear hw hL)
    | (go_at_call 23; (with_reducible refine (HD2.out _ HB3.out).mono ?_); rintro e w4 ⟨vb, rfl, hw, hL⟩; have HB4 := Lib.hid (HB3.out.trans hw); replace d0 := hw.cell d0; replace d1 := hw.cell d1; have HA4 := Lib.hid (HA.out.same hw); have HBL := Lib.hid hL; clear hw hL))
  clear HB HB2 HB3 HL1 HA HAW HC HS0
  have hr4 := (Same.refl w4).drew
  have hs4 := HB4.out.drew
  go_region_held3 (fun w' => w'.cell? ⟨w.heap.size, 0, none⟩ = some (.slice a0 n0 k0) ∧ w'.cell? ⟨w.heap.size, 1, none⟩ = some (.slice a1 n1 k1) ∧ Same w w' ∧ Same w4 w')
    (first | exact ⟨d0, d1, hs4, hr4⟩ | exact keepT (by assumption) (by assumption) | assumption)
    (first
      | (go_at_call 22; refine (HCI.out _ (by first | exact hs4 | exact (by assumption : _ ∧ _ ∧ Same w _ ∧ _).2.2.1)).mono ?_; rintro e w5 ⟨u1, rfl, hk5, hL5⟩)
      | (go_at_call 25; refine (HCY.out _ (by first | exact hs4 | exact (by assumption : _ ∧ _ ∧ Same w _ ∧ _).2.2.1)).mono ?_; rintro e w6 ⟨u0, rfl, hk6, hL6⟩)
      | (go_at_call 26; refine (HCX.out _ (by first | exact hs4 | exact (by assumption : _ ∧ _ ∧ Same w _ ∧ _).2.2.1)).mono ?_; rintro e w7 ⟨u2, rfl, hk7, hL7⟩)
      | (go_at_call 24; refine (HR.out _ _ _ _ (by first | assumption | exact hL6.same (by first | assumption | exact Same.trans (by assumption) (by assumption))) (by first | assumption | exact hL5.same (by first | assumption | exact Same.trans (by assumption) (by assumption))) (by first | assumption | exact hL7.same (by first | assumption | exact Same.trans (by assumption) (by assumption)))).mono ?_; rintro e w8 ⟨vc, rfl, hk8, hL8⟩))
  obtain ⟨e0, e1, hs8, hr8⟩ := (by assumption : w8.cell? ⟨w.heap.size, 0, none⟩ = some (.slice a0 n0 k0) ∧ w8.cell? ⟨w.heap.size, 1, none⟩ = some (.slice a1 n1 k1) ∧ Same w w8 ∧ Same w4 w8)
  have HS8 := Lib.hid hs8
  have HA8 := Lib.hid (HA4.out.same hr8)
  have HB8 := Lib.hid (HBL.out.same hr8)
  have HC8 := Lib.hid hL8
  clear hs8 hr8 hL8 hk8 hk7 hk6 hk5 hL7 hL6 hL5 d0 d1 hs4 hr4 HA4 HBL HB4 HR HCX HCI
  go_wp2_with (first
    | (go_at_call 27; (with_reducible refine (HR2.out _ HS8.out).mono ?_); rintro e w9 ⟨vd, rfl, hw, hL⟩; have HT9 := Lib.hid hw; replace e0 := hw.cell e0; replace e1 := hw.cell e1; have HD9 := Lib.hid hL; clear hw hL)
    | (go_at_call 25; (with_reducible refine (HCY.out _ (HS8.out.trans HT9.out)).mono ?_); rintro e w10 ⟨u4, rfl, hw, hL⟩; have HT10 := Lib.hid hw; replace e0 := hw.cell e0; replace e1 := hw.cell e1; have HL10 := Lib.hid hL; clear hw hL)
    | (go_at_call 28; (with_reducible refine (HSP.out _ _ HL10.out).mono ?_); rintro e w11 ⟨rfl, hw⟩; have HT11 := Lib.hid (HT10.out.trans hw); replace e0 := hw.cell e0; replace e1 := hw.cell e1; clear hw)
    | (go_at_call 29; (with_reducible refine (HSP2.out _ ((HS8.out.trans HT9.out).trans HT11.out)).mono ?_); rintro e w12 ⟨rfl, hw⟩; have HT12 := Lib.hid (HT11.out.trans hw); clear hw)
    | (go_at_call 30; (with_reducible refine (HEI.out _ _ _ (HA8.out.same (HT9.out.trans HT12.out)) (HB8.out.same (HT9.out.trans HT12.out))).mono ?_); rintro e w13 ⟨rfl, hw⟩; have HT13 := Lib.hid (HT12.out.trans hw); clear hw)
    | (go_at_call 31; (with_reducible refine (HSY.out _ _ _ (HC8.out.same (HT9.out.trans HT13.out)) (HD9.out.same HT13.out)).mono ?_); rintro e w14 ⟨rfl, hw⟩; have HT14 := Lib.hid (HT13.out.trans hw); clear hw))
  go_ret
  exact ⟨rfl, (HS8.out.trans HT9.out).trans HT14.out⟩
theorem walk (w : World) (v0 v1 : Value) (l : List St) (zs : List Int) (h0 : LstC w v0 l.length (ycells l)) (h1 : LstC w v1 zs.length (icells zs)) (v2 : Value) (xs : List Sn) (h2 : LstC w v2 xs.length (xcells xs)) (t : Int) (_ht : -9223372036854775808 ≤ t ∧ t ≤ 9223372036854775807) :
    Calls Try.prog 4 #[.agg #[v0, v1], v2, .int .i64 t] w fun e w' => e = .returned (.bool true) ∧ Same w w' := by
  by_cases q0 : l.length ≤ 40
  · by_cases q1 : zs.length ≤ 40
    · by_cases q2 : xs.length ≤ 40
      · exact late w v0 v1 v2 l zs xs t h0.lst h1.lst h2.lst q0 q1 q2
      · exact early w v0 v1 v2 l zs xs t h0.lst h1.lst h2.lst (.inr (.inr ⟨q0, q1, by omega⟩))
    · exact early w v0 v1 v2 l zs xs t h0.lst h1.lst h2.lst (.inr (.inl ⟨q0, by omega⟩))
  · exact early w v0 v1 v2 l zs xs t h0.lst h1.lst h2.lst (.inl (by omega))
open Go.ChangeShapes Go.WideShapes Go.ChangeAt
theorem own : ownKnob Try.prog.godebug = none := by kernel_rfl

set_option maxRecDepth 100000 in
theorem lifted (os : Os) (started : os.Started) (H : Type) (enc : TypeId × Value → H) :
    ReturnsInHanded {} Try.checked os 4 .any (Rows.timesyncRunsSpec.pre6 enc Try.prog Try.f4 Rows.timesyncRunsRow.domain false) (Rows.timesyncRunsSpec.post enc Try.prog Try.f4 false true false false) := by
  refine returnsInHanded_of_change (C := Try.checked) own started (by kernel_rfl) Try.func4
    (ChangeSpec.witness6 (enc := enc) (C := Try.checked) false ⟨#[], #[.agg #[.slice none 0 0, .slice none 0 0], .slice none 0 0, .int .i64 0], []⟩ 8 (by kernel_rfl) (by kernel_rfl) (by kernel_rfl) (by kernel_rfl)) ?_
  intro W base args ds gs before hval0 hW hcnd _
  have hval : ∀ (j : Nat) t v, Try.f4.params[j]? = some t → args[j]? = some v → Value.okWide Try.prog W .any base t v := hval0
  have hW' := hW
  obtain ⟨p, q, hA0, hV, rfl, hfz, hnd⟩ := hW
  have hA : DataW.TrodAll enc Try.prog W 0 (fun _ => true) true Try.f4.params.toList args.toList ds p := hA0
  rw [Try.params4] at hA hval
  obtain ⟨v0, vs0, d0, ds0, p0, q0, hargs, rfl, rfl, h0, r0⟩ := trodAll_cons hA
  obtain ⟨v1, vs1, d1, ds1, p1, q1, rfl, rfl, rfl, h1, r1⟩ := trodAll_cons r0
  obtain ⟨v2, vs2, d2, ds2, p2, q2, rfl, rfl, rfl, h2, r2⟩ := trodAll_cons r1
  obtain ⟨rfl, rfl, rfl⟩ := trodAll_nil r2
  obtain rfl : args = #[v0, v1, v2] := by cases args; simp_all
  obtain ⟨rfl, rfl⟩ := trodVars_none hV
  obtain ⟨va0, vb0, l0, z0, rfl, hl0, hz0⟩ := open_tree (hval 0 39 v0 rfl rfl) h0
  obtain ⟨xs1, hx1⟩ := open_syncs (hval 1 40 v1 rfl rfl) h1
  obtain ⟨a2, rfl, rfl, rfl, w2⟩ := open_int Try.underlying3 (hval 2 3 v2 rfl rfl) h2
  clear hA0 hval0
  try simp only [List.append_nil] at hW'
  try simp only [List.nil_append] at hW'
  have hlt : ∀ x ∈ p0 ++ p1, x.block < W.heap.size := fun x hx => by
    have := hW'.lt x (by simpa using hx)
    simpa using this
  refine (walk W va0 vb0 l0 z0 hl0 hz0 v1 xs1 hx1 a2 (bounds_i64 w2)).mono fun e W' ⟨he, hg⟩ => ?_
  subst he
  exact ⟨_, rfl, _, _, _, [], _, [], hW', trodAll_cons_mk (shut_bool Try.underlying4 _) trodAll_mk0, trodAll_cons_mk (Below.trod Try.laidOut (by kernel_rfl) (of_decide_eq_true (by kernel_rfl)) h0 (Same.toBelow hg) (fun x hx => hlt x (by simp [hx]))) (trodAll_cons_mk (Below.trod Try.laidOut (by kernel_rfl) (of_decide_eq_true (by kernel_rfl)) h1 (Same.toBelow hg) (fun x hx => hlt x (by simp [hx]))) (trodAll_cons_mk (shut_int Try.underlying3 w2) trodAll_mk0)), rfl, (Same.toBelow hg).frame _, fun h => by cases h⟩

theorem over : Rows.timesyncRunsRow.holds Try.pinned (OpenSpec.ofChange Rows.timesyncRunsSpec) :=
  OpenClaim.holds_of_wide 4 Try.f4 rfl rfl rfl rfl rfl rfl rfl ⟨rfl, rfl, rfl, rfl, rfl⟩ rfl rfl rfl rfl rfl (by kernel_rfl) Try.func4 (by kernel_rfl)
    (of_decide_eq_true (by kernel_rfl)) (by unfold Func.isWrapper; first | (rw [if_pos (by decide +kernel)]; kernel_rfl) | (rw [if_neg (by decide +kernel)]; exact ⟨rfl, rfl⟩))
    (fun os started H enc _ => lifted os started H enc)

theorem proved : Rows.TimesyncRunsSaid :=
  over
end timesyncRuns
end Go.Proofs.Ytbnaicgeblbkoaa
