/- GeometryPowers: for all sites and queries the law returns true: Check, At, Between and Table return what is specified, or the specified errors. No condition on the input. -/
import Derived.Test.YtcennbjegdlbhaaTableC
import Derived.Test.YtcennbjegdlbhaaAt2
import Derived.Test.YtcennbjegdlbhaaBetween2
namespace Go.Proofs.Ytcennbjegdlbhaa
open Go.RowKit

namespace geometryPowers
abbrev boxesQ (w : World) (v1 v2 v3 : Value) (e n t f1 f2 t1 t2 pw qa qb : Int) : World := (boxS w v1 v2 v3 e n t).alloc (.cells #[.int .i64 f1, .int .i64 f2, .int .i64 t1, .int .i64 t2, .int .i64 pw, .int .i64 qa, .int .i64 qb] 36)
theorem boxesQ_at {w w1 : World} {v1 v2 v3 : Value} {e n t f1 f2 t1 t2 pw qa qb : Int} (h : Same (boxesQ w v1 v2 v3 e n t f1 f2 t1 t2 pw qa qb) w1) :
    w1.cell? ⟨w.heap.size, 0, none⟩ = some v1 ∧ w1.cell? ⟨w.heap.size, 1, none⟩ = some v2 ∧ w1.cell? ⟨w.heap.size, 2, none⟩ = some v3 ∧ w1.cell? ⟨w.heap.size, 3, none⟩ = some (.int .i64 e) ∧ w1.cell? ⟨w.heap.size, 4, none⟩ = some (.int .i64 n) ∧ w1.cell? ⟨w.heap.size, 5, none⟩ = some (.int .i64 t) ∧
    w1.cell? ⟨w.heap.size + 1, 0, none⟩ = some (.int .i64 f1) ∧ w1.cell? ⟨w.heap.size + 1, 1, none⟩ = some (.int .i64 f2) ∧ w1.cell? ⟨w.heap.size + 1, 2, none⟩ = some (.int .i64 t1) ∧ w1.cell? ⟨w.heap.size + 1, 3, none⟩ = some (.int .i64 t2) ∧ w1.cell? ⟨w.heap.size + 1, 4, none⟩ = some (.int .i64 pw) ∧ w1.cell? ⟨w.heap.size + 1, 5, none⟩ = some (.int .i64 qa) ∧ w1.cell? ⟨w.heap.size + 1, 6, none⟩ = some (.int .i64 qb) ∧ Same w w1 := by
  refine ⟨h.cell ?_, h.cell ?_, h.cell ?_, h.cell ?_, h.cell ?_, h.cell ?_, h.cell ?_, h.cell ?_, h.cell ?_, h.cell ?_, h.cell ?_, h.cell ?_, h.cell ?_, Same.trans ?_ h⟩
  all_goals first | (go_simp; done) | (repeat' (first | exact Same.refl _ | apply Same.alloc))
set_option maxHeartbeats 6400000 in
set_option maxRecDepth 100000 in
theorem walk (w : World) (v : Value) (s : Site) (hs : SiteAt w v s) (f1 f2 t1 t2 pw qa qb : Int) :
    Calls Try.prog 4 #[v, .agg #[.int .i64 f1, .int .i64 f2, .int .i64 t1, .int .i64 t2, .int .i64 pw, .int .i64 qa, .int .i64 qb]] w fun e w' => e = .returned (.bool true) ∧ Same w w' := by
  have hread := hs.read
  obtain ⟨v1, v2, v3, rfl, h1, h2, h3⟩ := hread
  obtain ⟨ao1, cap1, e1⟩ := h1.shape
  obtain ⟨ao2, cap2, e2⟩ := h2.shape
  obtain ⟨ao3, cap3, e3⟩ := h3.shape
  have HAT := Lib.hid (fun (w1 : World) (h : Same (boxesQ w v1 v2 v3 s.e s.n s.t f1 f2 t1 t2 pw qa qb) w1) => boxesQ_at h)
  have HAW := Lib.hid (awake_any (boxesQ w v1 v2 v3 s.e s.n s.t f1 f2 t1 t2 pw qa qb))
  clear h1 h2 h3
  obtain ⟨u, hu⟩ : ∃ u, fewB s = u := ⟨_, rfl⟩
  have hfew := fun (w1 : World) (k : Same w w1) => few_any w1 _ s (hs.same k)
  rw [hu] at hfew
  have HFEW := Lib.hid hfew; clear hfew hu
  have ha1 := fun (w1 : World) (k : Same w w1) => at_any w1 _ s (hs.same k) f1 f2 pw t1 t2
  have ha2 := fun (w1 : World) (k : Same w w1) => At2_any w1 _ s (hs.same k) f1 f2 pw t1 t2
  have hb1 := fun (w1 : World) (k : Same w w1) => between_api w1 _ s (hs.same k) qa qb
  have hb2 := fun (w1 : World) (k : Same w w1) => Between2_any w1 _ s (hs.same k) qa qb
  have ht1 := fun (w1 : World) (k : Same w w1) => table_any w1 _ s (hs.same k)
  have ht2 := fun (w1 : World) (k : Same w w1) => table2_any w1 _ s (hs.same k)
  have hc1 := fun (w1 : World) (k : Same w w1) => check_any w1 _ s (hs.same k)
  have hc2 := fun (w1 : World) (k : Same w w1) => check2_any w1 _ s (hs.same k)
  generalize atS s f1 f2 pw t1 t2 = a at *
  generalize betweenS s qa qb = b at *
  generalize (if siteB s = true then (0 : Int) else 1) = c at *
  obtain ⟨a1, a2⟩ := a
  obtain ⟨b1, b2⟩ := b
  have H1 := Lib.hid ha1; clear ha1
  have H2 := Lib.hid ha2; clear ha2
  have H3 := Lib.hid hb1; clear hb1
  have H4 := Lib.hid hb2; clear hb2
  have H5 := Lib.hid ht1; clear ht1
  have H6 := Lib.hid ht2; clear ht2
  have H7 := Lib.hid hc1; clear hc1
  have H8 := Lib.hid hc2; clear hc2
  have HEQ := Lib.hid (fun (w : World) (v1 v2 : Value) (h1 : Tbl w v1 s) (h2 : Tbl w v2 s) => eqf_any w v1 v2 s h1 h2)

  clear hs
  subst e1 e2 e3
  cases u
  · go_enter Try.func4, Try.ntmps4
    go_wp2_with (first
      | (go_at_call 11; (with_reducible refine HAW.out.mono ?_); rintro e w1 ⟨rfl, hw⟩; have hb := Lib.hid hw; obtain ⟨z1, z2, z3, z4, z5, z6, y1, y2, y3, y4, y5, y6, y7, hs⟩ := HAT.out _ hw; clear hw)
      | (go_at_call 17; (with_reducible refine (HFEW.out _ hs).mono ?_); rintro e w2 ⟨rfl, hw⟩; have hb' := Lib.hid (hb.out.trans hw); clear hw hb hs z1 z2 z3 z4 z5 z6 y1 y2 y3 y4 y5 y6 y7; have hb := hb'; clear hb'; obtain ⟨z1, z2, z3, z4, z5, z6, y1, y2, y3, y4, y5, y6, y7, hs⟩ := HAT.out _ hb.out))
    go_ret
    exact ⟨rfl, hs⟩
  · go_enter Try.func4, Try.ntmps4
    go_wp2_with (first
      | (go_at_call 11; (with_reducible refine HAW.out.mono ?_); rintro e w1 ⟨rfl, hw⟩; have hb := Lib.hid hw; obtain ⟨z1, z2, z3, z4, z5, z6, y1, y2, y3, y4, y5, y6, y7, hs⟩ := HAT.out _ hw; clear hw)
      | (go_at_call 17; (with_reducible refine (HFEW.out _ hs).mono ?_); rintro e w2 ⟨rfl, hw⟩; have hb' := Lib.hid (hb.out.trans hw); clear hw hb hs z1 z2 z3 z4 z5 z6 y1 y2 y3 y4 y5 y6 y7; have hb := hb'; clear hb'; obtain ⟨z1, z2, z3, z4, z5, z6, y1, y2, y3, y4, y5, y6, y7, hs⟩ := HAT.out _ hb.out)
      | (go_at_call 18; (with_reducible refine (H1.out _ hs).mono ?_); rintro e w3 ⟨rfl, hw⟩; have hb' := Lib.hid (hb.out.trans hw); clear hw hb hs z1 z2 z3 z4 z5 z6 y1 y2 y3 y4 y5 y6 y7; have hb := hb'; clear hb'; obtain ⟨z1, z2, z3, z4, z5, z6, y1, y2, y3, y4, y5, y6, y7, hs⟩ := HAT.out _ hb.out)
      | (go_at_call 19; (with_reducible refine (H2.out _ hs).mono ?_); rintro e w4 ⟨rfl, hw⟩; have hb' := Lib.hid (hb.out.trans hw); clear hw hb hs z1 z2 z3 z4 z5 z6 y1 y2 y3 y4 y5 y6 y7; have hb := hb'; clear hb'; obtain ⟨z1, z2, z3, z4, z5, z6, y1, y2, y3, y4, y5, y6, y7, hs⟩ := HAT.out _ hb.out)
      | (go_at_call 20; (with_reducible refine (H3.out _ hs).mono ?_); rintro e w5 ⟨rfl, hw⟩; have hb' := Lib.hid (hb.out.trans hw); clear hw hb hs z1 z2 z3 z4 z5 z6 y1 y2 y3 y4 y5 y6 y7; have hb := hb'; clear hb'; obtain ⟨z1, z2, z3, z4, z5, z6, y1, y2, y3, y4, y5, y6, y7, hs⟩ := HAT.out _ hb.out)
      | (go_at_call 21; (with_reducible refine (H4.out _ hs).mono ?_); rintro e w6 ⟨rfl, hw⟩; have hb' := Lib.hid (hb.out.trans hw); clear hw hb hs z1 z2 z3 z4 z5 z6 y1 y2 y3 y4 y5 y6 y7; have hb := hb'; clear hb'; obtain ⟨z1, z2, z3, z4, z5, z6, y1, y2, y3, y4, y5, y6, y7, hs⟩ := HAT.out _ hb.out)
      | (go_at_call 22; (with_reducible refine (H5.out _ hs).mono ?_); rintro e w7 ⟨U, rfl, hU, hw⟩; have HU := Lib.hid hU; have hb' := Lib.hid (hb.out.trans hw); clear hU hw hb hs z1 z2 z3 z4 z5 z6 y1 y2 y3 y4 y5 y6 y7; have hb := hb'; clear hb'; obtain ⟨z1, z2, z3, z4, z5, z6, y1, y2, y3, y4, y5, y6, y7, hs⟩ := HAT.out _ hb.out)
      | (go_at_call 23; (with_reducible refine (H6.out _ hs).mono ?_); rintro e w8 ⟨U', rfl, hU', hw⟩; have HU2 := Lib.hid (HU.out.same hw); have HU' := Lib.hid hU'; have hb' := Lib.hid (hb.out.trans hw); clear hU' hw hb hs z1 z2 z3 z4 z5 z6 y1 y2 y3 y4 y5 y6 y7; have hb := hb'; clear hb'; obtain ⟨z1, z2, z3, z4, z5, z6, y1, y2, y3, y4, y5, y6, y7, hs⟩ := HAT.out _ hb.out))
    have hst : S6 w (.slice ao1 s.ps.length cap1) (.slice ao2 s.zs.length cap2) (.slice ao3 s.ws.length cap3) s.e s.n s.t w8 w8 := ⟨⟨z1, z2, z3, z4, z5, z6⟩, Same.refl _⟩
    have HST := Lib.hid hst; clear hst
    have HSW := Lib.hid hs
    go_region_held3 (fun w' => S6 w (.slice ao1 s.ps.length cap1) (.slice ao2 s.zs.length cap2) (.slice ao3 s.ws.length cap3) s.e s.n s.t w8 w')
      (first | exact keep6 HST.out ((Same.refl _).drew) | exact keep6 (by assumption) hw11 | exact keep6 (by assumption) hw10 | exact keep6 (by assumption) hw9 | assumption)
      (first
        | (go_at_call 24; (with_reducible refine (H7.out _ (HSW.out.trans (by exact (by assumption : S6 w (.slice ao1 s.ps.length cap1) (.slice ao2 s.zs.length cap2) (.slice ao3 s.ws.length cap3) s.e s.n s.t w8 _).2))).mono ?_); rintro e w9 ⟨rfl, hw9⟩)
        | (go_at_call 25; (with_reducible refine (H8.out _ (HSW.out.trans (by exact (by assumption : S6 w (.slice ao1 s.ps.length cap1) (.slice ao2 s.zs.length cap2) (.slice ao3 s.ws.length cap3) s.e s.n s.t w8 _).2))).mono ?_); rintro e w10 ⟨rfl, hw10⟩)
        | (go_at_call 26; (with_reducible refine (HEQ.out _ _ _ (HU2.out.same (by exact (by assumption : S6 w (.slice ao1 s.ps.length cap1) (.slice ao2 s.zs.length cap2) (.slice ao3 s.ws.length cap3) s.e s.n s.t w8 _).2)) (HU'.out.same (by exact (by assumption : S6 w (.slice ao1 s.ps.length cap1) (.slice ao2 s.zs.length cap2) (.slice ao3 s.ws.length cap3) s.e s.n s.t w8 _).2))).mono ?_); rintro e w11 ⟨rfl, hw11⟩)
        | fail)
    have hfin := HSW.out.trans (by assumption : S6 w (.slice ao1 s.ps.length cap1) (.slice ao2 s.zs.length cap2) (.slice ao3 s.ws.length cap3) s.e s.n s.t w8 w11).2
    have HF := Lib.hid hfin
    clear hfin z1 z2 z3 z4 z5 z6 y1 y2 y3 y4 y5 y6 y7 hw9 hw10 hw11
    go_wp2
    go_ret
    exact ⟨rfl, HF.out⟩
open Go.ChangeShapes Go.WideShapes Go.ChangeAt
theorem own : ownKnob Try.prog.godebug = none := by kernel_rfl

set_option maxRecDepth 100000 in
theorem lifted (os : Os) (started : os.Started) (H : Type) (enc : TypeId × Value → H) :
    ReturnsInHanded {} Try.checked os 4 .any (Rows.geometryPowersSpec.pre6 enc Try.prog Try.f4 Rows.geometryPowersRow.domain false) (Rows.geometryPowersSpec.post enc Try.prog Try.f4 false true false false) := by
  refine returnsInHanded_of_change (C := Try.checked) own started (by kernel_rfl) Try.func4
    (ChangeSpec.witness6 (enc := enc) (C := Try.checked) false ⟨#[], #[.agg #[.slice none 0 0, .slice none 0 0, .slice none 0 0, .int .i64 0, .int .i64 0, .int .i64 0], .agg #[.int .i64 0, .int .i64 0, .int .i64 0, .int .i64 0, .int .i64 0, .int .i64 0, .int .i64 0]], []⟩ 8 (by kernel_rfl) (by kernel_rfl) (by kernel_rfl) (by kernel_rfl)) ?_
  intro W base args ds gs before hval0 hW hcnd _
  have hval : ∀ (j : Nat) t v, Try.f4.params[j]? = some t → args[j]? = some v → Value.okWide Try.prog W .any base t v := hval0
  have hW' := hW
  obtain ⟨p, q, hA0, hV, rfl, hfz, hnd⟩ := hW
  have hA : DataW.TrodAll enc Try.prog W 0 (fun _ => true) true Try.f4.params.toList args.toList ds p := hA0
  rw [Try.params4] at hA hval
  obtain ⟨v0, vs0, d0, ds0, p0, q0, hargs, rfl, rfl, h0, r0⟩ := trodAll_cons hA
  obtain ⟨v1, vs1, d1, ds1, p1, q1, rfl, rfl, rfl, h1, r1⟩ := trodAll_cons r0
  obtain ⟨rfl, rfl, rfl⟩ := trodAll_nil r1
  obtain rfl : args = #[v0, v1] := by cases args; simp_all
  obtain ⟨rfl, rfl⟩ := trodVars_none hV
  obtain ⟨s0, hs0⟩ := open_site (hval 0 34 v0 rfl rfl) h0
  obtain ⟨x11, x21, x31, x41, x51, x61, x71, rfl⟩ := open_query (hval 1 36 v1 rfl rfl) h1
  clear hA0 hval0
  try simp only [List.append_nil] at hW'
  try simp only [List.nil_append] at hW'
  have hlt : ∀ x ∈ p0 ++ p1, x.block < W.heap.size := fun x hx => by
    have := hW'.lt x (by simpa using hx)
    simpa using this
  refine (walk W v0 s0 hs0 x11 x21 x31 x41 x51 x61 x71).mono fun e W' ⟨he, hg⟩ => ?_
  subst he
  exact ⟨_, rfl, _, _, _, [], _, [], hW', trodAll_cons_mk (shut_bool Try.underlying4 _) trodAll_mk0, trodAll_cons_mk (Below.trod Try.laidOut (by kernel_rfl) (of_decide_eq_true (by kernel_rfl)) h0 (Same.toBelow hg) (fun x hx => hlt x (by simp [hx]))) (trodAll_cons_mk (Below.trod Try.laidOut (by kernel_rfl) (of_decide_eq_true (by kernel_rfl)) h1 (Same.toBelow hg) (fun x hx => hlt x (by simp [hx]))) trodAll_mk0), rfl, (Same.toBelow hg).frame _, fun h => by cases h⟩

theorem over : Rows.geometryPowersRow.holds Try.pinned (OpenSpec.ofChange Rows.geometryPowersSpec) :=
  OpenClaim.holds_of_wide 4 Try.f4 rfl rfl rfl rfl rfl rfl rfl ⟨rfl, rfl, rfl, rfl, rfl⟩ rfl rfl rfl rfl rfl (by kernel_rfl) Try.func4 (by kernel_rfl)
    (of_decide_eq_true (by kernel_rfl)) (by unfold Func.isWrapper; first | (rw [if_pos (by decide +kernel)]; kernel_rfl) | (rw [if_neg (by decide +kernel)]; exact ⟨rfl, rfl⟩))
    (fun os started H enc _ => lifted os started H enc)

theorem proved : Rows.GeometryPowersSaid :=
  over
end geometryPowers
end Go.Proofs.Ytcennbjegdlbhaa
