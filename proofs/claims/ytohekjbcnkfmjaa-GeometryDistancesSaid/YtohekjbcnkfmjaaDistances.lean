/- GeometryDistances: for all sites, queries and further points the law returns true: without walls a power never grows with the distance, nor shrinks with that of the sender. No condition on the input. -/
import Derived.Test.YtohekjbcnkfmjaaDistB
import Derived.Test.YtohekjbcnkfmjaaDistC
import Derived.Test.YtohekjbcnkfmjaaDistD
namespace Go.Proofs.Ytohekjbcnkfmjaa
open Go.RowKit

namespace geometryDistances
set_option maxHeartbeats 3200000 in
set_option maxRecDepth 100000 in
theorem many (w : World) (v1 v2 v3 : Value) (ao1 ao2 ao3 : Option Addr) (l1 l2 l3 cap1 cap2 cap3 : Nat) (e1 : v1 = .slice ao1 l1 cap1) (e2 : v2 = .slice ao2 l2 cap2) (e3 : v3 = .slice ao3 l3 cap3) (e n t f1 f2 t1 t2 pw qa qb g1 g2 m : Int)
    (hfew : ∀ w1, Same w w1 → Calls Try.prog 17 #[.agg #[v1, v2, v3, .int .i64 e, .int .i64 n, .int .i64 t]] w1 fun e w' => e = .returned (.bool false) ∧ Same w1 w') :
    Calls Try.prog 9 #[.agg #[v1, v2, v3, .int .i64 e, .int .i64 n, .int .i64 t], .agg #[.int .i64 f1, .int .i64 f2, .int .i64 t1, .int .i64 t2, .int .i64 pw, .int .i64 qa, .int .i64 qb], .agg #[.int .i64 g1, .int .i64 g2, .int .i64 m]] w fun e w' => e = .returned (.bool true) ∧ Same w w' := by
  have HAW := Lib.hid (awake_any (bx w v1 v2 v3 e n t f1 f2 t1 t2 pw qa qb g1 g2 m))
  have HAT := Lib.hid (fun (w1 : World) (h : Same (bx w v1 v2 v3 e n t f1 f2 t1 t2 pw qa qb g1 g2 m) w1) => bx_at h)
  subst e1 e2 e3
  have HFEW := Lib.hid hfew; clear hfew
  go_enter Try.func9, Try.ntmps9
  go_wp2_with (go_at_call 11; (with_reducible refine HAW.out.mono ?_); rintro e w1 ⟨rfl, hw⟩; have hb := Lib.hid hw; obtain ⟨k0, k1, k2, k3, k4, k5, k6, k7, k8, k9, k10, k11, k12, k13, hs⟩ := HAT.out _ hw; have HS := Lib.hid hs; clear hw hs; have y0 := fun x y => cell_under (o := .cells #[x, y] 23) k0; have y1 := fun x y => cell_under (o := .cells #[x, y] 23) k1; have y2 := fun x y => cell_under (o := .cells #[x, y] 23) k2; have y3 := fun x y => cell_under (o := .cells #[x, y] 23) k3; have y4 := fun x y => cell_under (o := .cells #[x, y] 23) k4; have y5 := fun x y => cell_under (o := .cells #[x, y] 23) k5; have y11 := fun x y => cell_under (o := .cells #[x, y] 23) k11; have y12 := fun x y => cell_under (o := .cells #[x, y] 23) k12; have y13 := fun x y => cell_under (o := .cells #[x, y] 23) k13)
  go_region
  go_wp2_with (go_at_call 17; (with_reducible refine (HFEW.out _ ((HS.out.alloc _).drew)).mono ?_); rintro e w3 ⟨rfl, hw⟩; have HF := Lib.hid (((HS.out.alloc _).drew).trans hw); clear hw k0 k1 k2 k3 k4 k5 k6 k7 k8 k9 k10 k11 k12 k13 y0 y1 y2 y3 y4 y5 y11 y12 y13)
  go_ret
  exact ⟨rfl, HF.out⟩
theorem at_ok {s : Site} {f1 f2 p t1 t2 : Int} (h : (atS { s with ws := [] } f1 f2 p t1 t2).2 = 0) :
    In f1 ∧ In f2 ∧ In t1 ∧ In t2 ∧ 0 ≤ p ∧ (atS { s with ws := [] } f1 f2 p t1 t2).1 = baseS s.e p (max (sqS f1 f2 t1 t2) 100) := by
  unfold atS at h ⊢
  by_cases h1 : siteB { s with ws := [] } = true
  · rw [if_pos h1] at h ⊢
    by_cases h2 : argB f1 f2 p t1 t2 = true
    · rw [if_pos h2] at h ⊢
      obtain ⟨g1, g2, g3, g4, g5⟩ := arg_of h2
      exact ⟨g1, g2, g3, g4, g5.1, rfl⟩
    · rw [if_neg h2] at h; simp at h
  · rw [if_neg h1] at h; simp at h
theorem walk (w : World) (v : Value) (s : Site) (hs : SiteAt w v s) (f1 f2 t1 t2 pw qa qb g1 g2 m : Int) :
    Calls Try.prog 9 #[v, .agg #[.int .i64 f1, .int .i64 f2, .int .i64 t1, .int .i64 t2, .int .i64 pw, .int .i64 qa, .int .i64 qb], .agg #[.int .i64 g1, .int .i64 g2, .int .i64 m]] w fun e w' => e = .returned (.bool true) ∧ Same w w' := by
  have hread := hs.read
  obtain ⟨v1, v2, v3, rfl, h1, h2, h3⟩ := hread
  obtain ⟨ao1, cap1, e1⟩ := h1.shape
  obtain ⟨ao2, cap2, e2⟩ := h2.shape
  obtain ⟨ao3, cap3, e3⟩ := h3.shape
  by_cases hf : fewB s = true
  · have hfew := fun (w1 : World) (k : Same w w1) => few_any w1 _ s (hs.same k)
    rw [hf] at hfew
    have c1 := fun (w1 : World) (k : Same w w1) => at_any w1 _ { s with ws := [] } (site_at h1 h2 k) f1 f2 pw t1 t2
    have c2 := fun (w1 : World) (k : Same w w1) => at_any w1 _ { s with ws := [] } (site_at h1 h2 k) f1 f2 pw g1 g2
    have c3 := fun (w1 : World) (k : Same w w1) => at_any w1 _ { s with ws := [] } (site_at h1 h2 k) f1 f2 m t1 t2
    have b1 : (atS { s with ws := [] } f1 f2 pw t1 t2).2 = 0 → (atS { s with ws := [] } f1 f2 pw g1 g2).2 = 0 → ∀ w1, Calls Try.prog 13 #[.agg #[.int .i64 f1, .int .i64 f2], .agg #[.int .i64 t1, .int .i64 t2]] w1 fun e w' => e = .returned (.int .i64 (sqS f1 f2 t1 t2)) ∧ Same w1 w' := fun a _ w1 => by
      obtain ⟨i1, i2, i3, i4, _⟩ := at_ok a
      exact square_any f1 f2 t1 t2 i1.co i2.co i3.co i4.co w1
    have b2 : (atS { s with ws := [] } f1 f2 pw t1 t2).2 = 0 → (atS { s with ws := [] } f1 f2 pw g1 g2).2 = 0 → ∀ w1, Calls Try.prog 13 #[.agg #[.int .i64 f1, .int .i64 f2], .agg #[.int .i64 g1, .int .i64 g2]] w1 fun e w' => e = .returned (.int .i64 (sqS f1 f2 g1 g2)) ∧ Same w1 w' := fun _ a w1 => by
      obtain ⟨i1, i2, i3, i4, _⟩ := at_ok a
      exact square_any f1 f2 g1 g2 i1.co i2.co i3.co i4.co w1
    have hfin : (atS { s with ws := [] } f1 f2 pw t1 t2).2 ≠ 0 ∨ (atS { s with ws := [] } f1 f2 m t1 t2).2 ≠ 0 ∨ m < pw ∨ (atS { s with ws := [] } f1 f2 pw t1 t2).1 ≤ (atS { s with ws := [] } f1 f2 m t1 t2).1 := by
      by_cases a1 : (atS { s with ws := [] } f1 f2 pw t1 t2).2 = 0
      · by_cases a2 : (atS { s with ws := [] } f1 f2 m t1 t2).2 = 0
        · by_cases a3 : m < pw
          · exact .inr (.inr (.inl a3))
          · obtain ⟨_, _, _, _, p0, pe⟩ := at_ok a1
            obtain ⟨_, _, _, _, _, re⟩ := at_ok a2
            rw [pe, re]
            exact .inr (.inr (.inr (base_mono p0 (by omega) (by omega) (Int.le_refl _))))
        · exact .inr (.inl a2)
      · exact .inl a1
    by_cases a1 : (atS { s with ws := [] } f1 f2 pw t1 t2).2 = 0
    · by_cases a2 : (atS { s with ws := [] } f1 f2 pw g1 g2).2 = 0
      · by_cases a3 : sqS f1 f2 t1 t2 ≤ sqS f1 f2 g1 g2
        · refine mainC w v1 v2 v3 ao1 ao2 ao3 _ _ _ cap1 cap2 cap3 e1 e2 e3 s.e s.n s.t f1 f2 t1 t2 pw qa qb g1 g2 m _ _ _ _ _ _ _ _ hfew c1 c2 c3 b1 b2 a1 a2 a3 ?_ hfin
          obtain ⟨_, _, _, _, p0, pe⟩ := at_ok a1
          obtain ⟨_, _, _, _, _, qe⟩ := at_ok a2
          rw [pe, qe]
          exact base_mono p0 (Int.le_refl _) (by omega) (by omega)
        · exact mainD w v1 v2 v3 ao1 ao2 ao3 _ _ _ cap1 cap2 cap3 e1 e2 e3 s.e s.n s.t f1 f2 t1 t2 pw qa qb g1 g2 m _ _ _ _ _ _ _ _ hfew c1 c2 c3 b1 b2 a1 a2 (by omega) hfin
      · exact mainB w v1 v2 v3 ao1 ao2 ao3 _ _ _ cap1 cap2 cap3 e1 e2 e3 s.e s.n s.t f1 f2 t1 t2 pw qa qb g1 g2 m _ _ _ _ _ _ _ _ hfew c1 c2 c3 b1 b2 a1 a2 hfin
    · exact mainA w v1 v2 v3 ao1 ao2 ao3 _ _ _ cap1 cap2 cap3 e1 e2 e3 s.e s.n s.t f1 f2 t1 t2 pw qa qb g1 g2 m _ _ _ _ _ _ _ _ hfew c1 c2 c3 b1 b2 a1 hfin
  · have hfew := fun (w1 : World) (k : Same w w1) => few_any w1 _ s (hs.same k)
    rw [show fewB s = false by simpa using hf] at hfew
    exact many w v1 v2 v3 ao1 ao2 ao3 _ _ _ cap1 cap2 cap3 e1 e2 e3 s.e s.n s.t f1 f2 t1 t2 pw qa qb g1 g2 m hfew
open Go.ChangeShapes Go.WideShapes Go.ChangeAt
theorem own : ownKnob Try.prog.godebug = none := by kernel_rfl

set_option maxRecDepth 100000 in
theorem lifted (os : Os) (started : os.Started) (H : Type) (enc : TypeId × Value → H) :
    ReturnsInHanded {} Try.checked os 9 .any (Rows.geometryDistancesSpec.pre6 enc Try.prog Try.f9 Rows.geometryDistancesRow.domain false) (Rows.geometryDistancesSpec.post enc Try.prog Try.f9 false true false false) := by
  refine returnsInHanded_of_change (C := Try.checked) own started (by kernel_rfl) Try.func9
    (ChangeSpec.witness6 (enc := enc) (C := Try.checked) false ⟨#[], #[.agg #[.slice none 0 0, .slice none 0 0, .slice none 0 0, .int .i64 0, .int .i64 0, .int .i64 0], .agg #[.int .i64 0, .int .i64 0, .int .i64 0, .int .i64 0, .int .i64 0, .int .i64 0, .int .i64 0], .agg #[.int .i64 0, .int .i64 0, .int .i64 0]], []⟩ 8 (by kernel_rfl) (by kernel_rfl) (by kernel_rfl) (by kernel_rfl)) ?_
  intro W base args ds gs before hval0 hW hcnd _
  have hval : ∀ (j : Nat) t v, Try.f9.params[j]? = some t → args[j]? = some v → Value.okWide Try.prog W .any base t v := hval0
  have hW' := hW
  obtain ⟨p, q, hA0, hV, rfl, hfz, hnd⟩ := hW
  have hA : DataW.TrodAll enc Try.prog W 0 (fun _ => true) true Try.f9.params.toList args.toList ds p := hA0
  rw [Try.params9] at hA hval
  obtain ⟨v0, vs0, d0, ds0, p0, q0, hargs, rfl, rfl, h0, r0⟩ := trodAll_cons hA
  obtain ⟨v1, vs1, d1, ds1, p1, q1, rfl, rfl, rfl, h1, r1⟩ := trodAll_cons r0
  obtain ⟨v2, vs2, d2, ds2, p2, q2, rfl, rfl, rfl, h2, r2⟩ := trodAll_cons r1
  obtain ⟨rfl, rfl, rfl⟩ := trodAll_nil r2
  obtain rfl : args = #[v0, v1, v2] := by cases args; simp_all
  obtain ⟨rfl, rfl⟩ := trodVars_none hV
  obtain ⟨s0, hs0⟩ := open_site (hval 0 34 v0 rfl rfl) h0
  obtain ⟨x11, x21, x31, x41, x51, x61, x71, rfl⟩ := open_query (hval 1 36 v1 rfl rfl) h1
  obtain ⟨x12, x22, x32, rfl⟩ := open_further (hval 2 60 v2 rfl rfl) h2
  clear hA0 hval0
  try simp only [List.append_nil] at hW'
  try simp only [List.nil_append] at hW'
  have hlt : ∀ x ∈ p0 ++ p1 ++ p2, x.block < W.heap.size := fun x hx => by
    have := hW'.lt x (by simpa using hx)
    simpa using this
  refine (walk W v0 s0 hs0 x11 x21 x31 x41 x51 x61 x71 x12 x22 x32).mono fun e W' ⟨he, hg⟩ => ?_
  subst he
  exact ⟨_, rfl, _, _, _, [], _, [], hW', trodAll_cons_mk (shut_bool Try.underlying4 _) trodAll_mk0, trodAll_cons_mk (Below.trod Try.laidOut (by kernel_rfl) (of_decide_eq_true (by kernel_rfl)) h0 (Same.toBelow hg) (fun x hx => hlt x (by simp [hx]))) (trodAll_cons_mk (Below.trod Try.laidOut (by kernel_rfl) (of_decide_eq_true (by kernel_rfl)) h1 (Same.toBelow hg) (fun x hx => hlt x (by simp [hx]))) (trodAll_cons_mk (Below.trod Try.laidOut (by kernel_rfl) (of_decide_eq_true (by kernel_rfl)) h2 (Same.toBelow hg) (fun x hx => hlt x (by simp [hx]))) trodAll_mk0)), rfl, (Same.toBelow hg).frame _, fun h => by cases h⟩

theorem over : Rows.geometryDistancesRow.holds Try.pinned (OpenSpec.ofChange Rows.geometryDistancesSpec) :=
  OpenClaim.holds_of_wide 9 Try.f9 rfl rfl rfl rfl rfl rfl rfl ⟨rfl, rfl, rfl, rfl, rfl⟩ rfl rfl rfl rfl rfl (by kernel_rfl) Try.func9 (by kernel_rfl)
    (of_decide_eq_true (by kernel_rfl)) (by unfold Func.isWrapper; first | (rw [if_pos (by decide +kernel)]; kernel_rfl) | (rw [if_neg (by decide +kernel)]; exact ⟨rfl, rfl⟩))
    (fun os started H enc _ => lifted os started H enc)

theorem proved : Rows.GeometryDistancesSaid :=
  over
end geometryDistances
end Go.Proofs.Ytohekjbcnkfmjaa
