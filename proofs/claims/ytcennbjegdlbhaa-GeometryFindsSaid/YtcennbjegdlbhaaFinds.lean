/- GeometryFinds: for all sites, points and nodes the law returns true: Nearest and Hears return the specified nodes, or the specified errors. No condition on the input. -/
import Derived.Test.YtcennbjegdlbhaaHearsA
namespace Go.Proofs.Ytcennbjegdlbhaa
open Go.RowKit

namespace geometryFinds
theorem heard_len (s : Site) (i : Int) : siteB s = true → (heardL s i).1.length ≤ 1000 := fun h => by
  have hg := (good_of h).n32
  unfold heardL
  rw [if_pos h]
  split
  · have := hL_length s i.toNat s.ps.length
    simp; omega
  · simp
theorem heard_len' (s : Site) (i : Int) : (heardL s i).1.length ≤ 1000 := by
  by_cases h : siteB s = true
  · exact heard_len s i h
  · unfold heardL; rw [if_neg h]; simp
set_option maxHeartbeats 3200000 in
set_option maxRecDepth 100000 in
theorem walk (w : World) (v : Value) (s : Site) (hs : SiteAt w v s) (p1 p2 : Int) (node : Int) (_hn : -9223372036854775808 ≤ node ∧ node ≤ 9223372036854775807) :
    Calls Try.prog 5 #[v, .agg #[.int .i64 p1, .int .i64 p2], .int .i64 node] w fun e w' => e = .returned (.bool true) ∧ Same w w' := by
  have hread := hs.read
  obtain ⟨v1, v2, v3, rfl, h1, h2, h3⟩ := hread
  obtain ⟨ao1, cap1, e1⟩ := h1.shape
  obtain ⟨ao2, cap2, e2⟩ := h2.shape
  obtain ⟨ao3, cap3, e3⟩ := h3.shape
  have HAT := Lib.hid (fun (w1 : World) (h : Same (boxesN w v1 v2 v3 s.e s.n s.t p1 p2) w1) => boxesN_at h)
  have HAW := Lib.hid (awake_any (boxesN w v1 v2 v3 s.e s.n s.t p1 p2))
  clear h1 h2 h3
  obtain ⟨u, hu⟩ : ∃ u, fewB s = u := ⟨_, rfl⟩
  have hfew := fun (w1 : World) (k : Same w w1) => few_any w1 _ s (hs.same k)
  rw [hu] at hfew
  have HFEW := Lib.hid hfew; clear hfew hu
  have hn := fun (w1 : World) (k : Same w w1) => nearest_any w1 _ s (hs.same k) p1 p2
  have hn2 := fun (w1 : World) (k : Same w w1) => nearest2_any w1 _ s (hs.same k) p1 p2
  have hh := fun (w1 : World) (k : Same w w1) => hears_any w1 _ s (hs.same k) node
  have hh2 := fun (w1 : World) (k : Same w w1) => hears2_any w1 _ s (hs.same k) node
  have hlen := heard_len' s node
  generalize nearS s p1 p2 = a at *
  generalize heardL s node = b at *
  obtain ⟨a1, a2⟩ := a
  obtain ⟨zs, c⟩ := b
  have H1 := Lib.hid hn; clear hn
  have H2 := Lib.hid hn2; clear hn2
  have H3 := Lib.hid hh; clear hh
  have H4 := Lib.hid hh2; clear hh2
  have HLN := Lib.hid hlen; clear hlen
  have HEQ := Lib.hid (fun (w : World) (v1 v2 : Value) (h1 : Ints w v1 zs) (h2 : Ints w v2 zs) => equal_same w v1 v2 zs h1 h2 HLN.out)
  clear hs _hn
  subst e1 e2 e3
  generalize s.e = e at *
  generalize s.n = nn at *
  generalize s.t = t at *
  cases u
  · go_enter Try.func5, Try.ntmps5
    go_wp2_with (first
      | (go_at_call 11; (with_reducible refine HAW.out.mono ?_); rintro e w1 ⟨rfl, hw⟩; have hb := Lib.hid hw; obtain ⟨z1, z2, z3, z4, z5, z6, z7, z8, hs⟩ := HAT.out _ hw; clear hw)
      | (go_at_call 17; (with_reducible refine (HFEW.out _ hs).mono ?_); rintro e w2 ⟨rfl, hw⟩; have hb' := Lib.hid (hb.out.trans hw); clear hb hw hs z1 z2 z3 z4 z5 z6 z7 z8; have hb := hb'; clear hb'; obtain ⟨z1, z2, z3, z4, z5, z6, z7, z8, hs⟩ := HAT.out _ hb.out))
    go_ret
    exact ⟨rfl, hs⟩
  · go_enter Try.func5, Try.ntmps5
    go_wp2_with (first
      | (go_at_call 11; (with_reducible refine HAW.out.mono ?_); rintro e w1 ⟨rfl, hw⟩; have hb := Lib.hid hw; obtain ⟨z1, z2, z3, z4, z5, z6, z7, z8, hs⟩ := HAT.out _ hw; clear hw)
      | (go_at_call 17; (with_reducible refine (HFEW.out _ hs).mono ?_); rintro e w2 ⟨rfl, hw⟩; have hb' := Lib.hid (hb.out.trans hw); clear hb hw hs z1 z2 z3 z4 z5 z6 z7 z8; have hb := hb'; clear hb'; obtain ⟨z1, z2, z3, z4, z5, z6, z7, z8, hs⟩ := HAT.out _ hb.out)
      | (go_at_call 28; (with_reducible refine (H1.out _ hs).mono ?_); rintro e w3 ⟨rfl, hw⟩; have hb' := Lib.hid (hb.out.trans hw); clear hb hw hs z1 z2 z3 z4 z5 z6 z7 z8; have hb := hb'; clear hb'; obtain ⟨z1, z2, z3, z4, z5, z6, z7, z8, hs⟩ := HAT.out _ hb.out)
      | (go_at_call 29; (with_reducible refine (H2.out _ hs).mono ?_); rintro e w4 ⟨rfl, hw⟩; have hb' := Lib.hid (hb.out.trans hw); clear hb hw hs z1 z2 z3 z4 z5 z6 z7 z8; have hb := hb'; clear hb'; obtain ⟨z1, z2, z3, z4, z5, z6, z7, z8, hs⟩ := HAT.out _ hb.out)
      | (go_at_call 30; (with_reducible refine (H3.out _ hs).mono ?_); rintro e w5 ⟨V, rfl, hV, hw⟩; have HV := Lib.hid hV; have hb' := Lib.hid (hb.out.trans hw); clear hV hb hw hs z1 z2 z3 z4 z5 z6 z7 z8; have hb := hb'; clear hb'; obtain ⟨z1, z2, z3, z4, z5, z6, z7, z8, hs⟩ := HAT.out _ hb.out)
      | (go_at_call 31; (with_reducible refine (H4.out _ hs).mono ?_); rintro e w6 ⟨V', rfl, hV', hw⟩; have HVS := Lib.hid (HV.out.same hw); have HV' := Lib.hid hV'; have hb' := Lib.hid (hb.out.trans hw); clear hV' hb hw hs z1 z2 z3 z4 z5 z6 z7 z8; have hb := hb'; clear hb'; obtain ⟨z1, z2, z3, z4, z5, z6, z7, z8, hs⟩ := HAT.out _ hb.out)
      | (go_at_call 27; (with_reducible refine (HEQ.out _ _ _ HVS.out HV'.out).mono ?_); rintro e w7 ⟨rfl, hw⟩; have HF := Lib.hid (hs.trans hw); clear hw))
    go_ret
    exact ⟨rfl, HF.out⟩
open Go.ChangeShapes Go.WideShapes Go.ChangeAt
theorem own : ownKnob Try.prog.godebug = none := by kernel_rfl

set_option maxRecDepth 100000 in
theorem lifted (os : Os) (started : os.Started) (H : Type) (enc : TypeId × Value → H) :
    ReturnsInHanded {} Try.checked os 5 .any (Rows.geometryFindsSpec.pre6 enc Try.prog Try.f5 Rows.geometryFindsRow.domain false) (Rows.geometryFindsSpec.post enc Try.prog Try.f5 false true false false) := by
  refine returnsInHanded_of_change (C := Try.checked) own started (by kernel_rfl) Try.func5
    (ChangeSpec.witness6 (enc := enc) (C := Try.checked) false ⟨#[], #[.agg #[.slice none 0 0, .slice none 0 0, .slice none 0 0, .int .i64 0, .int .i64 0, .int .i64 0], .agg #[.int .i64 0, .int .i64 0], .int .i64 0], []⟩ 8 (by kernel_rfl) (by kernel_rfl) (by kernel_rfl) (by kernel_rfl)) ?_
  intro W base args ds gs before hval0 hW hcnd _
  have hval : ∀ (j : Nat) t v, Try.f5.params[j]? = some t → args[j]? = some v → Value.okWide Try.prog W .any base t v := hval0
  have hW' := hW
  obtain ⟨p, q, hA0, hV, rfl, hfz, hnd⟩ := hW
  have hA : DataW.TrodAll enc Try.prog W 0 (fun _ => true) true Try.f5.params.toList args.toList ds p := hA0
  rw [Try.params5] at hA hval
  obtain ⟨v0, vs0, d0, ds0, p0, q0, hargs, rfl, rfl, h0, r0⟩ := trodAll_cons hA
  obtain ⟨v1, vs1, d1, ds1, p1, q1, rfl, rfl, rfl, h1, r1⟩ := trodAll_cons r0
  obtain ⟨v2, vs2, d2, ds2, p2, q2, rfl, rfl, rfl, h2, r2⟩ := trodAll_cons r1
  obtain ⟨rfl, rfl, rfl⟩ := trodAll_nil r2
  obtain rfl : args = #[v0, v1, v2] := by cases args; simp_all
  obtain ⟨rfl, rfl⟩ := trodVars_none hV
  obtain ⟨s0, hs0⟩ := open_site (hval 0 34 v0 rfl rfl) h0
  obtain ⟨x11, x21, rfl, bx11, bx21⟩ := open_point (hval 1 23 v1 rfl rfl) h1
  obtain ⟨a2, rfl, rfl, rfl, w2⟩ := open_int Try.underlying3 (hval 2 3 v2 rfl rfl) h2
  clear hA0 hval0
  try simp only [List.append_nil] at hW'
  try simp only [List.nil_append] at hW'
  have hlt : ∀ x ∈ p0 ++ p1, x.block < W.heap.size := fun x hx => by
    have := hW'.lt x (by simpa using hx)
    simpa using this
  refine (walk W v0 s0 hs0 x11 x21 a2 (bounds_i64 w2)).mono fun e W' ⟨he, hg⟩ => ?_
  subst he
  exact ⟨_, rfl, _, _, _, [], _, [], hW', trodAll_cons_mk (shut_bool Try.underlying4 _) trodAll_mk0, trodAll_cons_mk (Below.trod Try.laidOut (by kernel_rfl) (of_decide_eq_true (by kernel_rfl)) h0 (Same.toBelow hg) (fun x hx => hlt x (by simp [hx]))) (trodAll_cons_mk (Below.trod Try.laidOut (by kernel_rfl) (of_decide_eq_true (by kernel_rfl)) h1 (Same.toBelow hg) (fun x hx => hlt x (by simp [hx]))) (trodAll_cons_mk (shut_int Try.underlying3 w2) trodAll_mk0)), rfl, (Same.toBelow hg).frame _, fun h => by cases h⟩

theorem over : Rows.geometryFindsRow.holds Try.pinned (OpenSpec.ofChange Rows.geometryFindsSpec) :=
  OpenClaim.holds_of_wide 5 Try.f5 rfl rfl rfl rfl rfl rfl rfl ⟨rfl, rfl, rfl, rfl, rfl⟩ rfl rfl rfl rfl rfl (by kernel_rfl) Try.func5 (by kernel_rfl)
    (of_decide_eq_true (by kernel_rfl)) (by unfold Func.isWrapper; first | (rw [if_pos (by decide +kernel)]; kernel_rfl) | (rw [if_neg (by decide +kernel)]; exact ⟨rfl, rfl⟩))
    (fun os started H enc _ => lifted os started H enc)

theorem proved : Rows.GeometryFindsSaid :=
  over
end geometryFinds
end Go.Proofs.Ytcennbjegdlbhaa
