/- GeometryWalls: for all sites, walls and queries the law returns true: a further wall never strengthens a power, and one with the full factor changes nothing; powers are never greater than that of the sender. No condition on the input. -/
import Derived.Test.YtcennbjegdlbhaaWallsB
namespace Go.Proofs.Ytcennbjegdlbhaa
open Go.RowKit

namespace geometryWalls
theorem scale_le {p f : Int} (h : 0 ≤ p) : 0 ≤ (scaleS p f).1 ∧ (scaleS p f).1 ≤ p := by
  unfold scaleS
  split
  · rename_i hh
    have a := Int.mul_le_mul_of_nonneg_left hh.2.2 h
    have b := Int.mul_nonneg h hh.2.1
    simp only []
    omega
  · simp only []; omega
theorem thru_le : ∀ (ws : List Wl) (p : Int), 0 ≤ p → 0 ≤ thruS ws p ∧ thruS ws p ≤ p
  | [], p, h => ⟨h, Int.le_refl _⟩
  | v :: ws, p, h => by
    have a := scale_le (f := v.f) h
    have b := thru_le ws (scaleS p v.f).1 a.1
    have e : thruS (v :: ws) p = thruS ws (scaleS p v.f).1 := rfl
    rw [e]; omega
theorem arr_bd {s : Site} {f1 f2 p t1 t2 : Int} (h : 0 ≤ p) : 0 ≤ arrS s f1 f2 p t1 t2 ∧ arrS s f1 f2 p t1 t2 ≤ p := by
  have a := base_bd (e := s.e) (x := p) (m := max (sqS f1 f2 t1 t2) 100) h (by omega)
  have b := thru_le (crossedL f1 f2 t1 t2 s.ws) _ a.1
  unfold arrS; omega
theorem arr_more (s : Site) (v : Wl) (f1 f2 p t1 t2 : Int) : arrS { s with ws := s.ws ++ [v] } f1 f2 p t1 t2 = if crB f1 f2 t1 t2 v.a1 v.a2 v.b1 v.b2 = true then (scaleS (arrS s f1 f2 p t1 t2) v.f).1 else arrS s f1 f2 p t1 t2 := by
  unfold arrS crossedL
  rw [List.filter_append]
  by_cases h : crB f1 f2 t1 t2 v.a1 v.a2 v.b1 v.b2 = true
  · rw [if_pos h, List.filter_cons_of_pos (by simpa using h), List.filter_nil, thruS_snoc]
  · rw [if_neg h, List.filter_cons_of_neg (by simpa using h), List.filter_nil, List.append_nil]
theorem site_more {s : Site} (v : Wl) (h : siteB s = true) (hl : s.ws.length ≤ 31) : siteB { s with ws := s.ws ++ [v] } = wlB v := by
  have hg := good_of h
  unfold siteB at h ⊢
  simp only [Bool.and_eq_true] at h
  obtain ⟨h1, h2, h3⟩ := h
  simp only [h1, h3, Bool.true_and, Bool.and_true]
  unfold wallsB
  have hlen : decide ((s.ws ++ [v]).length ≤ 32) = true := by simp; omega
  rw [hlen, Bool.true_and]
  have hall : (∀ i, i < (s.ws ++ [v]).length → wlB ((s.ws ++ [v]).getD i ⟨0, 0, 0, 0, 0⟩) = true) ↔ wlB v = true := by
    constructor
    · intro hh
      have := hh s.ws.length (by simp)
      simpa using this
    · intro hv i hi
      by_cases e : i < s.ws.length
      · have := hg.wl i e
        rw [List.getD_eq_getElem?_getD, List.getElem?_append_left e]
        rw [List.getD_eq_getElem?_getD] at this; exact this
      · have : i = s.ws.length := by simp at hi; omega
        subst this
        simpa using hv
  by_cases hv : wlB v = true
  · rw [decide_eq_true (hall.2 hv), hv]
  · rw [decide_eq_false (fun h => hv (hall.1 h)), show wlB v = false by simpa using hv]
theorem at_yes {s : Site} {f1 f2 p t1 t2 : Int} (h : (atS s f1 f2 p t1 t2).2 = 0) : siteB s = true ∧ argB f1 f2 p t1 t2 = true := by
  unfold atS at h
  by_cases h1 : siteB s = true
  · by_cases h2 : argB f1 f2 p t1 t2 = true
    · exact ⟨h1, h2⟩
    · rw [if_pos h1, if_neg h2] at h; simp at h
  · rw [if_neg h1] at h; simp at h
theorem at_no {s : Site} {f1 f2 p t1 t2 : Int} (h : (atS s f1 f2 p t1 t2).2 ≠ 0) : (atS s f1 f2 p t1 t2).1 = 0 := by
  unfold atS at h ⊢
  split <;> (try split) <;> simp_all
set_option maxHeartbeats 3200000 in
set_option maxRecDepth 100000 in
/-- Too much, or refused. -/
theorem early (w : World) (v1 v2 v3 : Value) (ao1 ao2 ao3 : Option Addr) (l1 l2 l3 cap1 cap2 cap3 : Nat) (e1 : v1 = .slice ao1 l1 cap1) (e2 : v2 = .slice ao2 l2 cap2) (e3 : v3 = .slice ao3 l3 cap3)
    (e n t a1 a2 b1 b2 f f1 f2 t1 t2 pw qa qb : Int) (p pe : Int) (u : Bool)
    (hfew : ∀ w1, Same w w1 → Calls Try.prog 17 #[.agg #[v1, v2, v3, .int .i64 e, .int .i64 n, .int .i64 t]] w1 fun e w' => e = .returned (.bool u) ∧ Same w1 w')
    (h1 : ∀ w1, Same w w1 → Calls Try.prog 18 #[.agg #[v1, v2, v3, .int .i64 e, .int .i64 n, .int .i64 t], .agg #[.int .i64 f1, .int .i64 f2], .int .i64 pw, .agg #[.int .i64 t1, .int .i64 t2]] w1 fun e w' => e = .returned (.tuple #[.int .i64 p, .int .i64 pe]) ∧ Same w1 w')
    (hcase : u = false ∨ (u = true ∧ 31 < l3) ∨ (u = true ∧ l3 ≤ 31 ∧ (pe != 0) = true ∧ p = 0)) :
    Calls Try.prog 8 #[.agg #[v1, v2, v3, .int .i64 e, .int .i64 n, .int .i64 t], .agg #[.int .i64 a1, .int .i64 a2, .int .i64 b1, .int .i64 b2, .int .i64 f], .agg #[.int .i64 f1, .int .i64 f2, .int .i64 t1, .int .i64 t2, .int .i64 pw, .int .i64 qa, .int .i64 qb]] w fun e w' => e = .returned (.bool true) ∧ Same w w' := by
  have HAW := Lib.hid (awake_any (bw w v1 v2 v3 e n t a1 a2 b1 b2 f f1 f2 t1 t2 pw qa qb))
  have HN := Lib.hid (GW.new w v1 v2 v3 e n t a1 a2 b1 b2 f f1 f2 t1 t2 pw qa qb)
  subst e1 e2 e3
  have HFEW := Lib.hid hfew; clear hfew
  have H1 := Lib.hid h1; clear h1
  have hl' : (l3 : Int) ≤ 31 ∨ 31 < (l3 : Int) := by omega
  have HL := Lib.hid hl'; clear hl'
  rcases hcase with rfl | ⟨rfl, hl⟩ | ⟨rfl, hl, hpe, rfl⟩
  · go_enter Try.func8, Try.ntmps8
    go_wp2_with (first
      | (go_at_call 11; (with_reducible refine HAW.out.mono ?_); rintro e w1 ⟨rfl, hw⟩; have HG := Lib.hid (HN.out.keep hw); clear hw; obtain ⟨⟨s0, s1, s2, s3, s4, s5⟩, ⟨g0, g1, g2, g3, g4⟩, ⟨k0, k1, k2, k3, k4⟩, hs⟩ := HG.out)
      | (go_at_call 17; (with_reducible refine (HFEW.out _ hs).mono ?_); rintro e w2 ⟨rfl, hw⟩; have HG' := Lib.hid (HG.out.keep hw); clear hw hs HG s0 s1 s2 s3 s4 s5 g0 g1 g2 g3 g4 k0 k1 k2 k3 k4; have HG := HG'; clear HG'; obtain ⟨⟨s0, s1, s2, s3, s4, s5⟩, ⟨g0, g1, g2, g3, g4⟩, ⟨k0, k1, k2, k3, k4⟩, hs⟩ := HG.out))
    go_ret
    exact ⟨rfl, hs⟩
  · have hl' : 31 < (l3 : Int) := by omega
    go_enter Try.func8, Try.ntmps8
    go_wp2_with (first
      | (go_at_call 11; (with_reducible refine HAW.out.mono ?_); rintro e w1 ⟨rfl, hw⟩; have HG := Lib.hid (HN.out.keep hw); clear hw; obtain ⟨⟨s0, s1, s2, s3, s4, s5⟩, ⟨g0, g1, g2, g3, g4⟩, ⟨k0, k1, k2, k3, k4⟩, hs⟩ := HG.out)
      | (go_at_call 17; (with_reducible refine (HFEW.out _ hs).mono ?_); rintro e w2 ⟨rfl, hw⟩; have HG' := Lib.hid (HG.out.keep hw); clear hw hs HG s0 s1 s2 s3 s4 s5 g0 g1 g2 g3 g4 k0 k1 k2 k3 k4; have HG := HG'; clear HG'; obtain ⟨⟨s0, s1, s2, s3, s4, s5⟩, ⟨g0, g1, g2, g3, g4⟩, ⟨k0, k1, k2, k3, k4⟩, hs⟩ := HG.out))
    go_ret
    exact ⟨rfl, hs⟩
  · have hl' : (l3 : Int) ≤ 31 := by omega
    go_enter Try.func8, Try.ntmps8
    go_wp2_with (first
      | (go_at_call 11; (with_reducible refine HAW.out.mono ?_); rintro e w1 ⟨rfl, hw⟩; have HG := Lib.hid (HN.out.keep hw); clear hw; obtain ⟨⟨s0, s1, s2, s3, s4, s5⟩, ⟨g0, g1, g2, g3, g4⟩, ⟨k0, k1, k2, k3, k4⟩, hs⟩ := HG.out)
      | (go_at_call 17; (with_reducible refine (HFEW.out _ hs).mono ?_); rintro e w2 ⟨rfl, hw⟩; have HG' := Lib.hid (HG.out.keep hw); clear hw hs HG s0 s1 s2 s3 s4 s5 g0 g1 g2 g3 g4 k0 k1 k2 k3 k4; have HG := HG'; clear HG'; obtain ⟨⟨s0, s1, s2, s3, s4, s5⟩, ⟨g0, g1, g2, g3, g4⟩, ⟨k0, k1, k2, k3, k4⟩, hs⟩ := HG.out)
      | (go_at_call 18; (with_reducible refine (H1.out _ hs).mono ?_); rintro e w3 ⟨rfl, hw⟩; have HG' := Lib.hid (HG.out.keep hw); clear hw hs HG s0 s1 s2 s3 s4 s5 g0 g1 g2 g3 g4 k0 k1 k2 k3 k4; have HG := HG'; clear HG'; obtain ⟨⟨s0, s1, s2, s3, s4, s5⟩, ⟨g0, g1, g2, g3, g4⟩, ⟨k0, k1, k2, k3, k4⟩, hs⟩ := HG.out))
    go_ret
    exact ⟨rfl, hs⟩
theorem walk (w : World) (v : Value) (s : Site) (hs : SiteAt w v s) (a1 a2 b1 b2 f : Int) (f1 f2 t1 t2 pw qa qb : Int) :
    Calls Try.prog 8 #[v, .agg #[.int .i64 a1, .int .i64 a2, .int .i64 b1, .int .i64 b2, .int .i64 f], .agg #[.int .i64 f1, .int .i64 f2, .int .i64 t1, .int .i64 t2, .int .i64 pw, .int .i64 qa, .int .i64 qb]] w fun e w' => e = .returned (.bool true) ∧ Same w w' := by
  have hread := hs.read
  obtain ⟨v1, v2, v3, rfl, h1, h2, h3⟩ := hread
  obtain ⟨ao1, cap1, e1⟩ := h1.shape
  obtain ⟨ao2, cap2, e2⟩ := h2.shape
  obtain ⟨ao3, cap3, e3⟩ := h3.shape
  have hfew := fun (w1 : World) (k : Same w w1) => few_any w1 _ s (hs.same k)
  have hat := fun (w1 : World) (k : Same w w1) => at_any w1 _ s (hs.same k) f1 f2 pw t1 t2
  by_cases hf : fewB s = true
  · rw [hf] at hfew
    by_cases hl : s.ws.length ≤ 31
    · by_cases hpe : (atS s f1 f2 pw t1 t2).2 = 0
      · obtain ⟨hsite, harg⟩ := at_yes hpe
        obtain ⟨i1, i2, i3, i4, i5⟩ := arg_of harg
        have hA : atS s f1 f2 pw t1 t2 = (arrS s f1 f2 pw t1 t2, 0) := by unfold atS; rw [if_pos hsite, if_pos harg]
        have hbd := arr_bd (s := s) (f1 := f1) (f2 := f2) (t1 := t1) (t2 := t2) i5.1
        have hmore := site_more ⟨a1, a2, b1, b2, f⟩ hsite hl
        have hM : atS { s with ws := s.ws ++ [⟨a1, a2, b1, b2, f⟩] } f1 f2 pw t1 t2 = if wlB ⟨a1, a2, b1, b2, f⟩ then (arrS { s with ws := s.ws ++ [⟨a1, a2, b1, b2, f⟩] } f1 f2 pw t1 t2, 0) else (0, 1) := by
          unfold atS; rw [hmore, if_pos harg]
        have hsm : ∀ V (w1 : World), Same w w1 → Wls w1 V (s.ws ++ [⟨a1, a2, b1, b2, f⟩]) → SiteAt w1 (.agg #[v1, v2, V, .int .i64 s.e, .int .i64 s.n, .int .i64 s.t]) { s with ws := s.ws ++ [⟨a1, a2, b1, b2, f⟩] } :=
          fun V w1 k hV => ⟨⟨_, _, _, rfl, h1.same k, h2.same k, hV⟩⟩
        have c2 := fun V (w1 : World) (k : Same w w1) (hV : Wls w1 V (s.ws ++ [⟨a1, a2, b1, b2, f⟩])) => at_any w1 _ _ (hsm V w1 k hV) f1 f2 pw t1 t2
        have c3 := fun V (w1 : World) (k : Same w w1) (hV : Wls w1 V (s.ws ++ [⟨a1, a2, b1, b2, f⟩])) => check_any w1 _ _ (hsm V w1 k hV)
        rw [hA] at hat
        rw [hmore] at c3
        rw [hM, arr_more] at c2
        cases hw : wlB ⟨a1, a2, b1, b2, f⟩ with
        | false =>
          rw [hw] at c2 c3
          exact main w v1 v2 v3 ao1 ao2 ao3 _ _ cap1 cap2 cap3 s.ws e1 e2 e3 h3 hl s.e s.n s.t a1 a2 b1 b2 f f1 f2 t1 t2 pw qa qb _ _ 0 1 1 false hfew hat c2 c3 (fun h => absurd h (by decide)) rfl hbd.1 hbd.2 (.inl ⟨rfl, rfl⟩)
        | true =>
          rw [hw] at c2 c3
          have hwl := hw
          unfold wlB ptB at hwl
          simp only [Bool.and_eq_true, decide_eq_true_eq] at hwl
          have hcr := fun w1 => crosses_any f1 f2 t1 t2 a1 a2 b1 b2 f i1.co i2.co i3.co i4.co (by unfold Co; omega) (by unfold Co; omega) (by unfold Co; omega) (by unfold Co; omega) w1
          have hsc := scale_le (f := f) hbd.1
          have hfull : f = 1000 → (scaleS (arrS s f1 f2 pw t1 t2) f).1 = arrS s f1 f2 pw t1 t2 := fun h => by
            subst h
            unfold scaleS
            rw [if_pos ⟨⟨hbd.1, by have := i5.2; omega⟩, by decide, by decide⟩]
            simp only []
            omega
          simp only [if_true] at c2
          refine main w v1 v2 v3 ao1 ao2 ao3 _ _ cap1 cap2 cap3 s.ws e1 e2 e3 h3 hl s.e s.n s.t a1 a2 b1 b2 f f1 f2 t1 t2 pw qa qb _ _ _ _ _ _ hfew hat c2 c3 (fun _ => hcr) rfl hbd.1 hbd.2 (.inr ?_)
          cases crB f1 f2 t1 t2 a1 a2 b1 b2 with
          | false => exact .inl ⟨rfl, rfl, rfl⟩
          | true =>
            by_cases hf1 : f = 1000
            · exact .inr (.inl ⟨rfl, rfl, hf1, hfull hf1⟩)
            · exact .inr (.inr ⟨rfl, rfl, hf1, hsc.2⟩)
      · exact early w v1 v2 v3 ao1 ao2 ao3 _ _ _ cap1 cap2 cap3 e1 e2 e3 s.e s.n s.t a1 a2 b1 b2 f f1 f2 t1 t2 pw qa qb _ _ true hfew hat (.inr (.inr ⟨rfl, hl, by simpa using hpe, at_no hpe⟩))
    · exact early w v1 v2 v3 ao1 ao2 ao3 _ _ _ cap1 cap2 cap3 e1 e2 e3 s.e s.n s.t a1 a2 b1 b2 f f1 f2 t1 t2 pw qa qb _ _ true hfew hat (.inr (.inl ⟨rfl, by omega⟩))
  · rw [show fewB s = false by simpa using hf] at hfew
    exact early w v1 v2 v3 ao1 ao2 ao3 _ _ _ cap1 cap2 cap3 e1 e2 e3 s.e s.n s.t a1 a2 b1 b2 f f1 f2 t1 t2 pw qa qb _ _ false hfew hat (.inl rfl)
open Go.ChangeShapes Go.WideShapes Go.ChangeAt
theorem own : ownKnob Try.prog.godebug = none := by kernel_rfl

set_option maxRecDepth 100000 in
theorem lifted (os : Os) (started : os.Started) (H : Type) (enc : TypeId × Value → H) :
    ReturnsInHanded {} Try.checked os 8 .any (Rows.geometryWallsSpec.pre6 enc Try.prog Try.f8 Rows.geometryWallsRow.domain false) (Rows.geometryWallsSpec.post enc Try.prog Try.f8 false true false false) := by
  refine returnsInHanded_of_change (C := Try.checked) own started (by kernel_rfl) Try.func8
    (ChangeSpec.witness6 (enc := enc) (C := Try.checked) false ⟨#[], #[.agg #[.slice none 0 0, .slice none 0 0, .slice none 0 0, .int .i64 0, .int .i64 0, .int .i64 0], .agg #[.int .i64 0, .int .i64 0, .int .i64 0, .int .i64 0, .int .i64 0], .agg #[.int .i64 0, .int .i64 0, .int .i64 0, .int .i64 0, .int .i64 0, .int .i64 0, .int .i64 0]], []⟩ 8 (by kernel_rfl) (by kernel_rfl) (by kernel_rfl) (by kernel_rfl)) ?_
  intro W base args ds gs before hval0 hW hcnd _
  have hval : ∀ (j : Nat) t v, Try.f8.params[j]? = some t → args[j]? = some v → Value.okWide Try.prog W .any base t v := hval0
  have hW' := hW
  obtain ⟨p, q, hA0, hV, rfl, hfz, hnd⟩ := hW
  have hA : DataW.TrodAll enc Try.prog W 0 (fun _ => true) true Try.f8.params.toList args.toList ds p := hA0
  rw [Try.params8] at hA hval
  obtain ⟨v0, vs0, d0, ds0, p0, q0, hargs, rfl, rfl, h0, r0⟩ := trodAll_cons hA
  obtain ⟨v1, vs1, d1, ds1, p1, q1, rfl, rfl, rfl, h1, r1⟩ := trodAll_cons r0
  obtain ⟨v2, vs2, d2, ds2, p2, q2, rfl, rfl, rfl, h2, r2⟩ := trodAll_cons r1
  obtain ⟨rfl, rfl, rfl⟩ := trodAll_nil r2
  obtain rfl : args = #[v0, v1, v2] := by cases args; simp_all
  obtain ⟨rfl, rfl⟩ := trodVars_none hV
  obtain ⟨s0, hs0⟩ := open_site (hval 0 34 v0 rfl rfl) h0
  obtain ⟨x11, x21, x31, x41, x51, rfl⟩ := open_wall (hval 1 25 v1 rfl rfl) h1
  obtain ⟨x12, x22, x32, x42, x52, x62, x72, rfl⟩ := open_query (hval 2 36 v2 rfl rfl) h2
  clear hA0 hval0
  try simp only [List.append_nil] at hW'
  try simp only [List.nil_append] at hW'
  have hlt : ∀ x ∈ p0 ++ p1 ++ p2, x.block < W.heap.size := fun x hx => by
    have := hW'.lt x (by simpa using hx)
    simpa using this
  refine (walk W v0 s0 hs0 x11 x21 x31 x41 x51 x12 x22 x32 x42 x52 x62 x72).mono fun e W' ⟨he, hg⟩ => ?_
  subst he
  exact ⟨_, rfl, _, _, _, [], _, [], hW', trodAll_cons_mk (shut_bool Try.underlying4 _) trodAll_mk0, trodAll_cons_mk (Below.trod Try.laidOut (by kernel_rfl) (of_decide_eq_true (by kernel_rfl)) h0 (Same.toBelow hg) (fun x hx => hlt x (by simp [hx]))) (trodAll_cons_mk (Below.trod Try.laidOut (by kernel_rfl) (of_decide_eq_true (by kernel_rfl)) h1 (Same.toBelow hg) (fun x hx => hlt x (by simp [hx]))) (trodAll_cons_mk (Below.trod Try.laidOut (by kernel_rfl) (of_decide_eq_true (by kernel_rfl)) h2 (Same.toBelow hg) (fun x hx => hlt x (by simp [hx]))) trodAll_mk0)), rfl, (Same.toBelow hg).frame _, fun h => by cases h⟩

theorem over : Rows.geometryWallsRow.holds Try.pinned (OpenSpec.ofChange Rows.geometryWallsSpec) :=
  OpenClaim.holds_of_wide 8 Try.f8 rfl rfl rfl rfl rfl rfl rfl ⟨rfl, rfl, rfl, rfl, rfl⟩ rfl rfl rfl rfl rfl (by kernel_rfl) Try.func8 (by kernel_rfl)
    (of_decide_eq_true (by kernel_rfl)) (by unfold Func.isWrapper; first | (rw [if_pos (by decide +kernel)]; kernel_rfl) | (rw [if_neg (by decide +kernel)]; exact ⟨rfl, rfl⟩))
    (fun os started H enc _ => lifted os started H enc)

theorem proved : Rows.GeometryWallsSaid :=
  over
end geometryWalls
end Go.Proofs.Ytcennbjegdlbhaa
