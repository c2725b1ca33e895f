/- The reference's powers at points and between nodes. -/
import Derived.Test.YtcennbjegdlbhaaCross2
import Derived.Test.YtcennbjegdlbhaaCheck4
import Derived.Test.YtcennbjegdlbhaaFew
namespace Go.Proofs.Ytcennbjegdlbhaa
open Go.RowKit

theorem scale_bd {p f : Int} (h : 0 ≤ p) : 0 ≤ (scaleS p f).1 ∧ (scaleS p f).1 ≤ p := by
  unfold scaleS
  split
  · rename_i hh
    have a := Int.mul_le_mul_of_nonneg_left hh.2.2 h
    have b := Int.mul_nonneg h hh.2.1
    simp only []
    omega
  · simp only []; omega
theorem thru_bd : ∀ (ws : List Wl) (p : Int), 0 ≤ p → 0 ≤ thruS ws p ∧ thruS ws p ≤ p
  | [], p, h => ⟨h, Int.le_refl _⟩
  | v :: ws, p, h => by
    have a := scale_bd (f := v.f) h
    have b := thru_bd ws (scaleS p v.f).1 a.1
    have e : thruS (v :: ws) p = thruS ws (scaleS p v.f).1 := rfl
    rw [e]; omega
/-- What the reference's loop over the walls reads. -/
abbrev S8 (w : World) (f1 f2 t1 t2 : Int) (v3 : Value) (b off : Nat) (k : Nat) (x : Wl) (w1 : World) : Prop :=
  w1.cell? ⟨w.heap.size + 1, 0, none⟩ = some (.int .i64 f1) ∧ w1.cell? ⟨w.heap.size + 1, 1, none⟩ = some (.int .i64 f2) ∧ w1.cell? ⟨w.heap.size + 1 + 1, 0, none⟩ = some (.int .i64 t1) ∧ w1.cell? ⟨w.heap.size + 1 + 1, 1, none⟩ = some (.int .i64 t2) ∧ w1.cell? ⟨w.heap.size, 2, none⟩ = some v3 ∧
  w1.cell? ⟨b, off + k * 5, none⟩ = some (.int .i64 x.a1) ∧ w1.cell? ⟨b, off + k * 5 + 1, none⟩ = some (.int .i64 x.a2) ∧ w1.cell? ⟨b, off + k * 5 + 2, none⟩ = some (.int .i64 x.b1) ∧ w1.cell? ⟨b, off + k * 5 + 3, none⟩ = some (.int .i64 x.b2) ∧ w1.cell? ⟨b, off + k * 5 + 4, none⟩ = some (.int .i64 x.f)
theorem keep8 {A w w1 w2 : World} {f1 f2 t1 t2 : Int} {v3 : Value} {b off k : Nat} {x : Wl} (h : S8 w f1 f2 t1 t2 v3 b off k x w1 ∧ Same A w1) (s : Same w1 w2) : S8 w f1 f2 t1 t2 v3 b off k x w2 ∧ Same A w2 := by
  obtain ⟨⟨h0, h1, h2, h3, h4, h5, h6, h7, h8, h9⟩, hs⟩ := h
  exact ⟨⟨s.cell h0, s.cell h1, s.cell h2, s.cell h3, s.cell h4, s.cell h5, s.cell h6, s.cell h7, s.cell h8, s.cell h9⟩, hs.trans s⟩
theorem square2_at (a1 a2 b1 b2 : Int) (ha1 : Co a1) (ha2 : Co a2) (hb1 : Co b1) (hb2 : Co b2) (q : Int) (hq : sqS a1 a2 b1 b2 = q) (w : World) :
    Calls Try.prog 14 #[.agg #[.int .i64 a1, .int .i64 a2], .agg #[.int .i64 b1, .int .i64 b2]] w fun e w' => e = .returned (.int .i64 q) ∧ Same w w' := hq ▸ square2_any a1 a2 b1 b2 ha1 ha2 hb1 hb2 w
theorem crosses2_at (a1 a2 b1 b2 c1 c2 d1 d2 f : Int) (ha1 : Co a1) (ha2 : Co a2) (hb1 : Co b1) (hb2 : Co b2) (hc1 : Co c1) (hc2 : Co c2) (hd1 : Co d1) (hd2 : Co d2) (u : Bool) (hu : crB a1 a2 b1 b2 c1 c2 d1 d2 = u) (w : World) :
    Calls Try.prog 16 #[.agg #[.int .i64 a1, .int .i64 a2], .agg #[.int .i64 b1, .int .i64 b2], .agg #[.int .i64 c1, .int .i64 c2, .int .i64 d1, .int .i64 d2, .int .i64 f]] w fun e w' => e = .returned (.bool u) ∧ Same w w' := hu ▸ crosses2_any a1 a2 b1 b2 c1 c2 d1 d2 f ha1 ha2 hb1 hb2 hc1 hc2 hd1 hd2 w
set_option maxHeartbeats 3200000 in
set_option maxRecDepth 100000 in
theorem at2_in (w : World) (v : Value) (s : Site) (h : SiteAt w v s) (f1 f2 p t1 t2 : Int) (hf1 : In f1) (hf2 : In f2) (ht1 : In t1) (ht2 : In t2) (hp : Pw p) (hws : ∀ i, i < s.ws.length → wlB (s.ws.getD i ⟨0, 0, 0, 0, 0⟩) = true) (hl32 : s.ws.length ≤ 32) (R : Int) (hR : arrS s f1 f2 p t1 t2 = R) :
    Calls Try.prog 50 #[v, .agg #[.int .i64 f1, .int .i64 f2], .int .i64 p, .agg #[.int .i64 t1, .int .i64 t2]] w fun e w' => e = .returned (.int .i64 R) ∧ Same w w' := by
  obtain ⟨v1, v2, v3, rfl, h1, h2, h3⟩ := h.read
  obtain ⟨ao1, cap1, e1⟩ := h1.shape
  obtain ⟨ao2, cap2, e2⟩ := h2.shape
  clear h1 h2 h
  obtain ⟨q, hq⟩ : ∃ q, sqS f1 f2 t1 t2 = q := ⟨_, rfl⟩
  have HSQ := Lib.hid (fun w => square2_at f1 f2 t1 t2 hf1.co hf2.co ht1.co ht2.co q hq w)
  have qb := sqS_bd hf1 hf2 ht1 ht2
  rw [hq] at qb
  obtain ⟨q1, q2⟩ := qb
  obtain ⟨B0, hB0⟩ : ∃ B0, baseS s.e p (max q 100) = B0 := ⟨_, rfl⟩
  have bb := base_bd (e := s.e) (x := p) (m := max q 100) hp.1 (by omega)
  rw [hB0] at bb
  have hR' : thruS (crossedL f1 f2 t1 t2 s.ws) B0 = R := by rw [← hR, ← hB0, ← hq]; rfl
  have HR := Lib.hid hR'
  clear hR hR'
  have HC2 := Lib.hid (fun a1 a2 b1 b2 f h1 h2 h3 h4 u hu w => crosses2_at f1 f2 t1 t2 a1 a2 b1 b2 f hf1.co hf2.co ht1.co ht2.co h1 h2 h3 h4 u hu w)
  clear hq hf1 hf2 ht1 ht2
  obtain ⟨p1, p2⟩ := hp
  obtain ⟨m, hm⟩ : ∃ m, max q 100 = m := ⟨_, rfl⟩
  rw [hm] at hB0
  have m1 : 100 ≤ m := by omega
  have q3 : 0 ≤ p * 100 / m := Int.ediv_nonneg (by omega) (by omega)
  have q4 : p * 100 / m ≤ p * 100 := Int.ediv_le_self _ (by omega)
  have HBB := Lib.hid bb; clear bb
  have HB0 := Lib.hid hB0; clear hB0
  have HWS := Lib.hid hws; clear hws
  have hl' : (s.ws.length : Int) ≤ 32 := by omega
  clear hl32
  have HAT := Lib.hid (fun (w1 : World) (h : Same (boxesA w v1 v2 v3 s.e s.n s.t f1 f2 t1 t2) w1) => boxesA_at h)
  have hmx : ∀ x y : Int, (if x < y then y else x) = max x y := fun x y => by omega
  generalize s.e = e at *
  generalize s.n = nn at *
  generalize s.t = t at *
  generalize s.ws = ws at *
  subst e1 e2
  rcases h3 with ⟨b, off, cap3, rfl, h0, hc⟩ | ⟨ao3, cap3, rfl, hws0⟩
  · have HC := Lib.hid hc; clear hc
    have hstart : (e = 4 ∧ p * 100 / m * 100 / m = B0) ∨ ((e == 4) = false ∧ p * 100 / m = B0) := by
      have hb := HB0.out
      unfold baseS at hb
      by_cases he : e = 4
      · rw [if_pos he] at hb; exact .inl ⟨he, hb⟩
      · rw [if_neg he] at hb; exact .inr ⟨by simpa using he, hb⟩
    rcases hstart with ⟨rfl, hst⟩ | ⟨he, hst⟩
    all_goals
      have HST := Lib.hid hst; clear hst
      go_enter Try.func50, Try.ntmps50
      go_wp2_with (go_at_call 14; (with_reducible refine (HSQ.out _).mono ?_); rintro e w1 ⟨rfl, hw⟩; have HW1 := Lib.hid hw; obtain ⟨z1, z2, z3, z4, z5, z6, z7, z8, z9, z10, hs⟩ := HAT.out _ hw; clear hw hs)
      clear hmx hm z1 z2 z3 z4 z5 z6 z7 z8 z9 z10
      go_loopw [10, 11] (fun x i wr => ∃ k : Nat, k ≤ ws.length ∧ i = .int .i64 k ∧ x = .int .i64 (thruS (crossedL f1 f2 t1 t2 (ws.take k)) B0) ∧ Same (boxesA w (.slice ao1 s.ps.length cap1) (.slice ao2 s.zs.length cap2) (.slice (some ⟨b, off, none⟩) ws.length cap3) _ nn t f1 f2 t1 t2) wr) (fun _ i _ => ws.length - (intOf i).toNat)
      case atStart => exact ⟨0, Nat.zero_le _, rfl, by rw [HST.out]; rfl, HW1.out⟩
      case round =>
        clear HW1
        obtain ⟨k, hk, rfl, rfl, hS⟩ := hrel
        obtain ⟨z1, z2, z3, z4, z5, z6, z7, z8, z9, z10, hs⟩ := HAT.out _ hS
        have HS := Lib.hid hS; clear hS
        by_cases hlt : k < ws.length
        · obtain ⟨g1, g2, g3, g4, g5⟩ := HC.out k hlt
          replace g1 := hs.cell g1; replace g2 := hs.cell g2; replace g3 := hs.cell g3; replace g4 := hs.cell g4; replace g5 := hs.cell g5
          have hwl := HWS.out k hlt
          have htk := crossed_take f1 f2 t1 t2 ws k hlt
          obtain ⟨xx, hxx⟩ : ∃ xx, xx = ws.getD k ⟨0, 0, 0, 0, 0⟩ := ⟨_, rfl⟩
          rw [← hxx] at g1 g2 g3 g4 g5 hwl htk
          clear hxx
          have hco : Co xx.a1 ∧ Co xx.a2 ∧ Co xx.b1 ∧ Co xx.b2 ∧ 0 ≤ xx.f ∧ xx.f ≤ 1000 := by
            unfold wlB ptB at hwl
            simp only [Bool.and_eq_true, decide_eq_true_eq] at hwl
            unfold Co; omega
          clear hwl
          obtain ⟨c1, c2, c3, c4, c5, c6⟩ := hco
          obtain ⟨u, hu⟩ : ∃ u, crB f1 f2 t1 t2 xx.a1 xx.a2 xx.b1 xx.b2 = u := ⟨_, rfl⟩
          have HCC := Lib.hid (HC2.out xx.a1 xx.a2 xx.b1 xx.b2 xx.f c1 c2 c3 c4 u hu)
          rw [hu] at htk
          have hbd := thru_bd (crossedL f1 f2 t1 t2 (ws.take k)) B0 HBB.out.1
          have hnext : thruS (crossedL f1 f2 t1 t2 (ws.take (k + 1))) B0 = if u = true then thruS (crossedL f1 f2 t1 t2 (ws.take k)) B0 * xx.f / 1000 else thruS (crossedL f1 f2 t1 t2 (ws.take k)) B0 := by
            rw [htk]
            cases u with
            | true =>
              rw [if_pos rfl, if_pos rfl, thruS_snoc]
              unfold scaleS
              rw [if_pos ⟨⟨hbd.1, by have := HBB.out.2; omega⟩, c5, c6⟩]
            | false => simp
          clear htk hu c1 c2 c3 c4
          have hbd2 := HBB.out.2
          have HNX := Lib.hid hnext; clear hnext
          generalize thruS (crossedL f1 f2 t1 t2 (ws.take k)) B0 = out at *
          have hmu := mul_bd hbd.1 (show out ≤ 68719476736 by omega) c5 c6
          obtain ⟨o1, o2⟩ := hbd
          obtain ⟨mu1, mu2⟩ := hmu
          have n1 : 0 ≤ (k : Int) := by omega
          have n2 : (k : Int) < ws.length := by omega
          clear HWS
          obtain ⟨xa1, xa2, xb1, xb2, xf⟩ := xx
          dsimp only at *
          cases u
          all_goals
            go_wp2
            go_region_held3 (fun w' => (S8 w f1 f2 t1 t2 (.slice (some ⟨b, off, none⟩) ws.length cap3) b off k ⟨xa1, xa2, xb1, xb2, xf⟩ w') ∧ Same wr w')
              (first | exact keep8 ⟨⟨z7, z8, z9, z10, z3, g1, g2, g3, g4, g5⟩, Same.refl _⟩ ((Same.refl _).drew) | exact keep8 (by assumption) hw5 | assumption)
              ((go_at_call 16; (with_reducible refine (HCC.out _).mono ?_); rintro e w5 ⟨rfl, hw5⟩))
            have hfin := (by assumption : S8 w f1 f2 t1 t2 (.slice (some ⟨b, off, none⟩) ws.length cap3) b off k ⟨xa1, xa2, xb1, xb2, xf⟩ w5 ∧ Same wr w5)
            clear z1 z2 z3 z4 z5 z6 z7 z8 z9 z10 g1 g2 g3 g4 g5 hw5
            obtain ⟨⟨j1, j2, j3, j4, j5, j6, j7, j8, j9, j10⟩, hs5⟩ := hfin
            have HS5 := Lib.hid hs5; clear hs5 j1 j2 j3 j4 j6 j7 j8 j9 hs
            go_wp2
            go_roundw
            case rel => exact ⟨k + 1, by omega, by go_num, by rw [HNX.out]; rfl, HS.out.trans HS5.out⟩
            case measure => simp [intOf]; omega
        · obtain rfl : k = ws.length := by omega
          have HK := Lib.hid hs; clear hs
          go_wp2
          go_ret
          exact ⟨ret_i64 (by rw [List.take_of_length_le (Nat.le_refl _)]; exact HR.out), HK.out⟩
  · subst hws0
    have hR0 : B0 = R := HR.out
    have HR0 := Lib.hid hR0; clear hR0
    have hstart : (e = 4 ∧ p * 100 / m * 100 / m = B0) ∨ ((e == 4) = false ∧ p * 100 / m = B0) := by
      have hb := HB0.out
      unfold baseS at hb
      by_cases he : e = 4
      · rw [if_pos he] at hb; exact .inl ⟨he, hb⟩
      · rw [if_neg he] at hb; exact .inr ⟨by simpa using he, hb⟩
    rcases hstart with ⟨rfl, hst⟩ | ⟨he, hst⟩
    all_goals
      have HST := Lib.hid hst; clear hst
      go_enter Try.func50, Try.ntmps50
      go_wp2_with (go_at_call 14; (with_reducible refine (HSQ.out _).mono ?_); rintro e w1 ⟨rfl, hw⟩; have HW1 := Lib.hid hw; obtain ⟨z1, z2, z3, z4, z5, z6, z7, z8, z9, z10, hs⟩ := HAT.out _ hw; have HSS := Lib.hid hs; clear hw hs)
      refine wp_loop_rounds 1 ?_
      rw [rounds_succ]
      go_wp2
      go_ret
      exact ⟨ret_i64 (HST.out.trans HR0.out), HSS.out⟩
/-- At. -/
theorem At2_any (w : World) (v : Value) (s : Site) (h : SiteAt w v s) (f1 f2 p t1 t2 : Int) :
    Calls Try.prog 19 #[v, .agg #[.int .i64 f1, .int .i64 f2], .int .i64 p, .agg #[.int .i64 t1, .int .i64 t2]] w fun e w' => e = .returned (.tuple #[.int .i64 (atS s f1 f2 p t1 t2).1, .int .i64 (atS s f1 f2 p t1 t2).2]) ∧ Same w w' := by
  have hread := h.read
  obtain ⟨v1, v2, v3, rfl, h1, h2, h3⟩ := hread
  obtain ⟨ao1, cap1, e1⟩ := h1.shape
  obtain ⟨ao2, cap2, e2⟩ := h2.shape
  obtain ⟨ao3, cap3, e3⟩ := h3.shape
  have HAT := Lib.hid (fun (w1 : World) (h : Same (boxesA w v1 v2 v3 s.e s.n s.t f1 f2 t1 t2) w1) => boxesA_at h)
  clear h1 h2 h3
  have s0 : Same w (boxesA w v1 v2 v3 s.e s.n s.t f1 f2 t1 t2) := by repeat' (first | exact Same.refl _ | apply Same.alloc)
  have HS0 := Lib.hid s0
  by_cases hs : siteB s = true
  · have hc := check2_at _ _ s (h.same s0) 0 (by rw [if_pos hs])
    have HC := Lib.hid hc; clear hc
    have hg := good_of hs
    obtain ⟨u1, hu1⟩ : ∃ u, ptB f1 f2 = u := ⟨_, rfl⟩
    obtain ⟨u2, hu2⟩ : ∃ u, ptB t1 t2 = u := ⟨_, rfl⟩
    obtain ⟨u3, hu3⟩ : ∃ u, pwB p = u := ⟨_, rfl⟩
    have hab : argB f1 f2 p t1 t2 = (u1 && (u2 && u3)) := by unfold argB; rw [hu1, hu2, hu3]
    have hr : atS s f1 f2 p t1 t2 = if (u1 && (u2 && u3)) then (arrS s f1 f2 p t1 t2, 0) else (0, 2) := by unfold atS; rw [if_pos hs, hab]
    rw [hr]; clear hr
    have har : (u1 && (u2 && u3)) = true → ∀ w1, Same w w1 → _ := fun hu w1 k => by
      obtain ⟨g1, g2, g3, g4, g5⟩ := arg_of (hab.trans hu)
      exact at2_in w1 _ s (h.same k) f1 f2 p t1 t2 g1 g2 g3 g4 g5 hg.wl hg.w32 _ rfl
    have HAR := Lib.hid har; clear har
    have H1 := Lib.hid (fun w => point2_at f1 f2 u1 hu1 w)
    have H2 := Lib.hid (fun w => point2_at t1 t2 u2 hu2 w)
    have H3 := Lib.hid (fun w => is_at p u3 hu3 w)
    clear hu1 hu2 hu3 hab hg hs h s0
    subst e1 e2 e3
    generalize arrS s f1 f2 p t1 t2 = R at *
    generalize s.e = e at *
    generalize s.n = nn at *
    generalize s.t = t at *
    have hcase : u1 = false ∨ (u1 = true ∧ u2 = false) ∨ (u1 = true ∧ u2 = true ∧ u3 = false) ∨ (u1 = true ∧ u2 = true ∧ u3 = true) := by cases u1 <;> cases u2 <;> cases u3 <;> simp
    rcases hcase with rfl | ⟨rfl, rfl⟩ | ⟨rfl, rfl, rfl⟩ | ⟨rfl, rfl, rfl⟩
    all_goals
      go_enter Try.func19, Try.ntmps19
      go_wp2_with (first
        | (go_at_call 25; (with_reducible refine HC.out.mono ?_); rintro e w1 ⟨rfl, hw⟩; have hb := Lib.hid hw; obtain ⟨z1, z2, z3, z4, z5, z6, z7, z8, z9, z10, hs⟩ := HAT.out _ hw; clear hw hs)
        | (go_at_call 48; (with_reducible refine (H1.out _).mono ?_); rintro e w2 ⟨rfl, hw⟩; have hb' := Lib.hid (hb.out.trans hw); clear hb hw z1 z2 z3 z4 z5 z6 z7 z8 z9 z10; have hb := hb'; clear hb'; obtain ⟨z1, z2, z3, z4, z5, z6, z7, z8, z9, z10, hs⟩ := HAT.out _ hb.out; clear hs)
        | (go_at_call 48; (with_reducible refine (H2.out _).mono ?_); rintro e w2 ⟨rfl, hw⟩; have hb' := Lib.hid (hb.out.trans hw); clear hb hw z1 z2 z3 z4 z5 z6 z7 z8 z9 z10; have hb := hb'; clear hb'; obtain ⟨z1, z2, z3, z4, z5, z6, z7, z8, z9, z10, hs⟩ := HAT.out _ hb.out; clear hs)
        | (go_at_call 49; (with_reducible refine (H3.out _).mono ?_); rintro e w' ⟨rfl, rfl⟩)
        | (go_at_call 50; refine (HAR.out rfl _ (HS0.out.trans hb.out)).mono ?_; rintro e w2 ⟨rfl, hw⟩; have hb' := Lib.hid (hb.out.trans hw); clear hb hw z1 z2 z3 z4 z5 z6 z7 z8 z9 z10; have hb := hb'; clear hb'))
      go_ret2
      exact ⟨rfl, HS0.out.trans hb.out⟩
  · have hc := check2_at _ _ s (h.same s0) 1 (by rw [if_neg hs])
    have HC := Lib.hid hc; clear hc
    have hr : atS s f1 f2 p t1 t2 = (0, 1) := by unfold atS; rw [if_neg hs]
    rw [hr]; clear hr
    clear hs h s0
    subst e1 e2 e3
    generalize s.e = e at *
    generalize s.n = nn at *
    generalize s.t = t at *
    go_enter Try.func19, Try.ntmps19
    go_wp2_with (go_at_call 25; (with_reducible refine HC.out.mono ?_); rintro e w1 ⟨rfl, hw⟩; have hb := Lib.hid hw; obtain ⟨z1, z2, z3, z4, z5, z6, z7, z8, z9, z10, hs⟩ := HAT.out _ hw; clear hw hs)
    go_ret2
    exact ⟨rfl, HS0.out.trans hb.out⟩
end Go.Proofs.Ytcennbjegdlbhaa
