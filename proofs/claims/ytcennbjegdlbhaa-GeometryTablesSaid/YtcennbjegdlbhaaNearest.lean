/- Nearest, by the package and by the reference. -/
import Derived.Test.YtcennbjegdlbhaaBetween2
namespace Go.Proofs.Ytcennbjegdlbhaa
open Go.RowKit

def dS (ps : List Pt) (p1 p2 : Int) (i : Nat) : Int := sqS (ps.getD i ⟨0, 0⟩).x (ps.getD i ⟨0, 0⟩).y p1 p2
/-- The nearest one of the first k nodes. -/
def nrS (ps : List Pt) (p1 p2 : Int) : Nat → Nat
  | 0 => 0
  | k + 1 => if dS ps p1 p2 k < dS ps p1 p2 (nrS ps p1 p2 k) then k else nrS ps p1 p2 k
theorem nrS_lt (ps : List Pt) (p1 p2 : Int) (h : 0 < ps.length) : ∀ k, k ≤ ps.length → nrS ps p1 p2 k < ps.length
  | 0, _ => h
  | k + 1, hk => by
    have := nrS_lt ps p1 p2 h k (by omega)
    unfold nrS
    split <;> omega
def nearS (s : Site) (p1 p2 : Int) : Int × Int := if siteB s then (if ptB p1 p2 then ((nrS s.ps p1 p2 s.ps.length : Nat), 0) else (0, 2)) else (0, 1)
theorem square_at (a1 a2 b1 b2 : Int) (ha1 : Co a1) (ha2 : Co a2) (hb1 : Co b1) (hb2 : Co b2) (q : Int) (hq : sqS a1 a2 b1 b2 = q) (w : World) :
    Calls Try.prog 13 #[.agg #[.int .i64 a1, .int .i64 a2], .agg #[.int .i64 b1, .int .i64 b2]] w fun e w' => e = .returned (.int .i64 q) ∧ Same w w' := hq ▸ square_any a1 a2 b1 b2 ha1 ha2 hb1 hb2 w
/-- The boxes of a site and a point. -/
abbrev boxesN (w : World) (v1 v2 v3 : Value) (e n t p1 p2 : Int) : World := (boxS w v1 v2 v3 e n t).alloc (.cells #[.int .i64 p1, .int .i64 p2] 23)
theorem boxesN_at {w w1 : World} {v1 v2 v3 : Value} {e n t p1 p2 : Int} (h : Same (boxesN w v1 v2 v3 e n t p1 p2) w1) :
    w1.cell? ⟨w.heap.size, 0, none⟩ = some v1 ∧ w1.cell? ⟨w.heap.size, 1, none⟩ = some v2 ∧ w1.cell? ⟨w.heap.size, 2, none⟩ = some v3 ∧ w1.cell? ⟨w.heap.size, 3, none⟩ = some (.int .i64 e) ∧ w1.cell? ⟨w.heap.size, 4, none⟩ = some (.int .i64 n) ∧ w1.cell? ⟨w.heap.size, 5, none⟩ = some (.int .i64 t) ∧
    w1.cell? ⟨w.heap.size + 1, 0, none⟩ = some (.int .i64 p1) ∧ w1.cell? ⟨w.heap.size + 1, 1, none⟩ = some (.int .i64 p2) ∧ Same w w1 := by
  refine ⟨h.cell ?_, h.cell ?_, h.cell ?_, h.cell ?_, h.cell ?_, h.cell ?_, h.cell ?_, h.cell ?_, Same.trans ?_ h⟩
  all_goals first | (go_simp; done) | (repeat' (first | exact Same.refl _ | apply Same.alloc))
/-- What a round reads. -/
abbrev S7 (w : World) (v1 : Value) (p1 p2 : Int) (A : Nat) (o : Nat) (x y : Int) (b o' : Nat) (x' y' : Int) (w1 : World) : Prop :=
  w1.cell? ⟨w.heap.size, 0, none⟩ = some v1 ∧ w1.cell? ⟨w.heap.size + 1, 0, none⟩ = some (.int .i64 p1) ∧ w1.cell? ⟨w.heap.size + 1, 1, none⟩ = some (.int .i64 p2) ∧ w1.cell? ⟨A, o, none⟩ = some (.int .i64 x) ∧ w1.cell? ⟨A, o + 1, none⟩ = some (.int .i64 y) ∧ w1.cell? ⟨b, o', none⟩ = some (.int .i64 x') ∧ w1.cell? ⟨b, o' + 1, none⟩ = some (.int .i64 y')
theorem keep7 {A w w1 w2 : World} {v1 : Value} {p1 p2 x y x' y' : Int} {a o b o' : Nat} (h : S7 w v1 p1 p2 a o x y b o' x' y' w1 ∧ Same A w1) (s : Same w1 w2) : S7 w v1 p1 p2 a o x y b o' x' y' w2 ∧ Same A w2 := by
  obtain ⟨⟨h0, h1, h2, h3, h4, h5, h6⟩, hs⟩ := h
  exact ⟨⟨s.cell h0, s.cell h1, s.cell h2, s.cell h3, s.cell h4, s.cell h5, s.cell h6⟩, hs.trans s⟩
set_option maxHeartbeats 3200000 in
set_option maxRecDepth 100000 in
theorem nearest_any (w : World) (v : Value) (s : Site) (h : SiteAt w v s) (p1 p2 : Int) :
    Calls Try.prog 28 #[v, .agg #[.int .i64 p1, .int .i64 p2]] w fun e w' => e = .returned (.tuple #[.int .i64 (nearS s p1 p2).1, .int .i64 (nearS s p1 p2).2]) ∧ Same w w' := by
  have hread := h.read
  obtain ⟨v1, v2, v3, rfl, h1, h2, h3⟩ := hread
  obtain ⟨ao1, cap1, e1⟩ := h1.shape
  obtain ⟨ao2, cap2, e2⟩ := h2.shape
  obtain ⟨ao3, cap3, e3⟩ := h3.shape
  have HAT := Lib.hid (fun (w1 : World) (h : Same (boxesN w v1 v2 v3 s.e s.n s.t p1 p2) w1) => boxesN_at h)
  have s0 : Same w (boxesN w v1 v2 v3 s.e s.n s.t p1 p2) := by repeat' (first | exact Same.refl _ | apply Same.alloc)
  have HS0 := Lib.hid s0
  by_cases hs : siteB s = true
  · have hc := check_at _ _ s (h.same s0) 0 (by rw [if_pos hs])
    have HC := Lib.hid hc; clear hc
    have hg := good_of hs
    have hn2 := hg.n2
    have hn32 := hg.n32
    obtain ⟨u, hu⟩ : ∃ u, ptB p1 p2 = u := ⟨_, rfl⟩
    have H1 := Lib.hid (fun w => isPoint_at p1 p2 u hu w)
    have hr : nearS s p1 p2 = if u then (((nrS s.ps p1 p2 s.ps.length : Nat) : Int), 0) else (0, 2) := by unfold nearS; rw [if_pos hs, hu]
    rw [hr]; clear hr
    cases u with
    | false =>
      clear hs h s0 h1 h2 h3 hu hg hn2 hn32
      subst e1 e2 e3
      generalize s.e = e at *
      generalize s.n = nn at *
      generalize s.t = t at *
      go_enter Try.func28, Try.ntmps28
      go_wp2_with (first
        | (go_at_call 24; (with_reducible refine HC.out.mono ?_); rintro e w1 ⟨rfl, hw⟩; have hb := Lib.hid hw; obtain ⟨z1, z2, z3, z4, z5, z6, z7, z8, hs⟩ := HAT.out _ hw; clear hw hs)
        | (go_at_call 45; (with_reducible refine (H1.out _).mono ?_); rintro e w2 ⟨rfl, hw⟩; have hb' := Lib.hid (hb.out.trans hw); clear hb hw z1 z2 z3 z4 z5 z6 z7 z8; have hb := hb'; clear hb'; obtain ⟨z1, z2, z3, z4, z5, z6, z7, z8, hs⟩ := HAT.out _ hb.out; clear hs))
      go_ret2
      exact ⟨rfl, HS0.out.trans hb.out⟩
    | true =>
      unfold ptB at hu
      simp only [Bool.and_eq_true, decide_eq_true_eq] at hu
      have cp1 : Co p1 := by unfold Co; omega
      have cp2 : Co p2 := by unfold Co; omega
      have hSQ := fun (i : Nat) (hi : i < s.ps.length) (w : World) => square_at (s.ps.getD i ⟨0, 0⟩).x (s.ps.getD i ⟨0, 0⟩).y p1 p2 (hg.pt i hi).1.co (hg.pt i hi).2.1.co cp1 cp2 (dS s.ps p1 p2 i) rfl w
      have HSQ := Lib.hid hSQ; clear hSQ
      rcases h1 with ⟨b, off, cap1', e1', h0, hcc⟩ | ⟨ao, cap, e1', e⟩
      rotate_left
      · rw [e] at hn2; simp at hn2
      subst e1' e2 e3
      clear e1
      have HCC := Lib.hid hcc; clear hcc
      have hNL := nrS_lt s.ps p1 p2 h0
      have HNL := Lib.hid hNL; clear hNL
      have l1 : (s.ps.length : Int) ≤ 32 := by omega
      clear hs h s0 h2 h3 hu hg h0 hn2 hn32 cp1 cp2
      generalize s.e = e at *
      generalize s.n = nn at *
      generalize s.t = t at *
      generalize s.ps = ps at *
      rw [if_pos rfl]
      obtain ⟨R, hR⟩ : ∃ R : Int, ((nrS ps p1 p2 ps.length : Nat) : Int) = R := ⟨_, rfl⟩
      rw [hR]
      have HR := Lib.hid hR; clear hR
      go_enter Try.func28, Try.ntmps28
      go_wp2_with (first
        | (go_at_call 24; (with_reducible refine HC.out.mono ?_); rintro e w1 ⟨rfl, hw⟩; have hb := Lib.hid hw; obtain ⟨z1, z2, z3, z4, z5, z6, z7, z8, hs⟩ := HAT.out _ hw; clear hw hs)
        | (go_at_call 45; (with_reducible refine (H1.out _).mono ?_); rintro e w2 ⟨rfl, hw⟩; have hb' := Lib.hid (hb.out.trans hw); clear hb hw z1 z2 z3 z4 z5 z6 z7 z8; have hb := hb'; clear hb'; obtain ⟨z1, z2, z3, z4, z5, z6, z7, z8, hs⟩ := HAT.out _ hb.out; clear hs))
      clear z1 z2 z3 z4 z5 z6 z7 z8
      go_loopw [7, 21] (fun x i wr => ∃ k : Nat, k ≤ ps.length ∧ i = .int .i64 k ∧ x = .int .i64 (nrS ps p1 p2 k : Nat) ∧ Same (boxesN w (.slice (some ⟨b, off, none⟩) ps.length cap1') (.slice ao2 s.zs.length cap2) (.slice ao3 s.ws.length cap3) e nn t p1 p2) wr) (fun _ i _ => ps.length - (intOf i).toNat)
      case atStart => exact ⟨0, Nat.zero_le _, rfl, rfl, hb.out⟩
      case round =>
        clear hb
        obtain ⟨k, hk, rfl, rfl, hS⟩ := hrel
        obtain ⟨z1, z2, z3, z4, z5, z6, z7, z8, hs⟩ := HAT.out _ hS
        have HS := Lib.hid hS; clear hS
        by_cases hlt : k < ps.length
        · have hnl := HNL.out k hk
          obtain ⟨g1, g2⟩ := HCC.out k hlt
          obtain ⟨g3, g4⟩ := HCC.out (nrS ps p1 p2 k) hnl
          replace g1 := hs.cell g1; replace g2 := hs.cell g2; replace g3 := hs.cell g3; replace g4 := hs.cell g4
          have Q1 := Lib.hid (HSQ.out k hlt)
          have Q2 := Lib.hid (HSQ.out (nrS ps p1 p2 k) hnl)
          have hnx : nrS ps p1 p2 (k + 1) = if dS ps p1 p2 k < dS ps p1 p2 (nrS ps p1 p2 k) then k else nrS ps p1 p2 k := rfl
          have HNX := Lib.hid hnx; clear hnx
          have HSS := Lib.hid hs; clear hs
          generalize dS ps p1 p2 (nrS ps p1 p2 k) = d2 at *
          generalize dS ps p1 p2 k = d1 at *
          generalize nrS ps p1 p2 k = r at *
          generalize (ps.getD k ⟨0, 0⟩).x = x at *
          generalize (ps.getD k ⟨0, 0⟩).y = y at *
          generalize (ps.getD r ⟨0, 0⟩).x = x' at *
          generalize (ps.getD r ⟨0, 0⟩).y = y' at *
          have n1 : (r : Int) < ps.length := by omega
          have n2 : 0 ≤ (r : Int) := by omega
          have hal : Same wr (wr.alloc (.cells #[.int .i64 x, .int .i64 y] 23)) := (Same.refl _).alloc _
          have hst : S7 w (.slice (some ⟨b, off, none⟩) ps.length cap1') p1 p2 wr.heap.size 0 x y b (off + r * 2) x' y' (wr.alloc (.cells #[.int .i64 x, .int .i64 y] 23)) ∧ Same wr (wr.alloc (.cells #[.int .i64 x, .int .i64 y] 23)) :=
            ⟨⟨hal.cell z1, hal.cell z7, hal.cell z8, by go_simp, by go_simp, hal.cell g3, hal.cell g4⟩, hal⟩
          have HST := Lib.hid hst; clear hst hal
          by_cases hd : d1 < d2
          all_goals
            go_wp2
            go_region_held3 (fun w' => S7 w (.slice (some ⟨b, off, none⟩) ps.length cap1') p1 p2 wr.heap.size 0 x y b (off + r * 2) x' y' w' ∧ Same wr w')
              (first | exact keep7 HST.out ((Same.refl _).drew) | exact keep7 (by assumption) hw5 | exact keep7 (by assumption) hw6 | assumption)
              (first
                | (go_at_call 13; (with_reducible refine (Q1.out _).mono ?_); rintro e w5 ⟨rfl, hw5⟩)
                | (go_at_call 13; (with_reducible refine (Q2.out _).mono ?_); rintro e w6 ⟨rfl, hw6⟩))
            have hfin := (by assumption : S7 w (.slice (some ⟨b, off, none⟩) ps.length cap1') p1 p2 wr.heap.size 0 x y b (off + r * 2) x' y' w6 ∧ Same wr w6).2
            have HF := Lib.hid hfin
            clear hfin z1 z2 z3 z4 z5 z6 z7 z8 g1 g2 g3 g4 hw5 hw6
            go_wp2
            go_roundw
            case rel => exact ⟨k + 1, by omega, by go_num, by rw [HNX.out]; first | rw [if_pos hd] | rw [if_neg (by omega)], HS.out.trans HF.out⟩
            case measure => simp [intOf]; omega
        · obtain rfl : k = ps.length := by omega
          have HK := Lib.hid hs; clear hs z1 z2 z3 z4 z5 z6 z7 z8
          go_wp2
          go_ret2
          exact ⟨ret2_i64 HR.out, HK.out⟩
  · have hc := check_at _ _ s (h.same s0) 1 (by rw [if_neg hs])
    have HC := Lib.hid hc; clear hc
    rw [show nearS s p1 p2 = (0, 1) by unfold nearS; rw [if_neg hs]]
    clear hs h s0 h1 h2 h3
    subst e1 e2 e3
    generalize s.e = e at *
    generalize s.n = nn at *
    generalize s.t = t at *
    go_enter Try.func28, Try.ntmps28
    go_wp2_with (go_at_call 24; (with_reducible refine HC.out.mono ?_); rintro e w1 ⟨rfl, hw⟩; have hb := Lib.hid hw; obtain ⟨z1, z2, z3, z4, z5, z6, z7, z8, hs⟩ := HAT.out _ hw; clear hw hs)
    go_ret2
    exact ⟨rfl, HS0.out.trans hb.out⟩
theorem nrS_one (ps : List Pt) (p1 p2 : Int) : nrS ps p1 p2 1 = 0 := by unfold nrS; split <;> rfl
set_option maxHeartbeats 3200000 in
set_option maxRecDepth 100000 in
theorem nearest2_any (w : World) (v : Value) (s : Site) (h : SiteAt w v s) (p1 p2 : Int) :
    Calls Try.prog 29 #[v, .agg #[.int .i64 p1, .int .i64 p2]] w fun e w' => e = .returned (.tuple #[.int .i64 (nearS s p1 p2).1, .int .i64 (nearS s p1 p2).2]) ∧ Same w w' := by
  have hread := h.read
  obtain ⟨v1, v2, v3, rfl, h1, h2, h3⟩ := hread
  obtain ⟨ao1, cap1, e1⟩ := h1.shape
  obtain ⟨ao2, cap2, e2⟩ := h2.shape
  obtain ⟨ao3, cap3, e3⟩ := h3.shape
  have HAT := Lib.hid (fun (w1 : World) (h : Same (boxesN w v1 v2 v3 s.e s.n s.t p1 p2) w1) => boxesN_at h)
  have s0 : Same w (boxesN w v1 v2 v3 s.e s.n s.t p1 p2) := by repeat' (first | exact Same.refl _ | apply Same.alloc)
  have HS0 := Lib.hid s0
  by_cases hs : siteB s = true
  · have hc := check2_at _ _ s (h.same s0) 0 (by rw [if_pos hs])
    have HC := Lib.hid hc; clear hc
    have hg := good_of hs
    have hn2 := hg.n2
    have hn32 := hg.n32
    obtain ⟨u, hu⟩ : ∃ u, ptB p1 p2 = u := ⟨_, rfl⟩
    have H1 := Lib.hid (fun w => point2_at p1 p2 u hu w)
    have hr : nearS s p1 p2 = if u then (((nrS s.ps p1 p2 s.ps.length : Nat) : Int), 0) else (0, 2) := by unfold nearS; rw [if_pos hs, hu]
    rw [hr]; clear hr
    cases u with
    | false =>
      clear hs h s0 h1 h2 h3 hu hg hn2 hn32
      subst e1 e2 e3
      generalize s.e = e at *
      generalize s.n = nn at *
      generalize s.t = t at *
      go_enter Try.func29, Try.ntmps29
      go_wp2_with (first
        | (go_at_call 25; (with_reducible refine HC.out.mono ?_); rintro e w1 ⟨rfl, hw⟩; have hb := Lib.hid hw; obtain ⟨z1, z2, z3, z4, z5, z6, z7, z8, hs⟩ := HAT.out _ hw; clear hw hs)
        | (go_at_call 48; (with_reducible refine (H1.out _).mono ?_); rintro e w2 ⟨rfl, hw⟩; have hb' := Lib.hid (hb.out.trans hw); clear hb hw z1 z2 z3 z4 z5 z6 z7 z8; have hb := hb'; clear hb'; obtain ⟨z1, z2, z3, z4, z5, z6, z7, z8, hs⟩ := HAT.out _ hb.out; clear hs))
      go_ret2
      exact ⟨rfl, HS0.out.trans hb.out⟩
    | true =>
      unfold ptB at hu
      simp only [Bool.and_eq_true, decide_eq_true_eq] at hu
      have cp1 : Co p1 := by unfold Co; omega
      have cp2 : Co p2 := by unfold Co; omega
      have hSQ := fun (i : Nat) (hi : i < s.ps.length) (w : World) => square2_at (s.ps.getD i ⟨0, 0⟩).x (s.ps.getD i ⟨0, 0⟩).y p1 p2 (hg.pt i hi).1.co (hg.pt i hi).2.1.co cp1 cp2 (dS s.ps p1 p2 i) rfl w
      have HSQ := Lib.hid hSQ; clear hSQ
      rcases h1 with ⟨b, off, cap1', e1', h0, hcc⟩ | ⟨ao, cap, e1', e⟩
      rotate_left
      · rw [e] at hn2; simp at hn2
      subst e1' e2 e3
      clear e1
      have HCC := Lib.hid hcc; clear hcc
      have hNL := nrS_lt s.ps p1 p2 h0
      have HNL := Lib.hid hNL; clear hNL
      have l1 : (s.ps.length : Int) ≤ 32 := by omega
      have l2 : 2 ≤ s.ps.length := hn2
      clear hs h s0 h2 h3 hu hg h0 hn2 hn32 cp1 cp2
      generalize s.e = e at *
      generalize s.n = nn at *
      generalize s.t = t at *
      generalize s.ps = ps at *
      rw [if_pos rfl]
      obtain ⟨R, hR⟩ : ∃ R : Int, ((nrS ps p1 p2 ps.length : Nat) : Int) = R := ⟨_, rfl⟩
      rw [hR]
      have HR := Lib.hid hR; clear hR
      go_enter Try.func29, Try.ntmps29
      go_wp2_with (first
        | (go_at_call 25; (with_reducible refine HC.out.mono ?_); rintro e w1 ⟨rfl, hw⟩; have hb := Lib.hid hw; obtain ⟨z1, z2, z3, z4, z5, z6, z7, z8, hs⟩ := HAT.out _ hw; clear hw hs)
        | (go_at_call 48; (with_reducible refine (H1.out _).mono ?_); rintro e w2 ⟨rfl, hw⟩; have hb' := Lib.hid (hb.out.trans hw); clear hb hw z1 z2 z3 z4 z5 z6 z7 z8; have hb := hb'; clear hb'; obtain ⟨z1, z2, z3, z4, z5, z6, z7, z8, hs⟩ := HAT.out _ hb.out; clear hs))
      clear z1 z2 z3 z4 z5 z6 z7 z8
      go_loopw [6, 7] (fun x i wr => ∃ k : Nat, 1 ≤ k ∧ k ≤ ps.length ∧ i = .int .i64 k ∧ x = .int .i64 (nrS ps p1 p2 k : Nat) ∧ Same (boxesN w (.slice (some ⟨b, off, none⟩) ps.length cap1') (.slice ao2 s.zs.length cap2) (.slice ao3 s.ws.length cap3) e nn t p1 p2) wr) (fun _ i _ => ps.length - (intOf i).toNat)
      case atStart => exact ⟨1, Nat.le_refl _, by omega, rfl, by rw [nrS_one]; rfl, hb.out⟩
      case round =>
        clear hb
        obtain ⟨k, hk1, hk, rfl, rfl, hS⟩ := hrel
        obtain ⟨z1, z2, z3, z4, z5, z6, z7, z8, hs⟩ := HAT.out _ hS
        have HS := Lib.hid hS; clear hS
        by_cases hlt : k < ps.length
        · have hnl := HNL.out k hk
          obtain ⟨g1, g2⟩ := HCC.out k hlt
          obtain ⟨g3, g4⟩ := HCC.out (nrS ps p1 p2 k) hnl
          replace g1 := hs.cell g1; replace g2 := hs.cell g2; replace g3 := hs.cell g3; replace g4 := hs.cell g4
          have Q1 := Lib.hid (HSQ.out k hlt)
          have Q2 := Lib.hid (HSQ.out (nrS ps p1 p2 k) hnl)
          have hnx : nrS ps p1 p2 (k + 1) = if dS ps p1 p2 k < dS ps p1 p2 (nrS ps p1 p2 k) then k else nrS ps p1 p2 k := rfl
          have HNX := Lib.hid hnx; clear hnx
          have HSS := Lib.hid hs; clear hs
          generalize dS ps p1 p2 (nrS ps p1 p2 k) = d2 at *
          generalize dS ps p1 p2 k = d1 at *
          generalize nrS ps p1 p2 k = r at *
          generalize (ps.getD k ⟨0, 0⟩).x = x at *
          generalize (ps.getD k ⟨0, 0⟩).y = y at *
          generalize (ps.getD r ⟨0, 0⟩).x = x' at *
          generalize (ps.getD r ⟨0, 0⟩).y = y' at *
          have n1 : (r : Int) < ps.length := by omega
          have n2 : 0 ≤ (r : Int) := by omega
          have hst : S7 w (.slice (some ⟨b, off, none⟩) ps.length cap1') p1 p2 b (off + k * 2) x y b (off + r * 2) x' y' wr ∧ Same wr wr := ⟨⟨z1, z7, z8, g1, g2, g3, g4⟩, Same.refl _⟩
          have HST := Lib.hid hst; clear hst
          have n3 : (k : Int) < ps.length := by omega
          have n4 : 0 ≤ (k : Int) := by omega
          by_cases hd : d1 < d2
          all_goals
            go_wp2
            go_region_held3 (fun w' => S7 w (.slice (some ⟨b, off, none⟩) ps.length cap1') p1 p2 b (off + k * 2) x y b (off + r * 2) x' y' w' ∧ Same wr w')
              (first | exact keep7 HST.out ((Same.refl _).drew) | exact keep7 (by assumption) hw5 | exact keep7 (by assumption) hw6 | assumption)
              (first
                | (go_at_call 14; (with_reducible refine (Q1.out _).mono ?_); rintro e w5 ⟨rfl, hw5⟩)
                | (go_at_call 14; (with_reducible refine (Q2.out _).mono ?_); rintro e w6 ⟨rfl, hw6⟩))
            have hfin := (by assumption : S7 w (.slice (some ⟨b, off, none⟩) ps.length cap1') p1 p2 b (off + k * 2) x y b (off + r * 2) x' y' w6 ∧ Same wr w6).2
            have HF := Lib.hid hfin
            clear hfin z1 z2 z3 z4 z5 z6 z7 z8 g1 g2 g3 g4 hw5 hw6
            go_wp2
            go_roundw
            case rel => exact ⟨k + 1, by omega, by omega, by go_num, by rw [HNX.out]; first | rw [if_pos hd] | rw [if_neg (by omega)], HS.out.trans HF.out⟩
            case measure => simp [intOf]; omega
        · obtain rfl : k = ps.length := by omega
          have HK := Lib.hid hs; clear hs
          go_wp2
          go_ret2
          exact ⟨ret2_i64 HR.out, HK.out⟩
  · have hc := check2_at _ _ s (h.same s0) 1 (by rw [if_neg hs])
    have HC := Lib.hid hc; clear hc
    rw [show nearS s p1 p2 = (0, 1) by unfold nearS; rw [if_neg hs]]
    clear hs h s0 h1 h2 h3
    subst e1 e2 e3
    generalize s.e = e at *
    generalize s.n = nn at *
    generalize s.t = t at *
    go_enter Try.func29, Try.ntmps29
    go_wp2_with (go_at_call 25; (with_reducible refine HC.out.mono ?_); rintro e w1 ⟨rfl, hw⟩; have hb := Lib.hid hw; obtain ⟨z1, z2, z3, z4, z5, z6, z7, z8, hs⟩ := HAT.out _ hw; clear hw hs)
    go_ret2
    exact ⟨rfl, HS0.out.trans hb.out⟩
end Go.Proofs.Ytcennbjegdlbhaa
