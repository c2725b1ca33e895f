/- HopNewer: of two different versions that are not 128 apart exactly one is newer; for every hopping list, the list that Next returns has a newer version, and follows it, or the error is the specified one. No conditions. -/
import Derived.Test.YtffanehmlbiemaaHNewA
import Derived.Deep.Cut
import Derived.Deep.CutRange
namespace Go.Proofs.Ytffanehmlbiemaa
open Go.RowKit Go.Deep

namespace hopNewer
theorem box {w w1 : World} {v f u a b : Int} {ao : Option Addr} {n cap : Nat} (hs : Same ((w.alloc (.cells #[.int .i64 v, .int .i64 f, .int .i64 u, .slice ao n cap] 24)).alloc (.cells #[.int .i64 a, .int .i64 b] 56)) w1) : w1.cell? ⟨w.heap.size, 0, none⟩ = some (.int .i64 v) ∧ w1.cell? ⟨w.heap.size, 1, none⟩ = some (.int .i64 f) ∧ w1.cell? ⟨w.heap.size, 2, none⟩ = some (.int .i64 u) ∧ w1.cell? ⟨w.heap.size, 3, none⟩ = some (.slice ao n cap) ∧ w1.cell? ⟨w.heap.size + 1, 0, none⟩ = some (.int .i64 a) ∧ w1.cell? ⟨w.heap.size + 1, 1, none⟩ = some (.int .i64 b) :=
  ⟨hs.cell (by go_simp), hs.cell (by go_simp), hs.cell (by go_simp), hs.cell (by go_simp), hs.cell (by go_simp), hs.cell (by go_simp)⟩
theorem newH2 {w2 w4 : World} {x y z : Int} {ad : Option Addr} {n cap : Nat} {T : TypeId} (h : Same (w2.alloc (.cells #[.int .i64 x, .int .i64 y, .int .i64 z, .slice ad n cap] T)) w4) : w4.cell? ⟨w2.heap.size, 0, none⟩ = some (.int .i64 x) ∧ w4.cell? ⟨w2.heap.size, 1, none⟩ = some (.int .i64 y) ∧ w4.cell? ⟨w2.heap.size, 2, none⟩ = some (.int .i64 z) ∧ w4.cell? ⟨w2.heap.size, 3, none⟩ = some (.slice ad n cap) ∧
    w4.frozen? ⟨w2.heap.size, 0, none⟩ = false ∧ w4.frozen? ⟨w2.heap.size, 1, none⟩ = false ∧ w4.frozen? ⟨w2.heap.size, 2, none⟩ = false ∧ w4.frozen? ⟨w2.heap.size, 3, none⟩ = false :=
  rowH (h.heap (heap_alloc_new w2 _))
set_option maxHeartbeats 6400000 in
set_option maxRecDepth 100000 in
theorem early (w : World) (v f u : Int) (s : Value) (zs : List Int) (h : IL w s zs) (til a b : Int) (hl : 20 < zs.length) : Calls Try.prog 10 #[hopV v f u s, .int .i64 til, .agg #[.int .i64 a, .int .i64 b]] w fun e w' => e = .returned (.bool true) ∧ Same w w' := by
  have HAW := Lib.hid (fun w => hawake_any w)
  obtain ⟨ao, cap, rfl⟩ := h.shape
  clear h
  generalize zs.length = n at *
  have HS := Lib.hid (((Same.refl w).alloc (.cells #[.int .i64 v, .int .i64 f, .int .i64 u, .slice ao n cap] 24)).alloc (.cells #[.int .i64 a, .int .i64 b] 56))
  have HB := Lib.hid (fun (w1 : World) (hs : Same ((w.alloc (.cells #[.int .i64 v, .int .i64 f, .int .i64 u, .slice ao n cap] 24)).alloc (.cells #[.int .i64 a, .int .i64 b] 56)) w1) => box hs)
  have hl' : (20 : Int) < (n : Int) := by omega
  go_enter Try.func10, Try.ntmps10
  go_wp2_with (go_at_call 11; (with_reducible refine (HAW.out _).mono ?_); rintro e w1 ⟨rfl, hw⟩; obtain ⟨c0, c1, c2, c3, c4, c5⟩ := HB.out _ hw; have HW := Lib.hid (HS.out.trans hw); clear hw)
  go_ret
  exact ⟨rfl, HW.out⟩
set_option maxHeartbeats 6400000 in
set_option maxRecDepth 100000 in
theorem late (w : World) (v f u : Int) (s : Value) (zs : List Int) (h : IL w s zs) (til a b : Int) (hl : zs.length ≤ 20) (_ha : i64 a) (_hb : i64 b) : Calls Try.prog 10 #[hopV v f u s, .int .i64 til, .agg #[.int .i64 a, .int .i64 b]] w fun e w' => e = .returned (.bool true) ∧ Same w w' := by
  have HAW := Lib.hid (fun w => hawake_any w)
  have HCL := Lib.hid (fun (w1 : World) (hs : Same w w1) => CloneI_own w1 s zs (h.same hs) (by omega))
  have HNX := Lib.hid (fun (w1 : World) (hs : Same w w1) (s2 : Value) (h2 : IL w1 s2 zs) => Next_any w1 v f u s zs til s2 zs (h.same hs) h2 (by omega) (by omega))
  have HIL := Lib.hid (fun (w1 : World) (hs : Same w w1) => h.same hs)
  have hnc := next_cases v f u zs til
  obtain ⟨ao, cap, rfl⟩ := h.shape
  clear h
  have HS := Lib.hid (((Same.refl w).alloc (.cells #[.int .i64 v, .int .i64 f, .int .i64 u, .slice ao zs.length cap] 24)).alloc (.cells #[.int .i64 a, .int .i64 b] 56))
  have HB := Lib.hid (fun (w1 : World) (hs : Same ((w.alloc (.cells #[.int .i64 v, .int .i64 f, .int .i64 u, .slice ao zs.length cap] 24)).alloc (.cells #[.int .i64 a, .int .i64 b] 56)) w1) => box hs)
  have r1 : decide ((20 : Int) < (zs.length : Int)) = false := decide_eq_false (by omega)
  have hmx : ∀ x y : Int, (if x < y then y else x) = max x y := fun x y => by by_cases q : x < y <;> simp [q] <;> omega
  have HNA := Lib.hid (fun (w1 : World) => Newer_any a b w1)
  have HNB := Lib.hid (fun (w1 : World) => Newer_any b a w1)
  obtain ⟨⟨⟨R0, R1, R2, R3⟩, RE⟩, hR⟩ : ∃ R, nextS v f u zs til zs = R := ⟨_, rfl⟩
  rw [hR] at HNX hnc
  have HNC := Lib.hid hnc; clear hnc hR
  go_enter Try.func10, Try.ntmps10
  go_wp2_with (go_at_call 11; (with_reducible refine (HAW.out _).mono ?_); rintro e w2 ⟨rfl, hw⟩; obtain ⟨c0, c1, c2, c3, c4, c5⟩ := HB.out _ hw; have HW := Lib.hid hw; clear hw)
  go_quiet (fail)
  go_step
  go_step
  go_step
  go_cut [9] from 22 to 70 (fun _s9 wx => Same w2 wx)
  case first =>
    have hsw := (Same.refl w2).drewN nq
    clear HCL HNX HIL HNC HS HB HW c0 c1 c2 c3 c4 c5 HAW
    by_cases hv : (0 ≤ a ∧ a ≤ 255) ∧ (0 ≤ b ∧ b ≤ 255)
    · obtain ⟨k1, k2⟩ := newB_two hv.1 hv.2
      obtain ⟨⟨h1, h2⟩, h3, h4⟩ := hv
      generalize newB a b = n1 at *
      generalize newB b a = n2 at *
      have d1 : IntKind.i64.wrap (a - b) = a - b := IntWalk.i64_in _ (by omega)
      have d2 : IntKind.i64.wrap (b - a) = b - a := IntWalk.i64_in _ (by omega)
      obtain ⟨D, hD⟩ : ∃ D, max (a - b) (b - a) = D := ⟨_, rfl⟩
      rw [hD] at k1
      have e1 : (D == 0) = decide (D = 0) := by by_cases q : D = 0 <;> simp [q]
      have e2 : (D == 128) = decide (D = 128) := by by_cases q : D = 128 <;> simp [q]
      cases n1 with
      | true =>
        cases n2 with
        | true => simp at k2
        | false =>
          have q1 : ¬ D = 0 := fun q => by rw [q] at k1; simp at k1
          have q2 : ¬ D = 128 := fun q => by rw [q] at k1; simp at k1
          rw [decide_eq_false q1] at e1
          rw [decide_eq_false q2] at e2
          have e3 : (D != 0) = true := by simpa using q1
          have e4 : (D != 128) = true := by simpa using q2
          clear k1 k2
          go_wp2_with (first
            | (go_at_call 34; (with_reducible refine (HNA.out _).mono ?_); rintro e w3 ⟨rfl, hw⟩; replace hw := hw.symm; subst hw)
            | (go_at_call 34; (with_reducible refine (HNB.out _).mono ?_); rintro e w3 ⟨rfl, hw⟩; replace hw := hw.symm; subst hw))
          go_meet
          exact hsw
      | false =>
        cases n2 with
        | true =>
          have q1 : ¬ D = 0 := fun q => by rw [q] at k1; simp at k1
          have q2 : ¬ D = 128 := fun q => by rw [q] at k1; simp at k1
          rw [decide_eq_false q1] at e1
          rw [decide_eq_false q2] at e2
          have e3 : (D != 0) = true := by simpa using q1
          have e4 : (D != 128) = true := by simpa using q2
          clear k1 k2
          go_wp2_with (first
            | (go_at_call 34; (with_reducible refine (HNA.out _).mono ?_); rintro e w3 ⟨rfl, hw⟩; replace hw := hw.symm; subst hw)
            | (go_at_call 34; (with_reducible refine (HNB.out _).mono ?_); rintro e w3 ⟨rfl, hw⟩; replace hw := hw.symm; subst hw))
          go_meet
          exact hsw
        | false =>
          by_cases q1 : D = 0
          · rw [decide_eq_true q1] at e1
            have e3 : (D != 0) = false := by simpa using q1
            clear k1 k2 e2
            go_wp2_with (first
              | (go_at_call 34; (with_reducible refine (HNA.out _).mono ?_); rintro e w3 ⟨rfl, hw⟩; replace hw := hw.symm; subst hw)
              | (go_at_call 34; (with_reducible refine (HNB.out _).mono ?_); rintro e w3 ⟨rfl, hw⟩; replace hw := hw.symm; subst hw))
            go_meet
            exact hsw
          · have q2 : D = 128 := by
              by_cases q : D = 128
              · exact q
              · rw [decide_eq_false q1, decide_eq_false q] at k1; simp at k1
            rw [decide_eq_false q1] at e1
            rw [decide_eq_true q2] at e2
            have e3 : (D != 0) = true := by simpa using q1
            have e4 : (D != 128) = false := by simpa using q2
            clear k1 k2
            go_wp2_with (first
              | (go_at_call 34; (with_reducible refine (HNA.out _).mono ?_); rintro e w3 ⟨rfl, hw⟩; replace hw := hw.symm; subst hw)
              | (go_at_call 34; (with_reducible refine (HNB.out _).mono ?_); rintro e w3 ⟨rfl, hw⟩; replace hw := hw.symm; subst hw))
            go_meet
            exact hsw
    · have hn := newB_none hv
      rw [hn] at HNA
      have hx : a < 0 ∨ (0 ≤ a ∧ 255 < a) ∨ ((0 ≤ a ∧ a ≤ 255) ∧ b < 0) ∨ ((0 ≤ a ∧ a ≤ 255) ∧ 0 ≤ b ∧ 255 < b) := by omega
      clear hn hv HNB
      rcases hx with x1 | ⟨x1, x2⟩ | ⟨⟨x1, x2⟩, x3⟩ | ⟨⟨x1, x2⟩, x3, x4⟩
      all_goals
        go_wp2_with (go_at_call 34; (with_reducible refine (HNA.out _).mono ?_); rintro e w3 ⟨rfl, hw⟩; replace hw := hw.symm; subst hw)
        go_meet
        exact hsw
  case rest =>
    have HWC := Lib.hid (HW.out.trans hcut)
    obtain ⟨d0, d1, d2, d3, _, _⟩ := HB.out _ HWC.out
    have hKc := And.intro d0 (And.intro d1 (And.intro d2 (And.intro d3 (And.intro (HS.out.trans HWC.out) (Same.refl wc)))))
    have hrc := (Same.refl wc).drew
    clear HNA HNB hcut
    go_wp2
    go_region_held3 (fun w' => w'.cell? ⟨w.heap.size, 0, none⟩ = some (.int .i64 v) ∧ w'.cell? ⟨w.heap.size, 1, none⟩ = some (.int .i64 f) ∧ w'.cell? ⟨w.heap.size, 2, none⟩ = some (.int .i64 u) ∧ w'.cell? ⟨w.heap.size, 3, none⟩ = some (.slice ao zs.length cap) ∧ Same w w' ∧ Same wc w')
      (first
        | exact keepH hKc hrc
        | exact keepH (by assumption) (by assumption)
        | exact keepH hKc (((Same.refl _).alloc _).drew)
        | exact keepH hK5 ((Same.refl _).alloc _)
        | exact keepH hK4 ((Same.refl _).alloc _)
        | exact keepH hKc (((((hK5.2.2.2.2.2).setCell (p := ⟨wc.heap.size, 0, none⟩) (Nat.le_refl _) _).setCell (p := ⟨wc.heap.size, 1, none⟩) (Nat.le_refl _) _).setCell (p := ⟨wc.heap.size, 2, none⟩) (Nat.le_refl _) _).setCell (p := ⟨wc.heap.size, 3, none⟩) (Nat.le_refl _) _)
        | exact keepH hKc (((((hK5.2.2.2.2.2).setCell (p := ⟨w4.heap.size, 0, none⟩) hK4.2.2.2.2.2.size _).setCell (p := ⟨w4.heap.size, 1, none⟩) hK4.2.2.2.2.2.size _).setCell (p := ⟨w4.heap.size, 2, none⟩) hK4.2.2.2.2.2.size _).setCell (p := ⟨w4.heap.size, 3, none⟩) hK4.2.2.2.2.2.size _)
        | assumption)
      (first
        | (go_at_call 26; refine (HCL.out _ (by first | exact (keepH hKc hrc).2.2.2.2.1 | exact (by assumption : _ ∧ _ ∧ _ ∧ _ ∧ Same w _ ∧ _).2.2.2.2.1)).mono ?_; rintro e w4 ⟨u4, rfl, hk4, hL4⟩; obtain ⟨a5, c5', he5⟩ := (IL.of_own (zs := zs) hL4).shape; subst he5; have hK4 := keepH (by first | exact keepH hKc hrc | assumption) hk4; first | (have nh := newH hk4; obtain ⟨n0, n1, n2, n3, n4, n5, n6, n7, n8, n9⟩ := nh) | skip)
        | (go_at_call 28; refine (HNX.out _ (by exact (by assumption : _ ∧ _ ∧ _ ∧ _ ∧ Same w _ ∧ _).2.2.2.2.1) _ (by first | exact IL.of_own hL4 | exact (IL.of_own hL4).same ((Same.refl _).alloc _))).mono ?_; rintro e w5 ⟨s5, rfl, hk5, hL5⟩; obtain ⟨a6, c6, he6⟩ := (IL.of_own (zs := R3) hL5).shape; subst he6; have hK5 := keepH (by assumption) hk5; first | (have nh := newH2 hk5; obtain ⟨p0, p1, p2, p3, p4, p5, p6, p7⟩ := nh) | (have p0 := hk5.cell n0; have p1 := hk5.cell n1; have p2 := hk5.cell n2; have p3 := hk5.cell n3; have p4 := (hk5.frozen n0).trans n4; have p5 := (hk5.frozen n1).trans n5; have p6 := (hk5.frozen n2).trans n6; have p7 := (hk5.frozen n3).trans n7) | skip)
        | fail)
    all_goals
      have hfin := (by assumption : _ ∧ _ ∧ _ ∧ _ ∧ Same w _ ∧ Same wc _).2.2.2.2
      first
        | (have hown := (own_set (i := 3) (u := .slice a6 R3.length c6) (own_set (i := 2) (u := .int .i64 R2) (own_set (i := 1) (u := .int .i64 R1) (own_set (i := 0) (u := .int .i64 R0) hL5 (B := w4.heap.size) (by simp)) (B := w4.heap.size) (by simp)) (B := w4.heap.size) (by simp)) (B := w4.heap.size) (by simp))
           have k0 : ((((w5.setCell ⟨w4.heap.size, 0, none⟩ (.int .i64 R0)).setCell ⟨w4.heap.size, 1, none⟩ (.int .i64 R1)).setCell ⟨w4.heap.size, 2, none⟩ (.int .i64 R2)).setCell ⟨w4.heap.size, 3, none⟩ (.slice a6 R3.length c6)).cell? ⟨w4.heap.size, 0, none⟩ = some (.int .i64 R0) := by go_simp
           have k1 : ((((w5.setCell ⟨w4.heap.size, 0, none⟩ (.int .i64 R0)).setCell ⟨w4.heap.size, 1, none⟩ (.int .i64 R1)).setCell ⟨w4.heap.size, 2, none⟩ (.int .i64 R2)).setCell ⟨w4.heap.size, 3, none⟩ (.slice a6 R3.length c6)).cell? ⟨w4.heap.size, 1, none⟩ = some (.int .i64 R1) := by go_simp
           have k2 : ((((w5.setCell ⟨w4.heap.size, 0, none⟩ (.int .i64 R0)).setCell ⟨w4.heap.size, 1, none⟩ (.int .i64 R1)).setCell ⟨w4.heap.size, 2, none⟩ (.int .i64 R2)).setCell ⟨w4.heap.size, 3, none⟩ (.slice a6 R3.length c6)).cell? ⟨w4.heap.size, 2, none⟩ = some (.int .i64 R2) := by go_simp
           have k3 : ((((w5.setCell ⟨w4.heap.size, 0, none⟩ (.int .i64 R0)).setCell ⟨w4.heap.size, 1, none⟩ (.int .i64 R1)).setCell ⟨w4.heap.size, 2, none⟩ (.int .i64 R2)).setCell ⟨w4.heap.size, 3, none⟩ (.slice a6 R3.length c6)).cell? ⟨w4.heap.size, 3, none⟩ = some (.slice a6 R3.length c6) := by go_simp
           generalize ((((w5.setCell ⟨w4.heap.size, 0, none⟩ (.int .i64 R0)).setCell ⟨w4.heap.size, 1, none⟩ (.int .i64 R1)).setCell ⟨w4.heap.size, 2, none⟩ (.int .i64 R2)).setCell ⟨w4.heap.size, 3, none⟩ (.slice a6 R3.length c6)) = w9 at *
           generalize w4.heap.size = B at *)
        | (have hzz := hk4.size
           simp at hzz
           have hown := (own_set (i := 3) (u := .slice a6 R3.length c6) (own_set (i := 2) (u := .int .i64 R2) (own_set (i := 1) (u := .int .i64 R1) (own_set (i := 0) (u := .int .i64 R0) hL5 (B := wc.heap.size) (by omega)) (B := wc.heap.size) (by omega)) (B := wc.heap.size) (by omega)) (B := wc.heap.size) (by omega))
           have k0 : ((((w5.setCell ⟨wc.heap.size, 0, none⟩ (.int .i64 R0)).setCell ⟨wc.heap.size, 1, none⟩ (.int .i64 R1)).setCell ⟨wc.heap.size, 2, none⟩ (.int .i64 R2)).setCell ⟨wc.heap.size, 3, none⟩ (.slice a6 R3.length c6)).cell? ⟨wc.heap.size, 0, none⟩ = some (.int .i64 R0) := by go_simp
           have k1 : ((((w5.setCell ⟨wc.heap.size, 0, none⟩ (.int .i64 R0)).setCell ⟨wc.heap.size, 1, none⟩ (.int .i64 R1)).setCell ⟨wc.heap.size, 2, none⟩ (.int .i64 R2)).setCell ⟨wc.heap.size, 3, none⟩ (.slice a6 R3.length c6)).cell? ⟨wc.heap.size, 1, none⟩ = some (.int .i64 R1) := by go_simp
           have k2 : ((((w5.setCell ⟨wc.heap.size, 0, none⟩ (.int .i64 R0)).setCell ⟨wc.heap.size, 1, none⟩ (.int .i64 R1)).setCell ⟨wc.heap.size, 2, none⟩ (.int .i64 R2)).setCell ⟨wc.heap.size, 3, none⟩ (.slice a6 R3.length c6)).cell? ⟨wc.heap.size, 2, none⟩ = some (.int .i64 R2) := by go_simp
           have k3 : ((((w5.setCell ⟨wc.heap.size, 0, none⟩ (.int .i64 R0)).setCell ⟨wc.heap.size, 1, none⟩ (.int .i64 R1)).setCell ⟨wc.heap.size, 2, none⟩ (.int .i64 R2)).setCell ⟨wc.heap.size, 3, none⟩ (.slice a6 R3.length c6)).cell? ⟨wc.heap.size, 3, none⟩ = some (.slice a6 R3.length c6) := by go_simp
           generalize ((((w5.setCell ⟨wc.heap.size, 0, none⟩ (.int .i64 R0)).setCell ⟨wc.heap.size, 1, none⟩ (.int .i64 R1)).setCell ⟨wc.heap.size, 2, none⟩ (.int .i64 R2)).setCell ⟨wc.heap.size, 3, none⟩ (.slice a6 R3.length c6)) = w9 at *
           generalize wc.heap.size = B at *)
        | (have hown := own_same hL5 ((Same.refl w5).alloc (.cells #[.int .i64 R0, .int .i64 R1, .int .i64 R2, .slice a6 R3.length c6] 24))
           have k0 : (w5.alloc (.cells #[.int .i64 R0, .int .i64 R1, .int .i64 R2, .slice a6 R3.length c6] 24)).cell? ⟨w5.heap.size, 0, none⟩ = some (.int .i64 R0) := by go_simp
           have k1 : (w5.alloc (.cells #[.int .i64 R0, .int .i64 R1, .int .i64 R2, .slice a6 R3.length c6] 24)).cell? ⟨w5.heap.size, 1, none⟩ = some (.int .i64 R1) := by go_simp
           have k2 : (w5.alloc (.cells #[.int .i64 R0, .int .i64 R1, .int .i64 R2, .slice a6 R3.length c6] 24)).cell? ⟨w5.heap.size, 2, none⟩ = some (.int .i64 R2) := by go_simp
           have k3 : (w5.alloc (.cells #[.int .i64 R0, .int .i64 R1, .int .i64 R2, .slice a6 R3.length c6] 24)).cell? ⟨w5.heap.size, 3, none⟩ = some (.slice a6 R3.length c6) := by go_simp
           generalize (w5.alloc (.cells #[.int .i64 R0, .int .i64 R1, .int .i64 R2, .slice a6 R3.length c6] 24)) = w9 at *
           generalize w5.heap.size = B at *)
      have hil9 := IL.of_own (zs := R3) hown
      obtain ⟨q1, q2⟩ := hfin
      have HQ := Lib.hid q1
      have HWQ := Lib.hid (HWC.out.trans q2)
      have HIL9 := Lib.hid hil9
      clear hown hil9 q1 q2 hKc hrc hK4 hK5 HCL HNX d0 d1 d2 d3
      rcases HNC.out with hr | ⟨hr, hb1, hb2⟩
      · injection hr with r1 r2
        injection r1 with r3 r4
        injection r4 with r5 r6
        injection r6 with r7 r8
        subst r2 r3 r5 r7 r8
        clear HNC
        go_wp2
        go_ret
        exact ⟨by first | rfl | simp, HQ.out⟩
      · injection hr with r1 r2
        injection r1 with r3 r4
        injection r4 with r5 r6
        injection r6 with r7 r8
        have hvv := (hopB_of hb1).1
        obtain ⟨w1a, w1b⟩ := newB_next hvv
        have hall := allE_two hb1 hb2
        obtain ⟨e0, e1, e2, e3, _, _⟩ := HB.out _ HWQ.out
        have hx0 := Newer_any ((v + 1) % 256) v w9
        have hx1 := Newer_any v ((v + 1) % 256) w9
        rw [w1a] at hx0
        rw [w1b] at hx1
        have hz := HIL.out w9 HQ.out
        have hz9 := HIL9.out
        have hca := CheckAll_any (w9.alloc (.cells #[.int .i64 v, .int .i64 f, .int .i64 u, .slice ao zs.length cap, .int .i64 R0, .int .i64 R1, .int .i64 R2, .slice a6 R3.length c6] 24)) (.slice (some ⟨w9.heap.size, 0, none⟩) 2 2) [(v, f, u, zs), (R0, R1, R2, R3)]
          (.inl ⟨w9.heap.size, 0, 2, rfl, Nat.succ_pos _, fun i hi => by
            have hi' : i = 0 ∨ i = 1 := by simp at hi; omega
            rcases hi' with rfl | rfl
            · exact ⟨ao, cap, by go_simp, by go_simp, by go_simp, by go_simp, hz.same ((Same.refl _).alloc _)⟩
            · exact ⟨a6, c6, by go_simp, by go_simp, by go_simp, by go_simp, hz9.same ((Same.refl _).alloc _)⟩⟩)
          (fun i => by
            match i with
            | 0 => show zs.length ≤ 1000; omega
            | 1 => show R3.length ≤ 1000; rw [r8]; omega
            | i + 2 => show ([] : List Int).length ≤ 1000; simp)
        rw [show [(v, f, u, zs), (R0, R1, R2, R3)] = [(v, f, u, zs), ((v + 1) % 256, u, til, zs)] from by rw [r3, r5, r7, r8], hall] at hca
        subst r2 r3
        have r5' : R1 = u := r5
        have r7' : R2 = til := r7
        have HN0 := Lib.hid hx0
        have HN1 := Lib.hid hx1
        have HCA := Lib.hid hca
        have HS9 := Lib.hid (HQ.out.alloc (.cells #[.int .i64 v, .int .i64 f, .int .i64 u, .slice ao zs.length cap, .int .i64 ((v + 1) % 256), .int .i64 R1, .int .i64 R2, .slice a6 R3.length c6] 24))
        clear hx0 hx1 hca hall hb1 hb2 hvv w1a w1b hz hz9 HNC r5 r8 r5'
        have t1 : (R2 == til) = true := by simpa using r7'
        subst r7'
        generalize (v + 1) % 256 = V at *
        go_wp2_with (first
          | (go_at_call 34; (with_reducible refine HN0.out.mono ?_); rintro e w10 ⟨rfl, hw⟩; replace hw := hw.symm; subst hw)
          | (go_at_call 34; (with_reducible refine HN1.out.mono ?_); rintro e w10 ⟨rfl, hw⟩; replace hw := hw.symm; subst hw)
          | (go_at_call 22; (with_reducible refine HCA.out.mono ?_); rintro e w11 ⟨rfl, hw⟩; have HW11 := Lib.hid (HS9.out.trans hw); have k2' := hw.cell (p := ⟨B, 2, none⟩) (Lib.cell?_alloc_some _ k2); clear hw))
        go_ret
        exact ⟨by first | rfl | simp, HW11.out⟩
theorem walk (w : World) (v f u : Int) (s : Value) (zs : List Int) (_hv : i64 v) (_hf : i64 f) (_hu : i64 u) (h : IL w s zs) (til : Int) (_ht : -9223372036854775808 ≤ til ∧ til ≤ 9223372036854775807) (a b : Int) (ha : i64 a) (hb : i64 b) : Calls Try.prog 10 #[hopV v f u s, .int .i64 til, .agg #[.int .i64 a, .int .i64 b]] w fun e w' => e = .returned (.bool true) ∧ Same w w' := by
  by_cases hl : zs.length ≤ 20
  · exact late w v f u s zs h til a b hl ha hb
  · exact early w v f u s zs h til a b (by omega)
open Go.ChangeShapes Go.WideShapes Go.ChangeAt
theorem own : ownKnob Try.prog.godebug = none := by kernel_rfl

set_option maxRecDepth 100000 in
theorem lifted (os : Os) (started : os.Started) (H : Type) (enc : TypeId × Value → H) :
    ReturnsInHanded {} Try.checked os 10 .any (Rows.hopNewerSpec.pre6 enc Try.prog Try.f10 Rows.hopNewerRow.domain false) (Rows.hopNewerSpec.post enc Try.prog Try.f10 false true false false) := by
  refine returnsInHanded_of_change (C := Try.checked) own started (by kernel_rfl) Try.func10
    (ChangeSpec.witness6 (enc := enc) (C := Try.checked) false ⟨#[], #[.agg #[.int .i64 0, .int .i64 0, .int .i64 0, .slice none 0 0], .int .i64 0, .agg #[.int .i64 0, .int .i64 0]], []⟩ 8 (by kernel_rfl) (by kernel_rfl) (by kernel_rfl) (by kernel_rfl)) ?_
  intro W base args ds gs before hval0 hW hcnd _
  have hval : ∀ (j : Nat) t v, Try.f10.params[j]? = some t → args[j]? = some v → Value.okWide Try.prog W .any base t v := hval0
  have hW' := hW
  obtain ⟨p, q, hA0, hV, rfl, hfz, hnd⟩ := hW
  have hA : DataW.TrodAll enc Try.prog W 0 (fun _ => true) true Try.f10.params.toList args.toList ds p := hA0
  rw [Try.params10] at hA hval
  obtain ⟨v0, vs0, d0, ds0, p0, q0, hargs, rfl, rfl, h0, r0⟩ := trodAll_cons hA
  obtain ⟨v1, vs1, d1, ds1, p1, q1, rfl, rfl, rfl, h1, r1⟩ := trodAll_cons r0
  obtain ⟨v2, vs2, d2, ds2, p2, q2, rfl, rfl, rfl, h2, r2⟩ := trodAll_cons r1
  obtain ⟨rfl, rfl, rfl⟩ := trodAll_nil r2
  obtain rfl : args = #[v0, v1, v2] := by cases args; simp_all
  obtain ⟨rfl, rfl⟩ := trodVars_none hV
  obtain ⟨hv0, hf0, hu0, hs0, hz0, rfl, bv0, bf0, bu0, hl0⟩ := open_hop (hval 0 24 v0 rfl rfl) h0
  obtain ⟨a1, rfl, rfl, rfl, w1⟩ := open_int Try.underlying3 (hval 1 3 v1 rfl rfl) h1
  obtain ⟨x2, y2, rfl, bx2, be2⟩ := open_a2 (hval 2 56 v2 rfl rfl) h2
  clear hA0 hval0
  try simp only [List.append_nil] at hW'
  try simp only [List.nil_append] at hW'
  have hlt : ∀ x ∈ p0 ++ p2, x.block < W.heap.size := fun x hx => by
    have := hW'.lt x (by simpa using hx)
    simpa using this
  refine (walk W hv0 hf0 hu0 hs0 hz0 bv0 bf0 bu0 hl0 a1 (bounds_i64 w1) x2 y2 bx2 be2).mono fun e W' ⟨he, hg⟩ => ?_
  subst he
  exact ⟨_, rfl, _, _, _, [], _, [], hW', trodAll_cons_mk (shut_bool Try.underlying4 _) trodAll_mk0, trodAll_cons_mk (Below.trod Try.laidOut (by kernel_rfl) (of_decide_eq_true (by kernel_rfl)) h0 (Same.toBelow hg) (fun x hx => hlt x (by simp [hx]))) (trodAll_cons_mk (shut_int Try.underlying3 w1) (trodAll_cons_mk (Below.trod Try.laidOut (by kernel_rfl) (of_decide_eq_true (by kernel_rfl)) h2 (Same.toBelow hg) (fun x hx => hlt x (by simp [hx]))) trodAll_mk0)), rfl, (Same.toBelow hg).frame _, fun h => by cases h⟩

theorem over : Rows.hopNewerRow.holds Try.pinned (OpenSpec.ofChange Rows.hopNewerSpec) :=
  OpenClaim.holds_of_wide 10 Try.f10 rfl rfl rfl rfl rfl rfl rfl ⟨rfl, rfl, rfl, rfl, rfl⟩ rfl rfl rfl rfl rfl (by kernel_rfl) Try.func10 (by kernel_rfl)
    (of_decide_eq_true (by kernel_rfl)) (by unfold Func.isWrapper; first | (rw [if_pos (by decide +kernel)]; kernel_rfl) | (rw [if_neg (by decide +kernel)]; exact ⟨rfl, rfl⟩))
    (fun os started H enc _ => lifted os started H enc)

theorem proved : Rows.HopNewerSaid :=
  over
end hopNewer
end Go.Proofs.Ytffanehmlbiemaa
