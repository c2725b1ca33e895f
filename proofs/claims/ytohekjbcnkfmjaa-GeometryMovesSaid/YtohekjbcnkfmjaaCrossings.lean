/- GeometryCrossings: for all points and walls the law returns true: a path crosses a wall that contains one of its ends, or its middle; it does not cross one that lies wholly on one side of it. No condition on the input. -/
import Derived.Test.YtohekjbcnkfmjaaGeo
import Derived.Test.YtohekjbcnkfmjaaAwake
import Derived.Test.YtohekjbcnkfmjaaArgs
import Derived.Deep.CutRange
namespace Go.Proofs.Ytohekjbcnkfmjaa
open Go.RowKit

theorem crosses_at (a1 a2 b1 b2 c1 c2 d1 d2 f : Int) (ha1 : Co a1) (ha2 : Co a2) (hb1 : Co b1) (hb2 : Co b2) (hc1 : Co c1) (hc2 : Co c2) (hd1 : Co d1) (hd2 : Co d2) (u : Bool) (hu : crB a1 a2 b1 b2 c1 c2 d1 d2 = u) (w : World) :
    Calls Try.prog 15 #[.agg #[.int .i64 a1, .int .i64 a2], .agg #[.int .i64 b1, .int .i64 b2], .agg #[.int .i64 c1, .int .i64 c2, .int .i64 d1, .int .i64 d2, .int .i64 f]] w fun e w' => e = .returned (.bool u) ∧ Same w w' :=
  hu ▸ crosses_any a1 a2 b1 b2 c1 c2 d1 d2 f ha1 ha2 hb1 hb2 hc1 hc2 hd1 hd2 w
theorem in_cases {x y : Int} (h : ¬ (In x ∧ In y)) : x < 0 ∨ (0 ≤ x ∧ 10000 < x) ∨ (0 ≤ x ∧ x ≤ 10000 ∧ y < 0) ∨ (0 ≤ x ∧ x ≤ 10000 ∧ 0 ≤ y ∧ 10000 < y) := by unfold In at h; omega
namespace geometryCrossings
def four (a1 a2 b1 b2 c1 c2 d1 d2 : Int) : List Pt := [⟨a1, a2⟩, ⟨b1, b2⟩, ⟨c1, c2⟩, ⟨d1, d2⟩]
/-- The row of the four points, ahead of the loop. -/
theorem row4 {w1 w2 : World} {a1 a2 b1 b2 c1 c2 d1 d2 : Int} {T : TypeId} (h : Same (w1.alloc (.cells #[.int .i64 a1, .int .i64 a2, .int .i64 b1, .int .i64 b2, .int .i64 c1, .int .i64 c2, .int .i64 d1, .int .i64 d2] T)) w2) (k : Nat) (hk : k < 4) :
    w2.cell? ⟨w1.heap.size, k * 2, none⟩ = some (.int .i64 ((four a1 a2 b1 b2 c1 c2 d1 d2).getD k ⟨0, 0⟩).x) ∧ w2.cell? ⟨w1.heap.size, k * 2 + 1, none⟩ = some (.int .i64 ((four a1 a2 b1 b2 c1 c2 d1 d2).getD k ⟨0, 0⟩).y) := by
  match k, hk with
  | 0, _ => exact ⟨h.cell (by go_simp; rfl), h.cell (by go_simp; rfl)⟩
  | 1, _ => exact ⟨h.cell (by go_simp; rfl), h.cell (by go_simp; rfl)⟩
  | 2, _ => exact ⟨h.cell (by go_simp; rfl), h.cell (by go_simp; rfl)⟩
  | 3, _ => exact ⟨h.cell (by go_simp; rfl), h.cell (by go_simp; rfl)⟩
/-- All boxes of the law. -/
abbrev F15 (w : World) (pc pd pm : Nat) (a1 a2 b1 b2 c1 c2 d1 d2 f : Int) (w1 : World) : Prop :=
  w1.cell? ⟨w.heap.size, 0, none⟩ = some (.int .i64 a1) ∧ w1.cell? ⟨w.heap.size, 1, none⟩ = some (.int .i64 a2) ∧ w1.cell? ⟨w.heap.size + 1, 0, none⟩ = some (.int .i64 b1) ∧ w1.cell? ⟨w.heap.size + 1, 1, none⟩ = some (.int .i64 b2) ∧
  w1.cell? ⟨w.heap.size + 1 + 1, 0, none⟩ = some (.int .i64 c1) ∧ w1.cell? ⟨w.heap.size + 1 + 1, 1, none⟩ = some (.int .i64 c2) ∧ w1.cell? ⟨w.heap.size + 1 + 1, 2, none⟩ = some (.int .i64 d1) ∧ w1.cell? ⟨w.heap.size + 1 + 1, 3, none⟩ = some (.int .i64 d2) ∧ w1.cell? ⟨w.heap.size + 1 + 1, 4, none⟩ = some (.int .i64 f) ∧
  w1.cell? ⟨pc, 0, none⟩ = some (.int .i64 (2 * a1)) ∧ w1.cell? ⟨pc, 1, none⟩ = some (.int .i64 (2 * a2)) ∧ w1.cell? ⟨pd, 0, none⟩ = some (.int .i64 (2 * b1)) ∧ w1.cell? ⟨pd, 1, none⟩ = some (.int .i64 (2 * b2)) ∧
  w1.cell? ⟨pm, 0, none⟩ = some (.int .i64 (a1 + b1)) ∧ w1.cell? ⟨pm, 1, none⟩ = some (.int .i64 (a2 + b2)) ∧ Same w w1
theorem keep15 {w w1 w2 : World} {pc pd pm : Nat} {a1 a2 b1 b2 c1 c2 d1 d2 f : Int} (h : F15 w pc pd pm a1 a2 b1 b2 c1 c2 d1 d2 f w1) (s : Same w1 w2) : F15 w pc pd pm a1 a2 b1 b2 c1 c2 d1 d2 f w2 := by
  obtain ⟨h0, h1, h2, h3, h4, h5, h6, h7, h8, h9, h10, h11, h12, h13, h14, hs⟩ := h
  exact ⟨s.cell h0, s.cell h1, s.cell h2, s.cell h3, s.cell h4, s.cell h5, s.cell h6, s.cell h7, s.cell h8, s.cell h9, s.cell h10, s.cell h11, s.cell h12, s.cell h13, s.cell h14, hs.trans s⟩
/-- The boxes ahead of the middle. -/
abbrev F13 (w : World) (pc pd : Nat) (a1 a2 b1 b2 c1 c2 d1 d2 f : Int) (w1 : World) : Prop :=
  w1.cell? ⟨w.heap.size, 0, none⟩ = some (.int .i64 a1) ∧ w1.cell? ⟨w.heap.size, 1, none⟩ = some (.int .i64 a2) ∧ w1.cell? ⟨w.heap.size + 1, 0, none⟩ = some (.int .i64 b1) ∧ w1.cell? ⟨w.heap.size + 1, 1, none⟩ = some (.int .i64 b2) ∧
  w1.cell? ⟨w.heap.size + 1 + 1, 0, none⟩ = some (.int .i64 c1) ∧ w1.cell? ⟨w.heap.size + 1 + 1, 1, none⟩ = some (.int .i64 c2) ∧ w1.cell? ⟨w.heap.size + 1 + 1, 2, none⟩ = some (.int .i64 d1) ∧ w1.cell? ⟨w.heap.size + 1 + 1, 3, none⟩ = some (.int .i64 d2) ∧ w1.cell? ⟨w.heap.size + 1 + 1, 4, none⟩ = some (.int .i64 f) ∧
  w1.cell? ⟨pc, 0, none⟩ = some (.int .i64 (2 * a1)) ∧ w1.cell? ⟨pc, 1, none⟩ = some (.int .i64 (2 * a2)) ∧ w1.cell? ⟨pd, 0, none⟩ = some (.int .i64 (2 * b1)) ∧ w1.cell? ⟨pd, 1, none⟩ = some (.int .i64 (2 * b2)) ∧ Same w w1
theorem startA {w wr : World} {a1 a2 b1 b2 c1 c2 d1 d2 f : Int} (h : Same (boxes3 w a1 a2 b1 b2 c1 c2 d1 d2 f) wr) :
    F13 w wr.heap.size (wr.heap.size + 1) a1 a2 b1 b2 c1 c2 d1 d2 f (((wr.alloc (.cells #[.int .i64 (2 * a1), .int .i64 (2 * a2)] 23)).alloc (.cells #[.int .i64 (2 * b1), .int .i64 (2 * b2)] 23)).drew) := by
  have hs : Same wr (((wr.alloc (.cells #[.int .i64 (2 * a1), .int .i64 (2 * a2)] 23)).alloc (.cells #[.int .i64 (2 * b1), .int .i64 (2 * b2)] 23)).drew) := by repeat' (first | exact Same.refl _ | apply Same.alloc | apply Same.drew)
  obtain ⟨k0, k1, k2, k3, k4, k5, k6, k7, k8, hz⟩ := boxes3_at (h.trans hs)
  exact ⟨k0, k1, k2, k3, k4, k5, k6, k7, k8, by go_simp, by go_simp, by go_simp, by go_simp, hz⟩
theorem startB {w wr : World} {a1 a2 b1 b2 c1 c2 d1 d2 f : Int} (h : Same (boxes3 w a1 a2 b1 b2 c1 c2 d1 d2 f) wr) :
    F13 w (wr.heap.size + 1) wr.heap.size a1 a2 b1 b2 c1 c2 d1 d2 f (((wr.alloc (.cells #[.int .i64 (2 * b1), .int .i64 (2 * b2)] 23)).alloc (.cells #[.int .i64 (2 * a1), .int .i64 (2 * a2)] 23)).drew) := by
  have hs : Same wr (((wr.alloc (.cells #[.int .i64 (2 * b1), .int .i64 (2 * b2)] 23)).alloc (.cells #[.int .i64 (2 * a1), .int .i64 (2 * a2)] 23)).drew) := by repeat' (first | exact Same.refl _ | apply Same.alloc | apply Same.drew)
  obtain ⟨k0, k1, k2, k3, k4, k5, k6, k7, k8, hz⟩ := boxes3_at (h.trans hs)
  exact ⟨k0, k1, k2, k3, k4, k5, k6, k7, k8, by go_simp, by go_simp, by go_simp, by go_simp, hz⟩
theorem startM {w wc w2 : World} {pc pd : Nat} {a1 a2 b1 b2 c1 c2 d1 d2 f : Int} (h : F13 w pc pd a1 a2 b1 b2 c1 c2 d1 d2 f wc) (hw : Same (wc.alloc (.cells #[.int .i64 (a1 + b1), .int .i64 (a2 + b2)] 23)) w2) : F15 w pc pd wc.heap.size a1 a2 b1 b2 c1 c2 d1 d2 f w2 := by
  obtain ⟨h0, h1, h2, h3, h4, h5, h6, h7, h8, h9, h10, h11, h12, hs⟩ := h
  have s : Same wc w2 := ((Same.refl wc).alloc _).trans hw
  exact ⟨s.cell h0, s.cell h1, s.cell h2, s.cell h3, s.cell h4, s.cell h5, s.cell h6, s.cell h7, s.cell h8, s.cell h9, s.cell h10, s.cell h11, s.cell h12, hw.cell (by go_simp), hw.cell (by go_simp), hs.trans s⟩
set_option maxHeartbeats 12800000 in
set_option maxRecDepth 100000 in
theorem walk (a1 a2 b1 b2 c1 c2 d1 d2 f : Int) (w : World) :
    Calls Try.prog 7 #[.agg #[.int .i64 a1, .int .i64 a2], .agg #[.int .i64 b1, .int .i64 b2], .agg #[.int .i64 c1, .int .i64 c2, .int .i64 d1, .int .i64 d2, .int .i64 f]] w fun e w' => e = .returned (.bool true) ∧ Same w w' := by
  have HAW := Lib.hid (awake_any (boxes3 w a1 a2 b1 b2 c1 c2 d1 d2 f))
  have HAT := Lib.hid (fun (w1 : World) (h : Same (boxes3 w a1 a2 b1 b2 c1 c2 d1 d2 f) w1) => boxes3_at h)
  go_enter Try.func7, Try.ntmps7
  go_wp2_with (go_at_call 11; (with_reducible refine HAW.out.mono ?_); rintro e w1 ⟨rfl, hw⟩; have hb := Lib.hid hw; obtain ⟨k0, k1, k2, k3, k4, k5, k6, k7, k8, hs⟩ := HAT.out _ hw; clear hw hs)
  go_loopw [23] (fun i wr => ∃ k : Nat, k ≤ 4 ∧ i = .int .i64 k ∧ (∀ j, j < k → In ((four a1 a2 b1 b2 c1 c2 d1 d2).getD j ⟨0, 0⟩).x ∧ In ((four a1 a2 b1 b2 c1 c2 d1 d2).getD j ⟨0, 0⟩).y) ∧ Same (w1.alloc (.cells #[.int .i64 a1, .int .i64 a2, .int .i64 b1, .int .i64 b2, .int .i64 c1, .int .i64 c2, .int .i64 d1, .int .i64 d2] 23)) wr) (fun i _ => 4 - (intOf i).toNat)
  case atStart => exact ⟨0, by decide, rfl, fun j hj => absurd hj (Nat.not_lt_zero _), Same.refl _⟩
  case round =>
    clear k0 k1 k2 k3 k4 k5 k6 k7 k8
    obtain ⟨k, hk, rfl, hall, hS⟩ := hrel
    have hSw : Same (boxes3 w a1 a2 b1 b2 c1 c2 d1 d2 f) wr := hb.out.trans (((Same.refl w1).alloc _).trans hS)
    have HSW := Lib.hid hSw; clear hSw
    by_cases hlt : k < 4
    · obtain ⟨g1, g2⟩ := row4 hS k hlt
      have HA := Lib.hid hall; clear hall
      have HS := Lib.hid hS; clear hS
      obtain ⟨vv, hvv⟩ : ∃ vv, vv = (four a1 a2 b1 b2 c1 c2 d1 d2).getD k ⟨0, 0⟩ := ⟨_, rfl⟩
      rw [← hvv] at g1 g2
      have HV := Lib.hid hvv; clear hvv
      obtain ⟨x, y⟩ := vv
      dsimp only at g1 g2
      by_cases hin : In x ∧ In y
      · have HI := Lib.hid hin
        obtain ⟨⟨i1, i2⟩, i3, i4⟩ := hin
        go_wp2
        go_roundw
        case rel =>
          refine ⟨k + 1, by omega, by go_num, fun j hj => ?_, HS.out.alloc _⟩
          rcases Nat.lt_succ_iff_lt_or_eq.1 hj with h | rfl
          · exact HA.out j h
          · rw [← HV.out]; exact HI.out
        case measure => simp [intOf]; omega
      · have hc := in_cases hin
        clear hin
        rcases hc with i1 | ⟨i1, i2⟩ | ⟨i1, i2, i3⟩ | ⟨i1, i2, i3, i4⟩
        all_goals
          go_wp2
          go_ret
          exact ⟨rfl, ((HAT.out _ HSW.out).2.2.2.2.2.2.2.2.2).trans ((Same.refl _).alloc _)⟩
    · have hk4 : k = 4 := by omega
      subst hk4
      have j0 := hall 0 (by decide)
      have j1 := hall 1 (by decide)
      have j2 := hall 2 (by decide)
      have j3 := hall 3 (by decide)
      simp only [four, List.getD_cons_zero, List.getD_cons_succ] at j0 j1 j2 j3
      have C1 := Lib.hid (fun w => crosses_at (2 * a1) (2 * a2) (2 * b1) (2 * b2) (a1 + b1) (a2 + b2) c1 c2 0 (by unfold In at *; unfold Co; omega) (by unfold In at *; unfold Co; omega) (by unfold In at *; unfold Co; omega) (by unfold In at *; unfold Co; omega) (by unfold In at *; unfold Co; omega) (by unfold In at *; unfold Co; omega) j2.1.co j2.2.co true (crB_middle a1 a2 b1 b2 c1 c2) w)
      have C2 := Lib.hid (fun w => crosses_at (2 * a1) (2 * a2) (2 * b1) (2 * b2) d1 d2 (a1 + b1) (a2 + b2) 0 (by unfold In at *; unfold Co; omega) (by unfold In at *; unfold Co; omega) (by unfold In at *; unfold Co; omega) (by unfold In at *; unfold Co; omega) j3.1.co j3.2.co (by unfold In at *; unfold Co; omega) (by unfold In at *; unfold Co; omega) true (by rw [crB_wall]; exact crB_middle a1 a2 b1 b2 d1 d2) w)
      have C3 := Lib.hid (fun w => crosses_at a1 a2 b1 b2 a1 a2 c1 c2 0 j0.1.co j0.2.co j1.1.co j1.2.co j0.1.co j0.2.co j2.1.co j2.2.co true (crB_first a1 a2 b1 b2 c1 c2) w)
      have C4 := Lib.hid (fun w => crosses_at a1 a2 b1 b2 d1 d2 b1 b2 0 j0.1.co j0.2.co j1.1.co j1.2.co j3.1.co j3.2.co j1.1.co j1.2.co true (crB_second a1 a2 b1 b2 d1 d2) w)
      obtain ⟨u, hu⟩ : ∃ u, crB a1 a2 b1 b2 c1 c2 d1 d2 = u := ⟨_, rfl⟩
      have C5 := Lib.hid (fun w => crosses_at a1 a2 b1 b2 c1 c2 d1 d2 f j0.1.co j0.2.co j1.1.co j1.2.co j2.1.co j2.2.co j3.1.co j3.2.co u hu w)
      have HU := Lib.hid hu; clear hu
      have HJ := Lib.hid (And.intro j2 j3)
      unfold In at j0 j1
      obtain ⟨⟨i1, i2⟩, i3, i4⟩ := j0
      obtain ⟨⟨i5, i6⟩, i7, i8⟩ := j1
      clear j2 j3 hall hS hlt hk
      obtain ⟨k0, k1, k2, k3, k4, k5, k6, k7, k8, hs⟩ := HAT.out _ HSW.out
      clear hs
      have y0 := fun x y => cell_under (o := .cells #[x, y] 23) k0
      have y1 := fun x y => cell_under (o := .cells #[x, y] 23) k1
      have y2 := fun x y => cell_under (o := .cells #[x, y] 23) k2
      have y3 := fun x y => cell_under (o := .cells #[x, y] 23) k3
      have z0 := fun x y x' y' => cell_under (o := .cells #[x', y'] 23) (y0 x y)
      have z1 := fun x y x' y' => cell_under (o := .cells #[x', y'] 23) (y1 x y)
      have z2 := fun x y x' y' => cell_under (o := .cells #[x', y'] 23) (y2 x y)
      have z3 := fun x y x' y' => cell_under (o := .cells #[x', y'] 23) (y3 x y)
      go_wp2
      go_cut [9, 10] from 46 (fun s9 s10 w2 => ∃ pc pd : Nat, s9 = .pointer (some ⟨pc, 0, none⟩) ∧ s10 = .pointer (some ⟨pd, 0, none⟩) ∧ F13 w pc pd a1 a2 b1 b2 c1 c2 d1 d2 f w2)
      case first =>
        go_region
        · go_wp2
          go_meet
          case rel => exact ⟨_, _, rfl, rfl, startA HSW.out⟩
        · go_wp2
          go_meet
          case rel => exact ⟨_, _, rfl, rfl, startB HSW.out⟩
      case rest =>
        clear k0 k1 k2 k3 k4 k5 k6 k7 k8 y0 y1 y2 y3 z0 z1 z2 z3
        obtain ⟨pc, pd, rfl, rfl, hF⟩ := hcut
        have HF13 := Lib.hid hF
        obtain ⟨k0, k1, k2, k3, k4, k5, k6, k7, k8, l0, l1, l2, l3, hs⟩ := hF
        clear hs
        have y0 := fun x y => cell_under (o := .cells #[x, y] 23) l0
        have y1 := fun x y => cell_under (o := .cells #[x, y] 23) l1
        have y2 := fun x y => cell_under (o := .cells #[x, y] 23) l2
        have y3 := fun x y => cell_under (o := .cells #[x, y] 23) l3
        have y4 := fun x y => cell_under (o := .cells #[x, y] 23) k4
        have y5 := fun x y => cell_under (o := .cells #[x, y] 23) k5
        go_upto_region 13 with (first
          | (go_at_call 15; (with_reducible refine (C1.out _).mono ?_); rintro e w2 ⟨rfl, hw⟩; have HF := Lib.hid (startM HF13.out hw); clear hw HF13 y0 y1 y2 y3 y4 y5 k0 k1 k2 k3 k4 k5 k6 k7 k8 l0 l1 l2 l3; obtain ⟨k0, k1, k2, k3, k4, k5, k6, k7, k8, l0, l1, l2, l3, l4, l5, hs⟩ := HF.out; clear hs)
          | (go_at_call 15; (with_reducible refine (C2.out _).mono ?_); rintro e w2 ⟨rfl, hw⟩; have h' := Lib.hid (keep15 HF.out hw); clear HF hw k0 k1 k2 k3 k4 k5 k6 k7 k8 l0 l1 l2 l3 l4 l5; have HF := h'; clear h'; obtain ⟨k0, k1, k2, k3, k4, k5, k6, k7, k8, l0, l1, l2, l3, l4, l5, hs⟩ := HF.out; clear hs)
          | (go_at_call 15; (with_reducible refine (C3.out _).mono ?_); rintro e w2 ⟨rfl, hw⟩; have h' := Lib.hid (keep15 HF.out hw); clear HF hw k0 k1 k2 k3 k4 k5 k6 k7 k8 l0 l1 l2 l3 l4 l5; have HF := h'; clear h'; obtain ⟨k0, k1, k2, k3, k4, k5, k6, k7, k8, l0, l1, l2, l3, l4, l5, hs⟩ := HF.out; clear hs)
          | (go_at_call 15; (with_reducible refine (C4.out _).mono ?_); rintro e w2 ⟨rfl, hw⟩; have h' := Lib.hid (keep15 HF.out hw); clear HF hw k0 k1 k2 k3 k4 k5 k6 k7 k8 l0 l1 l2 l3 l4 l5; have HF := h'; clear h'; obtain ⟨k0, k1, k2, k3, k4, k5, k6, k7, k8, l0, l1, l2, l3, l4, l5, hs⟩ := HF.out; clear hs))
        go_cut [12] from 46 (fun s12 w3 => ∃ ap : Bool, s12 = .bool ap ∧ (ap = true → u = false) ∧ F15 w pc pd wc.heap.size a1 a2 b1 b2 c1 c2 d1 d2 f w3)
        case first =>
          have hmx : ∀ x y : Int, (if x < y then y else x) = max x y := fun x y => by omega
          have hmn : ∀ x y : Int, (if y < x then y else x) = min x y := fun x y => by omega
          go_wp2
          all_goals go_meet
          all_goals clear hmx hmn
          all_goals first
            | exact ⟨_, rfl, fun h => absurd h (by decide), HF.out⟩
            | exact ⟨_, rfl, fun _ => (by rw [← HU.out]; exact crB_apart (by omega)), HF.out⟩
            | exact ⟨_, rfl, fun h => (by simp only [Bool.or_eq_true, decide_eq_true_eq] at h; rw [← HU.out]; exact crB_apart (by omega)), HF.out⟩
        case rest =>
          clear k0 k1 k2 k3 k4 k5 k6 k7 k8 l0 l1 l2 l3 l4 l5
          obtain ⟨ap, rfl, hap, hF⟩ := hcut
          clear HF
          have HF := Lib.hid hF
          obtain ⟨k0, k1, k2, k3, k4, k5, k6, k7, k8, l0, l1, l2, l3, l4, l5, hs⟩ := hF
          clear hs
          cases ap
          · go_wp2
            go_ret
            exact ⟨rfl, HF.out.2.2.2.2.2.2.2.2.2.2.2.2.2.2.2⟩
          · obtain rfl := hap rfl
            go_wp2_with (go_at_call 15; (with_reducible refine (C5.out _).mono ?_); rintro e w2 ⟨rfl, hw⟩; have h' := Lib.hid (keep15 HF.out hw); clear HF hw k0 k1 k2 k3 k4 k5 k6 k7 k8 l0 l1 l2 l3 l4 l5; have HF := h'; clear h'; obtain ⟨k0, k1, k2, k3, k4, k5, k6, k7, k8, l0, l1, l2, l3, l4, l5, hs⟩ := HF.out; clear hs)
            go_ret
            exact ⟨rfl, HF.out.2.2.2.2.2.2.2.2.2.2.2.2.2.2.2⟩
open Go.ChangeShapes Go.WideShapes Go.ChangeAt
theorem own : ownKnob Try.prog.godebug = none := by kernel_rfl

set_option maxRecDepth 100000 in
theorem lifted (os : Os) (started : os.Started) (H : Type) (enc : TypeId × Value → H) :
    ReturnsInHanded {} Try.checked os 7 .any (Rows.geometryCrossingsSpec.pre6 enc Try.prog Try.f7 Rows.geometryCrossingsRow.domain false) (Rows.geometryCrossingsSpec.post enc Try.prog Try.f7 false true false false) := by
  refine returnsInHanded_of_change (C := Try.checked) own started (by kernel_rfl) Try.func7
    (ChangeSpec.witness6 (enc := enc) (C := Try.checked) false ⟨#[], #[.agg #[.int .i64 0, .int .i64 0], .agg #[.int .i64 0, .int .i64 0], .agg #[.int .i64 0, .int .i64 0, .int .i64 0, .int .i64 0, .int .i64 0]], []⟩ 8 (by kernel_rfl) (by kernel_rfl) (by kernel_rfl) (by kernel_rfl)) ?_
  intro W base args ds gs before hval0 hW hcnd _
  have hval : ∀ (j : Nat) t v, Try.f7.params[j]? = some t → args[j]? = some v → Value.okWide Try.prog W .any base t v := hval0
  have hW' := hW
  obtain ⟨p, q, hA0, hV, rfl, hfz, hnd⟩ := hW
  have hA : DataW.TrodAll enc Try.prog W 0 (fun _ => true) true Try.f7.params.toList args.toList ds p := hA0
  rw [Try.params7] at hA hval
  obtain ⟨v0, vs0, d0, ds0, p0, q0, hargs, rfl, rfl, h0, r0⟩ := trodAll_cons hA
  obtain ⟨v1, vs1, d1, ds1, p1, q1, rfl, rfl, rfl, h1, r1⟩ := trodAll_cons r0
  obtain ⟨v2, vs2, d2, ds2, p2, q2, rfl, rfl, rfl, h2, r2⟩ := trodAll_cons r1
  obtain ⟨rfl, rfl, rfl⟩ := trodAll_nil r2
  obtain rfl : args = #[v0, v1, v2] := by cases args; simp_all
  obtain ⟨rfl, rfl⟩ := trodVars_none hV
  obtain ⟨x10, x20, rfl, bx10, bx20⟩ := open_point (hval 0 23 v0 rfl rfl) h0
  obtain ⟨x11, x21, rfl, bx11, bx21⟩ := open_point (hval 1 23 v1 rfl rfl) h1
  obtain ⟨x12, x22, x32, x42, x52, rfl⟩ := open_wall (hval 2 25 v2 rfl rfl) h2
  clear hA0 hval0
  try simp only [List.append_nil] at hW'
  try simp only [List.nil_append] at hW'
  have hlt : ∀ x ∈ p0 ++ p1 ++ p2, x.block < W.heap.size := fun x hx => by
    have := hW'.lt x (by simpa using hx)
    simpa using this
  refine (walk x10 x20 x11 x21 x12 x22 x32 x42 x52 W).mono fun e W' ⟨he, hg⟩ => ?_
  subst he
  exact ⟨_, rfl, _, _, _, [], _, [], hW', trodAll_cons_mk (shut_bool Try.underlying4 _) trodAll_mk0, trodAll_cons_mk (Below.trod Try.laidOut (by kernel_rfl) (of_decide_eq_true (by kernel_rfl)) h0 (Same.toBelow hg) (fun x hx => hlt x (by simp [hx]))) (trodAll_cons_mk (Below.trod Try.laidOut (by kernel_rfl) (of_decide_eq_true (by kernel_rfl)) h1 (Same.toBelow hg) (fun x hx => hlt x (by simp [hx]))) (trodAll_cons_mk (Below.trod Try.laidOut (by kernel_rfl) (of_decide_eq_true (by kernel_rfl)) h2 (Same.toBelow hg) (fun x hx => hlt x (by simp [hx]))) trodAll_mk0)), rfl, (Same.toBelow hg).frame _, fun h => by cases h⟩

theorem over : Rows.geometryCrossingsRow.holds Try.pinned (OpenSpec.ofChange Rows.geometryCrossingsSpec) :=
  OpenClaim.holds_of_wide 7 Try.f7 rfl rfl rfl rfl rfl rfl rfl ⟨rfl, rfl, rfl, rfl, rfl⟩ rfl rfl rfl rfl rfl (by kernel_rfl) Try.func7 (by kernel_rfl)
    (of_decide_eq_true (by kernel_rfl)) (by unfold Func.isWrapper; first | (rw [if_pos (by decide +kernel)]; kernel_rfl) | (rw [if_neg (by decide +kernel)]; exact ⟨rfl, rfl⟩))
    (fun os started H enc _ => lifted os started H enc)

theorem proved : Rows.GeometryCrossingsSaid :=
  over
end geometryCrossings
end Go.Proofs.Ytohekjbcnkfmjaa
