/- GeometryMoves: for all paths, walls and steps the law returns true: distances and crossings are the same in both directions, of path and wall, if path and wall change places, if all points are moved, and if the axes are exchanged. No condition on the input. -/
import Derived.Test.YtohekjbcnkfmjaaMovesA
import Derived.Test.YtohekjbcnkfmjaaCrossings
namespace Go.Proofs.Ytohekjbcnkfmjaa
open Go.RowKit

namespace geometryMoves
abbrev boxesM (w : World) (a1 a2 b1 b2 c1 c2 d1 d2 f s1 s2 : Int) : World :=
  ((w.alloc (.cells #[.int .i64 a1, .int .i64 a2, .int .i64 b1, .int .i64 b2] 53)).alloc (.cells #[.int .i64 c1, .int .i64 c2, .int .i64 d1, .int .i64 d2, .int .i64 f] 25)).alloc (.cells #[.int .i64 s1, .int .i64 s2] 23)
/-- The boxes of the law. -/
abbrev FM (w : World) (pa pb : Nat) (a1 a2 b1 b2 c1 c2 d1 d2 f s1 s2 : Int) (w1 : World) : Prop := w1.cell? ⟨w.heap.size + 1, 0, none⟩ = some (.int .i64 c1) ∧ w1.cell? ⟨w.heap.size + 1, 1, none⟩ = some (.int .i64 c2) ∧ w1.cell? ⟨w.heap.size + 1, 2, none⟩ = some (.int .i64 d1) ∧ w1.cell? ⟨w.heap.size + 1, 3, none⟩ = some (.int .i64 d2) ∧ w1.cell? ⟨w.heap.size + 1, 4, none⟩ = some (.int .i64 f) ∧ w1.cell? ⟨w.heap.size + 1 + 1, 0, none⟩ = some (.int .i64 s1) ∧ w1.cell? ⟨w.heap.size + 1 + 1, 1, none⟩ = some (.int .i64 s2) ∧ w1.cell? ⟨pa, 0, none⟩ = some (.int .i64 a1) ∧ w1.cell? ⟨pa, 1, none⟩ = some (.int .i64 a2) ∧ w1.cell? ⟨pb, 0, none⟩ = some (.int .i64 b1) ∧ w1.cell? ⟨pb, 1, none⟩ = some (.int .i64 b2) ∧ Same w w1
theorem keepM {w w1 w2 : World} {pa pb : Nat} {a1 a2 b1 b2 c1 c2 d1 d2 f s1 s2 : Int} (h : FM w pa pb a1 a2 b1 b2 c1 c2 d1 d2 f s1 s2 w1) (s : Same w1 w2) : FM w pa pb a1 a2 b1 b2 c1 c2 d1 d2 f s1 s2 w2 := by
  obtain ⟨h0, h1, h2, h3, h4, h5, h6, h7, h8, h9, h10, hs⟩ := h
  exact ⟨s.cell h0, s.cell h1, s.cell h2, s.cell h3, s.cell h4, s.cell h5, s.cell h6, s.cell h7, s.cell h8, s.cell h9, s.cell h10, hs.trans s⟩
theorem path_at {w w1 : World} {a1 a2 b1 b2 c1 c2 d1 d2 f s1 s2 : Int} (h : Same (boxesM w a1 a2 b1 b2 c1 c2 d1 d2 f s1 s2) w1) :
    w1.cell? ⟨w.heap.size, 0, none⟩ = some (.int .i64 a1) ∧ w1.cell? ⟨w.heap.size, 1, none⟩ = some (.int .i64 a2) ∧ w1.cell? ⟨w.heap.size, 2, none⟩ = some (.int .i64 b1) ∧ w1.cell? ⟨w.heap.size, 3, none⟩ = some (.int .i64 b2) ∧ Same w w1 := by
  refine ⟨h.cell ?_, h.cell ?_, h.cell ?_, h.cell ?_, Same.trans ?_ h⟩
  all_goals first | (go_simp; done) | (repeat' (first | exact Same.refl _ | apply Same.alloc))
theorem startA {w w1 : World} {a1 a2 b1 b2 c1 c2 d1 d2 f s1 s2 : Int} (h : Same (boxesM w a1 a2 b1 b2 c1 c2 d1 d2 f s1 s2) w1) :
    FM w w1.heap.size (w1.heap.size + 1) a1 a2 b1 b2 c1 c2 d1 d2 f s1 s2 (((w1.alloc (.cells #[.int .i64 a1, .int .i64 a2] 23)).alloc (.cells #[.int .i64 b1, .int .i64 b2] 23)).drew) := by
  have hs : Same w1 (((w1.alloc (.cells #[.int .i64 a1, .int .i64 a2] 23)).alloc (.cells #[.int .i64 b1, .int .i64 b2] 23)).drew) := by repeat' (first | exact Same.refl _ | apply Same.alloc | apply Same.drew)
  have k := h.trans hs
  exact ⟨k.cell (by go_simp), k.cell (by go_simp), k.cell (by go_simp), k.cell (by go_simp), k.cell (by go_simp), k.cell (by go_simp), k.cell (by go_simp), by go_simp, by go_simp, by go_simp, by go_simp, (path_at k).2.2.2.2⟩
theorem startB {w w1 : World} {a1 a2 b1 b2 c1 c2 d1 d2 f s1 s2 : Int} (h : Same (boxesM w a1 a2 b1 b2 c1 c2 d1 d2 f s1 s2) w1) :
    FM w (w1.heap.size + 1) w1.heap.size a1 a2 b1 b2 c1 c2 d1 d2 f s1 s2 (((w1.alloc (.cells #[.int .i64 b1, .int .i64 b2] 23)).alloc (.cells #[.int .i64 a1, .int .i64 a2] 23)).drew) := by
  have hs : Same w1 (((w1.alloc (.cells #[.int .i64 b1, .int .i64 b2] 23)).alloc (.cells #[.int .i64 a1, .int .i64 a2] 23)).drew) := by repeat' (first | exact Same.refl _ | apply Same.alloc | apply Same.drew)
  have k := h.trans hs
  exact ⟨k.cell (by go_simp), k.cell (by go_simp), k.cell (by go_simp), k.cell (by go_simp), k.cell (by go_simp), k.cell (by go_simp), k.cell (by go_simp), by go_simp, by go_simp, by go_simp, by go_simp, (path_at k).2.2.2.2⟩
def five (a1 a2 b1 b2 c1 c2 d1 d2 s1 s2 : Int) : List Pt := [⟨a1, a2⟩, ⟨b1, b2⟩, ⟨c1, c2⟩, ⟨d1, d2⟩, ⟨s1, s2⟩]
theorem row5 {w1 w2 : World} {a1 a2 b1 b2 c1 c2 d1 d2 s1 s2 : Int} (h : Same (w1.alloc (.cells #[.int .i64 a1, .int .i64 a2, .int .i64 b1, .int .i64 b2, .int .i64 c1, .int .i64 c2, .int .i64 d1, .int .i64 d2, .int .i64 s1, .int .i64 s2] 23)) w2) (k : Nat) (hk : k < 5) :
    w2.cell? ⟨w1.heap.size, k * 2, none⟩ = some (.int .i64 ((five a1 a2 b1 b2 c1 c2 d1 d2 s1 s2).getD k ⟨0, 0⟩).x) ∧ w2.cell? ⟨w1.heap.size, k * 2 + 1, none⟩ = some (.int .i64 ((five a1 a2 b1 b2 c1 c2 d1 d2 s1 s2).getD k ⟨0, 0⟩).y) := by
  match k, hk with
  | 0, _ => exact ⟨h.cell (by go_simp; rfl), h.cell (by go_simp; rfl)⟩
  | 1, _ => exact ⟨h.cell (by go_simp; rfl), h.cell (by go_simp; rfl)⟩
  | 2, _ => exact ⟨h.cell (by go_simp; rfl), h.cell (by go_simp; rfl)⟩
  | 3, _ => exact ⟨h.cell (by go_simp; rfl), h.cell (by go_simp; rfl)⟩
  | 4, _ => exact ⟨h.cell (by go_simp; rfl), h.cell (by go_simp; rfl)⟩
theorem sq_at (a1 a2 b1 b2 : Int) (ha1 : Co a1) (ha2 : Co a2) (hb1 : Co b1) (hb2 : Co b2) (q : Int) (hq : (b1 - a1) * (b1 - a1) + (b2 - a2) * (b2 - a2) = q) (w : World) :
    Calls Try.prog 13 #[.agg #[.int .i64 a1, .int .i64 a2], .agg #[.int .i64 b1, .int .i64 b2]] w fun e w' => e = .returned (.int .i64 q) ∧ Same w w' := hq ▸ square_any a1 a2 b1 b2 ha1 ha2 hb1 hb2 w
theorem sq_zero {x y : Int} (h : x * x + y * y = 0) : x = 0 ∧ y = 0 := by
  have hx : 0 ≤ x * x := by rcases Int.le_total 0 x with h | h; exact Int.mul_nonneg h h; exact Int.mul_nonneg_of_nonpos_of_nonpos h h
  have hy : 0 ≤ y * y := by rcases Int.le_total 0 y with h | h; exact Int.mul_nonneg h h; exact Int.mul_nonneg_of_nonpos_of_nonpos h h
  have h1 : x * x = 0 := by omega
  have h2 : y * y = 0 := by omega
  exact ⟨by rcases Int.mul_eq_zero.1 h1 with h | h <;> exact h, by rcases Int.mul_eq_zero.1 h2 with h | h <;> exact h⟩
theorem sq_nonneg (x y : Int) : 0 ≤ x * x + y * y := by
  have hx : 0 ≤ x * x := by rcases Int.le_total 0 x with h | h; exact Int.mul_nonneg h h; exact Int.mul_nonneg_of_nonpos_of_nonpos h h
  have hy : 0 ≤ y * y := by rcases Int.le_total 0 y with h | h; exact Int.mul_nonneg h h; exact Int.mul_nonneg_of_nonpos_of_nonpos h h
  omega
set_option maxHeartbeats 12800000 in
set_option maxRecDepth 100000 in
theorem walk (a1 a2 b1 b2 c1 c2 d1 d2 f s1 s2 : Int) (w : World) :
    Calls Try.prog 6 #[.agg #[.int .i64 a1, .int .i64 a2, .int .i64 b1, .int .i64 b2], .agg #[.int .i64 c1, .int .i64 c2, .int .i64 d1, .int .i64 d2, .int .i64 f], .agg #[.int .i64 s1, .int .i64 s2]] w fun e w' => e = .returned (.bool true) ∧ Same w w' := by
  have HAW := Lib.hid (awake_any (boxesM w a1 a2 b1 b2 c1 c2 d1 d2 f s1 s2))
  have HAT := Lib.hid (fun (w1 : World) (h : Same (boxesM w a1 a2 b1 b2 c1 c2 d1 d2 f s1 s2) w1) => path_at h)
  go_enter Try.func6, Try.ntmps6
  go_wp2_with (go_at_call 11; (with_reducible refine HAW.out.mono ?_); rintro e w1 ⟨rfl, hw⟩; have hb := Lib.hid hw; obtain ⟨k0, k1, k2, k3, hs⟩ := HAT.out _ hw; clear hw hs; have y0 := fun x y => cell_under (o := .cells #[x, y] 23) k0; have y1 := fun x y => cell_under (o := .cells #[x, y] 23) k1; have y2 := fun x y => cell_under (o := .cells #[x, y] 23) k2; have y3 := fun x y => cell_under (o := .cells #[x, y] 23) k3; have z0 := fun x y x' y' => cell_under2 (o := .cells #[x, y] 23) (o' := .cells #[x', y'] 23) k0; have z1 := fun x y x' y' => cell_under2 (o := .cells #[x, y] 23) (o' := .cells #[x', y'] 23) k1; have z2 := fun x y x' y' => cell_under2 (o := .cells #[x, y] 23) (o' := .cells #[x', y'] 23) k2; have z3 := fun x y x' y' => cell_under2 (o := .cells #[x, y] 23) (o' := .cells #[x', y'] 23) k3)
  go_cut [7, 8] from 16 (fun s7 s8 w2 => ∃ pa pb : Nat, s7 = .pointer (some ⟨pa, 0, none⟩) ∧ s8 = .pointer (some ⟨pb, 0, none⟩) ∧ FM w pa pb a1 a2 b1 b2 c1 c2 d1 d2 f s1 s2 w2)
  case first =>
    go_region
    · go_wp2
      go_meet
      case rel => exact ⟨_, _, rfl, rfl, startA hb.out⟩
    · go_wp2
      go_meet
      case rel => exact ⟨_, _, rfl, rfl, startB hb.out⟩
  case rest =>
    clear k0 k1 k2 k3 y0 y1 y2 y3 z0 z1 z2 z3
    obtain ⟨pa, pb, rfl, rfl, hF⟩ := hcut
    have HF := Lib.hid hF
    obtain ⟨k0, k1, k2, k3, k4, k5, k6, k7, k8, k9, k10, hs⟩ := hF
    clear hs
    go_wp2
    go_loopw [31] (fun i wr => ∃ k : Nat, k ≤ 5 ∧ i = .int .i64 k ∧ (∀ j, j < k → In ((five a1 a2 b1 b2 c1 c2 d1 d2 s1 s2).getD j ⟨0, 0⟩).x ∧ In ((five a1 a2 b1 b2 c1 c2 d1 d2 s1 s2).getD j ⟨0, 0⟩).y) ∧ Same (wc.alloc (.cells #[.int .i64 a1, .int .i64 a2, .int .i64 b1, .int .i64 b2, .int .i64 c1, .int .i64 c2, .int .i64 d1, .int .i64 d2, .int .i64 s1, .int .i64 s2] 23)) wr) (fun i _ => 5 - (intOf i).toNat)
    case atStart => exact ⟨0, by decide, rfl, fun j hj => absurd hj (Nat.not_lt_zero _), Same.refl _⟩
    case round =>
      clear k0 k1 k2 k3 k4 k5 k6 k7 k8 k9 k10
      obtain ⟨k, hk, rfl, hall, hS⟩ := hrel
      have HSW := Lib.hid (keepM HF.out (((Same.refl wc).alloc _).trans hS))
      by_cases hlt : k < 5
      · obtain ⟨g1, g2⟩ := row5 hS k hlt
        have HA := Lib.hid hall; clear hall
        have HS := Lib.hid hS; clear hS
        obtain ⟨vv, hvv⟩ : ∃ vv, vv = (five a1 a2 b1 b2 c1 c2 d1 d2 s1 s2).getD k ⟨0, 0⟩ := ⟨_, rfl⟩
        rw [← hvv] at g1 g2
        have HV := Lib.hid hvv; clear hvv
        obtain ⟨x, y⟩ := vv
        dsimp only at g1 g2
        by_cases hin : In x ∧ In y
        · have HI := Lib.hid hin
          obtain ⟨⟨i1, i2⟩, i3, i4⟩ := hin
          go_wp2
          go_roundw
          case rel =>
            refine ⟨k + 1, by omega, by go_num, fun j hj => ?_, HS.out.alloc _⟩
            rcases Nat.lt_succ_iff_lt_or_eq.1 hj with h | rfl
            · exact HA.out j h
            · rw [← HV.out]; exact HI.out
          case measure => simp [intOf]; omega
        · have hc := in_cases hin
          clear hin
          rcases hc with i1 | ⟨i1, i2⟩ | ⟨i1, i2, i3⟩ | ⟨i1, i2, i3, i4⟩
          all_goals
            go_wp2
            go_ret
            exact ⟨rfl, HSW.out.2.2.2.2.2.2.2.2.2.2.2.trans ((Same.refl _).alloc _)⟩
      · have hk5 : k = 5 := by omega
        subst hk5
        have j0 := hall 0 (by decide)
        have j1 := hall 1 (by decide)
        have j2 := hall 2 (by decide)
        have j3 := hall 3 (by decide)
        have j4 := hall 4 (by decide)
        simp only [five, List.getD_cons_zero, List.getD_cons_succ] at j0 j1 j2 j3 j4
        obtain ⟨ja1, ja2⟩ := j0
        obtain ⟨jb1, jb2⟩ := j1
        obtain ⟨jc1, jc2⟩ := j2
        obtain ⟨jd1, jd2⟩ := j3
        obtain ⟨js1, js2⟩ := j4
        clear hall hS hlt hk HF
        have HF := HSW
        clear HSW
        obtain ⟨q, hq⟩ : ∃ q, (b1 - a1) * (b1 - a1) + (b2 - a2) * (b2 - a2) = q := ⟨_, rfl⟩
        obtain ⟨u, hu⟩ : ∃ u, crB a1 a2 b1 b2 c1 c2 d1 d2 = u := ⟨_, rfl⟩
        have S0 := Lib.hid (fun w => sq_at a1 a2 b1 b2 ja1.co ja2.co jb1.co jb2.co q hq w)
        have S1 := Lib.hid (fun w => sq_at b1 b2 a1 a2 jb1.co jb2.co ja1.co ja2.co q (by rw [← hq]; grind) w)
        have S2 := Lib.hid (fun w => sq_at (a1 - s1) (a2 + s2) (b1 - s1) (b2 + s2) (by unfold In at *; unfold Co; omega) (by unfold In at *; unfold Co; omega) (by unfold In at *; unfold Co; omega) (by unfold In at *; unfold Co; omega) q (by rw [← hq]; grind) w)
        have S3 := Lib.hid (fun w => sq_at a2 a1 b2 b1 ja2.co ja1.co jb2.co jb1.co q (by rw [← hq]; grind) w)
        have C0 := Lib.hid (fun w => crosses_at a1 a2 b1 b2 c1 c2 d1 d2 f ja1.co ja2.co jb1.co jb2.co jc1.co jc2.co jd1.co jd2.co u hu w)
        have C1 := Lib.hid (fun w => crosses_at b1 b2 a1 a2 c1 c2 d1 d2 f jb1.co jb2.co ja1.co ja2.co jc1.co jc2.co jd1.co jd2.co u (by rw [crB_back]; exact hu) w)
        have C2 := Lib.hid (fun w => crosses_at a1 a2 b1 b2 d1 d2 c1 c2 f ja1.co ja2.co jb1.co jb2.co jd1.co jd2.co jc1.co jc2.co u (by rw [crB_wall]; exact hu) w)
        have C3 := Lib.hid (fun w => crosses_at c1 c2 d1 d2 a1 a2 b1 b2 f jc1.co jc2.co jd1.co jd2.co ja1.co ja2.co jb1.co jb2.co u (by rw [crB_other]; exact hu) w)
        have C4 := Lib.hid (fun w => crosses_at (a1 - s1) (a2 + s2) (b1 - s1) (b2 + s2) (c1 - s1) (c2 + s2) (d1 - s1) (d2 + s2) f (by unfold In at *; unfold Co; omega) (by unfold In at *; unfold Co; omega) (by unfold In at *; unfold Co; omega) (by unfold In at *; unfold Co; omega) (by unfold In at *; unfold Co; omega) (by unfold In at *; unfold Co; omega) (by unfold In at *; unfold Co; omega) (by unfold In at *; unfold Co; omega) u (by rw [crB_shift]; exact hu) w)
        have C5 := Lib.hid (fun w => crosses_at a2 a1 b2 b1 c2 c1 d2 d1 f ja2.co ja1.co jb2.co jb1.co jc2.co jc1.co jd2.co jd1.co u (by rw [crB_axes]; exact hu) w)
        have M1 := Lib.hid (fun (w1 : World) (h : FM w pa pb a1 a2 b1 b2 c1 c2 d1 d2 f s1 s2 w1) => moved_any a1 a2 s1 s2 (w.heap.size + 1 + 1) ja1 ja2 js1 js2 w1 h.2.2.2.2.2.1 h.2.2.2.2.2.2.1)
        have M2 := Lib.hid (fun (w1 : World) (h : FM w pa pb a1 a2 b1 b2 c1 c2 d1 d2 f s1 s2 w1) => moved_any b1 b2 s1 s2 (w.heap.size + 1 + 1) jb1 jb2 js1 js2 w1 h.2.2.2.2.2.1 h.2.2.2.2.2.2.1)
        have M3 := Lib.hid (fun (w1 : World) (h : FM w pa pb a1 a2 b1 b2 c1 c2 d1 d2 f s1 s2 w1) => moved_any c1 c2 s1 s2 (w.heap.size + 1 + 1) jc1 jc2 js1 js2 w1 h.2.2.2.2.2.1 h.2.2.2.2.2.2.1)
        have M4 := Lib.hid (fun (w1 : World) (h : FM w pa pb a1 a2 b1 b2 c1 c2 d1 d2 f s1 s2 w1) => moved_any d1 d2 s1 s2 (w.heap.size + 1 + 1) jd1 jd2 js1 js2 w1 h.2.2.2.2.2.1 h.2.2.2.2.2.2.1)
        have TT := Lib.hid (fun p1 p2 w => turned_any p1 p2 w)
        have WW := Lib.hid (fun (x1 x2 y1 y2 : Int) (w1 : World) (h : FM w pa pb a1 a2 b1 b2 c1 c2 d1 d2 f s1 s2 w1) => wall_any x1 x2 y1 y2 f (w.heap.size + 1) w1 h.2.2.2.2.1)
        have hq0 : 0 ≤ q := by rw [← hq]; exact sq_nonneg _ _
        have hqz : q = 0 → b1 - a1 = 0 ∧ b2 - a2 = 0 := fun h => sq_zero (by rw [hq]; exact h)
        have HQZ := Lib.hid hqz
        have HQ := Lib.hid hq
        clear hu hq hqz ja1 ja2 jb1 jb2 jc1 jc2 jd1 jd2 js1 js2
        obtain ⟨k0, k1, k2, k3, k4, k5, k6, k7, k8, k9, k10, hs⟩ := HF.out
        clear hs
        go_wp2
        clear k0 k1 k2 k3 k4 k5 k6 k7 k8 k9 k10
        go_region_held3 (fun w1 => FM w pa pb a1 a2 b1 b2 c1 c2 d1 d2 f s1 s2 w1)
          (first | exact keepM HF.out ((Same.refl _).drew) | exact keepM (by assumption) (by assumption) | assumption)
          (first
            | (go_at_call 15; (with_reducible refine (C0.out _).mono ?_); rintro e w2 ⟨rfl, hw2⟩)
            | (go_at_call 13; (with_reducible refine (S0.out _).mono ?_); rintro e w3 ⟨rfl, hw3⟩))
        have HG := Lib.hid (by assumption : FM w pa pb a1 a2 b1 b2 c1 c2 d1 d2 f s1 s2 w3)
        clear HF
        have HF := HG
        clear HG
        obtain ⟨k0, k1, k2, k3, k4, k5, k6, k7, k8, k9, k10, hs⟩ := HF.out
        clear hs
        go_wp2
        go_cut [101] from 63 (fun s101 w4 => s101 = .bool false ∧ FM w pa pb a1 a2 b1 b2 c1 c2 d1 d2 f s1 s2 w4)
        case first =>
          clear S0 C0 C1 C2 C3 C4 C5 M3 M4 WW k0 k1 k2 k3 k4 k5 k6 k7 k8 k9 k10
          have hab : (a1 = b1 ∧ a2 = b2) ∨ a1 ≠ b1 ∨ (a1 = b1 ∧ a2 ≠ b2) := by omega
          rcases hab with ⟨rfl, rfl⟩ | h1 | ⟨rfl, h2⟩
          · as_aux_lemma =>
              obtain rfl : q = 0 := by rw [← HQ.out]; simp
              clear HQZ HQ hq0
              go_region_held3 (fun w1 => FM w pa pb a1 a2 a1 a2 c1 c2 d1 d2 f s1 s2 w1)
                (first | exact keepM HF.out ((Same.refl _).drew) | exact keepM (by assumption) (by assumption) | assumption)
                (first
                  | (go_at_call 13; (with_reducible refine (S1.out _).mono ?_); rintro e w4 ⟨rfl, hw4⟩)
                  | (go_at_call 13; (with_reducible refine (S2.out _).mono ?_); rintro e w4 ⟨rfl, hw4⟩)
                  | (go_at_call 13; (with_reducible refine (S3.out _).mono ?_); rintro e w4 ⟨rfl, hw4⟩)
                  | (go_at_call 32; (with_reducible refine (M1.out _ (by assumption)).mono ?_); rintro e w4 ⟨rfl, hw4⟩)
                  | (go_at_call 32; (with_reducible refine (M2.out _ (by assumption)).mono ?_); rintro e w4 ⟨rfl, hw4⟩)
                  | (go_at_call 33; (with_reducible refine (TT.out _ _ _).mono ?_); rintro e w4 ⟨rfl, hw4⟩))
              go_wp2
              go_meet
              case rel => exact ⟨rfl, by with_reducible assumption⟩
          · as_aux_lemma =>
              have e1 : (q == 0) = false := by
                have : q ≠ 0 := fun h => by have := HQZ.out h; omega
                simpa using this
              have e2 : decide (q = 0) = false := by simpa using e1
              have e3 : decide (q < 0) = false := by simp; omega
              have e4 : ¬ (q = 0) := by simpa using e1
              have e5 : ¬ (q < 0) := by omega
              have e6 : (a1 == b1) = false := by simpa using h1
              have e7 : decide (a1 = b1) = false := by simpa using h1
              clear HQZ HQ hq0
              go_region_held3 (fun w1 => FM w pa pb a1 a2 b1 b2 c1 c2 d1 d2 f s1 s2 w1)
                (first | exact keepM HF.out ((Same.refl _).drew) | exact keepM (by assumption) (by assumption) | assumption)
                (first
                  | (go_at_call 13; (with_reducible refine (S1.out _).mono ?_); rintro e w4 ⟨rfl, hw4⟩)
                  | (go_at_call 13; (with_reducible refine (S2.out _).mono ?_); rintro e w4 ⟨rfl, hw4⟩)
                  | (go_at_call 13; (with_reducible refine (S3.out _).mono ?_); rintro e w4 ⟨rfl, hw4⟩)
                  | (go_at_call 32; (with_reducible refine (M1.out _ (by assumption)).mono ?_); rintro e w4 ⟨rfl, hw4⟩)
                  | (go_at_call 32; (with_reducible refine (M2.out _ (by assumption)).mono ?_); rintro e w4 ⟨rfl, hw4⟩)
                  | (go_at_call 33; (with_reducible refine (TT.out _ _ _).mono ?_); rintro e w4 ⟨rfl, hw4⟩))
              go_wp2
              go_meet
              case rel => exact ⟨rfl, by with_reducible assumption⟩
          · as_aux_lemma =>
              have e1 : (q == 0) = false := by
                have : q ≠ 0 := fun h => by have := HQZ.out h; omega
                simpa using this
              have e2 : decide (q = 0) = false := by simpa using e1
              have e3 : decide (q < 0) = false := by simp; omega
              have e4 : ¬ (q = 0) := by simpa using e1
              have e5 : ¬ (q < 0) := by omega
              have e6 : (a2 == b2) = false := by simpa using h2
              have e7 : decide (a2 = b2) = false := by simpa using h2
              clear HQZ HQ hq0
              go_region_held3 (fun w1 => FM w pa pb a1 a2 a1 b2 c1 c2 d1 d2 f s1 s2 w1)
                (first | exact keepM HF.out ((Same.refl _).drew) | exact keepM (by assumption) (by assumption) | assumption)
                (first
                  | (go_at_call 13; (with_reducible refine (S1.out _).mono ?_); rintro e w4 ⟨rfl, hw4⟩)
                  | (go_at_call 13; (with_reducible refine (S2.out _).mono ?_); rintro e w4 ⟨rfl, hw4⟩)
                  | (go_at_call 13; (with_reducible refine (S3.out _).mono ?_); rintro e w4 ⟨rfl, hw4⟩)
                  | (go_at_call 32; (with_reducible refine (M1.out _ (by assumption)).mono ?_); rintro e w4 ⟨rfl, hw4⟩)
                  | (go_at_call 32; (with_reducible refine (M2.out _ (by assumption)).mono ?_); rintro e w4 ⟨rfl, hw4⟩)
                  | (go_at_call 33; (with_reducible refine (TT.out _ _ _).mono ?_); rintro e w4 ⟨rfl, hw4⟩))
              go_wp2
              go_meet
              case rel => exact ⟨rfl, by with_reducible assumption⟩
        case rest =>
          as_aux_lemma =>
              clear S0 S1 S2 S3 C0 HQ HQZ hq0 k0 k1 k2 k3 k4 k5 k6 k7 k8 k9 k10
              obtain ⟨rfl, hF⟩ := hcut
              clear HF
              have HF := Lib.hid hF
              clear hF
              obtain ⟨k0, k1, k2, k3, k4, k5, k6, k7, k8, k9, k10, hs⟩ := HF.out
              clear hs
              go_wp2
              clear k0 k1 k2 k3 k4 k5 k6 k7 k8 k9 k10
              simp only [List.append_eq, List.cons_append, List.nil_append]
              go_region_held3 (fun w1 => FM w pa pb a1 a2 b1 b2 c1 c2 d1 d2 f s1 s2 w1)
                  (first | exact keepM HF.out ((Same.refl _).drew) | exact keepM (by assumption) (by assumption) | assumption)
                  (first
                    | (go_at_call 15; (with_reducible refine (C1.out _).mono ?_); rintro e w4 ⟨rfl, hw4⟩)
                    | (go_at_call 15; (with_reducible refine (C2.out _).mono ?_); rintro e w4 ⟨rfl, hw4⟩)
                    | (go_at_call 15; (with_reducible refine (C3.out _).mono ?_); rintro e w4 ⟨rfl, hw4⟩)
                    | (go_at_call 15; (with_reducible refine (C4.out _).mono ?_); rintro e w4 ⟨rfl, hw4⟩)
                    | (go_at_call 15; (with_reducible refine (C5.out _).mono ?_); rintro e w4 ⟨rfl, hw4⟩)
                    | (go_at_call 32; (with_reducible refine (M1.out _ (by assumption)).mono ?_); rintro e w4 ⟨rfl, hw4⟩)
                    | (go_at_call 32; (with_reducible refine (M2.out _ (by assumption)).mono ?_); rintro e w4 ⟨rfl, hw4⟩)
                    | (go_at_call 32; (with_reducible refine (M3.out _ (by assumption)).mono ?_); rintro e w4 ⟨rfl, hw4⟩)
                    | (go_at_call 32; (with_reducible refine (M4.out _ (by assumption)).mono ?_); rintro e w4 ⟨rfl, hw4⟩)
                    | (go_at_call 33; (with_reducible refine (TT.out _ _ _).mono ?_); rintro e w4 ⟨rfl, hw4⟩)
                    | (go_at_call 34; (with_reducible refine (WW.out _ _ _ _ _ (by assumption)).mono ?_); rintro e w4 ⟨rfl, hw4⟩))
              go_wp2
              go_ret
              exact ⟨rfl, (by with_reducible assumption : FM w pa pb a1 a2 b1 b2 c1 c2 d1 d2 f s1 s2 w4).2.2.2.2.2.2.2.2.2.2.2⟩
end geometryMoves
end Go.Proofs.Ytohekjbcnkfmjaa
