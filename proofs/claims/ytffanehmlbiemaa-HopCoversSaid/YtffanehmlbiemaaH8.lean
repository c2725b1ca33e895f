/- Channel and Meet of both packages. -/
import Derived.Test.YtffanehmlbiemaaH7
namespace Go.Proofs.Ytffanehmlbiemaa
open Go.RowKit Go.Shelf

set_option maxHeartbeats 3200000 in
set_option maxRecDepth 100000 in
theorem Channel_any (v f u : Int) (s : Value) (zs : List Int) (slot off : Int) (w : World) (h : IL w s zs) (hl : zs.length ≤ 1000) : Calls Try.prog 12 #[hopV v f u s, .int .i64 slot, .int .i64 off] w fun e w' => e = .returned (.tuple #[.int .i64 (chanS v f u zs slot off).1, .int .i64 (chanS v f u zs slot off).2]) ∧ Same w w' := by
  have hCK := fun (w1 : World) (hs : Same w w1) => Check_any v f u s zs w1 (h.same hs) hl
  by_cases h1 : hopB v f u zs = true
  · rw [show chkH v f u zs = 0 from if_pos h1] at hCK
    obtain ⟨_, g1, g2, g3, g4⟩ := hopB_of h1
    obtain ⟨g5, g6, _⟩ := chsB_of g4
    obtain ⟨b, o, cap, rfl, hc⟩ := h.cells g5
    by_cases h2 : forceB slot f u = true
    · have hb : b < w.heap.size := World.block_lt_of_cell? w ⟨b, o + 0, none⟩ (hc 0 g5)
      have := Channel_in v f u b o cap zs slot off w hc hb h1 h2 hCK (fun w1 => (isInForce_any v f u _ _ _ _ rfl slot w1 ⟨by omega, by omega⟩).mono (fun e w' hh => by rw [h2] at hh; exact hh))
      exact ((callsIn_wide (n := 5)).1 this).mono (fun e w' hh => ⟨hh.1, Same.ofBelow hh.2⟩)
    · have hif := fun w1 => isInForce_any v f u (.slice (some ⟨b, o, none⟩) zs.length cap) _ _ _ rfl slot w1 ⟨by omega, by omega⟩
      have h2' : forceB slot f u = false := by simpa using h2
      rw [h2'] at hif
      have e : chanS v f u zs slot off = (0, 12) := by
        unfold chanS; rw [if_pos h1, if_neg h2]
      rw [e]; clear e h1 h2 h2' hc h g1 g2 g3 g4 g5 g6
      have HCK := Lib.hid hCK; clear hCK
      have HIF := Lib.hid hif; clear hif
      generalize zs.length = n at *
      have HAT := Lib.hid (fun (w1 : World) (h : Same (boxC w v f u (.slice (some ⟨b, o, none⟩) n cap) off) w1) => boxC_at h)
      have HS0 := Lib.hid ((((((Same.refl w).alloc (.cells #[.int .i64 v, .int .i64 f, .int .i64 u, .slice (some ⟨b, o, none⟩) n cap] 24)).alloc (.cells #[.int .i64 off] 3)).alloc (.cells #[.int .i64 0] 3)).alloc (.cells #[.int .i64 0] 27)))
      go_enter Try.func12, Try.ntmps12
      go_wp2_with (first
        | (go_at_call 16; (with_reducible refine (HCK.out _ (by exact HS0.out)).mono ?_); rintro e w2 ⟨rfl, hw⟩; have HW2 := Lib.hid hw; obtain ⟨c0, c1, c2, c3, c4, c5, c6, c7, c8, c9, c10⟩ := HAT.out _ hw; clear hw)
        | (go_at_call 35; (with_reducible refine (HIF.out _).mono ?_); rintro e w3 ⟨rfl, hw⟩; have HW3 := Lib.hid (HW2.out.trans hw); obtain ⟨d0, d1, d2, d3, d4, d5, d6, d7, d8, d9, d10⟩ := HAT.out _ HW3.out; clear hw))
      have e6 : ((w3.setCell ⟨w.heap.size + 1 + 1, 0, none⟩ (.int .i64 0)).setCell ⟨w.heap.size + 1 + 1 + 1, 0, none⟩ (.int .i64 12)).cell? ⟨w.heap.size + 1 + 1, 0, none⟩ = some (.int .i64 0) := by go_simp
      have e7 : ((w3.setCell ⟨w.heap.size + 1 + 1, 0, none⟩ (.int .i64 0)).setCell ⟨w.heap.size + 1 + 1 + 1, 0, none⟩ (.int .i64 12)).cell? ⟨w.heap.size + 1 + 1 + 1, 0, none⟩ = some (.int .i64 12) := by go_simp
      refine bodyPost_ret (v := .tuple #[.int .i64 0, .int .i64 12]) ?_ rfl ⟨rfl, (d9.setCell (p := ⟨w.heap.size + 1 + 1, 0, none⟩) (by simp; omega) _).setCell (p := ⟨w.heap.size + 1 + 1 + 1, 0, none⟩) (by simp; omega) _⟩
      simp [results, Try.f12, go_sem, e6, e7]
  · rw [show chkH v f u zs = 1 from if_neg h1] at hCK
    have e : chanS v f u zs slot off = (0, 1) := by unfold chanS; rw [if_neg h1]
    rw [e]; clear e h1
    obtain ⟨ao, cap, rfl⟩ := h.shape
    clear h
    have HCK := Lib.hid hCK; clear hCK
    generalize zs.length = n at *
    have HAT := Lib.hid (fun (w1 : World) (h : Same (boxC w v f u (.slice ao n cap) off) w1) => boxC_at h)
    have HS0 := Lib.hid ((((((Same.refl w).alloc (.cells #[.int .i64 v, .int .i64 f, .int .i64 u, .slice ao n cap] 24)).alloc (.cells #[.int .i64 off] 3)).alloc (.cells #[.int .i64 0] 3)).alloc (.cells #[.int .i64 0] 27)))
    go_enter Try.func12, Try.ntmps12
    go_wp2_with (go_at_call 16; (with_reducible refine (HCK.out _ (by exact HS0.out)).mono ?_); rintro e w2 ⟨rfl, hw⟩; obtain ⟨c0, c1, c2, c3, c4, c5, c6, c7, c8, c9, c10⟩ := HAT.out _ hw; clear hw)
    have e6 : ((w2.setCell ⟨w.heap.size + 1 + 1, 0, none⟩ (.int .i64 0)).setCell ⟨w.heap.size + 1 + 1 + 1, 0, none⟩ (.int .i64 1)).cell? ⟨w.heap.size + 1 + 1, 0, none⟩ = some (.int .i64 0) := by go_simp
    have e7 : ((w2.setCell ⟨w.heap.size + 1 + 1, 0, none⟩ (.int .i64 0)).setCell ⟨w.heap.size + 1 + 1 + 1, 0, none⟩ (.int .i64 1)).cell? ⟨w.heap.size + 1 + 1 + 1, 0, none⟩ = some (.int .i64 1) := by go_simp
    refine bodyPost_ret (v := .tuple #[.int .i64 0, .int .i64 1]) ?_ rfl ⟨rfl, (c9.setCell (p := ⟨w.heap.size + 1 + 1, 0, none⟩) (by simp; omega) _).setCell (p := ⟨w.heap.size + 1 + 1 + 1, 0, none⟩) (by simp; omega) _⟩
    simp [results, Try.f12, go_sem, e6, e7]
set_option maxHeartbeats 1600000 in
theorem Meet_any (v f u : Int) (s : Value) (zs : List Int) (slot x y : Int) (w : World) (h : IL w s zs) (hl : zs.length ≤ 1000) : Calls Try.prog 14 #[hopV v f u s, .int .i64 slot, .int .i64 x, .int .i64 y] w fun e w' => e = .returned (.tuple #[.bool (meetS v f u zs slot x y).1, .int .i64 (meetS v f u zs slot x y).2]) ∧ Same w w' := by
  have hX := fun (w1 : World) (hs : Same w w1) => Channel_any v f u s zs slot x w1 (h.same hs) hl
  have hY := fun (w1 : World) (hs : Same w w1) => Channel_any v f u s zs slot y w1 (h.same hs) hl
  obtain ⟨ao, cap, rfl⟩ := h.shape
  clear h
  unfold meetS
  generalize chanS v f u zs slot x = X at *
  generalize chanS v f u zs slot y = Y at *
  obtain ⟨x1, x2⟩ := X
  obtain ⟨y1, y2⟩ := Y
  simp only at hX hY ⊢
  have HX := Lib.hid hX; clear hX
  have HY := Lib.hid hY; clear hY
  generalize zs.length = n at *
  have HS := Lib.hid ((Same.refl w).alloc (.cells #[.int .i64 v, .int .i64 f, .int .i64 u, .slice ao n cap] 24))
  have HB := Lib.hid (fun (w1 : World) (hs : Same (w.alloc (.cells #[.int .i64 v, .int .i64 f, .int .i64 u, .slice ao n cap] 24)) w1) => (show w1.cell? ⟨w.heap.size, 0, none⟩ = some (.int .i64 v) ∧ w1.cell? ⟨w.heap.size, 1, none⟩ = some (.int .i64 f) ∧ w1.cell? ⟨w.heap.size, 2, none⟩ = some (.int .i64 u) ∧ w1.cell? ⟨w.heap.size, 3, none⟩ = some (.slice ao n cap) from ⟨hs.cell (by go_simp), hs.cell (by go_simp), hs.cell (by go_simp), hs.cell (by go_simp)⟩))
  by_cases e : x2 = 0
  · subst e
    by_cases d : y2 = 0
    · subst d
      rw [if_pos rfl, if_pos rfl]
      go_enter Try.func14, Try.ntmps14
      go_wp2_with (first
        | (go_at_call 12; (with_reducible refine (HX.out _ (by exact HS.out)).mono ?_); rintro e w1 ⟨rfl, hw⟩; have HW := Lib.hid (HS.out.trans hw); obtain ⟨c0, c1, c2, c3⟩ := HB.out _ hw; clear hw HX)
        | (go_at_call 12; (with_reducible refine (HY.out _ (by exact HW.out)).mono ?_); rintro e w2 ⟨rfl, hw⟩; have HW2 := Lib.hid (HW.out.trans hw); clear hw))
      go_ret2
      exact ⟨by first | rfl | (congr 3), HW2.out⟩
    · rw [if_pos rfl, if_neg d]
      have hd : (y2 == 0) = false := by simpa using d
      clear d
      go_enter Try.func14, Try.ntmps14
      go_wp2_with (first
        | (go_at_call 12; (with_reducible refine (HX.out _ (by exact HS.out)).mono ?_); rintro e w1 ⟨rfl, hw⟩; have HW := Lib.hid (HS.out.trans hw); obtain ⟨c0, c1, c2, c3⟩ := HB.out _ hw; clear hw HX)
        | (go_at_call 12; (with_reducible refine (HY.out _ (by exact HW.out)).mono ?_); rintro e w2 ⟨rfl, hw⟩; have HW2 := Lib.hid (HW.out.trans hw); clear hw))
      go_ret2
      exact ⟨rfl, HW2.out⟩
  · rw [if_neg e]
    have he : (x2 == 0) = false := by simpa using e
    clear e HY
    go_enter Try.func14, Try.ntmps14
    go_wp2_with (go_at_call 12; (with_reducible refine (HX.out _ (by exact HS.out)).mono ?_); rintro e w1 ⟨rfl, hw⟩; have HW := Lib.hid (HS.out.trans hw); clear hw)
    go_ret2
    exact ⟨rfl, HW.out⟩
set_option maxHeartbeats 1600000 in
theorem Meet2_any (v f u : Int) (s : Value) (zs : List Int) (slot x y : Int) (w : World) (h : IL w s zs) (hl : zs.length ≤ 1000) : Calls Try.prog 15 #[hopV v f u s, .int .i64 slot, .int .i64 x, .int .i64 y] w fun e w' => e = .returned (.tuple #[.bool (meetS v f u zs slot x y).1, .int .i64 (meetS v f u zs slot x y).2]) ∧ Same w w' := by
  have hX := fun (w1 : World) (hs : Same w w1) => Channel2_any v f u s zs slot x w1 (h.same hs) hl
  have hY := fun (w1 : World) (hs : Same w w1) => Channel2_any v f u s zs slot y w1 (h.same hs) hl
  obtain ⟨ao, cap, rfl⟩ := h.shape
  clear h
  unfold meetS
  generalize chanS v f u zs slot x = X at *
  generalize chanS v f u zs slot y = Y at *
  obtain ⟨x1, x2⟩ := X
  obtain ⟨y1, y2⟩ := Y
  simp only at hX hY ⊢
  have HX := Lib.hid hX; clear hX
  have HY := Lib.hid hY; clear hY
  generalize zs.length = n at *
  have HS := Lib.hid ((Same.refl w).alloc (.cells #[.int .i64 v, .int .i64 f, .int .i64 u, .slice ao n cap] 24))
  have HB := Lib.hid (fun (w1 : World) (hs : Same (w.alloc (.cells #[.int .i64 v, .int .i64 f, .int .i64 u, .slice ao n cap] 24)) w1) => (show w1.cell? ⟨w.heap.size, 0, none⟩ = some (.int .i64 v) ∧ w1.cell? ⟨w.heap.size, 1, none⟩ = some (.int .i64 f) ∧ w1.cell? ⟨w.heap.size, 2, none⟩ = some (.int .i64 u) ∧ w1.cell? ⟨w.heap.size, 3, none⟩ = some (.slice ao n cap) from ⟨hs.cell (by go_simp), hs.cell (by go_simp), hs.cell (by go_simp), hs.cell (by go_simp)⟩))
  by_cases e : x2 = 0
  · subst e
    by_cases d : y2 = 0
    · subst d
      rw [if_pos rfl, if_pos rfl]
      go_enter Try.func15, Try.ntmps15
      go_wp2_with (first
        | (go_at_call 13; (with_reducible refine (HX.out _ (by exact HS.out)).mono ?_); rintro e w1 ⟨rfl, hw⟩; have HW := Lib.hid (HS.out.trans hw); obtain ⟨c0, c1, c2, c3⟩ := HB.out _ hw; clear hw HX)
        | (go_at_call 13; (with_reducible refine (HY.out _ (by exact HW.out)).mono ?_); rintro e w2 ⟨rfl, hw⟩; have HW2 := Lib.hid (HW.out.trans hw); clear hw))
      go_ret2
      exact ⟨by first | rfl | (congr 3), HW2.out⟩
    · rw [if_pos rfl, if_neg d]
      have hd : (y2 == 0) = false := by simpa using d
      clear d
      go_enter Try.func15, Try.ntmps15
      go_wp2_with (first
        | (go_at_call 13; (with_reducible refine (HX.out _ (by exact HS.out)).mono ?_); rintro e w1 ⟨rfl, hw⟩; have HW := Lib.hid (HS.out.trans hw); obtain ⟨c0, c1, c2, c3⟩ := HB.out _ hw; clear hw HX)
        | (go_at_call 13; (with_reducible refine (HY.out _ (by exact HW.out)).mono ?_); rintro e w2 ⟨rfl, hw⟩; have HW2 := Lib.hid (HW.out.trans hw); clear hw))
      go_ret2
      exact ⟨rfl, HW2.out⟩
  · rw [if_neg e]
    have he : (x2 == 0) = false := by simpa using e
    clear e HY
    go_enter Try.func15, Try.ntmps15
    go_wp2_with (go_at_call 13; (with_reducible refine (HX.out _ (by exact HS.out)).mono ?_); rintro e w1 ⟨rfl, hw⟩; have HW := Lib.hid (HS.out.trans hw); clear hw)
    go_ret2
    exact ⟨rfl, HW.out⟩
end Go.Proofs.Ytffanehmlbiemaa
