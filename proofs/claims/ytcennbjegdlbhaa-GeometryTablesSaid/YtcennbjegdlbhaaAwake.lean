/- The example of the chapter, which each statement checks first. -/
import Derived.Test.YtcennbjegdlbhaaBetween
namespace Go.Proofs.Ytcennbjegdlbhaa
open Go.RowKit

def siteX : Site := ⟨[⟨0, 50⟩, ⟨30, 50⟩], [90000, 90000], [], 2, 1, 1000⟩
def siteY : Site := ⟨[⟨0, 50⟩, ⟨30, 50⟩], [90000, 90000], [⟨20, 40, 20, 60, 250⟩], 4, 1, 1000⟩
theorem betX : betweenS siteX 0 1 = (10000, 0) := by decide +kernel
theorem betY : betweenS siteY 0 1 = (277, 0) := by decide +kernel
theorem okY : siteB siteY = true := by decide +kernel
theorem crY : crB 0 50 30 50 20 40 20 60 = true := by decide +kernel
abbrev wX (w : World) : World := (w.alloc (.cells #[.int .i64 0, .int .i64 50, .int .i64 30, .int .i64 50] 23)).alloc (.cells #[.int .i64 90000, .int .i64 90000] 3)
theorem nodesX {w w1 : World} (h : Same (wX w) w1) : Pts w1 (.slice (some ⟨w.heap.size, 0, none⟩) 2 2) [⟨0, 50⟩, ⟨30, 50⟩] ∧ Ints w1 (.slice (some ⟨w.heap.size + 1, 0, none⟩) 2 2) [90000, 90000] := by
  constructor
  · refine .inl ⟨_, 0, 2, rfl, by decide, fun i hi => ?_⟩
    match i, hi with
    | 0, _ => exact ⟨h.cell (by go_simp), h.cell (by go_simp)⟩
    | 1, _ => exact ⟨h.cell (by go_simp), h.cell (by go_simp)⟩
    | n + 2, h => simp at h; omega
  · refine .inl ⟨_, 0, 2, rfl, by decide, fun i hi => ?_⟩
    match i, hi with
    | 0, _ => exact h.cell (by go_simp)
    | 1, _ => exact h.cell (by go_simp)
    | n + 2, h => simp at h; omega
abbrev vY (w : World) (b : Nat) : Value := .agg #[.slice (some ⟨w.heap.size, 0, none⟩) 2 2, .slice (some ⟨w.heap.size + 1, 0, none⟩) 2 2, .slice (some ⟨b, 0, none⟩) 1 1, .int .i64 4, .int .i64 1, .int .i64 1000]
abbrev SA (w : World) (b : Nat) (w1 : World) : Prop :=
  w1.cell? ⟨w.heap.size + 1 + 1, 0, none⟩ = some (.slice (some ⟨w.heap.size, 0, none⟩) 2 2) ∧ w1.cell? ⟨w.heap.size + 1 + 1, 1, none⟩ = some (.slice (some ⟨w.heap.size + 1, 0, none⟩) 2 2) ∧ w1.cell? ⟨w.heap.size + 1 + 1, 2, none⟩ = some (.slice (some ⟨b, 0, none⟩) 1 1) ∧
  w1.cell? ⟨w.heap.size + 1 + 1, 3, none⟩ = some (.int .i64 4) ∧ w1.cell? ⟨w.heap.size + 1 + 1, 4, none⟩ = some (.int .i64 1) ∧ w1.cell? ⟨w.heap.size + 1 + 1, 5, none⟩ = some (.int .i64 1000) ∧
  w1.cell? ⟨w.heap.size, 0, none⟩ = some (.int .i64 0) ∧ w1.cell? ⟨w.heap.size, 1, none⟩ = some (.int .i64 50) ∧ w1.cell? ⟨w.heap.size, 2, none⟩ = some (.int .i64 30) ∧ w1.cell? ⟨w.heap.size, 3, none⟩ = some (.int .i64 50) ∧
  w1.cell? ⟨b, 0, none⟩ = some (.int .i64 20) ∧ w1.cell? ⟨b, 1, none⟩ = some (.int .i64 40) ∧ w1.cell? ⟨b, 2, none⟩ = some (.int .i64 20) ∧ w1.cell? ⟨b, 3, none⟩ = some (.int .i64 60) ∧ w1.cell? ⟨b, 4, none⟩ = some (.int .i64 250) ∧ Same (wX w) w1
theorem keepA {w w1 w2 : World} {b : Nat} (h : SA w b w1) (s : Same w1 w2) : SA w b w2 := by
  obtain ⟨h0, h1, h2, h3, h4, h5, h6, h7, h8, h9, h10, h11, h12, h13, h14, hs⟩ := h
  exact ⟨s.cell h0, s.cell h1, s.cell h2, s.cell h3, s.cell h4, s.cell h5, s.cell h6, s.cell h7, s.cell h8, s.cell h9, s.cell h10, s.cell h11, s.cell h12, s.cell h13, s.cell h14, hs.trans s⟩
theorem siteA {w w1 : World} {b : Nat} (h : SA w b w1) : SiteAt w1 (vY w b) siteY := by
  obtain ⟨_, _, _, _, _, _, _, _, _, _, h10, h11, h12, h13, h14, hs⟩ := h
  refine ⟨⟨_, _, _, rfl, (nodesX hs).1, (nodesX hs).2, .inl ⟨b, 0, 1, rfl, by decide, fun i hi => ?_⟩⟩⟩
  match i, hi with
  | 0, _ => exact ⟨h10, h11, h12, h13, h14⟩
  | n + 1, h => simp [siteY] at h
theorem startA {w w1 : World} (h : Same ((wX w).alloc (.cells #[.slice (some ⟨w.heap.size, 0, none⟩) 2 2, .slice (some ⟨w.heap.size + 1, 0, none⟩) 2 2, .slice none 0 0, .int .i64 2, .int .i64 1, .int .i64 1000] 34)) w1) :
    w1.heap[w.heap.size + 1 + 1]? = some (.cells #[.slice (some ⟨w.heap.size, 0, none⟩) 2 2, .slice (some ⟨w.heap.size + 1, 0, none⟩) 2 2, .slice none 0 0, .int .i64 2, .int .i64 1, .int .i64 1000] 34 (0, 0)) ∧ Same (wX w) w1 := by
  refine ⟨?_, ((Same.refl _).alloc _).trans h⟩
  have hk := h.block (w.heap.size + 1 + 1) (by simp)
  rw [hk]
  have := heap_alloc_new (wX w) (.cells #[.slice (some ⟨w.heap.size, 0, none⟩) 2 2, .slice (some ⟨w.heap.size + 1, 0, none⟩) 2 2, .slice none 0 0, .int .i64 2, .int .i64 1, .int .i64 1000] 34)
  simpa using this
theorem midA {w w1 : World} (hb : w1.heap[w.heap.size + 1 + 1]? = some (.cells #[.slice (some ⟨w.heap.size, 0, none⟩) 2 2, .slice (some ⟨w.heap.size + 1, 0, none⟩) 2 2, .slice none 0 0, .int .i64 2, .int .i64 1, .int .i64 1000] 34 (0, 0))) :
    w1.cell? ⟨w.heap.size + 1 + 1, 3, none⟩ = some (.int .i64 2) ∧ w1.frozen? ⟨w.heap.size + 1 + 1, 3, none⟩ = false ∧
    ((w1.setCell ⟨w.heap.size + 1 + 1, 3, none⟩ (.int .i64 4)).alloc (.cells #[.int .i64 20, .int .i64 40, .int .i64 20, .int .i64 60, .int .i64 250] 25)).cell? ⟨w.heap.size + 1 + 1, 2, none⟩ = some (.slice none 0 0) ∧
    ((w1.setCell ⟨w.heap.size + 1 + 1, 3, none⟩ (.int .i64 4)).alloc (.cells #[.int .i64 20, .int .i64 40, .int .i64 20, .int .i64 60, .int .i64 250] 25)).frozen? ⟨w.heap.size + 1 + 1, 2, none⟩ = false := by
  have hlt : w.heap.size + 1 + 1 < w1.heap.size := (Array.getElem?_eq_some_iff.1 hb).1
  have h1 : (w1.setCell ⟨w.heap.size + 1 + 1, 3, none⟩ (.int .i64 4)).heap[w.heap.size + 1 + 1]? = some (.cells #[.slice (some ⟨w.heap.size, 0, none⟩) 2 2, .slice (some ⟨w.heap.size + 1, 0, none⟩) 2 2, .slice none 0 0, .int .i64 4, .int .i64 1, .int .i64 1000] 34 (0, 0)) := heap_setCell_same _ _ 3 _ _ _ hb
  have hsz : (w1.setCell ⟨w.heap.size + 1 + 1, 3, none⟩ (.int .i64 4)).heap.size = w1.heap.size := by simp [World.setCell]
  have h2 : ((w1.setCell ⟨w.heap.size + 1 + 1, 3, none⟩ (.int .i64 4)).alloc (.cells #[.int .i64 20, .int .i64 40, .int .i64 20, .int .i64 60, .int .i64 250] 25)).heap[w.heap.size + 1 + 1]? = some (.cells #[.slice (some ⟨w.heap.size, 0, none⟩) 2 2, .slice (some ⟨w.heap.size + 1, 0, none⟩) 2 2, .slice none 0 0, .int .i64 4, .int .i64 1, .int .i64 1000] 34 (0, 0)) := (Below.heap_alloc _ _ _ (by rw [hsz]; exact hlt)).trans h1
  refine ⟨by rw [cell_of_row _ _ _ _ _ _ hb]; rfl, by unfold World.frozen?; rw [hb]; rfl, by rw [cell_of_row _ _ _ _ _ _ h2]; rfl, by unfold World.frozen?; rw [h2]; rfl⟩
/-- The site's box, its walls and exponent stored. -/
theorem storedA {w w1 : World} (hb : w1.heap[w.heap.size + 1 + 1]? = some (.cells #[.slice (some ⟨w.heap.size, 0, none⟩) 2 2, .slice (some ⟨w.heap.size + 1, 0, none⟩) 2 2, .slice none 0 0, .int .i64 2, .int .i64 1, .int .i64 1000] 34 (0, 0))) (hs : Same (wX w) w1) :
    SA w w1.heap.size (((w1.setCell ⟨w.heap.size + 1 + 1, 3, none⟩ (.int .i64 4)).alloc (.cells #[.int .i64 20, .int .i64 40, .int .i64 20, .int .i64 60, .int .i64 250] 25)).setCell ⟨w.heap.size + 1 + 1, 2, none⟩ (.slice (some ⟨w1.heap.size, 0, none⟩) 1 1)) := by
  have hlt : w.heap.size + 1 + 1 < w1.heap.size := (Array.getElem?_eq_some_iff.1 hb).1
  have h1 : (w1.setCell ⟨w.heap.size + 1 + 1, 3, none⟩ (.int .i64 4)).heap[w.heap.size + 1 + 1]? = some (.cells #[.slice (some ⟨w.heap.size, 0, none⟩) 2 2, .slice (some ⟨w.heap.size + 1, 0, none⟩) 2 2, .slice none 0 0, .int .i64 4, .int .i64 1, .int .i64 1000] 34 (0, 0)) := heap_setCell_same _ _ 3 _ _ _ hb
  have hsz : (w1.setCell ⟨w.heap.size + 1 + 1, 3, none⟩ (.int .i64 4)).heap.size = w1.heap.size := by simp [World.setCell]
  have h2 : ((w1.setCell ⟨w.heap.size + 1 + 1, 3, none⟩ (.int .i64 4)).alloc (.cells #[.int .i64 20, .int .i64 40, .int .i64 20, .int .i64 60, .int .i64 250] 25)).heap[w.heap.size + 1 + 1]? = some (.cells #[.slice (some ⟨w.heap.size, 0, none⟩) 2 2, .slice (some ⟨w.heap.size + 1, 0, none⟩) 2 2, .slice none 0 0, .int .i64 4, .int .i64 1, .int .i64 1000] 34 (0, 0)) := (Below.heap_alloc _ _ _ (by rw [hsz]; exact hlt)).trans h1
  have h3 := heap_setCell_same _ (w.heap.size + 1 + 1) 2 _ _ (.slice (some ⟨w1.heap.size, 0, none⟩) 1 1) h2
  have h4 : (((w1.setCell ⟨w.heap.size + 1 + 1, 3, none⟩ (.int .i64 4)).alloc (.cells #[.int .i64 20, .int .i64 40, .int .i64 20, .int .i64 60, .int .i64 250] 25)).setCell ⟨w.heap.size + 1 + 1, 2, none⟩ (.slice (some ⟨w1.heap.size, 0, none⟩) 1 1)).heap[w1.heap.size]? = some (.cells #[.int .i64 20, .int .i64 40, .int .i64 20, .int .i64 60, .int .i64 250] 25 (0, 0)) := by
    rw [Below.heap_setCell _ _ _ _ (by simp; omega)]
    have := World.alloc_heap_new (w1.setCell ⟨w.heap.size + 1 + 1, 3, none⟩ (.int .i64 4)) (.cells #[.int .i64 20, .int .i64 40, .int .i64 20, .int .i64 60, .int .i64 250] 25)
    rwa [hsz] at this
  have hS : Same (wX w) (((w1.setCell ⟨w.heap.size + 1 + 1, 3, none⟩ (.int .i64 4)).alloc (.cells #[.int .i64 20, .int .i64 40, .int .i64 20, .int .i64 60, .int .i64 250] 25)).setCell ⟨w.heap.size + 1 + 1, 2, none⟩ (.slice (some ⟨w1.heap.size, 0, none⟩) 1 1)) := ((hs.setCell (by simp) _).alloc _).setCell (by simp) _
  refine ⟨?_, ?_, ?_, ?_, ?_, ?_, hS.cell (by go_simp), hS.cell (by go_simp), hS.cell (by go_simp), hS.cell (by go_simp), ?_, ?_, ?_, ?_, ?_, hS⟩
  all_goals first | (rw [cell_of_row _ _ _ _ _ _ h3]; rfl) | (rw [cell_of_row _ _ _ _ _ _ h4]; rfl)
set_option maxHeartbeats 3200000 in
set_option maxRecDepth 100000 in
theorem awake_any (w : World) : Calls Try.prog 11 #[] w fun e w' => e = .returned (.bool true) ∧ Same w w' := by
  have h1 := fun (w1 : World) (h : Same (wX w) w1) => between_api w1 (.agg #[.slice (some ⟨w.heap.size, 0, none⟩) 2 2, .slice (some ⟨w.heap.size + 1, 0, none⟩) 2 2, .slice none 0 0, .int .i64 2, .int .i64 1, .int .i64 1000]) siteX ⟨⟨_, _, _, rfl, (nodesX h).1, (nodesX h).2, .inr ⟨_, _, rfl, rfl⟩⟩⟩ 0 1
  rw [betX] at h1
  have H1 := Lib.hid h1; clear h1
  have h2 := fun (b : Nat) (w1 : World) (h : SA w b w1) => between_api w1 (vY w b) siteY (siteA h) 0 1
  rw [betY] at h2
  have H2 := Lib.hid h2; clear h2
  have H3 := Lib.hid (fun (b : Nat) (w1 : World) (h : SA w b w1) => check_at w1 (vY w b) siteY (siteA h) 0 (by rw [okY]; rfl))
  have h4 := fun w => square_any 0 50 30 50 (by decide) (by decide) (by decide) (by decide) w
  rw [show ((30 : Int) - 0) * (30 - 0) + (50 - 50) * (50 - 50) = 900 by decide] at h4
  have H4 := Lib.hid h4; clear h4
  have h5 := fun w => crosses_any 0 50 30 50 20 40 20 60 250 (by decide) (by decide) (by decide) (by decide) (by decide) (by decide) (by decide) (by decide) w
  rw [crY] at h5
  have H5 := Lib.hid h5; clear h5
  go_enter Try.func11, Try.ntmps11
  go_wp2_with (first
    | (go_at_call 20; (with_reducible refine (H1.out _ ((Same.refl _).alloc _)).mono ?_); rintro e w1 ⟨rfl, hw⟩; obtain ⟨hb, hs⟩ := startA hw; obtain ⟨c3, f3, c2, f2⟩ := midA hb; obtain ⟨d0, d1, d2, d3, d4, d5, d6⟩ := storedA hb hs; clear d6; have HSA := Lib.hid (storedA hb hs); clear hw hb hs)
    | (go_at_call 20; (with_reducible refine (H2.out _ _ HSA.out).mono ?_); rintro e w2 ⟨rfl, hw2⟩; have HS2 := Lib.hid (keepA HSA.out hw2); clear hw2 HSA c2 c3 f2 f3 d0 d1 d2 d3 d4 d5))
  clear H1 H2
  go_region_held3 (fun w' => SA w w1.heap.size w')
    (first | exact keepA HS2.out ((Same.refl _).drew) | exact keepA (by assumption) (by assumption) | assumption)
    (first
      | (go_at_call 24; (with_reducible refine (H3.out _ _ (by assumption)).mono ?_); rintro e w3 ⟨rfl, hw3⟩)
      | (go_at_call 13; (with_reducible refine (H4.out _).mono ?_); rintro e w4 ⟨rfl, hw4⟩)
      | (go_at_call 15; (with_reducible refine (H5.out _).mono ?_); rintro e w5 ⟨rfl, hw5⟩))
  have hfin := (by assumption : SA w w1.heap.size w5).2.2.2.2.2.2.2.2.2.2.2.2.2.2.2
  have hs : Same w w5 := (((Same.refl w).alloc _).alloc _).trans hfin
  have HF := Lib.hid hs
  clear hs hfin
  go_wp2
  go_ret
  exact ⟨rfl, HF.out⟩
end Go.Proofs.Ytcennbjegdlbhaa
