/- Frames: the check by package frame. -/
import Derived.Test.YtilpbbpdchbdfaaF2
namespace Go.Proofs.Ytilpbbpdchbdfaa
open Go.RowKit

def fieldsB (f : Fr) : Bool :=
  if f.k = 1 then (inB f.fl 0 255 && inB f.n 0 65535 && (f.e == 0 && f.sl == 0 && f.r == 0 && f.ep == 0))
  else if f.k = 2 then (inB f.e (-32768) 32767 && (f.fl == 0 && f.n == 0 && f.sl == 0 && f.r == 0 && f.ep == 0 && f.d.toList == []))
  else if f.k = 3 then (inB f.sl 0 109951162 && inB f.r 0 65535 && inB f.ep 0 65535 && (f.fl == 0 && f.n == 0 && f.e == 0))
  else if f.k = 4 then (f.fl == 0 && f.n == 0 && f.e == 0 && f.sl == 0 && f.r == 0 && f.ep == 0)
  else false
/-- A frame is valid. -/
def okB (f : Fr) : Bool := endsB f && inB f.l 0 255 && inB f.q 0 255 && fieldsB f
def chk (f : Fr) : Int := if okB f = true then 0 else 1
theorem hasFields_any (f : Fr) (w : World) : Calls Try.prog 40 #[frV f] w fun e w' => e = .returned (.bool (fieldsB f)) ∧ Same w w' := by
  obtain ⟨k, s, t, l, q, fl, n, e, sl, r, ep, d⟩ := f
  by_cases k1 : k = 1
  · subst k1
    exact hasFields_1 s t l q fl n e sl r ep d _ _ rfl rfl _ (by unfold fieldsB; rw [if_pos rfl]) w
  · by_cases k2 : k = 2
    · subst k2
      exact hasFields_2 s t l q fl n e sl r ep d _ rfl _ (by unfold fieldsB; rw [if_neg k1, if_pos rfl]) w
    · by_cases k3 : k = 3
      · subst k3
        exact hasFields_3 s t l q fl n e sl r ep d _ _ _ rfl rfl rfl _ (by unfold fieldsB; rw [if_neg k1, if_neg k2, if_pos rfl]) w
      · by_cases k4 : k = 4
        · subst k4
          exact hasFields_4 s t l q fl n e sl r ep d _ (by unfold fieldsB; rw [if_neg k1, if_neg k2, if_neg k3, if_pos rfl]) w
        · have e0 : fieldsB ⟨k, s, t, l, q, fl, n, e, sl, r, ep, d⟩ = false := by unfold fieldsB; rw [if_neg k1, if_neg k2, if_neg k3, if_neg k4]
          rw [e0]
          exact hasFields_9 k s t l q fl n e sl r ep d (by simpa using k1) (by simpa using k2) (by simpa using k3) (by simpa using k4) w
theorem Same.at {w w' : World} (h : Same w w') {b : Nat} {o : Obj} (hb : w.heap[b]? = some o) : w'.heap[b]? = some o := by
  rw [h.block b (lt_of_block hb)]; exact hb
/-- What lies in a frame's box. -/
theorem fr_cells {w : World} {b : Nat} {k s t l q fl n e sl r ep : Int} {d : ByteArray} {T : TypeId} (h : w.heap[b]? = some (.cells (frC ⟨k, s, t, l, q, fl, n, e, sl, r, ep, d⟩) T (0, 0))) :
    w.cell? ⟨b, 0, none⟩ = some (.int .i64 k) ∧ w.cell? ⟨b, 1, none⟩ = some (.int .i64 s) ∧ w.cell? ⟨b, 2, none⟩ = some (.int .i64 t) ∧ w.cell? ⟨b, 3, none⟩ = some (.int .i64 l) ∧ w.cell? ⟨b, 4, none⟩ = some (.int .i64 q) ∧ w.cell? ⟨b, 5, none⟩ = some (.int .i64 fl) ∧ w.cell? ⟨b, 6, none⟩ = some (.int .i64 n) ∧ w.cell? ⟨b, 7, none⟩ = some (.int .i64 e) ∧ w.cell? ⟨b, 8, none⟩ = some (.int .i64 sl) ∧ w.cell? ⟨b, 9, none⟩ = some (.int .i64 r) ∧ w.cell? ⟨b, 10, none⟩ = some (.int .i64 ep) ∧ w.cell? ⟨b, 11, none⟩ = some (.string d) := by
  simp [World.cell?, h]
theorem fr_box {w w1 : World} {k s t l q fl n e sl r ep : Int} {d : ByteArray} (h : Same (w.alloc (.cells (frC ⟨k, s, t, l, q, fl, n, e, sl, r, ep, d⟩) 23)) w1) :
    w1.heap[w.heap.size]? = some (.cells (frC ⟨k, s, t, l, q, fl, n, e, sl, r, ep, d⟩) 23 (0, 0)) := h.at (heap_alloc_new w _)
set_option maxRecDepth 100000 in
theorem check_bits (k s t l q fl n e sl r ep : Int) (d : ByteArray) (a b c z : Bool) (ha : endsB ⟨k, s, t, l, q, fl, n, e, sl, r, ep, d⟩ = a) (hb : inB l 0 255 = b) (hc : inB q 0 255 = c) (hz : fieldsB ⟨k, s, t, l, q, fl, n, e, sl, r, ep, d⟩ = z) (R : Int) (hR : (if (a && b && c && z) = true then 0 else 1) = R) (w : World) :
    Calls Try.prog 18 #[frV ⟨k, s, t, l, q, fl, n, e, sl, r, ep, d⟩] w fun E w' => E = .returned (.int .i64 R) ∧ Same w w' := by
  have hA := fun w1 => hasEnds_any ⟨k, s, t, l, q, fl, n, e, sl, r, ep, d⟩ w1
  have hB := fun w1 => within_any l 0 255 w1
  have hC := fun w1 => within_any q 0 255 w1
  have hZ := fun w1 => hasFields_any ⟨k, s, t, l, q, fl, n, e, sl, r, ep, d⟩ w1
  rw [ha] at hA
  rw [hb] at hB
  rw [hc] at hC
  rw [hz] at hZ
  have HS := Lib.hid ((Same.refl w).alloc (.cells (frC ⟨k, s, t, l, q, fl, n, e, sl, r, ep, d⟩) 23))
  have HB0 := Lib.hid (fun (w1 : World) (h : Same (w.alloc (.cells (frC ⟨k, s, t, l, q, fl, n, e, sl, r, ep, d⟩) 23)) w1) => fr_cells (fr_box h))
  have HA := Lib.hid hA; have HB := Lib.hid hB; have HC := Lib.hid hC; have HZ := Lib.hid hZ
  have HR := Lib.hid hR
  clear hA hB hC hZ hR ha hb hc hz
  cases a <;> cases b <;> cases c <;> cases z
  all_goals
    go_enter Try.func18, Try.ntmps18
    go_wp2_with (first
      | (go_at_call 38; (with_reducible refine (HA.out _).mono ?_); rintro e w1 ⟨rfl, hw⟩; obtain ⟨c0, c1, c2, c3, c4, c5, c6, c7, c8, c9, c10, c11⟩ := HB0.out _ hw; have HW := Lib.hid (HS.out.trans hw); clear hw)
      | (go_at_call 39; (with_reducible refine (HB.out _).mono ?_); rintro e w1 ⟨rfl, hw⟩; replace hw := hw.symm; subst hw)
      | (go_at_call 39; (with_reducible refine (HC.out _).mono ?_); rintro e w1 ⟨rfl, hw⟩; replace hw := hw.symm; subst hw)
      | (go_at_call 40; (with_reducible refine (HZ.out _).mono ?_); rintro e w1 ⟨rfl, hw⟩; have HW2 := Lib.hid (HW.out.trans hw); clear hw))
    go_ret
    exact ⟨by rw [← HR.out]; rfl, by first | exact HW2.out | exact HW.out⟩
theorem check_any (f : Fr) (w : World) : Calls Try.prog 18 #[frV f] w fun e w' => e = .returned (.int .i64 (chk f)) ∧ Same w w' := by
  obtain ⟨k, s, t, l, q, fl, n, e, sl, r, ep, d⟩ := f
  exact check_bits k s t l q fl n e sl r ep d _ _ _ _ rfl rfl rfl rfl _ rfl w
end Go.Proofs.Ytilpbbpdchbdfaa
