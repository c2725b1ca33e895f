/- The reference's Channel and Meet. -/
import Derived.Test.YtffanehmlbiemaaH4
namespace Go.Proofs.Ytffanehmlbiemaa
open Go.RowKit

def chanS (v f u : Int) (zs : List Int) (slot off : Int) : Int × Int :=
  if hopB v f u zs = true then if forceB slot f u = true then if 0 ≤ off ∧ off < (zs.length : Int) then (zs.getD ((slot + off) % (zs.length : Int)).toNat 0, 0) else (0, 2) else (0, 12) else (0, 1)
theorem IL.cells {w : World} {v : Value} {zs : List Int} (h : IL w v zs) (h0 : 0 < zs.length) : ∃ b off cap, v = .slice (some ⟨b, off, none⟩) zs.length cap ∧ ∀ i, i < zs.length → w.cell? ⟨b, off + i, none⟩ = some (.int .i64 (zs.getD i 0)) := by
  rcases h with ⟨b, off, cap, h1, _, _, h4⟩ | ⟨ao, cap, _, rfl⟩
  · exact ⟨b, off, cap, h1, h4⟩
  · simp at h0
theorem forceB_no {slot f u : Int} (h : ¬ forceB slot f u = true) : slot < f ∨ (f ≤ slot ∧ u ≤ slot) := by
  have : ¬ (f ≤ slot ∧ slot < u) := by simpa [forceB] using h
  omega
theorem forceB_of {slot f u : Int} (h : forceB slot f u = true) : f ≤ slot ∧ slot < u := by simpa [forceB] using h
set_option maxHeartbeats 3200000 in
set_option maxRecDepth 100000 in
theorem Channel2_any (v f u : Int) (s : Value) (zs : List Int) (slot off : Int) (w : World) (h : IL w s zs) (hl : zs.length ≤ 1000) : Calls Try.prog 13 #[hopV v f u s, .int .i64 slot, .int .i64 off] w fun e w' => e = .returned (.tuple #[.int .i64 (chanS v f u zs slot off).1, .int .i64 (chanS v f u zs slot off).2]) ∧ Same w w' := by
  have hCK := fun (w1 : World) (hs : Same w w1) => Check2_any v f u s zs w1 (h.same hs) hl
  by_cases h1 : hopB v f u zs = true
  · rw [show chkH v f u zs = 0 from if_pos h1] at hCK
    have HCK := Lib.hid hCK; clear hCK
    obtain ⟨_, g1, g2, g3, g4⟩ := hopB_of h1
    obtain ⟨g5, g6, _⟩ := chsB_of g4
    obtain ⟨b, o, cap, rfl, hc⟩ := h.cells g5
    have HS := Lib.hid ((Same.refl w).alloc (.cells #[.int .i64 v, .int .i64 f, .int .i64 u, .slice (some ⟨b, o, none⟩) zs.length cap] 24))
    have HB := Lib.hid (fun (w1 : World) (hs : Same (w.alloc (.cells #[.int .i64 v, .int .i64 f, .int .i64 u, .slice (some ⟨b, o, none⟩) zs.length cap] 24)) w1) => (show w1.cell? ⟨w.heap.size, 0, none⟩ = some (.int .i64 v) ∧ w1.cell? ⟨w.heap.size, 1, none⟩ = some (.int .i64 f) ∧ w1.cell? ⟨w.heap.size, 2, none⟩ = some (.int .i64 u) ∧ w1.cell? ⟨w.heap.size, 3, none⟩ = some (.slice (some ⟨b, o, none⟩) zs.length cap) from ⟨hs.cell (by go_simp), hs.cell (by go_simp), hs.cell (by go_simp), hs.cell (by go_simp)⟩))
    clear h g4
    by_cases h2 : forceB slot f u = true
    · obtain ⟨f1, f2⟩ := forceB_of h2
      by_cases h3 : 0 ≤ off ∧ off < (zs.length : Int)
      · have e : chanS v f u zs slot off = (zs.getD ((slot + off) % (zs.length : Int)).toNat 0, 0) := by
          unfold chanS; rw [if_pos h1, if_pos h2, if_pos h3]
        rw [e]; clear e h1 h2
        obtain ⟨o1, o2⟩ := h3
        have q1 : 0 ≤ (slot + off) % (zs.length : Int) := Int.emod_nonneg _ (by omega)
        have q2 : (slot + off) % (zs.length : Int) < (zs.length : Int) := Int.emod_lt_of_pos _ (by omega)
        have HCC := Lib.hid (fun (w1 : World) (hs : Same w w1) => hs.cell (hc ((slot + off) % (zs.length : Int)).toNat (by omega))); clear hc
        generalize zs.getD ((slot + off) % (zs.length : Int)).toNat 0 = x at *
        generalize zs.length = n at *
        go_enter Try.func13, Try.ntmps13
        go_wp2_with (go_at_call 17; (with_reducible refine (HCK.out _ (by exact HS.out)).mono ?_); rintro e w1 ⟨rfl, hw⟩; obtain ⟨e0, e1, e2, e3⟩ := HB.out _ hw; have HW := Lib.hid (HS.out.trans hw); clear hw)
        have gx := HCC.out _ HW.out
        go_quiet (fail)
        go_wp2
        go_ret2
        exact ⟨rfl, HW.out.drewN _⟩
      · have e : chanS v f u zs slot off = (0, 2) := by
          unfold chanS; rw [if_pos h1, if_pos h2, if_neg h3]
        rw [e]; clear e h1 h2 hc
        generalize zs.length = n at *
        by_cases o1 : off < 0
        · go_enter Try.func13, Try.ntmps13
          go_wp2_with (go_at_call 17; (with_reducible refine (HCK.out _ (by exact HS.out)).mono ?_); rintro e w1 ⟨rfl, hw⟩; obtain ⟨e0, e1, e2, e3⟩ := HB.out _ hw; have HW := Lib.hid (HS.out.trans hw); clear hw)
          go_ret2
          exact ⟨rfl, HW.out⟩
        · have o2 : (n : Int) ≤ off := by omega
          have o3 : 0 ≤ off := by omega
          clear h3 o1
          go_enter Try.func13, Try.ntmps13
          go_wp2_with (go_at_call 17; (with_reducible refine (HCK.out _ (by exact HS.out)).mono ?_); rintro e w1 ⟨rfl, hw⟩; obtain ⟨e0, e1, e2, e3⟩ := HB.out _ hw; have HW := Lib.hid (HS.out.trans hw); clear hw)
          go_ret2
          exact ⟨rfl, HW.out⟩
    · have e : chanS v f u zs slot off = (0, 12) := by
        unfold chanS; rw [if_pos h1, if_neg h2]
      rw [e]; clear e h1 hc
      generalize zs.length = n at *
      rcases forceB_no h2 with k1 | ⟨k1, k2⟩
      · clear h2
        go_enter Try.func13, Try.ntmps13
        go_wp2_with (go_at_call 17; (with_reducible refine (HCK.out _ (by exact HS.out)).mono ?_); rintro e w1 ⟨rfl, hw⟩; obtain ⟨e0, e1, e2, e3⟩ := HB.out _ hw; have HW := Lib.hid (HS.out.trans hw); clear hw)
        go_ret2
        exact ⟨rfl, HW.out⟩
      · clear h2
        go_enter Try.func13, Try.ntmps13
        go_wp2_with (go_at_call 17; (with_reducible refine (HCK.out _ (by exact HS.out)).mono ?_); rintro e w1 ⟨rfl, hw⟩; obtain ⟨e0, e1, e2, e3⟩ := HB.out _ hw; have HW := Lib.hid (HS.out.trans hw); clear hw)
        go_ret2
        exact ⟨rfl, HW.out⟩
  · rw [show chkH v f u zs = 1 from if_neg h1] at hCK
    have HCK := Lib.hid hCK; clear hCK
    have e : chanS v f u zs slot off = (0, 1) := by unfold chanS; rw [if_neg h1]
    rw [e]; clear e h1
    obtain ⟨ao, cap, rfl⟩ := h.shape
    clear h
    have HS := Lib.hid ((Same.refl w).alloc (.cells #[.int .i64 v, .int .i64 f, .int .i64 u, .slice ao zs.length cap] 24))
    generalize zs.length = n at *
    go_enter Try.func13, Try.ntmps13
    go_wp2_with (go_at_call 17; (with_reducible refine (HCK.out _ (by exact HS.out)).mono ?_); rintro e w1 ⟨rfl, hw⟩; have HW := Lib.hid (HS.out.trans hw); clear hw)
    go_ret2
    exact ⟨rfl, HW.out⟩
def meetS (v f u : Int) (zs : List Int) (slot a b : Int) : Bool × Int :=
  if (chanS v f u zs slot a).2 = 0 then if (chanS v f u zs slot b).2 = 0 then (decide ((chanS v f u zs slot a).1 = (chanS v f u zs slot b).1), 0) else (false, (chanS v f u zs slot b).2) else (false, (chanS v f u zs slot a).2)
end Go.Proofs.Ytffanehmlbiemaa
