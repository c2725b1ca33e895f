/- One correction within a tree: the node is acknowledged by its parent. -/
import Derived.Test.YtffcoeadpicohaaHearsT
namespace Go.Proofs.Ytffcoeadpicohaa
open Go.RowKit

set_option maxHeartbeats 4000000 in
set_option maxRecDepth 100000 in
theorem isAcked_any (w : World) (b1 o1 k1 b2 o2 k2 n N P : Nat) (c p : St) (slot : Int) (hN : N < n) (hP : P < n)
    (yc : YAt w b1 (o1 + N * 4) c) (yp : YAt w b1 (o1 + P * 4) p) (hp : w.cell? ⟨b2, o2 + N, none⟩ = some (.int .i64 P)) :
    Calls Try.prog 66 #[.agg #[.slice (some ⟨b1, o1, none⟩) n k1, .slice (some ⟨b2, o2, none⟩) n k2], .int .i64 N, .int .i64 slot] w
      fun e w' => e = .returned (.tuple #[vS (akS c p slot).1, .int .i64 (akS c p slot).2]) ∧ Same w w' := by
  have HYC := Lib.hid yc
  have HYP := Lib.hid yp
  have HPP := Lib.hid hp
  have hs1 := fun w => Send_is c.1 c.2.1 slot w
  have hm := fun w => Measure_any p.1 p.2.1 slot (sendS c.1 c.2.1 slot).1 w
  have hk := fun w => Acked_any c.1 c.2.1 c.2.2.1 c.2.2.2 slot (meS p.1 p.2.1 slot (sendS c.1 c.2.1 slot).1).1 w
  have hc := ak_cases c p slot
  have HN := Lib.hid (Bq.new w (.slice (some ⟨b1, o1, none⟩) n k1) (.slice (some ⟨b2, o2, none⟩) n k2))
  obtain ⟨a0, a1, z0, z1, z2, z3, f0, f1, f2, f3⟩ := HN.out.cells
  obtain ⟨y0, y1, y2, y3⟩ := HYC.out.same HN.out.2.2
  clear yc yp hp
  obtain ⟨p0, p1, p2, p3⟩ := p
  obtain ⟨c0, c1, c2, c3⟩ := c
  simp only at hs1 hm hk hc y0 y1 y2 y3
  rcases hc with ⟨e0, e1, hr⟩ | ⟨e0, e1, hr⟩ | ⟨e0, hr⟩ <;> rw [hr] <;> clear hr
  · generalize sendS c0 c1 slot = sd at *
    obtain ⟨T, E⟩ := sd
    simp only at e0 hs1 hm hk e1
    subst e0
    generalize meS p0 p1 slot T = mm at *
    obtain ⟨D, ME⟩ := mm
    simp only at e1 hm hk
    subst e1
    generalize acS c0 c1 c2 c3 slot D = r at *
    obtain ⟨⟨r0, r1, r2, r3⟩, re⟩ := r
    have H1 := Lib.hid hs1; clear hs1
    have H2 := Lib.hid hm; clear hm
    have H3 := Lib.hid hk; clear hk
    go_enter Try.func66, Try.ntmps66
    go_wp2_with (go_at_call 32; (with_reducible refine (H1.out _).mono ?_); rintro e w5 ⟨rfl, hw⟩; have HB := Lib.hid (HN.out.keep hw.toSame); clear hw a0 a1 z0 z1 z2 z3 f0 f1 f2 f3 y0 y1 y2 y3; obtain ⟨a0, a1, z0, z1, z2, z3, f0, f1, f2, f3⟩ := HB.out.cells; have q0 := HB.out.2.2.cell HPP.out; have q1 := HB.out.2.2.cell HYP.out.1; have q2 := HB.out.2.2.cell HYP.out.2.1)
    try simp only at q1 q2
    go_region_held3 (fun w' => w'.cell? ⟨w.heap.size, 0, none⟩ = some (.slice (some ⟨b1, o1, none⟩) n k1) ∧ w'.cell? ⟨w.heap.size, 1, none⟩ = some (.slice (some ⟨b2, o2, none⟩) n k2) ∧ w'.cell? ⟨b2, o2 + N, none⟩ = some (.int .i64 P) ∧ w'.cell? ⟨b1, o1 + P * 4, none⟩ = some (.int .i64 p0) ∧ w'.cell? ⟨b1, o1 + P * 4 + 1, none⟩ = some (.int .i64 p1) ∧ Same w5 w')
      (first
        | exact ⟨a0, a1, q0, q1, q2, (Same.refl w5).drew⟩
        | exact HeldT.keep ⟨a0, a1, q0, q1, q2, (Same.refl w5).drew⟩ (by assumption)
        | exact HeldT.keep (by assumption) (by assumption)
        | assumption)
      (first
        | (go_at_call 11; (with_reducible refine (H2.out _).mono ?_); rintro e w7 ⟨rfl, hw⟩; replace hw := hw.toSame)
        | fail)
    have hfin := (by assumption : HeldT w.heap.size b1 o1 b2 o2 N P (.slice (some ⟨b1, o1, none⟩) n k1) (.slice (some ⟨b2, o2, none⟩) n k2) p0 p1 w5 w7).2.2.2.2.2
    have HC := Lib.hid (HB.out.keep hfin)
    clear hfin a0 a1 z0 z1 z2 z3 f0 f1 f2 f3 q0 q1 q2 HB
    obtain ⟨a0, a1, z0, z1, z2, z3, f0, f1, f2, f3⟩ := HC.out.cells
    obtain ⟨y0, y1, y2, y3⟩ := HYC.out.same HC.out.2.2
    go_wp2_with (go_at_call 15; (with_reducible refine (H3.out _).mono ?_); rintro e w8 ⟨rfl, hw⟩; have HD := Lib.hid (HC.out.keep hw); clear hw HC a0 a1 z0 z1 z2 z3 f0 f1 f2 f3; obtain ⟨a0, a1, z0, z1, z2, z3, f0, f1, f2, f3⟩ := HD.out.cells)
    exact bodyPost_ret (v := .tuple #[.agg #[.int .i64 r0, .int .i64 r1, .int .i64 r2, .int .i64 r3], .int .i64 re]) (by simp [results, Try.results66, go_sem, z0, z1, z2, z3]) rfl ⟨rfl, HD.out.done _ _ _ _⟩
  · generalize sendS c0 c1 slot = sd at *
    obtain ⟨T, E⟩ := sd
    simp only at e0 hs1 hm hk e1
    subst e0
    generalize meS p0 p1 slot T = mm at *
    obtain ⟨D, ME⟩ := mm
    simp only at e1 hm hk
    have H1 := Lib.hid hs1; clear hs1
    have H2 := Lib.hid hm; clear hm
    clear hk
    go_enter Try.func66, Try.ntmps66
    go_wp2_with (go_at_call 32; (with_reducible refine (H1.out _).mono ?_); rintro e w5 ⟨rfl, hw⟩; have HB := Lib.hid (HN.out.keep hw.toSame); clear hw a0 a1 z0 z1 z2 z3 f0 f1 f2 f3 y0 y1 y2 y3; obtain ⟨a0, a1, z0, z1, z2, z3, f0, f1, f2, f3⟩ := HB.out.cells; have q0 := HB.out.2.2.cell HPP.out; have q1 := HB.out.2.2.cell HYP.out.1; have q2 := HB.out.2.2.cell HYP.out.2.1)
    try simp only at q1 q2
    go_region_held3 (fun w' => w'.cell? ⟨w.heap.size, 0, none⟩ = some (.slice (some ⟨b1, o1, none⟩) n k1) ∧ w'.cell? ⟨w.heap.size, 1, none⟩ = some (.slice (some ⟨b2, o2, none⟩) n k2) ∧ w'.cell? ⟨b2, o2 + N, none⟩ = some (.int .i64 P) ∧ w'.cell? ⟨b1, o1 + P * 4, none⟩ = some (.int .i64 p0) ∧ w'.cell? ⟨b1, o1 + P * 4 + 1, none⟩ = some (.int .i64 p1) ∧ Same w5 w')
      (first
        | exact ⟨a0, a1, q0, q1, q2, (Same.refl w5).drew⟩
        | exact HeldT.keep ⟨a0, a1, q0, q1, q2, (Same.refl w5).drew⟩ (by assumption)
        | exact HeldT.keep (by assumption) (by assumption)
        | assumption)
      (first
        | (go_at_call 11; (with_reducible refine (H2.out _).mono ?_); rintro e w7 ⟨rfl, hw⟩; replace hw := hw.toSame)
        | fail)
    have hfin := (by assumption : HeldT w.heap.size b1 o1 b2 o2 N P (.slice (some ⟨b1, o1, none⟩) n k1) (.slice (some ⟨b2, o2, none⟩) n k2) p0 p1 w5 w7).2.2.2.2.2
    have HC := Lib.hid (HB.out.keep hfin)
    clear hfin a0 a1 z0 z1 z2 z3 f0 f1 f2 f3 q0 q1 q2 HB
    obtain ⟨a0, a1, z0, z1, z2, z3, f0, f1, f2, f3⟩ := HC.out.cells
    obtain ⟨y0, y1, y2, y3⟩ := HYC.out.same HC.out.2.2
    go_wp2
    exact bodyPost_ret (v := nil4 ME) (by simp [results, Try.results66, go_sem, z0, z1, z2, z3]) rfl ⟨rfl, HC.out.done _ _ _ _⟩
  · generalize sendS c0 c1 slot = sd at *
    obtain ⟨T, E⟩ := sd
    simp only at e0 hs1
    have H1 := Lib.hid hs1; clear hs1 hm hk
    go_enter Try.func66, Try.ntmps66
    go_wp2_with (go_at_call 32; (with_reducible refine (H1.out _).mono ?_); rintro e w5 ⟨rfl, hw⟩; have HB := Lib.hid (HN.out.keep hw.toSame); clear hw a0 a1 z0 z1 z2 z3 f0 f1 f2 f3 y0 y1 y2 y3; obtain ⟨a0, a1, z0, z1, z2, z3, f0, f1, f2, f3⟩ := HB.out.cells)
    exact bodyPost_ret (v := nil4 E) (by simp [results, Try.results66, go_sem, z0, z1, z2, z3]) rfl ⟨rfl, HB.out.done _ _ _ _⟩
end Go.Proofs.Ytffcoeadpicohaa
