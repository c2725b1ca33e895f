/- InForce of package hop. -/
import Derived.Test.YtffanehmlbiemaaHForce
namespace Go.Proofs.Ytffanehmlbiemaa
open Go.RowKit Go.Deep

set_option maxHeartbeats 6400000 in
set_option maxRecDepth 100000 in
theorem InForce_any (w : World) (v : Value) (hs : List Hp) (slot : Int) (h : HL w v hs) (hz : ∀ i, (hs.getD i hp0).2.2.2.length ≤ 1000) (hn : hs.length ≤ 2000) :
    Calls Try.prog 19 #[v, .int .i64 slot] w (ForceP w (forS hs slot)) := by
  have hca := fun (w1 : World) (q : Same w w1) => CheckAll_any w1 v hs (h.same q) hz
  unfold ForceP
  have HS := Lib.hid ((Same.refl w).alloc (.cells #[.int .i64 0, .int .i64 0, .int .i64 0, .slice none 0 0] 24))
  have HRB := Lib.hid (fun (w1 : World) (q : Same (w.alloc (.cells #[.int .i64 0, .int .i64 0, .int .i64 0, .slice none 0 0] 24)) w1) => rowH (q.heap (heap_alloc_new w _)))
  by_cases c0 : allE hs = 0
  · rw [c0] at hca
    have HCA := Lib.hid hca; clear hca
    rw [show forS hs slot = forK hs slot hs.length from if_pos c0]
    have HHIT := Lib.hid (fun (k : Nat) (hk : k < hs.length) (h0 : ∀ j, j < k → forceB slot (hs.getD j hp0).2.1 (hs.getD j hp0).2.2.1 = false) (h : forceB slot (hs.getD k hp0).2.1 (hs.getD k hp0).2.2.1 = true) => (show forK hs slot hs.length = (hs.getD k hp0, 0) from by
      have := forK_hit h0 h (hs.length - k - 1)
      rwa [show k + 1 + (hs.length - k - 1) = hs.length by omega] at this))
    have HNO := Lib.hid (forK_none (hs := hs) (slot := slot) hs.length)
    have HHOP := Lib.hid (allE_hop c0)
    have HLN := Lib.hid hz
    rcases h with ⟨b, off, cap, rfl, h0, hc⟩ | ⟨ao, cap, rfl, rfl⟩
    · have H := Lib.hid hc; clear hc
      generalize forK hs slot hs.length = R at *
      clear c0 hz
      generalize hnn : hs.length = n at *
      clear hnn
      go_enter Try.func19, Try.ntmps19
      go_wp2_with (go_at_call 22; (with_reducible refine (HCA.out _ (by exact HS.out)).mono ?_); rintro e w1 ⟨rfl, hw⟩; have HW1 := Lib.hid hw; clear hw)
      clear HCA
      go_loopw [17] (fun i wr => ∃ k : Nat, k ≤ n ∧ i = .int .i64 k ∧ (∀ j, j < k → forceB slot (hs.getD j hp0).2.1 (hs.getD j hp0).2.2.1 = false) ∧ Same (w.alloc (.cells #[.int .i64 0, .int .i64 0, .int .i64 0, .slice none 0 0] 24)) wr) (fun i _ => n - (intOf i).toNat)
      case atStart => exact ⟨0, Nat.zero_le _, rfl, fun j hj => absurd hj (Nat.not_lt_zero _), HW1.out⟩
      case round =>
        obtain ⟨k, hk, rfl, hall, hS⟩ := hrel
        obtain ⟨m0, m1, m2, m3, m4, m5, m6, m7⟩ := HRB.out _ hS
        by_cases hlt : k < n
        · obtain ⟨ao, ca, z0, z1, z2, z3, hil⟩ := H.out k hlt
          have hQQ := HS.out.trans hS
          replace z0 := hQQ.cell z0; replace z1 := hQQ.cell z1; replace z2 := hQQ.cell z2; replace z3 := hQQ.cell z3
          clear hQQ
          have hhop := HHOP.out k hlt
          have hln := HLN.out k
          have HALL := Lib.hid (fun (q : forceB slot (hs.getD k hp0).2.1 (hs.getD k hp0).2.2.1 = false) (j : Nat) (hj : j < k + 1) => (show forceB slot (hs.getD j hp0).2.1 (hs.getD j hp0).2.2.1 = false from by
            by_cases e : j = k
            · subst e; exact q
            · exact hall j (by omega)))
          have hhit := HHIT.out k hlt hall
          obtain ⟨x, hx⟩ : ∃ x, hs.getD k hp0 = x := ⟨_, rfl⟩
          rw [hx] at z0 z1 z2 z3 hil hhop HALL hhit hln
          obtain ⟨xv, xf, xu, xz⟩ := x
          simp only at z0 z1 z2 z3 hil HALL hhit hln
          clear hall hx
          have HSR := Lib.hid hS; clear hS
          have hu : 0 ≤ xu ∧ xu ≤ 109951164 := by
            have := hopB_of (show hopB xv xf xu xz = true from hhop)
            omega
          have hif := fun (w2 : World) => isInForce_any xv xf xu (.slice ao xz.length ca) ao xz.length ca rfl slot w2 hu
          have HCL := Lib.hid (fun (w2 : World) (q : Same w w2) => CloneI_own w2 (.slice ao xz.length ca) xz (hil.same q) hln)
          have HPB := Lib.hid (fun (w2 : World) (q : Same (wr.alloc (.cells #[.int .i64 xv, .int .i64 xf, .int .i64 xu, .slice ao xz.length ca] 24)) w2) => rowH (q.heap (heap_alloc_new wr _)))
          have hb3 : w.heap.size ≤ wr.heap.size := (HS.out.trans HSR.out).size
          have HB3 := Lib.hid hb3
          by_cases hf : forceB slot xf xu = true
          · have hR := hhit hf
            subst hR
            rw [hf] at hif
            have HIF := Lib.hid hif; clear hif
            have hq0 : w.heap.size < wr.heap.size := by
              have := HSR.out.size
              simp at this
              omega
            have hq1 : ¬ w.heap.size = wr.heap.size := by omega
            have hq2 : ¬ wr.heap.size = w.heap.size := by omega
            clear hf hhit HALL hhop hil hu hb3
            go_wp2_with (first
              | (go_at_call 35; (with_reducible refine (HIF.out _).mono ?_); rintro e w2 ⟨rfl, hw⟩; have HW2 := Lib.hid hw; obtain ⟨p0, p1, p2, p3, p4, p5, p6, p7⟩ := HPB.out _ hw; clear hw m0 m1 m2 m3 m4 m5 m6 m7)
              | (go_at_call 26; (with_reducible refine (HCL.out _ (by exact HS.out.trans ((HSR.out.alloc _).trans HW2.out))).mono ?_); rintro e w3 ⟨u3, rfl, hw, hown⟩; obtain ⟨a5, c5, he5⟩ := (IL.of_own (zs := xz) hown).shape; subst he5; have HOW := Lib.hid hown; have HWB := Lib.hid HW2.out.size; have HW3 := Lib.hid ((HSR.out.alloc _).trans (HW2.out.trans hw)); have hp := HPB.out _ (HW2.out.trans hw); clear p0 p1 p2 p3 p4 p5 p6 p7; obtain ⟨p0, p1, p2, p3, p4, p5, p6, p7⟩ := hp; obtain ⟨m0, m1, m2, m3, m4, m5, m6, m7⟩ := HRB.out _ HW3.out; clear hw hown))
            have hb3 := HB3.out
            have hb0 := HWB.out
            simp at hb0
            have hb1 : wr.heap.size < w2.heap.size := by omega
            have hb2 : w.heap.size < w2.heap.size := by omega
            have e0 : (((((w3.setCell ⟨wr.heap.size, 3, none⟩ (.slice a5 xz.length c5)).setCell ⟨w.heap.size, 0, none⟩ (.int .i64 xv)).setCell ⟨w.heap.size, 1, none⟩ (.int .i64 xf)).setCell ⟨w.heap.size, 2, none⟩ (.int .i64 xu)).setCell ⟨w.heap.size, 3, none⟩ (.slice a5 xz.length c5)).cell? ⟨w.heap.size, 0, none⟩ = some (.int .i64 xv) := by go_simp
            have e1 : (((((w3.setCell ⟨wr.heap.size, 3, none⟩ (.slice a5 xz.length c5)).setCell ⟨w.heap.size, 0, none⟩ (.int .i64 xv)).setCell ⟨w.heap.size, 1, none⟩ (.int .i64 xf)).setCell ⟨w.heap.size, 2, none⟩ (.int .i64 xu)).setCell ⟨w.heap.size, 3, none⟩ (.slice a5 xz.length c5)).cell? ⟨w.heap.size, 1, none⟩ = some (.int .i64 xf) := by go_simp
            have e2 : (((((w3.setCell ⟨wr.heap.size, 3, none⟩ (.slice a5 xz.length c5)).setCell ⟨w.heap.size, 0, none⟩ (.int .i64 xv)).setCell ⟨w.heap.size, 1, none⟩ (.int .i64 xf)).setCell ⟨w.heap.size, 2, none⟩ (.int .i64 xu)).setCell ⟨w.heap.size, 3, none⟩ (.slice a5 xz.length c5)).cell? ⟨w.heap.size, 2, none⟩ = some (.int .i64 xu) := by go_simp
            have e3 : (((((w3.setCell ⟨wr.heap.size, 3, none⟩ (.slice a5 xz.length c5)).setCell ⟨w.heap.size, 0, none⟩ (.int .i64 xv)).setCell ⟨w.heap.size, 1, none⟩ (.int .i64 xf)).setCell ⟨w.heap.size, 2, none⟩ (.int .i64 xu)).setCell ⟨w.heap.size, 3, none⟩ (.slice a5 xz.length c5)).cell? ⟨w.heap.size, 3, none⟩ = some (.slice a5 xz.length c5) := by go_simp
            have hsm : Same w (((((w3.setCell ⟨wr.heap.size, 3, none⟩ (.slice a5 xz.length c5)).setCell ⟨w.heap.size, 0, none⟩ (.int .i64 xv)).setCell ⟨w.heap.size, 1, none⟩ (.int .i64 xf)).setCell ⟨w.heap.size, 2, none⟩ (.int .i64 xu)).setCell ⟨w.heap.size, 3, none⟩ (.slice a5 xz.length c5)) := ((((((HS.out.trans (HW3.out)).setCell (p := ⟨wr.heap.size, 3, none⟩) hb3 _).setCell (p := ⟨w.heap.size, 0, none⟩) (Nat.le_refl _) _).setCell (p := ⟨w.heap.size, 1, none⟩) (Nat.le_refl _) _).setCell (p := ⟨w.heap.size, 2, none⟩) (Nat.le_refl _) _).setCell (p := ⟨w.heap.size, 3, none⟩) (Nat.le_refl _) _)
            have hil := IL.of_own (zs := xz) (own_set (i := 3) (u := .slice a5 xz.length c5) (own_set (i := 2) (u := .int .i64 xu) (own_set (i := 1) (u := .int .i64 xf) (own_set (i := 0) (u := .int .i64 xv) (own_set (i := 3) (u := .slice a5 xz.length c5) HOW.out hb1) hb2) hb2) hb2) hb2)
            generalize (((((w3.setCell ⟨wr.heap.size, 3, none⟩ (.slice a5 xz.length c5)).setCell ⟨w.heap.size, 0, none⟩ (.int .i64 xv)).setCell ⟨w.heap.size, 1, none⟩ (.int .i64 xf)).setCell ⟨w.heap.size, 2, none⟩ (.int .i64 xu)).setCell ⟨w.heap.size, 3, none⟩ (.slice a5 xz.length c5)) = W at *
            refine bodyPost_ret (v := .tuple #[.agg #[.int .i64 xv, .int .i64 xf, .int .i64 xu, .slice a5 xz.length c5], .int .i64 0]) ?_ rfl ⟨_, rfl, hsm, hil⟩
            simp [results, Try.f19, go_sem, e0, e1, e2, e3]
          · have HFF := Lib.hid (HALL.out (by simpa using hf))
            rw [show forceB slot xf xu = false from by simpa using hf] at hif
            have HIF := Lib.hid hif; clear hif
            clear hf hhit HALL hhop hil hu hb3 m0 m1 m2 m3 m4 m5 m6 m7
            go_wp2_with (go_at_call 35; (with_reducible refine (HIF.out _).mono ?_); rintro e w2 ⟨rfl, hw⟩; have HW2 := Lib.hid hw; clear hw)
            go_roundw
            case rel => exact ⟨k + 1, by omega, by go_num, HFF.out, (HSR.out.alloc _).trans HW2.out⟩
            case measure => simp [intOf]; omega
        · obtain rfl : n = k := by omega
          have hF := HNO.out hall
          subst hF
          have HQ := Lib.hid (HS.out.trans hS); clear hall hS
          go_wp2
          have e0 : ((((wr.setCell ⟨w.heap.size, 0, none⟩ (.int .i64 0)).setCell ⟨w.heap.size, 1, none⟩ (.int .i64 0)).setCell ⟨w.heap.size, 2, none⟩ (.int .i64 0)).setCell ⟨w.heap.size, 3, none⟩ (.slice none 0 0)).cell? ⟨w.heap.size, 0, none⟩ = some (.int .i64 0) := by go_simp
          have e1 : ((((wr.setCell ⟨w.heap.size, 0, none⟩ (.int .i64 0)).setCell ⟨w.heap.size, 1, none⟩ (.int .i64 0)).setCell ⟨w.heap.size, 2, none⟩ (.int .i64 0)).setCell ⟨w.heap.size, 3, none⟩ (.slice none 0 0)).cell? ⟨w.heap.size, 1, none⟩ = some (.int .i64 0) := by go_simp
          have e2 : ((((wr.setCell ⟨w.heap.size, 0, none⟩ (.int .i64 0)).setCell ⟨w.heap.size, 1, none⟩ (.int .i64 0)).setCell ⟨w.heap.size, 2, none⟩ (.int .i64 0)).setCell ⟨w.heap.size, 3, none⟩ (.slice none 0 0)).cell? ⟨w.heap.size, 2, none⟩ = some (.int .i64 0) := by go_simp
          have e3 : ((((wr.setCell ⟨w.heap.size, 0, none⟩ (.int .i64 0)).setCell ⟨w.heap.size, 1, none⟩ (.int .i64 0)).setCell ⟨w.heap.size, 2, none⟩ (.int .i64 0)).setCell ⟨w.heap.size, 3, none⟩ (.slice none 0 0)).cell? ⟨w.heap.size, 3, none⟩ = some (.slice none 0 0) := by go_simp
          have hsm : Same w ((((wr.setCell ⟨w.heap.size, 0, none⟩ (.int .i64 0)).setCell ⟨w.heap.size, 1, none⟩ (.int .i64 0)).setCell ⟨w.heap.size, 2, none⟩ (.int .i64 0)).setCell ⟨w.heap.size, 3, none⟩ (.slice none 0 0)) := ((((HQ.out.setCell (p := ⟨w.heap.size, 0, none⟩) (Nat.le_refl _) _).setCell (p := ⟨w.heap.size, 1, none⟩) (Nat.le_refl _) _).setCell (p := ⟨w.heap.size, 2, none⟩) (Nat.le_refl _) _).setCell (p := ⟨w.heap.size, 3, none⟩) (Nat.le_refl _) _)
          have hil : IL ((((wr.setCell ⟨w.heap.size, 0, none⟩ (.int .i64 0)).setCell ⟨w.heap.size, 1, none⟩ (.int .i64 0)).setCell ⟨w.heap.size, 2, none⟩ (.int .i64 0)).setCell ⟨w.heap.size, 3, none⟩ (.slice none 0 0)) (.slice none 0 0) [] := .inr ⟨_, _, rfl, rfl⟩
          generalize ((((wr.setCell ⟨w.heap.size, 0, none⟩ (.int .i64 0)).setCell ⟨w.heap.size, 1, none⟩ (.int .i64 0)).setCell ⟨w.heap.size, 2, none⟩ (.int .i64 0)).setCell ⟨w.heap.size, 3, none⟩ (.slice none 0 0)) = W at *
          refine bodyPost_ret (v := .tuple #[.agg #[.int .i64 0, .int .i64 0, .int .i64 0, .slice none 0 0], .int .i64 7]) ?_ rfl ⟨_, rfl, hsm, hil⟩
          simp [results, Try.f19, go_sem, e0, e1, e2, e3]
    · exact absurd c0 (by decide)
  · rw [show forS hs slot = (hp0, allE hs) from if_neg c0]
    generalize allE hs = E at *
    have c1 : (E != 0) = true := by simpa using c0
    have c2 : (E == 0) = false := by simpa using c0
    have HCA := Lib.hid hca; clear hca c0
    obtain ⟨aV, cV, rfl⟩ := h.shape
    clear h hz
    generalize hs.length = n at *
    go_enter Try.func19, Try.ntmps19
    go_wp2_with (go_at_call 22; (with_reducible refine (HCA.out _ (by exact HS.out)).mono ?_); rintro e w1 ⟨rfl, hw⟩; have HW1 := Lib.hid (HS.out.trans hw); obtain ⟨m0, m1, m2, m3, m4, m5, m6, m7⟩ := HRB.out _ hw; clear hw)
    have e0 : ((((w1.setCell ⟨w.heap.size, 0, none⟩ (.int .i64 0)).setCell ⟨w.heap.size, 1, none⟩ (.int .i64 0)).setCell ⟨w.heap.size, 2, none⟩ (.int .i64 0)).setCell ⟨w.heap.size, 3, none⟩ (.slice none 0 0)).cell? ⟨w.heap.size, 0, none⟩ = some (.int .i64 0) := by go_simp
    have e1 : ((((w1.setCell ⟨w.heap.size, 0, none⟩ (.int .i64 0)).setCell ⟨w.heap.size, 1, none⟩ (.int .i64 0)).setCell ⟨w.heap.size, 2, none⟩ (.int .i64 0)).setCell ⟨w.heap.size, 3, none⟩ (.slice none 0 0)).cell? ⟨w.heap.size, 1, none⟩ = some (.int .i64 0) := by go_simp
    have e2 : ((((w1.setCell ⟨w.heap.size, 0, none⟩ (.int .i64 0)).setCell ⟨w.heap.size, 1, none⟩ (.int .i64 0)).setCell ⟨w.heap.size, 2, none⟩ (.int .i64 0)).setCell ⟨w.heap.size, 3, none⟩ (.slice none 0 0)).cell? ⟨w.heap.size, 2, none⟩ = some (.int .i64 0) := by go_simp
    have e3 : ((((w1.setCell ⟨w.heap.size, 0, none⟩ (.int .i64 0)).setCell ⟨w.heap.size, 1, none⟩ (.int .i64 0)).setCell ⟨w.heap.size, 2, none⟩ (.int .i64 0)).setCell ⟨w.heap.size, 3, none⟩ (.slice none 0 0)).cell? ⟨w.heap.size, 3, none⟩ = some (.slice none 0 0) := by go_simp
    have hsm : Same w ((((w1.setCell ⟨w.heap.size, 0, none⟩ (.int .i64 0)).setCell ⟨w.heap.size, 1, none⟩ (.int .i64 0)).setCell ⟨w.heap.size, 2, none⟩ (.int .i64 0)).setCell ⟨w.heap.size, 3, none⟩ (.slice none 0 0)) := ((((HW1.out.setCell (p := ⟨w.heap.size, 0, none⟩) (Nat.le_refl _) _).setCell (p := ⟨w.heap.size, 1, none⟩) (Nat.le_refl _) _).setCell (p := ⟨w.heap.size, 2, none⟩) (Nat.le_refl _) _).setCell (p := ⟨w.heap.size, 3, none⟩) (Nat.le_refl _) _)
    have hil : IL ((((w1.setCell ⟨w.heap.size, 0, none⟩ (.int .i64 0)).setCell ⟨w.heap.size, 1, none⟩ (.int .i64 0)).setCell ⟨w.heap.size, 2, none⟩ (.int .i64 0)).setCell ⟨w.heap.size, 3, none⟩ (.slice none 0 0)) (.slice none 0 0) [] := .inr ⟨_, _, rfl, rfl⟩
    generalize ((((w1.setCell ⟨w.heap.size, 0, none⟩ (.int .i64 0)).setCell ⟨w.heap.size, 1, none⟩ (.int .i64 0)).setCell ⟨w.heap.size, 2, none⟩ (.int .i64 0)).setCell ⟨w.heap.size, 3, none⟩ (.slice none 0 0)) = W at *
    refine bodyPost_ret (v := .tuple #[.agg #[.int .i64 0, .int .i64 0, .int .i64 0, .slice none 0 0], .int .i64 E]) ?_ rfl ⟨_, rfl, hsm, hil⟩
    simp [results, Try.f19, go_sem, e0, e1, e2, e3]
end Go.Proofs.Ytffanehmlbiemaa
