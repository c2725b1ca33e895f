/- HopCovers: in each slot of a valid sequence one list is in force, which is one of them, and in no other slot. No conditions. -/
import Derived.Test.YtffanehmlbiemaaHCov1
namespace Go.Proofs.Ytffanehmlbiemaa
open Go.RowKit Go.Deep

abbrev fst (hs : List Hp) (i : Nat) : Int := (hs.getD i hp0).2.1
abbrev unt (hs : List Hp) (i : Nat) : Int := (hs.getD i hp0).2.2.1
theorem allE_pos {hs : List Hp} (h : allE hs = 0) : 0 < hs.length := by
  unfold allE at h
  split at h
  · rename_i q
    have := (inB_yes q).1
    omega
  · exact absurd h (by decide)
theorem allE_less {hs : List Hp} (h : allE hs = 0) (j : Nat) (hj : j < hs.length) : fst hs j < unt hs j := (hopB_of (allE_hop h j hj)).2.2.1
theorem allE_next {hs : List Hp} (h : allE hs = 0) (j : Nat) (hj : j + 1 < hs.length) : fst hs (j + 1) = unt hs j := by
  have hh := allE_hop h (j + 1) hj
  unfold allE at h
  split at h
  · have := allK_all _ h (j + 1) hj
    unfold stepE at this
    rw [if_pos hh, if_neg (by omega), Nat.add_sub_cancel] at this
    unfold folS at this
    by_cases q : (hs.getD (j + 1) hp0).2.1 = (hs.getD j hp0).2.2.1
    · exact q
    · rw [if_neg q] at this; exact absurd this (by decide)
  · exact absurd h (by decide)
theorem fst_mono {hs : List Hp} (h : allE hs = 0) : ∀ j, j < hs.length → fst hs 0 ≤ fst hs j
  | 0, _ => Int.le_refl _
  | j + 1, hj => by
    have a := fst_mono h j (by omega)
    have b := allE_next h j hj
    have c := allE_less h j (by omega)
    omega
theorem unt_mono {hs : List Hp} (h : allE hs = 0) : ∀ d j, j + d < hs.length → unt hs j ≤ unt hs (j + d)
  | 0, j, _ => Int.le_refl _
  | d + 1, j, hj => by
    have a := unt_mono h d j (by omega)
    have b := allE_next h (j + d) (by omega)
    have c := allE_less h (j + d + 1) (by omega)
    show unt hs j ≤ unt hs (j + d + 1)
    omega
theorem forceB_false {slot f u : Int} (h : slot < f ∨ u ≤ slot) : forceB slot f u = false := by
  unfold forceB
  exact decide_eq_false (by omega)
theorem for_out {hs : List Hp} {slot : Int} {m : Nat} (h : allE hs = 0) (hm : hs.length = m + 1) (ho : slot < fst hs 0 ∨ unt hs m ≤ slot) : forS hs slot = (hp0, 7) := by
  unfold forS
  rw [if_pos h]
  refine forK_none _ fun j hj => forceB_false ?_
  rcases ho with q | q
  · have := fst_mono h j hj
    exact .inl (by show slot < fst hs j; omega)
  · have := unt_mono h (m - j) j (by omega)
    rw [show j + (m - j) = m by omega] at this
    exact .inr (by show unt hs j ≤ slot; omega)
theorem for_find {hs : List Hp} {slot : Int} (h : allE hs = 0) (h0 : fst hs 0 ≤ slot) : ∀ m, m ≤ hs.length → (∃ K, K < m ∧ forceB slot (fst hs K) (unt hs K) = true ∧ ∀ j, j < K → forceB slot (fst hs j) (unt hs j) = false) ∨ (∀ j, j < m → forceB slot (fst hs j) (unt hs j) = false ∧ unt hs j ≤ slot)
  | 0, _ => .inr fun j hj => absurd hj (Nat.not_lt_zero _)
  | m + 1, hm => by
    rcases for_find h h0 m (by omega) with ⟨K, a, b⟩ | q
    · exact .inl ⟨K, by omega, b⟩
    · have hf : fst hs m ≤ slot := by
        cases m with
        | zero => exact h0
        | succ i => have := allE_next h i (by omega); have := (q i (by omega)).2; omega
      by_cases hu : slot < unt hs m
      · exact .inl ⟨m, by omega, decide_eq_true ⟨hf, hu⟩, fun j hj => (q j hj).1⟩
      · refine .inr fun j hj => ?_
        by_cases e : j = m
        · subst e; exact ⟨forceB_false (.inr (by omega)), by omega⟩
        · exact q j (by omega)
theorem for_in {hs : List Hp} {slot : Int} {m : Nat} (h : allE hs = 0) (hm : hs.length = m + 1) (h0 : fst hs 0 ≤ slot) (h1 : slot < unt hs m) : ∃ K, K < hs.length ∧ forS hs slot = (hs.getD K hp0, 0) ∧ fst hs K ≤ slot ∧ slot < unt hs K := by
  rcases for_find h h0 hs.length (Nat.le_refl _) with ⟨K, hK, a, b⟩ | q
  · refine ⟨K, hK, ?_, ?_⟩
    · unfold forS
      rw [if_pos h]
      have := forK_hit b a (hs.length - K - 1)
      rwa [show K + 1 + (hs.length - K - 1) = hs.length by omega] at this
    · unfold forceB at a
      exact of_decide_eq_true a
  · have := (q m (by omega)).2
    omega
theorem capOf {w : World} {B : Nat} {v f u : Int} {zs : List Int} {ao : Option Addr} {cap : Nat} (h0 : w.cell? ⟨B, 0, none⟩ = some (.int .i64 v)) (h1 : w.cell? ⟨B, 1, none⟩ = some (.int .i64 f)) (h2 : w.cell? ⟨B, 2, none⟩ = some (.int .i64 u)) (h3 : w.cell? ⟨B, 3, none⟩ = some (.slice ao zs.length cap)) (h4 : IL w (.slice ao zs.length cap) zs) : Cap w B (v, f, u, zs) :=
  ⟨ao, cap, h0, h1, h2, h3, h4⟩
namespace hopCovers
set_option maxHeartbeats 6400000 in
set_option maxRecDepth 100000 in
theorem early (w : World) (v : Value) (hs : List Hp) (h : HL w v hs) (slot : Int) (hf : fewB hs = false) : Calls Try.prog 8 #[v, .int .i64 slot] w fun e w' => e = .returned (.bool true) ∧ Same w w' := by
  have HAW := Lib.hid (fun w => hawake_any w)
  have HFW := Lib.hid (fun (w1 : World) (q : Same w w1) => by have := few_any w1 v hs (h.same q); rw [hf] at this; exact this)
  obtain ⟨aV, cV, rfl⟩ := h.shape
  clear h hf
  generalize hs.length = n at *
  go_enter Try.func8, Try.ntmps8
  go_wp2_with (first
    | (go_at_call 11; (with_reducible refine (HAW.out _).mono ?_); rintro e w1 ⟨rfl, hw⟩; have HW1 := Lib.hid hw; clear hw)
    | (go_at_call 18; (with_reducible refine (HFW.out _ HW1.out).mono ?_); rintro e w2 ⟨rfl, hw⟩; have HW2 := Lib.hid (HW1.out.trans hw); clear hw))
  go_ret
  exact ⟨rfl, HW2.out⟩
set_option maxHeartbeats 6400000 in
set_option maxRecDepth 100000 in
theorem bad (w : World) (v : Value) (hs : List Hp) (h : HL w v hs) (slot : Int) (hf : fewB hs = true) (hl : hs.length ≤ 10) (hz : ∀ i, (hs.getD i hp0).2.2.2.length ≤ 1000) (c0 : ¬ allE hs = 0) : Calls Try.prog 8 #[v, .int .i64 slot] w fun e w' => e = .returned (.bool true) ∧ Same w w' := by
  have HAW := Lib.hid (fun w => hawake_any w)
  have HFW := Lib.hid (fun (w1 : World) (q : Same w w1) => by have := few_any w1 v hs (h.same q); rw [hf] at this; exact this)
  have HCP := Lib.hid (fun (w1 : World) (q : Same w w1) => cp_any w1 v hs (h.same q) (by omega) hz)
  have HIF := Lib.hid (fun (w1 : World) (x : Value) (q : HL w1 x hs) => InForce_any w1 x hs slot q hz (by omega))
  have HCA := Lib.hid (fun (w1 : World) (x : Value) (q : HL w1 x hs) => CheckAll_any w1 x hs q hz)
  unfold ForceP at HIF
  rw [show forS hs slot = (hp0, allE hs) from if_neg c0] at HIF
  generalize allE hs = E at *
  have f1 : (E != 0) = true := by simpa using c0
  have f2 : (E == 0) = false := by simpa using c0
  dsimp only at HIF
  obtain ⟨aV, cV, rfl⟩ := h.shape
  clear h hz hf hl c0
  generalize hs.length = n at *
  go_enter Try.func8, Try.ntmps8
  go_wp2_with (first
      | (go_at_call 11; (with_reducible refine (HAW.out _).mono ?_); rintro e w1 ⟨rfl, hw⟩; have HW1 := Lib.hid hw; clear hw)
      | (go_at_call 18; (with_reducible refine (HFW.out _ HW1.out).mono ?_); rintro e w2 ⟨rfl, hw⟩; have HW2 := Lib.hid (HW1.out.trans hw); clear hw)
      | (go_at_call 20; (with_reducible refine (HCP.out _ HW2.out).mono ?_); rintro e w3 ⟨u3, rfl, hL, hw⟩; have HW3 := Lib.hid (HW2.out.trans hw); have HL3 := Lib.hid hL; clear hw hL)
      | (go_at_call 19; (with_reducible refine (HIF.out _ _ HL3.out).mono ?_); rintro e w4 ⟨s4, rfl, hw, hL⟩; obtain ⟨a4, c4, he4⟩ := hL.shape; subst he4; have HL4 := Lib.hid hL; have HW4 := Lib.hid (HW3.out.trans hw); clear hw hL)
      | (go_at_call 20; (with_reducible refine (HCP.out _ (by exact HW4.out.alloc _)).mono ?_); rintro e w6 ⟨u6, rfl, hL, hw⟩; have HL6 := Lib.hid hL; have HS6 := Lib.hid hw; clear hw hL)
      | (go_at_call 22; (with_reducible refine (HCA.out _ _ HL6.out).mono ?_); rintro e w7 ⟨rfl, hw⟩; have HS7 := Lib.hid (HS6.out.trans hw); obtain ⟨p0, p1, p2, p3, _⟩ := hopSequences.newH2 HS7.out; clear hw)
      | fail)
  go_ret
  exact ⟨by first | rfl | simp, (HW4.out.alloc _).trans HS7.out⟩
theorem cells {w w7 : World} {b off m : Nat} {hs : List Hp} (H : ∀ i, i < m + 1 → HAt w b (off + i * 4) (hs.getD i hp0)) (q : Same w w7) : w7.cell? ⟨b, off + 1, none⟩ = some (.int .i64 (fst hs 0)) ∧ w7.cell? ⟨b, off + m * 4 + 2, none⟩ = some (.int .i64 (unt hs m)) := by
  obtain ⟨_, _, _, h1, _⟩ := H 0 (by omega)
  obtain ⟨_, _, _, _, h2, _⟩ := H m (by omega)
  rw [Nat.zero_mul, Nat.add_zero] at h1
  exact ⟨q.cell h1, q.cell h2⟩
set_option maxHeartbeats 6400000 in
set_option maxRecDepth 100000 in
theorem outside (w : World) (v : Value) (hs : List Hp) (h : HL w v hs) (slot : Int) (hf : fewB hs = true) (hl : hs.length ≤ 10) (hz : ∀ i, (hs.getD i hp0).2.2.2.length ≤ 1000) (c0 : allE hs = 0) (m : Nat) (hm : hs.length = m + 1) (ho : slot < fst hs 0 ∨ (fst hs 0 ≤ slot ∧ unt hs m ≤ slot)) : Calls Try.prog 8 #[v, .int .i64 slot] w fun e w' => e = .returned (.bool true) ∧ Same w w' := by
  have hm10 : m < 10 := by omega
  have HAW := Lib.hid (fun w => hawake_any w)
  have HFW := Lib.hid (fun (w1 : World) (q : Same w w1) => by have := few_any w1 v hs (h.same q); rw [hf] at this; exact this)
  have HCP := Lib.hid (fun (w1 : World) (q : Same w w1) => cp_any w1 v hs (h.same q) (by omega) hz)
  have HIF := Lib.hid (fun (w1 : World) (x : Value) (q : HL w1 x hs) => InForce_any w1 x hs slot q hz (by omega))
  have HCA := Lib.hid (fun (w1 : World) (x : Value) (q : HL w1 x hs) => CheckAll_any w1 x hs q hz)
  unfold ForceP at HIF
  rw [for_out c0 hm (by omega)] at HIF
  rw [c0] at HCA
  dsimp only at HIF
  rcases h with ⟨b, off, cap, rfl, h0, hcc⟩ | ⟨ao, cap, rfl, rfl⟩
  · rw [hm] at hcc
    have HX := Lib.hid (fun (w7 : World) (q : Same w w7) => cells hcc q)
    clear hcc h0 hz hf hl c0
    generalize hF : fst hs 0 = F at *
    generalize hU : unt hs m = U at *
    clear hF hU
    rw [hm] at *
    have i1 : ((m + 1 : Nat) : Int) - 1 = (m : Int) := by omega
    have i2 : (((m + 1 : Nat) : Int) == 0) = false := by simp; omega
    have i3 : ((m : Int) + 1 == 0) = false := by simp; omega
    have i4 : ((m : Int) + 1 - 1) = (m : Int) := by omega
    have i5 : (0 : Int) ≤ (m : Int) := by omega
    have i8 : IntKind.i64.wrap (m : Int) = (m : Int) := IntWalk.i64_in _ (by omega)
    have i9 : (m : Int) < ((m + 1 : Nat) : Int) := by omega
    have i10 : (m : Int) < (m : Int) + 1 := by omega
    rcases ho with g1 | ⟨g1, g2⟩
    · have d1 : decide (F ≤ slot) = false := decide_eq_false (by omega)
      clear g1
      go_enter Try.func8, Try.ntmps8
      go_wp2_with (first
      | (go_at_call 11; (with_reducible refine (HAW.out _).mono ?_); rintro e w1 ⟨rfl, hw⟩; have HW1 := Lib.hid hw; clear hw)
      | (go_at_call 18; (with_reducible refine (HFW.out _ HW1.out).mono ?_); rintro e w2 ⟨rfl, hw⟩; have HW2 := Lib.hid (HW1.out.trans hw); clear hw)
      | (go_at_call 20; (with_reducible refine (HCP.out _ HW2.out).mono ?_); rintro e w3 ⟨u3, rfl, hL, hw⟩; have HW3 := Lib.hid (HW2.out.trans hw); have HL3 := Lib.hid hL; clear hw hL)
      | (go_at_call 19; (with_reducible refine (HIF.out _ _ HL3.out).mono ?_); rintro e w4 ⟨s4, rfl, hw, hL⟩; obtain ⟨a4, c4, he4⟩ := hL.shape; subst he4; have HL4 := Lib.hid hL; have HW4 := Lib.hid (HW3.out.trans hw); clear hw hL)
      | (go_at_call 20; (with_reducible refine (HCP.out _ (by exact HW4.out.alloc _)).mono ?_); rintro e w6 ⟨u6, rfl, hL, hw⟩; have HL6 := Lib.hid hL; have HS6 := Lib.hid hw; clear hw hL)
      | (go_at_call 22; (with_reducible refine (HCA.out _ _ HL6.out).mono ?_); rintro e w7 ⟨rfl, hw⟩; have HS7 := Lib.hid (HS6.out.trans hw); obtain ⟨p0, p1, p2, p3, _⟩ := hopSequences.newH2 HS7.out; obtain ⟨y1, y2⟩ := HX.out _ ((HW4.out.alloc _).trans HS7.out); clear hw)
      | fail)
      go_ret
      exact ⟨by first | rfl | simp, (HW4.out.alloc _).trans HS7.out⟩
    · have d1 : decide (F ≤ slot) = true := decide_eq_true (by omega)
      have d2 : decide (slot < U) = false := decide_eq_false (by omega)
      clear g1 g2
      go_enter Try.func8, Try.ntmps8
      go_wp2_with (first
      | (go_at_call 11; (with_reducible refine (HAW.out _).mono ?_); rintro e w1 ⟨rfl, hw⟩; have HW1 := Lib.hid hw; clear hw)
      | (go_at_call 18; (with_reducible refine (HFW.out _ HW1.out).mono ?_); rintro e w2 ⟨rfl, hw⟩; have HW2 := Lib.hid (HW1.out.trans hw); clear hw)
      | (go_at_call 20; (with_reducible refine (HCP.out _ HW2.out).mono ?_); rintro e w3 ⟨u3, rfl, hL, hw⟩; have HW3 := Lib.hid (HW2.out.trans hw); have HL3 := Lib.hid hL; clear hw hL)
      | (go_at_call 19; (with_reducible refine (HIF.out _ _ HL3.out).mono ?_); rintro e w4 ⟨s4, rfl, hw, hL⟩; obtain ⟨a4, c4, he4⟩ := hL.shape; subst he4; have HL4 := Lib.hid hL; have HW4 := Lib.hid (HW3.out.trans hw); clear hw hL)
      | (go_at_call 20; (with_reducible refine (HCP.out _ (by exact HW4.out.alloc _)).mono ?_); rintro e w6 ⟨u6, rfl, hL, hw⟩; have HL6 := Lib.hid hL; have HS6 := Lib.hid hw; clear hw hL)
      | (go_at_call 22; (with_reducible refine (HCA.out _ _ HL6.out).mono ?_); rintro e w7 ⟨rfl, hw⟩; have HS7 := Lib.hid (HS6.out.trans hw); obtain ⟨p0, p1, p2, p3, _⟩ := hopSequences.newH2 HS7.out; obtain ⟨y1, y2⟩ := HX.out _ ((HW4.out.alloc _).trans HS7.out); clear hw)
      | fail)
      go_ret
      exact ⟨by first | rfl | simp, (HW4.out.alloc _).trans HS7.out⟩
  · exact absurd c0 (by decide)
set_option maxHeartbeats 6400000 in
set_option maxRecDepth 100000 in
theorem inside (w : World) (v : Value) (hs : List Hp) (h : HL w v hs) (slot : Int) (hf : fewB hs = true) (hl : hs.length ≤ 10) (hz : ∀ i, (hs.getD i hp0).2.2.2.length ≤ 1000) (c0 : allE hs = 0) (m : Nat) (hm : hs.length = m + 1) (g1 : fst hs 0 ≤ slot) (g2 : slot < unt hs m) : Calls Try.prog 8 #[v, .int .i64 slot] w fun e w' => e = .returned (.bool true) ∧ Same w w' := by
  have hm10 : m < 10 := by omega
  obtain ⟨K, hK, hR, g3, g4⟩ := for_in c0 hm g1 g2
  have HAW := Lib.hid (fun w => hawake_any w)
  have HFW := Lib.hid (fun (w1 : World) (q : Same w w1) => by have := few_any w1 v hs (h.same q); rw [hf] at this; exact this)
  have HCP := Lib.hid (fun (w1 : World) (q : Same w w1) => cp_any w1 v hs (h.same q) (by omega) hz)
  have HIF := Lib.hid (fun (w1 : World) (x : Value) (q : HL w1 x hs) => InForce_any w1 x hs slot q hz (by omega))
  have HCA := Lib.hid (fun (w1 : World) (x : Value) (q : HL w1 x hs) => CheckAll_any w1 x hs q hz)
  unfold ForceP at HIF
  rw [hR] at HIF
  rw [c0] at HCA
  dsimp only at HIF
  have HCO := Lib.hid (fun (w1 : World) (B : Nat) (q : Same w w1) (hc : Cap w1 B (hs.getD K hp0)) => ContainsH_cov w1 v hs B K hK (h.same q) (by omega) hz hc)
  rcases h with ⟨b, off, cap, rfl, h0, hcc⟩ | ⟨ao, cap, rfl, rfl⟩
  · rw [hm] at hcc
    have HX := Lib.hid (fun (w7 : World) (q : Same w w7) => cells hcc q)
    clear hcc h0 hz hf hl c0
    clear hR hK
    generalize hF : fst hs 0 = F at *
    generalize hU : unt hs m = U at *
    clear hF hU
    rw [hm] at *
    have i1 : ((m + 1 : Nat) : Int) - 1 = (m : Int) := by omega
    have i2 : (((m + 1 : Nat) : Int) == 0) = false := by simp; omega
    have i3 : ((m : Int) + 1 == 0) = false := by simp; omega
    have i4 : ((m : Int) + 1 - 1) = (m : Int) := by omega
    have i5 : (0 : Int) ≤ (m : Int) := by omega
    have i8 : IntKind.i64.wrap (m : Int) = (m : Int) := IntWalk.i64_in _ (by omega)
    have i9 : (m : Int) < ((m + 1 : Nat) : Int) := by omega
    have i10 : (m : Int) < (m : Int) + 1 := by omega
    obtain ⟨x, hx⟩ : ∃ x, hs.getD K hp0 = x := ⟨_, rfl⟩
    unfold fst at g3
    unfold unt at g4
    rw [hx] at HIF HCO g3 g4
    clear hx
    obtain ⟨xv, xf, xu, xz⟩ := x
    simp only at HIF g3 g4
    have d1 : decide (F ≤ slot) = true := decide_eq_true (by omega)
    have d2 : decide (slot < U) = true := decide_eq_true (by omega)
    have d3 : decide (slot < xf) = false := decide_eq_false (by omega)
    have d4 : decide (xu ≤ slot) = false := decide_eq_false (by omega)
    clear g1 g2 g3 g4
    go_enter Try.func8, Try.ntmps8
    go_wp2_with (first
      | (go_at_call 11; (with_reducible refine (HAW.out _).mono ?_); rintro e w1 ⟨rfl, hw⟩; have HW1 := Lib.hid hw; clear hw)
      | (go_at_call 18; (with_reducible refine (HFW.out _ HW1.out).mono ?_); rintro e w2 ⟨rfl, hw⟩; have HW2 := Lib.hid (HW1.out.trans hw); clear hw)
      | (go_at_call 20; (with_reducible refine (HCP.out _ HW2.out).mono ?_); rintro e w3 ⟨u3, rfl, hL, hw⟩; have HW3 := Lib.hid (HW2.out.trans hw); have HL3 := Lib.hid hL; clear hw hL)
      | (go_at_call 19; (with_reducible refine (HIF.out _ _ HL3.out).mono ?_); rintro e w4 ⟨s4, rfl, hw, hL⟩; obtain ⟨a4, c4, he4⟩ := hL.shape; subst he4; have HL4 := Lib.hid hL; have HW4 := Lib.hid (HW3.out.trans hw); clear hw hL)
      | (go_at_call 20; (with_reducible refine (HCP.out _ (by exact HW4.out.alloc _)).mono ?_); rintro e w6 ⟨u6, rfl, hL, hw⟩; have HL6 := Lib.hid hL; have HS6 := Lib.hid hw; clear hw hL)
      | (go_at_call 22; (with_reducible refine (HCA.out _ _ HL6.out).mono ?_); rintro e w7 ⟨rfl, hw⟩; have HS7 := Lib.hid (HS6.out.trans hw); obtain ⟨p0, p1, p2, p3, _⟩ := hopSequences.newH2 HS7.out; obtain ⟨y1, y2⟩ := HX.out _ ((HW4.out.alloc _).trans HS7.out); clear hw)
      | (go_at_call 32; (with_reducible refine (HCO.out _ _ (by exact (HW4.out.alloc _).trans HS7.out) (by exact capOf p0 p1 p2 p3 (HL4.out.same (((Same.refl _).alloc _).trans HS7.out)))).mono ?_); rintro e w8 ⟨rfl, hw⟩; have HS8 := Lib.hid (HS7.out.trans hw); clear hw)
      | fail)
    go_ret
    exact ⟨by first | rfl | simp, (HW4.out.alloc _).trans HS8.out⟩
  · exact absurd c0 (by decide)
theorem walk (w : World) (v : Value) (hs : List Hp) (h : HL w v hs) (slot : Int) (_hs : -9223372036854775808 ≤ slot ∧ slot ≤ 9223372036854775807) : Calls Try.prog 8 #[v, .int .i64 slot] w fun e w' => e = .returned (.bool true) ∧ Same w w' := by
  by_cases hf : fewB hs = true
  · obtain ⟨hl, hz⟩ := fewB_of hf
    by_cases c0 : allE hs = 0
    · have hp := allE_pos c0
      obtain ⟨m, hm⟩ : ∃ m, hs.length = m + 1 := ⟨hs.length - 1, by omega⟩
      by_cases q1 : fst hs 0 ≤ slot
      · by_cases q2 : slot < unt hs m
        · exact inside w v hs h slot hf hl hz c0 m hm q1 q2
        · exact outside w v hs h slot hf hl hz c0 m hm (.inr ⟨q1, by omega⟩)
      · exact outside w v hs h slot hf hl hz c0 m hm (.inl (by omega))
    · exact bad w v hs h slot hf hl hz c0
  · exact early w v hs h slot (by simpa using hf)
open Go.ChangeShapes Go.WideShapes Go.ChangeAt
theorem own : ownKnob Try.prog.godebug = none := by kernel_rfl

set_option maxRecDepth 100000 in
theorem lifted (os : Os) (started : os.Started) (H : Type) (enc : TypeId × Value → H) :
    ReturnsInHanded {} Try.checked os 8 .any (Rows.hopCoversSpec.pre6 enc Try.prog Try.f8 Rows.hopCoversRow.domain false) (Rows.hopCoversSpec.post enc Try.prog Try.f8 false true false false) := by
  refine returnsInHanded_of_change (C := Try.checked) own started (by kernel_rfl) Try.func8
    (ChangeSpec.witness6 (enc := enc) (C := Try.checked) false ⟨#[], #[.slice none 0 0, .int .i64 0], []⟩ 8 (by kernel_rfl) (by kernel_rfl) (by kernel_rfl) (by kernel_rfl)) ?_
  intro W base args ds gs before hval0 hW hcnd _
  have hval : ∀ (j : Nat) t v, Try.f8.params[j]? = some t → args[j]? = some v → Value.okWide Try.prog W .any base t v := hval0
  have hW' := hW
  obtain ⟨p, q, hA0, hV, rfl, hfz, hnd⟩ := hW
  have hA : DataW.TrodAll enc Try.prog W 0 (fun _ => true) true Try.f8.params.toList args.toList ds p := hA0
  rw [Try.params8] at hA hval
  obtain ⟨v0, vs0, d0, ds0, p0, q0, hargs, rfl, rfl, h0, r0⟩ := trodAll_cons hA
  obtain ⟨v1, vs1, d1, ds1, p1, q1, rfl, rfl, rfl, h1, r1⟩ := trodAll_cons r0
  obtain ⟨rfl, rfl, rfl⟩ := trodAll_nil r1
  obtain rfl : args = #[v0, v1] := by cases args; simp_all
  obtain ⟨rfl, rfl⟩ := trodVars_none hV
  obtain ⟨xs0, hx0⟩ := open_hops (hval 0 34 v0 rfl rfl) h0
  obtain ⟨a1, rfl, rfl, rfl, w1⟩ := open_int Try.underlying3 (hval 1 3 v1 rfl rfl) h1
  clear hA0 hval0
  try simp only [List.append_nil] at hW'
  try simp only [List.nil_append] at hW'
  have hlt : ∀ x ∈ p0, x.block < W.heap.size := fun x hx => by
    have := hW'.lt x (by simpa using hx)
    simpa using this
  refine (walk W v0 xs0 hx0 a1 (bounds_i64 w1)).mono fun e W' ⟨he, hg⟩ => ?_
  subst he
  exact ⟨_, rfl, _, _, _, [], _, [], hW', trodAll_cons_mk (shut_bool Try.underlying4 _) trodAll_mk0, trodAll_cons_mk (Below.trod Try.laidOut (by kernel_rfl) (of_decide_eq_true (by kernel_rfl)) h0 (Same.toBelow hg) (fun x hx => hlt x (by simp [hx]))) (trodAll_cons_mk (shut_int Try.underlying3 w1) trodAll_mk0), rfl, (Same.toBelow hg).frame _, fun h => by cases h⟩

theorem over : Rows.hopCoversRow.holds Try.pinned (OpenSpec.ofChange Rows.hopCoversSpec) :=
  OpenClaim.holds_of_wide 8 Try.f8 rfl rfl rfl rfl rfl rfl rfl ⟨rfl, rfl, rfl, rfl, rfl⟩ rfl rfl rfl rfl rfl (by kernel_rfl) Try.func8 (by kernel_rfl)
    (of_decide_eq_true (by kernel_rfl)) (by unfold Func.isWrapper; first | (rw [if_pos (by decide +kernel)]; kernel_rfl) | (rw [if_neg (by decide +kernel)]; exact ⟨rfl, rfl⟩))
    (fun os started H enc _ => lifted os started H enc)

theorem proved : Rows.HopCoversSaid :=
  over
end hopCovers
end Go.Proofs.Ytffanehmlbiemaa
