/- Package geometry: sides, crossings, squares, points. -/
import Derived.Test.YtcennbjegdlbhaaCalls1
namespace Go.Proofs.Ytcennbjegdlbhaa
open Go.RowKit

theorem max_if (a b : Int) : (if b ≤ a then a else b) = max a b := by omega
theorem meet_any (a b c d : Int) (w : World) : Calls Try.prog 40 #[.int .i64 a, .int .i64 b, .int .i64 c, .int .i64 d] w fun e w' => e = .returned (.bool (decide (max (min a b) (min c d) ≤ min (max a b) (max c d)))) ∧ w' = w := by
  go_enter Try.func40, Try.ntmps40
  go_wp2
  all_goals go_ret
  all_goals exact ⟨ret_bool (by first | exact (decide_eq_true (by omega)).symm | exact decide_eq_decide.2 (by omega)), rfl⟩
theorem same_any (p q : Int) (w : World) : Calls Try.prog 42 #[.agg #[.int .i64 p, .int .i64 q]] w fun e w' => e = .returned (.bool (decide ((p = 1 ∧ q = 1) ∨ (p = -1 ∧ q = -1)))) ∧ Same w w' := by
  go_enter Try.func42, Try.ntmps42
  go_wp2
  all_goals go_ret
  all_goals exact ⟨ret_bool (by simp [*]), by repeat' (first | exact Same.refl _ | apply Same.alloc)⟩
theorem Same.frozen {w w' : World} (h : Same w w') {p : Addr} {b : Bool} (hp : p.block < w.heap.size) (hf : w.frozen? p = b) : w'.frozen? p = b :=
  (World.frozen?_of_block (w := w) (h.block p.block hp)).trans hf
/-- A block of two cells that may be written. -/
def Zz (b : Nat) (w : World) : Prop := (∃ u, w.cell? ⟨b, 0, none⟩ = some u) ∧ (∃ u, w.cell? ⟨b, 1, none⟩ = some u) ∧ w.frozen? ⟨b, 0, none⟩ = false ∧ w.frozen? ⟨b, 1, none⟩ = false
theorem Zz.same {b : Nat} {w w' : World} (h : Zz b w) (s : Same w w') : Zz b w' := by
  obtain ⟨⟨u, hu⟩, ⟨v, hv⟩, hf, hg⟩ := h
  exact ⟨⟨u, s.cell hu⟩, ⟨v, s.cell hv⟩, s.frozen (World.block_lt_of_cell? w _ hu) hf, s.frozen (World.block_lt_of_cell? w _ hv) hg⟩
theorem Zz.set {b : Nat} {w : World} (h : Zz b w) (o : Nat) (v : Value) : Zz b (w.setCell ⟨b, o, none⟩ v) := by
  obtain ⟨⟨u, hu⟩, ⟨v', hv⟩, hf, hg⟩ := h
  refine ⟨?_, ?_, by rw [World.frozen?_setCell]; exact hf, by rw [World.frozen?_setCell]; exact hg⟩
  · by_cases ho : o = 0
    · subst ho; exact ⟨_, World.cell?_setCell_same' _ _ _ (by rw [hu]; rfl)⟩
    · exact ⟨_, by rw [World.cell?_setCell_other _ _ _ _ (by simp <;> omega)]; exact hu⟩
  · by_cases ho : o = 1
    · subst ho; exact ⟨_, World.cell?_setCell_same' _ _ _ (by rw [hv]; rfl)⟩
    · exact ⟨_, by rw [World.cell?_setCell_other _ _ _ _ (by simp <;> omega)]; exact hv⟩
abbrev S10 (w : World) (n : Nat) (v0 v1 v2 v3 v4 v5 v6 v7 : Value) (w1 : World) : Prop := w1.cell? ⟨n, 0, none⟩ = some v0 ∧ w1.cell? ⟨n, 1, none⟩ = some v1 ∧ w1.cell? ⟨n + 1, 0, none⟩ = some v2 ∧ w1.cell? ⟨n + 1, 1, none⟩ = some v3 ∧ w1.cell? ⟨n + 1 + 1, 0, none⟩ = some v4 ∧ w1.cell? ⟨n + 1 + 1, 1, none⟩ = some v5 ∧ w1.cell? ⟨n + 1 + 1 + 1, 0, none⟩ = some v6 ∧ w1.cell? ⟨n + 1 + 1 + 1, 1, none⟩ = some v7 ∧ Zz (n + 1 + 1 + 1 + 1) w1 ∧ Same w w1
theorem keep10 {w w1 w2 : World} {n : Nat} {v0 v1 v2 v3 v4 v5 v6 v7 : Value} (h : S10 w n v0 v1 v2 v3 v4 v5 v6 v7 w1) (s : Same w1 w2) : S10 w n v0 v1 v2 v3 v4 v5 v6 v7 w2 := by
  obtain ⟨h0, h1, h2, h3, h4, h5, h6, h7, hz, hs⟩ := h
  exact ⟨s.cell h0, s.cell h1, s.cell h2, s.cell h3, s.cell h4, s.cell h5, s.cell h6, s.cell h7, hz.same s, hs.trans s⟩
theorem set10 {w w1 : World} {n : Nat} {v0 v1 v2 v3 v4 v5 v6 v7 : Value} (hn : w.heap.size ≤ n) (o : Nat) (v : Value) (h : S10 w n v0 v1 v2 v3 v4 v5 v6 v7 w1) : S10 w n v0 v1 v2 v3 v4 v5 v6 v7 (w1.setCell ⟨n + 1 + 1 + 1 + 1, o, none⟩ v) := by
  obtain ⟨h0, h1, h2, h3, h4, h5, h6, h7, hz, hs⟩ := h
  refine ⟨?_, ?_, ?_, ?_, ?_, ?_, ?_, ?_, hz.set o v, hs.setCell (by simp; omega) v⟩ <;> (rw [World.cell?_setCell_far _ _ _ _ (by simp <;> omega)]; assumption)
theorem sides_ret {w5 : World} {g : Nat} {x y : Value} {act : Act} {Q : Ending → World → Prop} (h8 : act.tmps[8]?.getD undef = .pointer (some ⟨g, 0, none⟩)) (hd : act.defers = []) (c0 : w5.cell? ⟨g, 0, none⟩ = some x) (c1 : w5.cell? ⟨g, 1, none⟩ = some y)
    (hQ : Q (.returned (.agg #[x, y])) w5) : bodyPost Try.prog Try.f41 Q Exit.ret act w5 :=
  bodyPost_ret (v := .agg #[x, y]) (by simp [results, Try.results41, go_sem, h8, c0, c1]) hd hQ
theorem sidesOf_any (a1 a2 b1 b2 c1 c2 d1 d2 : Int) (ha1 : Co a1) (ha2 : Co a2) (hb1 : Co b1) (hb2 : Co b2) (hc1 : Co c1) (hc2 : Co c2) (hd1 : Co d1) (hd2 : Co d2) (w : World) :
    Calls Try.prog 41 #[.agg #[.int .i64 a1, .int .i64 a2], .agg #[.int .i64 b1, .int .i64 b2], .agg #[.int .i64 c1, .int .i64 c2], .agg #[.int .i64 d1, .int .i64 d2]] w fun e w' => e = .returned (.agg #[.int .i64 (tn a1 a2 b1 b2 c1 c2), .int .i64 (tn a1 a2 b1 b2 d1 d2)]) ∧ Same w w' := by
  have H1 := Lib.hid (fun w => turn_any a1 a2 b1 b2 c1 c2 ha1 ha2 hb1 hb2 hc1 hc2 w)
  have H2 := Lib.hid (fun w => turn_any a1 a2 b1 b2 d1 d2 ha1 ha2 hb1 hb2 hd1 hd2 w)
  clear ha1 ha2 hb1 hb2 hc1 hc2 hd1 hd2
  generalize tn a1 a2 b1 b2 c1 c2 = p at *
  generalize tn a1 a2 b1 b2 d1 d2 = q at *
  have hw : ∃ W, W = (((((w.alloc (.cells #[.int .i64 a1, .int .i64 a2] 23)).alloc (.cells #[.int .i64 b1, .int .i64 b2] 23)).alloc (.cells #[.int .i64 c1, .int .i64 c2] 23)).alloc (.cells #[.int .i64 d1, .int .i64 d2] 23)).alloc (.cells #[.int .i64 0, .int .i64 0] 68)) := ⟨_, rfl⟩
  obtain ⟨W, hW⟩ := hw
  have s0 : Same w W := by rw [hW]; repeat' (first | exact Same.refl _ | apply Same.alloc)
  have k0 : W.cell? ⟨w.heap.size, 0, none⟩ = some (.int .i64 a1) := by rw [hW]; go_simp
  have k1 : W.cell? ⟨w.heap.size, 1, none⟩ = some (.int .i64 a2) := by rw [hW]; go_simp
  have k2 : W.cell? ⟨w.heap.size + 1, 0, none⟩ = some (.int .i64 b1) := by rw [hW]; go_simp
  have k3 : W.cell? ⟨w.heap.size + 1, 1, none⟩ = some (.int .i64 b2) := by rw [hW]; go_simp
  have k4 : W.cell? ⟨w.heap.size + 1 + 1, 0, none⟩ = some (.int .i64 c1) := by rw [hW]; go_simp
  have k5 : W.cell? ⟨w.heap.size + 1 + 1, 1, none⟩ = some (.int .i64 c2) := by rw [hW]; go_simp
  have k6 : W.cell? ⟨w.heap.size + 1 + 1 + 1, 0, none⟩ = some (.int .i64 d1) := by rw [hW]; go_simp
  have k7 : W.cell? ⟨w.heap.size + 1 + 1 + 1, 1, none⟩ = some (.int .i64 d2) := by rw [hW]; go_simp
  have z0 : W.cell? ⟨w.heap.size + 1 + 1 + 1 + 1, 0, none⟩ = some (.int .i64 0) := by rw [hW]; go_simp
  have z1 : W.cell? ⟨w.heap.size + 1 + 1 + 1 + 1, 1, none⟩ = some (.int .i64 0) := by rw [hW]; go_simp
  have zf : W.frozen? ⟨w.heap.size + 1 + 1 + 1 + 1, 0, none⟩ = false := by rw [hW]; go_simp
  have hsz : W.heap.size = w.heap.size + 5 := by rw [hW]; simp
  have zg : W.frozen? ⟨w.heap.size + 1 + 1 + 1 + 1, 1, none⟩ = false := by rw [hW]; go_simp
  have hzz : Zz (w.heap.size + 1 + 1 + 1 + 1) W := ⟨⟨_, z0⟩, ⟨_, z1⟩, zf, zg⟩
  clear z0 z1 zf zg hsz
  go_enter Try.func41, Try.ntmps41
  go_wp2
  rw [← hW]
  have HW := Lib.hid hW; clear hW
  have hk : ∀ w1, Same W w1 → w1.cell? ⟨w.heap.size, 0, none⟩ = some (.int .i64 a1) ∧ w1.cell? ⟨w.heap.size, 1, none⟩ = some (.int .i64 a2) ∧ w1.cell? ⟨w.heap.size + 1, 0, none⟩ = some (.int .i64 b1) ∧ w1.cell? ⟨w.heap.size + 1, 1, none⟩ = some (.int .i64 b2) ∧ w1.cell? ⟨w.heap.size + 1 + 1, 0, none⟩ = some (.int .i64 c1) ∧ w1.cell? ⟨w.heap.size + 1 + 1, 1, none⟩ = some (.int .i64 c2) ∧ w1.cell? ⟨w.heap.size + 1 + 1 + 1, 0, none⟩ = some (.int .i64 d1) ∧ w1.cell? ⟨w.heap.size + 1 + 1 + 1, 1, none⟩ = some (.int .i64 d2) ∧ Zz (w.heap.size + 1 + 1 + 1 + 1) w1 ∧ Same w w1 := fun w1 h => ⟨h.cell k0, h.cell k1, h.cell k2, h.cell k3, h.cell k4, h.cell k5, h.cell k6, h.cell k7, hzz.same h, s0.trans h⟩
  have HK := Lib.hid hk; clear hk k0 k1 k2 k3 k4 k5 k6 k7 hzz s0
  go_region_held3 (fun w1 => w1.cell? ⟨w.heap.size, 0, none⟩ = some (.int .i64 a1) ∧ w1.cell? ⟨w.heap.size, 1, none⟩ = some (.int .i64 a2) ∧ w1.cell? ⟨w.heap.size + 1, 0, none⟩ = some (.int .i64 b1) ∧ w1.cell? ⟨w.heap.size + 1, 1, none⟩ = some (.int .i64 b2) ∧ w1.cell? ⟨w.heap.size + 1 + 1, 0, none⟩ = some (.int .i64 c1) ∧ w1.cell? ⟨w.heap.size + 1 + 1, 1, none⟩ = some (.int .i64 c2) ∧ w1.cell? ⟨w.heap.size + 1 + 1 + 1, 0, none⟩ = some (.int .i64 d1) ∧ w1.cell? ⟨w.heap.size + 1 + 1 + 1, 1, none⟩ = some (.int .i64 d2) ∧ Zz (w.heap.size + 1 + 1 + 1 + 1) w1 ∧ Same w w1)
    (first | exact HK.out _ ((Same.refl W).drew) | exact keep10 (by assumption) (by assumption) | exact set10 (Nat.le_refl _) _ _ (set10 (Nat.le_refl _) _ _ (by assumption)) | exact set10 (Nat.le_refl _) _ _ (by assumption) | assumption)
    (first | (go_at_call 62; with_reducible refine (H1.out _).mono ?_; rintro e w1 ⟨rfl, hw1⟩) | (go_at_call 62; (with_reducible refine (H2.out _).mono ?_); rintro e w1 ⟨rfl, hw1⟩; have hz9 := Zz.same (by assumption : _ ∧ _ ∧ _ ∧ _ ∧ _ ∧ _ ∧ _ ∧ _ ∧ Zz _ _ ∧ _).2.2.2.2.2.2.2.2.1 hw1; obtain ⟨⟨u0, z0⟩, ⟨u1, z1⟩, zf, zg⟩ := hz9))
  have hfin := (by assumption : _ ∧ _ ∧ _ ∧ _ ∧ _ ∧ _ ∧ _ ∧ _ ∧ Zz _ _ ∧ Same w _).2.2.2.2.2.2.2.2.2
  have c0 : ((w1.setCell ⟨w.heap.size + 1 + 1 + 1 + 1, 0, none⟩ (.int .i64 p)).setCell ⟨w.heap.size + 1 + 1 + 1 + 1, 1, none⟩ (.int .i64 q)).cell? ⟨w.heap.size + 1 + 1 + 1 + 1, 0, none⟩ = some (.int .i64 p) := by
    rw [World.cell?_setCell_other _ _ _ _ (by simp)]; exact World.cell?_setCell_same' _ _ _ (by rw [z0]; rfl)
  have c1 : ((w1.setCell ⟨w.heap.size + 1 + 1 + 1 + 1, 0, none⟩ (.int .i64 p)).setCell ⟨w.heap.size + 1 + 1 + 1 + 1, 1, none⟩ (.int .i64 q)).cell? ⟨w.heap.size + 1 + 1 + 1 + 1, 1, none⟩ = some (.int .i64 q) :=
    World.cell?_setCell_same' _ _ _ (by rw [World.cell?_setCell_other _ _ _ _ (by simp), z1]; rfl)
  go_wp2
  exact sides_ret rfl rfl c0 c1 ⟨rfl, hfin⟩
/-- Does the path from a to b cross the wall from c to d? -/
def meetB (a b c d : Int) : Bool := decide (max (min a b) (min c d) ≤ min (max a b) (max c d))
def sameB (p q : Int) : Bool := decide ((p = 1 ∧ q = 1) ∨ (p = -1 ∧ q = -1))
def crB (a1 a2 b1 b2 c1 c2 d1 d2 : Int) : Bool :=
  meetB a1 b1 c1 d1 && (meetB a2 b2 c2 d2 && (!sameB (tn a1 a2 b1 b2 c1 c2) (tn a1 a2 b1 b2 d1 d2) && !sameB (tn c1 c2 d1 d2 a1 a2) (tn c1 c2 d1 d2 b1 b2)))
/-- The boxes of two points and a wall. -/
abbrev boxes3 (w : World) (a1 a2 b1 b2 c1 c2 d1 d2 f : Int) : World :=
  ((w.alloc (.cells #[.int .i64 a1, .int .i64 a2] 23)).alloc (.cells #[.int .i64 b1, .int .i64 b2] 23)).alloc (.cells #[.int .i64 c1, .int .i64 c2, .int .i64 d1, .int .i64 d2, .int .i64 f] 25)
theorem boxes3_at {w w1 : World} {a1 a2 b1 b2 c1 c2 d1 d2 f : Int} (h : Same (boxes3 w a1 a2 b1 b2 c1 c2 d1 d2 f) w1) :
    w1.cell? ⟨w.heap.size, 0, none⟩ = some (.int .i64 a1) ∧ w1.cell? ⟨w.heap.size, 1, none⟩ = some (.int .i64 a2) ∧ w1.cell? ⟨w.heap.size + 1, 0, none⟩ = some (.int .i64 b1) ∧ w1.cell? ⟨w.heap.size + 1, 1, none⟩ = some (.int .i64 b2) ∧
    w1.cell? ⟨w.heap.size + 1 + 1, 0, none⟩ = some (.int .i64 c1) ∧ w1.cell? ⟨w.heap.size + 1 + 1, 1, none⟩ = some (.int .i64 c2) ∧ w1.cell? ⟨w.heap.size + 1 + 1, 2, none⟩ = some (.int .i64 d1) ∧ w1.cell? ⟨w.heap.size + 1 + 1, 3, none⟩ = some (.int .i64 d2) ∧ w1.cell? ⟨w.heap.size + 1 + 1, 4, none⟩ = some (.int .i64 f) ∧ Same w w1 := by
  refine ⟨h.cell ?_, h.cell ?_, h.cell ?_, h.cell ?_, h.cell ?_, h.cell ?_, h.cell ?_, h.cell ?_, h.cell ?_, Same.trans ?_ h⟩
  all_goals first | (go_simp; done) | (repeat' (first | exact Same.refl _ | apply Same.alloc))
set_option maxHeartbeats 800000 in
theorem crosses_any (a1 a2 b1 b2 c1 c2 d1 d2 f : Int) (ha1 : Co a1) (ha2 : Co a2) (hb1 : Co b1) (hb2 : Co b2) (hc1 : Co c1) (hc2 : Co c2) (hd1 : Co d1) (hd2 : Co d2) (w : World) :
    Calls Try.prog 15 #[.agg #[.int .i64 a1, .int .i64 a2], .agg #[.int .i64 b1, .int .i64 b2], .agg #[.int .i64 c1, .int .i64 c2, .int .i64 d1, .int .i64 d2, .int .i64 f]] w fun e w' => e = .returned (.bool (crB a1 a2 b1 b2 c1 c2 d1 d2)) ∧ Same w w' := by
  have m1 := fun w => meet_any a1 b1 c1 d1 w
  have m2 := fun w => meet_any a2 b2 c2 d2 w
  have H1 := Lib.hid (fun w => sidesOf_any a1 a2 b1 b2 c1 c2 d1 d2 ha1 ha2 hb1 hb2 hc1 hc2 hd1 hd2 w)
  have H2 := Lib.hid (fun w => sidesOf_any c1 c2 d1 d2 a1 a2 b1 b2 hc1 hc2 hd1 hd2 ha1 ha2 hb1 hb2 w)
  clear ha1 ha2 hb1 hb2 hc1 hc2 hd1 hd2
  have s1 := fun w => same_any (tn a1 a2 b1 b2 c1 c2) (tn a1 a2 b1 b2 d1 d2) w
  have s2 := fun w => same_any (tn c1 c2 d1 d2 a1 a2) (tn c1 c2 d1 d2 b1 b2) w
  rw [show decide ((tn a1 a2 b1 b2 c1 c2 = 1 ∧ tn a1 a2 b1 b2 d1 d2 = 1) ∨ (tn a1 a2 b1 b2 c1 c2 = -1 ∧ tn a1 a2 b1 b2 d1 d2 = -1)) = sameB (tn a1 a2 b1 b2 c1 c2) (tn a1 a2 b1 b2 d1 d2) from rfl] at s1
  rw [show decide ((tn c1 c2 d1 d2 a1 a2 = 1 ∧ tn c1 c2 d1 d2 b1 b2 = 1) ∨ (tn c1 c2 d1 d2 a1 a2 = -1 ∧ tn c1 c2 d1 d2 b1 b2 = -1)) = sameB (tn c1 c2 d1 d2 a1 a2) (tn c1 c2 d1 d2 b1 b2) from rfl] at s2
  rw [show decide (max (min a1 b1) (min c1 d1) ≤ min (max a1 b1) (max c1 d1)) = meetB a1 b1 c1 d1 from rfl] at m1
  rw [show decide (max (min a2 b2) (min c2 d2) ≤ min (max a2 b2) (max c2 d2)) = meetB a2 b2 c2 d2 from rfl] at m2
  have he : crB a1 a2 b1 b2 c1 c2 d1 d2 = (meetB a1 b1 c1 d1 && (meetB a2 b2 c2 d2 && (!sameB (tn a1 a2 b1 b2 c1 c2) (tn a1 a2 b1 b2 d1 d2) && !sameB (tn c1 c2 d1 d2 a1 a2) (tn c1 c2 d1 d2 b1 b2)))) := rfl
  rw [he]; clear he
  generalize meetB a1 b1 c1 d1 = u1 at *
  generalize meetB a2 b2 c2 d2 = u2 at *
  generalize sameB (tn a1 a2 b1 b2 c1 c2) (tn a1 a2 b1 b2 d1 d2) = u3 at *
  generalize sameB (tn c1 c2 d1 d2 a1 a2) (tn c1 c2 d1 d2 b1 b2) = u4 at *
  generalize tn a1 a2 b1 b2 c1 c2 = p1 at *
  generalize tn a1 a2 b1 b2 d1 d2 = p2 at *
  generalize tn c1 c2 d1 d2 a1 a2 = p3 at *
  generalize tn c1 c2 d1 d2 b1 b2 = p4 at *
  have M1 := Lib.hid m1; have M2 := Lib.hid m2; have S1 := Lib.hid s1; have S2 := Lib.hid s2
  clear m1 m2 s1 s2
  go_enter Try.func15, Try.ntmps15
  go_wp2_with (first
    | (go_at_call 40; (with_reducible refine (M1.out _).mono ?_); rintro e w' ⟨rfl, rfl⟩)
    | (go_at_call 40; (with_reducible refine (M2.out _).mono ?_); rintro e w' ⟨rfl, rfl⟩)
    | (go_at_call 41; (with_reducible refine (H1.out _).mono ?_); rintro e w1 ⟨rfl, hw⟩; have hb := Lib.hid hw; obtain ⟨k0, k1, k2, k3, k4, k5, k6, k7, k8, hs⟩ := boxes3_at hw; clear hw hs)
    | (go_at_call 41; (with_reducible refine (H2.out _).mono ?_); rintro e w2 ⟨rfl, hw⟩; have hb' := Lib.hid (hb.out.trans hw); clear hb hw k0 k1 k2 k3 k4 k5 k6 k7 k8; have hb := hb'; clear hb'; obtain ⟨k0, k1, k2, k3, k4, k5, k6, k7, k8, hs⟩ := boxes3_at hb.out; clear hs)
    | (go_at_call 42; (with_reducible refine (S1.out _).mono ?_); rintro e w2 ⟨rfl, hw⟩; have hb' := Lib.hid (hb.out.trans hw); clear hb hw k0 k1 k2 k3 k4 k5 k6 k7 k8; have hb := hb'; clear hb'; obtain ⟨k0, k1, k2, k3, k4, k5, k6, k7, k8, hs⟩ := boxes3_at hb.out; clear hs)
    | (go_at_call 42; (with_reducible refine (S2.out _).mono ?_); rintro e w2 ⟨rfl, hw⟩; have hb' := Lib.hid (hb.out.trans hw); clear hb hw k0 k1 k2 k3 k4 k5 k6 k7 k8; have hb := hb'; clear hb'; obtain ⟨k0, k1, k2, k3, k4, k5, k6, k7, k8, hs⟩ := boxes3_at hb.out; clear hs))
  all_goals go_ret
  all_goals first
    | exact ⟨ret_bool (by simp [*]), (boxes3_at hb.out).2.2.2.2.2.2.2.2.2⟩
    | exact ⟨ret_bool (by simp [*]), by repeat' (first | exact Same.refl _ | apply Same.alloc)⟩
end Go.Proofs.Ytcennbjegdlbhaa
