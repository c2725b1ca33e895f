
/- Slot, Adjust and Apart, by the package and by the reference. -/
import Derived.Test.YtffcoeadpicohaaCalls4
namespace Go.Proofs.Ytffcoeadpicohaa
open Go.RowKit Go.Lib Go.Sort

/-- Slot. -/
def slotS (o d t : Int) : Int × Int := if (showS o d t).2 = 0 then (if (showS o d t).1 < 0 then (0, 14) else ((showS o d t).1 / 10000, 0)) else (0, (showS o d t).2)
theorem showS_bd (o d t : Int) : -2300000000000 ≤ (showS o d t).1 ∧ (showS o d t).1 ≤ 2300000000000 ∧ 0 ≤ (showS o d t).2 ∧ (showS o d t).2 ≤ 2 := by
  rcases show_cases o d t with ⟨a, b, hs, _⟩ | ⟨a, b, hs, _⟩ | ⟨a, hs, _⟩ <;> rw [hs]
  · have := shS_bd a (inB_yes b).1 (inB_yes b).2
    exact ⟨this.1, this.2, by simp, by simp⟩
  · decide
  · decide
/-- Adjust: the Offset, the Drift, the error. -/
def adjB (o d k : Int) : Bool := okC o d && inB k (-1099511627776 - o) (1099511627776 - o)
def adjS (o d k : Int) : Int × Int × Int := if adjB o d k = true then (o + k, d, 0) else (0, 0, 1)
/-- Two boxes of a clock each, the second one new. -/
def Bx2 (w : World) (o d : Int) (w' : World) : Prop :=
  w'.heap[w.heap.size]? = some (.cells #[.int .i64 o, .int .i64 d] 23 (0, 0)) ∧ w'.heap[w.heap.size + 1]? = some (.cells #[.int .i64 0, .int .i64 0] 23 (0, 0)) ∧ Grew w w'
theorem Grew.heap {w w1 : World} (h : Grew w w1) {k : Nat} {o : Obj} (e : w.heap[k]? = some o) : w1.heap[k]? = some o := by
  rw [h.toSame.block k (by have := (Array.getElem?_eq_some_iff.1 e).1; exact this)]; exact e
theorem Bx2.keep {w w1 w2 : World} {o d : Int} (h : Bx2 w o d w1) (k : Grew w1 w2) : Bx2 w o d w2 := ⟨k.heap h.1, k.heap h.2.1, h.2.2.trans k⟩
theorem Bx2.new (w : World) (o d : Int) : Bx2 w o d ((w.alloc (.cells #[.int .i64 o, .int .i64 d] 23)).alloc (.cells #[.int .i64 0, .int .i64 0] 23)) := by
  refine ⟨?_, ?_, ((Grew.refl w).alloc _).alloc _⟩
  · rw [Below.heap_alloc _ _ _ (by simp)]
    exact heap_alloc_new w _
  · have := heap_alloc_new (w.alloc (.cells #[.int .i64 o, .int .i64 d] 23)) (.cells #[.int .i64 0, .int .i64 0] 23)
    simpa using this
theorem Bx2.cells {w w1 : World} {o d : Int} (h : Bx2 w o d w1) :
    w1.cell? ⟨w.heap.size, 0, none⟩ = some (.int .i64 o) ∧ w1.cell? ⟨w.heap.size, 1, none⟩ = some (.int .i64 d) ∧ w1.cell? ⟨w.heap.size + 1, 0, none⟩ = some (.int .i64 0) ∧ w1.cell? ⟨w.heap.size + 1, 1, none⟩ = some (.int .i64 0) ∧
    w1.frozen? ⟨w.heap.size, 0, none⟩ = false ∧ w1.frozen? ⟨w.heap.size, 1, none⟩ = false ∧ w1.frozen? ⟨w.heap.size + 1, 0, none⟩ = false ∧ w1.frozen? ⟨w.heap.size + 1, 1, none⟩ = false := by
  obtain ⟨h1, h2, _⟩ := h
  refine ⟨?_, ?_, ?_, ?_, ?_, ?_, ?_, ?_⟩
  all_goals first
    | (unfold World.cell?; rw [h1]; rfl)
    | (unfold World.cell?; rw [h2]; rfl)
    | (unfold World.frozen?; rw [h1]; rfl)
    | (unfold World.frozen?; rw [h2]; rfl)
theorem Adjust_any (o d k : Int) (w : World) : Calls Try.prog 63 #[.agg #[.int .i64 o, .int .i64 d], .int .i64 k] w fun e w' => e = .returned (.tuple #[.agg #[.int .i64 (adjS o d k).1, .int .i64 (adjS o d k).2.1], .int .i64 (adjS o d k).2.2]) ∧ Same w w' := by
  have h1 := fun w => check_any o d w
  have h2 := fun w => within_any k (-1099511627776 - o) (1099511627776 - o) w
  have hw : adjS o d k = if (okC o d && inB k (-1099511627776 - o) (1099511627776 - o)) = true then (o + k, d, 0) else (0, 0, 1) := rfl
  rcases chk_cases o d with ⟨a, b⟩ | ⟨a, b⟩ <;> rw [show chk o d = _ from b] at h1 <;> rw [a] at hw <;> clear b
  · obtain ⟨⟨o1, o2⟩, _⟩ := okC_of a
    cases hb : inB k (-1099511627776 - o) (1099511627776 - o) with
    | true =>
      obtain ⟨k1, k2⟩ := inB_yes hb
      rw [hb] at h2 hw
      rw [show adjS o d k = (o + k, d, 0) from hw]
      have H1 := Lib.hid h1; clear h1
      have H2 := Lib.hid h2; clear h2 hw hb a
      go_enter Try.func63, Try.ntmps63
      go_wp2_with (first | (go_at_call 41; (with_reducible refine (H1.out _).mono ?_); rintro e w1 ⟨rfl, hw⟩; have HB := Lib.hid ((Bx2.new w o d).keep hw); clear hw; obtain ⟨c0, c1, c2, c3, f0, f1, f2, f3⟩ := HB.out.cells) | (go_at_call 61; (with_reducible refine (H2.out _).mono ?_); rintro e w3 ⟨rfl, rfl⟩))
      exact bodyPost_ret (v := .tuple #[.agg #[.int .i64 (o + k), .int .i64 d], .int .i64 0]) (by simp [results, Try.results63, go_sem, c2, c3]) rfl ⟨rfl, ((HB.out.2.2.toSame.setCell (Nat.le_refl _) _).setCell (Nat.le_succ _) _).setCell (Nat.le_succ _) _⟩
    | false =>
      rw [hb] at h2 hw
      rw [show adjS o d k = (0, 0, 1) from hw]
      have H1 := Lib.hid h1; clear h1
      have H2 := Lib.hid h2; clear h2 hw hb a
      go_enter Try.func63, Try.ntmps63
      go_wp2_with (first | (go_at_call 41; (with_reducible refine (H1.out _).mono ?_); rintro e w1 ⟨rfl, hw⟩; have HB := Lib.hid ((Bx2.new w o d).keep hw); clear hw; obtain ⟨c0, c1, c2, c3, f0, f1, f2, f3⟩ := HB.out.cells) | (go_at_call 61; (with_reducible refine (H2.out _).mono ?_); rintro e w3 ⟨rfl, rfl⟩))
      exact bodyPost_ret (v := .tuple #[.agg #[.int .i64 0, .int .i64 0], .int .i64 1]) (by simp [results, Try.results63, go_sem, c2, c3]) rfl ⟨rfl, (HB.out.2.2.toSame.setCell (Nat.le_succ _) _).setCell (Nat.le_succ _) _⟩
  · rw [show adjS o d k = (0, 0, 1) from hw]
    have H1 := Lib.hid h1; clear h1 h2 hw a
    go_enter Try.func63, Try.ntmps63
    go_wp2_with (go_at_call 41; (with_reducible refine (H1.out _).mono ?_); rintro e w1 ⟨rfl, hw⟩; have HB := Lib.hid ((Bx2.new w o d).keep hw); clear hw; obtain ⟨c0, c1, c2, c3, f0, f1, f2, f3⟩ := HB.out.cells)
    exact bodyPost_ret (v := .tuple #[.agg #[.int .i64 0, .int .i64 0], .int .i64 1]) (by simp [results, Try.results63, go_sem, c2, c3]) rfl ⟨rfl, (HB.out.2.2.toSame.setCell (Nat.le_succ _) _).setCell (Nat.le_succ _) _⟩
/-- The two boxes, the first one stored. -/
theorem Bx2.set {w w1 w2 : World} {o d : Int} (h : Bx2 w o d w1) (n : Int) (k : Grew (w1.setCell ⟨w.heap.size, 0, none⟩ (.int .i64 n)) w2) :
    w2.cell? ⟨w.heap.size, 0, none⟩ = some (.int .i64 n) ∧ w2.cell? ⟨w.heap.size, 1, none⟩ = some (.int .i64 d) ∧ w2.cell? ⟨w.heap.size + 1, 0, none⟩ = some (.int .i64 0) ∧ w2.cell? ⟨w.heap.size + 1, 1, none⟩ = some (.int .i64 0) ∧
    w2.frozen? ⟨w.heap.size, 0, none⟩ = false ∧ w2.frozen? ⟨w.heap.size, 1, none⟩ = false ∧ w2.frozen? ⟨w.heap.size + 1, 0, none⟩ = false ∧ w2.frozen? ⟨w.heap.size + 1, 1, none⟩ = false ∧ Same w w2 := by
  obtain ⟨h1, h2, h3⟩ := h
  have g1 : (w1.setCell ⟨w.heap.size, 0, none⟩ (.int .i64 n)).heap[w.heap.size]? = some (.cells #[.int .i64 n, .int .i64 d] 23 (0, 0)) := heap_setCell_same _ _ 0 _ _ _ h1
  have g2 : (w1.setCell ⟨w.heap.size, 0, none⟩ (.int .i64 n)).heap[w.heap.size + 1]? = some (.cells #[.int .i64 0, .int .i64 0] 23 (0, 0)) := by
    rw [Below.heap_setCell _ _ _ _ (by simp)]; exact h2
  have i1 := k.heap g1
  have i2 := k.heap g2
  refine ⟨?_, ?_, ?_, ?_, ?_, ?_, ?_, ?_, (h3.toSame.setCell (Nat.le_refl _) _).trans k.toSame⟩
  all_goals first
    | (unfold World.cell?; rw [i1]; rfl)
    | (unfold World.cell?; rw [i2]; rfl)
    | (unfold World.frozen?; rw [i1]; rfl)
    | (unfold World.frozen?; rw [i2]; rfl)
theorem Adjust2_any (o d k : Int) (w : World) : Calls Try.prog 64 #[.agg #[.int .i64 o, .int .i64 d], .int .i64 k] w fun e w' => e = .returned (.tuple #[.agg #[.int .i64 (adjS o d k).1, .int .i64 (adjS o d k).2.1], .int .i64 (adjS o d k).2.2]) ∧ Same w w' := by
  have h1 := fun w => check2_any o d w
  have h2 := fun w => check2_any (o + k) d w
  have hw : adjS o d k = if (okC o d && inB k (-1099511627776 - o) (1099511627776 - o)) = true then (o + k, d, 0) else (0, 0, 1) := rfl
  rcases chk_cases o d with ⟨a, b⟩ | ⟨a, b⟩ <;> rw [show chk o d = _ from b] at h1 <;> rw [a] at hw <;> clear b
  · obtain ⟨⟨o1, o2⟩, d1, d2⟩ := okC_of a
    have H1 := Lib.hid h1; clear h1
    by_cases k1 : k < -2199023255552
    · have hb : inB k (-1099511627776 - o) (1099511627776 - o) = false := by simp [inB]; omega
      rw [hb] at hw
      rw [show adjS o d k = (0, 0, 1) from hw]
      clear hw hb a h2 d1 d2
      go_enter Try.func64, Try.ntmps64
      go_wp2_with (go_at_call 44; (with_reducible refine (H1.out _).mono ?_); rintro e w1 ⟨rfl, hw⟩; have HB := Lib.hid ((Bx2.new w o d).keep hw); clear hw; obtain ⟨c0, c1, c2, c3, f0, f1, f2, f3⟩ := HB.out.cells)
      exact bodyPost_ret (v := .tuple #[.agg #[.int .i64 0, .int .i64 0], .int .i64 1]) (by simp [results, Try.results64, go_sem, c2, c3]) rfl ⟨rfl, (HB.out.2.2.toSame.setCell (Nat.le_succ _) _).setCell (Nat.le_succ _) _⟩
    · have k2 : -2199023255552 ≤ k := by omega
      clear k1
      by_cases k3 : 2199023255552 < k
      · have hb : inB k (-1099511627776 - o) (1099511627776 - o) = false := by simp [inB]; omega
        rw [hb] at hw
        rw [show adjS o d k = (0, 0, 1) from hw]
        clear hw hb a h2 d1 d2
        go_enter Try.func64, Try.ntmps64
        go_wp2_with (go_at_call 44; (with_reducible refine (H1.out _).mono ?_); rintro e w1 ⟨rfl, hw⟩; have HB := Lib.hid ((Bx2.new w o d).keep hw); clear hw; obtain ⟨c0, c1, c2, c3, f0, f1, f2, f3⟩ := HB.out.cells)
        exact bodyPost_ret (v := .tuple #[.agg #[.int .i64 0, .int .i64 0], .int .i64 1]) (by simp [results, Try.results64, go_sem, c2, c3]) rfl ⟨rfl, (HB.out.2.2.toSame.setCell (Nat.le_succ _) _).setCell (Nat.le_succ _) _⟩
      · have k4 : k ≤ 2199023255552 := by omega
        clear k3
        have HSET := Lib.hid (fun (w1 w2 : World) (h : Bx2 w o d w1) (kk : Grew (w1.setCell ⟨w.heap.size, 0, none⟩ (.int .i64 (o + k))) w2) => h.set (o + k) kk)
        cases hb : inB k (-1099511627776 - o) (1099511627776 - o) with
        | true =>
          have hc : chk (o + k) d = 0 := if_pos (by
            have := inB_yes hb
            simp [okC, inB]; omega)
          rw [hb] at hw
          rw [show adjS o d k = (o + k, d, 0) from hw]
          rw [hc] at h2
          have H2 := Lib.hid h2; clear h2 hw hb a hc
          go_enter Try.func64, Try.ntmps64
          go_wp2_with (first | (go_at_call 44; (with_reducible refine (H1.out _).mono ?_); rintro e w1 ⟨rfl, hw⟩; have HB := Lib.hid ((Bx2.new w o d).keep hw); clear hw; obtain ⟨c0, c1, c2, c3, f0, f1, f2, f3⟩ := HB.out.cells) | (go_at_call 44; (with_reducible refine (H2.out _).mono ?_); rintro e w2 ⟨rfl, hw⟩; clear c0 c1 c2 c3 f0 f1 f2 f3; obtain ⟨c0, c1, c2, c3, f0, f1, f2, f3, hs⟩ := HSET.out _ _ HB.out hw; have HS := Lib.hid hs; clear hw hs))
          exact bodyPost_ret (v := .tuple #[.agg #[.int .i64 (o + k), .int .i64 d], .int .i64 0]) (by simp [results, Try.results64, go_sem, c2, c3]) rfl ⟨rfl, (HS.out.setCell (Nat.le_succ _) _).setCell (Nat.le_succ _) _⟩
        | false =>
          have hc : chk (o + k) d = 1 := if_neg (by
            have := inB_no hb
            simp [okC, inB]; omega)
          rw [hb] at hw
          rw [show adjS o d k = (0, 0, 1) from hw]
          rw [hc] at h2
          have H2 := Lib.hid h2; clear h2 hw hb a hc
          go_enter Try.func64, Try.ntmps64
          go_wp2_with (first | (go_at_call 44; (with_reducible refine (H1.out _).mono ?_); rintro e w1 ⟨rfl, hw⟩; have HB := Lib.hid ((Bx2.new w o d).keep hw); clear hw; obtain ⟨c0, c1, c2, c3, f0, f1, f2, f3⟩ := HB.out.cells) | (go_at_call 44; (with_reducible refine (H2.out _).mono ?_); rintro e w2 ⟨rfl, hw⟩; clear c0 c1 c2 c3 f0 f1 f2 f3; obtain ⟨c0, c1, c2, c3, f0, f1, f2, f3, hs⟩ := HSET.out _ _ HB.out hw; have HS := Lib.hid hs; clear hw hs))
          exact bodyPost_ret (v := .tuple #[.agg #[.int .i64 0, .int .i64 0], .int .i64 1]) (by simp [results, Try.results64, go_sem, c2, c3]) rfl ⟨rfl, (HS.out.setCell (Nat.le_succ _) _).setCell (Nat.le_succ _) _⟩
  · rw [show adjS o d k = (0, 0, 1) from hw]
    have H1 := Lib.hid h1; clear h1 h2 hw a
    go_enter Try.func64, Try.ntmps64
    go_wp2_with (go_at_call 44; (with_reducible refine (H1.out _).mono ?_); rintro e w1 ⟨rfl, hw⟩; have HB := Lib.hid ((Bx2.new w o d).keep hw); clear hw; obtain ⟨c0, c1, c2, c3, f0, f1, f2, f3⟩ := HB.out.cells)
    exact bodyPost_ret (v := .tuple #[.agg #[.int .i64 0, .int .i64 0], .int .i64 1]) (by simp [results, Try.results64, go_sem, c2, c3]) rfl ⟨rfl, (HB.out.2.2.toSame.setCell (Nat.le_succ _) _).setCell (Nat.le_succ _) _⟩
/-- Apart. -/
def apS (o d o' d' t : Int) : Int × Int := if okC o d = true then (if okC o' d' = true then (if timeB t = true then (shS o' d' t - shS o d t, 0) else (0, 2)) else (0, 1)) else (0, 1)
theorem ap_cases (o d o' d' t : Int) : (okC o d = true ∧ okC o' d' = true ∧ timeB t = true ∧ apS o d o' d' t = (shS o' d' t - shS o d t, 0)) ∨ (okC o d = true ∧ okC o' d' = true ∧ timeB t = false ∧ apS o d o' d' t = (0, 2)) ∨ (okC o d = true ∧ okC o' d' = false ∧ apS o d o' d' t = (0, 1)) ∨ (okC o d = false ∧ apS o d o' d' t = (0, 1)) := by
  unfold apS
  cases okC o d <;> cases okC o' d' <;> cases timeB t <;> simp
/-- Two clocks' boxes. -/
def By (w : World) (o d o' d' : Int) (w' : World) : Prop :=
  w'.cell? ⟨w.heap.size, 0, none⟩ = some (.int .i64 o) ∧ w'.cell? ⟨w.heap.size, 1, none⟩ = some (.int .i64 d) ∧ w'.cell? ⟨w.heap.size + 1, 0, none⟩ = some (.int .i64 o') ∧ w'.cell? ⟨w.heap.size + 1, 1, none⟩ = some (.int .i64 d') ∧ Grew w w'
theorem By.keep {w w1 w2 : World} {o d o' d' : Int} (h : By w o d o' d' w1) (k : Grew w1 w2) : By w o d o' d' w2 := ⟨k.cell h.1, k.cell h.2.1, k.cell h.2.2.1, k.cell h.2.2.2.1, h.2.2.2.2.trans k⟩
theorem By.new (w : World) (o d o' d' : Int) (t t' : TypeId) : By w o d o' d' ((w.alloc (.cells #[.int .i64 o, .int .i64 d] t)).alloc (.cells #[.int .i64 o', .int .i64 d'] t')) :=
  ⟨by go_simp, by go_simp, by go_simp, by go_simp, ((Grew.refl w).alloc _).alloc _⟩
theorem Apart_any (o d o' d' t : Int) (w : World) : Calls Try.prog 33 #[.agg #[.int .i64 o, .int .i64 d], .agg #[.int .i64 o', .int .i64 d'], .int .i64 t] w fun e w' => e = .returned (.tuple #[.int .i64 (apS o d o' d' t).1, .int .i64 (apS o d o' d' t).2]) ∧ Grew w w' := by
  have h1 := fun w => check_any o d w
  have h2 := fun w => checkAt_any o' d' t w
  rcases ap_cases o d o' d' t with ⟨a, b, c, hs⟩ | ⟨a, b, c, hs⟩ | ⟨a, b, hs⟩ | ⟨a, hs⟩ <;> rw [hs] <;> clear hs
  · rw [show chk o d = 0 from if_pos a] at h1
    rw [show chkT o' d' t = 0 by unfold chkT; rw [if_pos b, if_pos c]] at h2
    obtain ⟨t1, t2⟩ := inB_yes c
    have h3 := fun w => show_any o d t a t1 t2 w
    have h4 := fun w => show_any o' d' t b t1 t2 w
    have b1 := shS_bd a t1 t2
    have b2 := shS_bd b t1 t2
    have H1 := Lib.hid h1; clear h1
    have H2 := Lib.hid h2; clear h2
    by_cases e : o = o' ∧ d = d'
    · obtain ⟨rfl, rfl⟩ := e
      rw [Int.sub_self]
      clear h3 h4 b1 b2 a b c t1 t2
      go_enter Try.func33, Try.ntmps33
      go_wp2_with (first
        | (go_at_call 41; (with_reducible refine (H1.out _).mono ?_); rintro e w1 ⟨rfl, hw⟩; have HB := Lib.hid ((By.new w o d o d 23 23).keep hw); clear hw; obtain ⟨k0, k1, k2, k3, k4⟩ := HB.out)
        | (go_at_call 56; (with_reducible refine (H2.out _).mono ?_); rintro e w2 ⟨rfl, hw⟩; have HB' := Lib.hid (HB.out.keep hw); clear hw HB k0 k1 k2 k3 k4; have HB := HB'; clear HB'; obtain ⟨k0, k1, k2, k3, k4⟩ := HB.out))
      go_ret2
      exact ⟨rfl, HB.out.2.2.2.2⟩
    · by_cases e1 : o = o'
      · subst e1
        have hne : ¬ d = d' := fun h => e ⟨rfl, h⟩
        clear e
        generalize shS o d t = s1 at *
        generalize shS o d' t = s2 at *
        have ew : IntKind.i64.wrap (s2 - s1) = s2 - s1 := IntWalk.i64_in _ (by omega)
        have H3 := Lib.hid h3; clear h3
        have H4 := Lib.hid h4; clear h4 a b c t1 t2 b1 b2
        go_enter Try.func33, Try.ntmps33
        go_wp2_with (first
          | (go_at_call 41; (with_reducible refine (H1.out _).mono ?_); rintro e w1 ⟨rfl, hw⟩; have HB := Lib.hid ((By.new w o d o d' 23 23).keep hw); clear hw; obtain ⟨k0, k1, k2, k3, k4⟩ := HB.out)
          | (go_at_call 56; (with_reducible refine (H2.out _).mono ?_); rintro e w2 ⟨rfl, hw⟩; have HB' := Lib.hid (HB.out.keep hw); clear hw HB k0 k1 k2 k3 k4; have HB := HB'; clear HB'; obtain ⟨k0, k1, k2, k3, k4⟩ := HB.out))
        go_region_held3 (fun w' => w'.cell? ⟨w.heap.size, 0, none⟩ = some (.int .i64 o) ∧ w'.cell? ⟨w.heap.size, 1, none⟩ = some (.int .i64 d) ∧ w'.cell? ⟨w.heap.size + 1, 0, none⟩ = some (.int .i64 o) ∧ w'.cell? ⟨w.heap.size + 1, 1, none⟩ = some (.int .i64 d') ∧ Grew w w')
          (first | exact ⟨k0, k1, k2, k3, k4.drew⟩ | exact By.keep ⟨k0, k1, k2, k3, k4.drew⟩ (by assumption) | exact By.keep (by assumption) (by assumption) | assumption)
          (first
            | (go_at_call 57; (with_reducible refine (H4.out _).mono ?_); rintro e w4 ⟨rfl, hw4⟩)
            | (go_at_call 57; (with_reducible refine (H3.out _).mono ?_); rintro e w5 ⟨rfl, hw5⟩))
        have hfin := (by assumption : World.cell? w5 ⟨w.heap.size, 0, none⟩ = some (.int .i64 o) ∧ World.cell? w5 ⟨w.heap.size, 1, none⟩ = some (.int .i64 d) ∧ World.cell? w5 ⟨w.heap.size + 1, 0, none⟩ = some (.int .i64 o) ∧ World.cell? w5 ⟨w.heap.size + 1, 1, none⟩ = some (.int .i64 d') ∧ Grew w w5).2.2.2.2
        have HF := Lib.hid hfin
        clear hfin k0 k1 k2 k3 k4
        go_wp2
        go_ret2
        exact ⟨rfl, HF.out⟩
      · clear e
        generalize shS o d t = s1 at *
        generalize shS o' d' t = s2 at *
        have ew : IntKind.i64.wrap (s2 - s1) = s2 - s1 := IntWalk.i64_in _ (by omega)
        have H3 := Lib.hid h3; clear h3
        have H4 := Lib.hid h4; clear h4 a b c t1 t2 b1 b2
        go_enter Try.func33, Try.ntmps33
        go_wp2_with (first
          | (go_at_call 41; (with_reducible refine (H1.out _).mono ?_); rintro e w1 ⟨rfl, hw⟩; have HB := Lib.hid ((By.new w o d o' d' 23 23).keep hw); clear hw; obtain ⟨k0, k1, k2, k3, k4⟩ := HB.out)
          | (go_at_call 56; (with_reducible refine (H2.out _).mono ?_); rintro e w2 ⟨rfl, hw⟩; have HB' := Lib.hid (HB.out.keep hw); clear hw HB k0 k1 k2 k3 k4; have HB := HB'; clear HB'; obtain ⟨k0, k1, k2, k3, k4⟩ := HB.out))
        go_region_held3 (fun w' => w'.cell? ⟨w.heap.size, 0, none⟩ = some (.int .i64 o) ∧ w'.cell? ⟨w.heap.size, 1, none⟩ = some (.int .i64 d) ∧ w'.cell? ⟨w.heap.size + 1, 0, none⟩ = some (.int .i64 o') ∧ w'.cell? ⟨w.heap.size + 1, 1, none⟩ = some (.int .i64 d') ∧ Grew w w')
          (first | exact ⟨k0, k1, k2, k3, k4.drew⟩ | exact By.keep ⟨k0, k1, k2, k3, k4.drew⟩ (by assumption) | exact By.keep (by assumption) (by assumption) | assumption)
          (first
            | (go_at_call 57; (with_reducible refine (H4.out _).mono ?_); rintro e w4 ⟨rfl, hw4⟩)
            | (go_at_call 57; (with_reducible refine (H3.out _).mono ?_); rintro e w5 ⟨rfl, hw5⟩))
        have hfin := (by assumption : World.cell? w5 ⟨w.heap.size, 0, none⟩ = some (.int .i64 o) ∧ World.cell? w5 ⟨w.heap.size, 1, none⟩ = some (.int .i64 d) ∧ World.cell? w5 ⟨w.heap.size + 1, 0, none⟩ = some (.int .i64 o') ∧ World.cell? w5 ⟨w.heap.size + 1, 1, none⟩ = some (.int .i64 d') ∧ Grew w w5).2.2.2.2
        have HF := Lib.hid hfin
        clear hfin k0 k1 k2 k3 k4
        go_wp2
        go_ret2
        exact ⟨rfl, HF.out⟩
  · rw [show chk o d = 0 from if_pos a] at h1
    rw [show chkT o' d' t = 2 by unfold chkT; rw [if_pos b, if_neg (by rw [c]; decide)]] at h2
    have H1 := Lib.hid h1; clear h1
    have H2 := Lib.hid h2; clear h2 a b c
    go_enter Try.func33, Try.ntmps33
    go_wp2_with (first
        | (go_at_call 41; (with_reducible refine (H1.out _).mono ?_); rintro e w1 ⟨rfl, hw⟩; have HB := Lib.hid ((By.new w o d o' d' 23 23).keep hw); clear hw; obtain ⟨k0, k1, k2, k3, k4⟩ := HB.out)
        | (go_at_call 56; (with_reducible refine (H2.out _).mono ?_); rintro e w2 ⟨rfl, hw⟩; have HB' := Lib.hid (HB.out.keep hw); clear hw HB k0 k1 k2 k3 k4; have HB := HB'; clear HB'; obtain ⟨k0, k1, k2, k3, k4⟩ := HB.out))
    go_ret2
    exact ⟨rfl, HB.out.2.2.2.2⟩
  · rw [show chk o d = 0 from if_pos a] at h1
    rw [show chkT o' d' t = 1 by unfold chkT; rw [if_neg (by rw [b]; decide)]] at h2
    have H1 := Lib.hid h1; clear h1
    have H2 := Lib.hid h2; clear h2 a b
    go_enter Try.func33, Try.ntmps33
    go_wp2_with (first
        | (go_at_call 41; (with_reducible refine (H1.out _).mono ?_); rintro e w1 ⟨rfl, hw⟩; have HB := Lib.hid ((By.new w o d o' d' 23 23).keep hw); clear hw; obtain ⟨k0, k1, k2, k3, k4⟩ := HB.out)
        | (go_at_call 56; (with_reducible refine (H2.out _).mono ?_); rintro e w2 ⟨rfl, hw⟩; have HB' := Lib.hid (HB.out.keep hw); clear hw HB k0 k1 k2 k3 k4; have HB := HB'; clear HB'; obtain ⟨k0, k1, k2, k3, k4⟩ := HB.out))
    go_ret2
    exact ⟨rfl, HB.out.2.2.2.2⟩
  · rw [show chk o d = 1 from if_neg (by rw [a]; decide)] at h1
    have H1 := Lib.hid h1; clear h1 h2 a
    go_enter Try.func33, Try.ntmps33
    go_wp2_with (go_at_call 41; (with_reducible refine (H1.out _).mono ?_); rintro e w1 ⟨rfl, hw⟩; have HB := Lib.hid ((By.new w o d o' d' 23 23).keep hw); clear hw; obtain ⟨k0, k1, k2, k3, k4⟩ := HB.out)
    go_ret2
    exact ⟨rfl, HB.out.2.2.2.2⟩
end Go.Proofs.Ytffcoeadpicohaa
