/- Which acknowledgement answers a frame, by both packages. -/
import Derived.Test.YtilpbbpdchbdfaaFA3
namespace Go.Proofs.Ytilpbbpdchbdfaa
open Go.RowKit

/-- Two frames are equal, field by field. -/
def frEq (x y : Fr) : Bool := x.k == y.k && x.s == y.s && x.t == y.t && x.l == y.l && x.q == y.q && x.fl == y.fl && x.n == y.n && x.e == y.e && x.sl == y.sl && x.r == y.r && x.ep == y.ep && x.d.toList == y.d.toList
theorem toList_inj {a b : ByteArray} (h : a.toList = b.toList) : a = b := by
  rw [ByteArray.toList_eq, ByteArray.toList_eq] at h
  exact Cr.bytes_eq h
theorem frEq_iff (x y : Fr) : frEq x y = true ↔ x = y := by
  obtain ⟨k, s, t, l, q, fl, n, e, sl, r, ep, d⟩ := x
  obtain ⟨k2, s2, t2, l2, q2, fl2, n2, e2, sl2, r2, ep2, d2⟩ := y
  unfold frEq
  simp only [Bool.and_eq_true, beq_iff_eq, Fr.mk.injEq]
  constructor
  · rintro ⟨⟨⟨⟨⟨⟨⟨⟨⟨⟨⟨h1, h2⟩, h3⟩, h4⟩, h5⟩, h6⟩, h7⟩, h8⟩, h9⟩, h10⟩, h11⟩, h12⟩
    exact ⟨h1, h2, h3, h4, h5, h6, h7, h8, h9, h10, h11, toList_inj h12⟩
  · rintro ⟨h1, h2, h3, h4, h5, h6, h7, h8, h9, h10, h11, h12⟩
    exact ⟨⟨⟨⟨⟨⟨⟨⟨⟨⟨⟨h1, h2⟩, h3⟩, h4⟩, h5⟩, h6⟩, h7⟩, h8⟩, h9⟩, h10⟩, h11⟩, by rw [h12]⟩
theorem frEq_comm (x y : Fr) : frEq x y = frEq y x := by
  rw [Bool.eq_iff_iff, frEq_iff, frEq_iff]
  exact eq_comm
def ansR (f a : Fr) : Bool := (ackR f a.l a.e).2 == 0 && frEq a (ackR f a.l a.e).1
theorem fr_two2 {w w1 : World} {f a : Fr} (h : Same ((w.alloc (.cells (frC f) 23)).alloc (.cells (frC a) 23)) w1) :
    w1.heap[w.heap.size]? = some (.cells (frC f) 23 (0, 0)) ∧ w1.heap[w.heap.size + 1]? = some (.cells (frC a) 23 (0, 0)) := by
  refine ⟨h.at ?_, h.at ?_⟩
  · rw [Below.heap_alloc _ _ _ (by simp)]; exact heap_alloc_new w _
  · have := heap_alloc_new (w.alloc (.cells (frC f) 23)) (.cells (frC a) 23)
    simpa using this
set_option maxRecDepth 100000 in
set_option maxHeartbeats 3200000 in
theorem answers_eq (k s t l q fl n e sl r ep : Int) (d : ByteArray) (k2 s2 t2 l2 q2 fl2 n2 e2 sl2 r2 ep2 : Int) (d2 : ByteArray) (k3 s3 t3 l3 q3 fl3 n3 e3 sl3 r3 ep3 : Int) (d3 : ByteArray) (hA : ∀ w1, Calls Try.prog 22 #[frV ⟨k, s, t, l, q, fl, n, e, sl, r, ep, d⟩, .int .i64 l2, .int .i64 e2] w1 fun E w' => E = .returned (.tuple #[frV ⟨k3, s3, t3, l3, q3, fl3, n3, e3, sl3, r3, ep3, d3⟩, .int .i64 0]) ∧ Same w1 w') (R : Bool) (hR : frEq ⟨k2, s2, t2, l2, q2, fl2, n2, e2, sl2, r2, ep2, d2⟩ ⟨k3, s3, t3, l3, q3, fl3, n3, e3, sl3, r3, ep3, d3⟩ = R) (w : World) :
    Calls Try.prog 24 #[frV ⟨k, s, t, l, q, fl, n, e, sl, r, ep, d⟩, frV ⟨k2, s2, t2, l2, q2, fl2, n2, e2, sl2, r2, ep2, d2⟩] w fun E w' => E = .returned (.bool R) ∧ Same w w' := by
  have HA := Lib.hid hA; have HR := Lib.hid hR
  clear hA hR
  have HS := Lib.hid (((Same.refl w).alloc (.cells (frC ⟨k, s, t, l, q, fl, n, e, sl, r, ep, d⟩) 23)).alloc (.cells (frC ⟨k2, s2, t2, l2, q2, fl2, n2, e2, sl2, r2, ep2, d2⟩) 23))
  have HB0 := Lib.hid (fun (w1 : World) (h : Same ((w.alloc (.cells (frC ⟨k, s, t, l, q, fl, n, e, sl, r, ep, d⟩) 23)).alloc (.cells (frC ⟨k2, s2, t2, l2, q2, fl2, n2, e2, sl2, r2, ep2, d2⟩) 23)) w1) => And.intro (fr_cells (fr_two2 h).1) (fr_cells (fr_two2 h).2))
  go_enter Try.func24, Try.ntmps24
  go_wp2_with (first
    | (go_at_call 22; (with_reducible refine (HA.out _).mono ?_); rintro E1 w2 ⟨rfl, hw⟩; obtain ⟨⟨c0, c1, c2, c3, c4, c5, c6, c7, c8, c9, c10, c11⟩, ⟨b0, b1, b2, b3, b4, b5, b6, b7, b8, b9, b10, b11⟩⟩ := HB0.out _ hw; obtain ⟨⟨x0, x1, x2, x3, x4, x5, x6, x7, x8, x9, x10, x11⟩, ⟨y0, y1, y2, y3, y4, y5, y6, y7, y8, y9, y10, y11⟩⟩ := HB0.out _ (hw.alloc (.cells (frC ⟨k3, s3, t3, l3, q3, fl3, n3, e3, sl3, r3, ep3, d3⟩) 23)); have HW := Lib.hid (HS.out.trans hw); clear hw))
  all_goals
    go_ret
    exact ⟨ret_bool (by rw [← HR.out]; unfold frEq; simp [*]), by first | exact HW.out.alloc _ | exact HW.out⟩
set_option maxRecDepth 100000 in
set_option maxHeartbeats 3200000 in
theorem answers2_eq (k s t l q fl n e sl r ep : Int) (d : ByteArray) (s2 t2 l2 q2 fl2 n2 e2 sl2 r2 ep2 : Int) (d2 : ByteArray) (k3 s3 t3 l3 q3 fl3 n3 e3 sl3 r3 ep3 : Int) (d3 : ByteArray) (hA : ∀ w1, Calls Try.prog 23 #[frV ⟨k, s, t, l, q, fl, n, e, sl, r, ep, d⟩, .int .i64 l2, .int .i64 e2] w1 fun E w' => E = .returned (.tuple #[frV ⟨k3, s3, t3, l3, q3, fl3, n3, e3, sl3, r3, ep3, d3⟩, .int .i64 0]) ∧ Same w1 w') (hC : ∀ w1, Calls Try.prog 19 #[frV ⟨2, s2, t2, l2, q2, fl2, n2, e2, sl2, r2, ep2, d2⟩] w1 fun E w' => E = .returned (.int .i64 0) ∧ Same w1 w') (R : Bool) (hR : frEq ⟨k3, s3, t3, l3, q3, fl3, n3, e3, sl3, r3, ep3, d3⟩ ⟨2, s2, t2, l2, q2, fl2, n2, e2, sl2, r2, ep2, d2⟩ = R) (w : World) :
    Calls Try.prog 25 #[frV ⟨k, s, t, l, q, fl, n, e, sl, r, ep, d⟩, frV ⟨2, s2, t2, l2, q2, fl2, n2, e2, sl2, r2, ep2, d2⟩] w fun E w' => E = .returned (.bool R) ∧ Same w w' := by
  have HA := Lib.hid hA; have HR := Lib.hid hR
  clear hA hR
  have HS := Lib.hid (((Same.refl w).alloc (.cells (frC ⟨k, s, t, l, q, fl, n, e, sl, r, ep, d⟩) 23)).alloc (.cells (frC ⟨2, s2, t2, l2, q2, fl2, n2, e2, sl2, r2, ep2, d2⟩) 23))
  have HB0 := Lib.hid (fun (w1 : World) (h : Same ((w.alloc (.cells (frC ⟨k, s, t, l, q, fl, n, e, sl, r, ep, d⟩) 23)).alloc (.cells (frC ⟨2, s2, t2, l2, q2, fl2, n2, e2, sl2, r2, ep2, d2⟩) 23)) w1) => And.intro (fr_cells (fr_two2 h).1) (fr_cells (fr_two2 h).2))
  have HC := Lib.hid hC
  clear hC
  go_enter Try.func25, Try.ntmps25
  go_wp2_with (first
    | (go_at_call 19; (with_reducible refine (HC.out _).mono ?_); rintro E1 w1 ⟨rfl, hw⟩; obtain ⟨⟨c0, c1, c2, c3, c4, c5, c6, c7, c8, c9, c10, c11⟩, ⟨b0, b1, b2, b3, b4, b5, b6, b7, b8, b9, b10, b11⟩⟩ := HB0.out _ hw; have HX := Lib.hid hw; clear hw)
    | (go_at_call 23; (with_reducible refine (HA.out _).mono ?_); rintro E1 w2 ⟨rfl, hw⟩; have hw0 := HX.out.trans hw; clear hw c0 c1 c2 c3 c4 c5 c6 c7 c8 c9 c10 c11 b0 b1 b2 b3 b4 b5 b6 b7 b8 b9 b10 b11; have hw := hw0; clear hw0; obtain ⟨⟨c0, c1, c2, c3, c4, c5, c6, c7, c8, c9, c10, c11⟩, ⟨b0, b1, b2, b3, b4, b5, b6, b7, b8, b9, b10, b11⟩⟩ := HB0.out _ hw; obtain ⟨⟨x0, x1, x2, x3, x4, x5, x6, x7, x8, x9, x10, x11⟩, ⟨y0, y1, y2, y3, y4, y5, y6, y7, y8, y9, y10, y11⟩⟩ := HB0.out _ (hw.alloc (.cells (frC ⟨k3, s3, t3, l3, q3, fl3, n3, e3, sl3, r3, ep3, d3⟩) 23)); have HW := Lib.hid (HS.out.trans hw); clear hw))
  all_goals
    go_ret
    exact ⟨ret_bool (by rw [← HR.out]; unfold frEq; simp [*]), by first | exact HW.out.alloc _ | exact HW.out⟩
set_option maxRecDepth 100000 in
theorem answers_no (k s t l q fl n e sl r ep : Int) (d : ByteArray) (k2 s2 t2 l2 q2 fl2 n2 e2 sl2 r2 ep2 : Int) (d2 : ByteArray) (x : Fr) (E0 : Int) (he : (E0 == 0) = false) (hA : ∀ w1, Calls Try.prog 22 #[frV ⟨k, s, t, l, q, fl, n, e, sl, r, ep, d⟩, .int .i64 l2, .int .i64 e2] w1 fun E w' => E = .returned (.tuple #[frV x, .int .i64 E0]) ∧ Same w1 w') (w : World) :
    Calls Try.prog 24 #[frV ⟨k, s, t, l, q, fl, n, e, sl, r, ep, d⟩, frV ⟨k2, s2, t2, l2, q2, fl2, n2, e2, sl2, r2, ep2, d2⟩] w fun E w' => E = .returned (.bool false) ∧ Same w w' := by
  have HA := Lib.hid hA
  clear hA
  have HS := Lib.hid (((Same.refl w).alloc (.cells (frC ⟨k, s, t, l, q, fl, n, e, sl, r, ep, d⟩) 23)).alloc (.cells (frC ⟨k2, s2, t2, l2, q2, fl2, n2, e2, sl2, r2, ep2, d2⟩) 23))
  go_enter Try.func24, Try.ntmps24
  go_wp2_with (go_at_call 22; (with_reducible refine (HA.out _).mono ?_); rintro E1 w2 ⟨rfl, hw⟩; have HW := Lib.hid (HS.out.trans hw); clear hw)
  go_ret
  exact ⟨rfl, by first | exact HW.out.alloc _ | exact HW.out⟩
set_option maxRecDepth 100000 in
theorem answers2_no (k s t l q fl n e sl r ep : Int) (d : ByteArray) (s2 t2 l2 q2 fl2 n2 e2 sl2 r2 ep2 : Int) (d2 : ByteArray) (x : Fr) (E0 : Int) (he : (E0 == 0) = false) (hA : ∀ w1, Calls Try.prog 23 #[frV ⟨k, s, t, l, q, fl, n, e, sl, r, ep, d⟩, .int .i64 l2, .int .i64 e2] w1 fun E w' => E = .returned (.tuple #[frV x, .int .i64 E0]) ∧ Same w1 w') (hC : ∀ w1, Calls Try.prog 19 #[frV ⟨2, s2, t2, l2, q2, fl2, n2, e2, sl2, r2, ep2, d2⟩] w1 fun E w' => E = .returned (.int .i64 0) ∧ Same w1 w') (w : World) :
    Calls Try.prog 25 #[frV ⟨k, s, t, l, q, fl, n, e, sl, r, ep, d⟩, frV ⟨2, s2, t2, l2, q2, fl2, n2, e2, sl2, r2, ep2, d2⟩] w fun E w' => E = .returned (.bool false) ∧ Same w w' := by
  have HA := Lib.hid hA; have HC := Lib.hid hC
  clear hA hC
  have HS := Lib.hid (((Same.refl w).alloc (.cells (frC ⟨k, s, t, l, q, fl, n, e, sl, r, ep, d⟩) 23)).alloc (.cells (frC ⟨2, s2, t2, l2, q2, fl2, n2, e2, sl2, r2, ep2, d2⟩) 23))
  have HB0 := Lib.hid (fun (w1 : World) (h : Same ((w.alloc (.cells (frC ⟨k, s, t, l, q, fl, n, e, sl, r, ep, d⟩) 23)).alloc (.cells (frC ⟨2, s2, t2, l2, q2, fl2, n2, e2, sl2, r2, ep2, d2⟩) 23)) w1) => And.intro (fr_cells (fr_two2 h).1) (fr_cells (fr_two2 h).2))
  go_enter Try.func25, Try.ntmps25
  go_wp2_with (first
    | (go_at_call 19; (with_reducible refine (HC.out _).mono ?_); rintro E1 w1 ⟨rfl, hw⟩; obtain ⟨⟨c0, c1, c2, c3, c4, c5, c6, c7, c8, c9, c10, c11⟩, ⟨b0, b1, b2, b3, b4, b5, b6, b7, b8, b9, b10, b11⟩⟩ := HB0.out _ hw; have HX := Lib.hid hw; clear hw)
    | (go_at_call 23; (with_reducible refine (HA.out _).mono ?_); rintro E1 w2 ⟨rfl, hw⟩; have HW := Lib.hid (HS.out.trans (HX.out.trans hw)); clear hw))
  go_ret
  exact ⟨rfl, by first | exact HW.out.alloc _ | exact HW.out⟩
set_option maxRecDepth 100000 in
theorem answers2_bad (f : Fr) (k2 s2 t2 l2 q2 fl2 n2 e2 sl2 r2 ep2 : Int) (d2 : ByteArray) (c : Int) (hx : c = 1 ∨ (c = 0 ∧ (k2 != 2) = true)) (hC : ∀ w1, Calls Try.prog 19 #[frV ⟨k2, s2, t2, l2, q2, fl2, n2, e2, sl2, r2, ep2, d2⟩] w1 fun E w' => E = .returned (.int .i64 c) ∧ Same w1 w') (w : World) :
    Calls Try.prog 25 #[frV f, frV ⟨k2, s2, t2, l2, q2, fl2, n2, e2, sl2, r2, ep2, d2⟩] w fun E w' => E = .returned (.bool false) ∧ Same w w' := by
  have HC := Lib.hid hC
  clear hC
  have HS := Lib.hid (((Same.refl w).alloc (.cells (frC f) 23)).alloc (.cells (frC ⟨k2, s2, t2, l2, q2, fl2, n2, e2, sl2, r2, ep2, d2⟩) 23))
  have HB0 := Lib.hid (fun (w1 : World) (h : Same ((w.alloc (.cells (frC f) 23)).alloc (.cells (frC ⟨k2, s2, t2, l2, q2, fl2, n2, e2, sl2, r2, ep2, d2⟩) 23)) w1) => (fr_cells (fr_two2 h).2))
  rcases hx with rfl | ⟨rfl, hk⟩
  all_goals
    go_enter Try.func25, Try.ntmps25
    go_wp2_with (go_at_call 19; (with_reducible refine (HC.out _).mono ?_); rintro E1 w1 ⟨rfl, hw⟩; obtain ⟨b0, b1, b2, b3, b4, b5, b6, b7, b8, b9, b10, b11⟩ := HB0.out _ hw; have HW := Lib.hid (HS.out.trans hw); clear hw)
    go_ret
    exact ⟨rfl, HW.out⟩
theorem ackR_01 (f : Fr) (li di : Int) : ((ackR f li di).2 = 0 ∧ (okB f = true ∧ ansB f = true ∧ inB li 0 255 = true ∧ inB di (-32768) 32767 = true) ∧ (ackR f li di).1 = ⟨2, f.t, f.s, li, f.q, 0, 0, di, 0, 0, 0, ⟨#[]⟩⟩) ∨ (((ackR f li di).2 == 0) = false ∧ (ackR f li di).1 = fr0) := by
  unfold ackR
  by_cases h : okB f = true ∧ ansB f = true
  · rw [if_pos h]
    by_cases h2 : inB li 0 255 = true ∧ inB di (-32768) 32767 = true
    · rw [if_pos h2]; exact .inl ⟨rfl, ⟨h.1, h.2, h2⟩, rfl⟩
    · rw [if_neg h2]; exact .inr ⟨rfl, rfl⟩
  · rw [if_neg h]; exact .inr ⟨rfl, rfl⟩
theorem answers_any (f a : Fr) (w : World) : Calls Try.prog 24 #[frV f, frV a] w fun E w' => E = .returned (.bool (ansR f a)) ∧ Same w w' := by
  have hA := fun w1 => ack_any f a.l a.e w1
  have hc := ackR_01 f a.l a.e
  unfold ansR
  generalize ackR f a.l a.e = A at *
  obtain ⟨x, E0⟩ := A
  dsimp only at hA hc ⊢
  rcases hc with ⟨h1, _, _⟩ | ⟨h1, _⟩
  · rw [h1] at hA ⊢
    obtain ⟨k, s, t, l, q, fl, n, e, sl, r, ep, d⟩ := f
    obtain ⟨k2, s2, t2, l2, q2, fl2, n2, e2, sl2, r2, ep2, d2⟩ := a
    obtain ⟨k3, s3, t3, l3, q3, fl3, n3, e3, sl3, r3, ep3, d3⟩ := x
    rw [show ((0 : Int) == 0) = true from rfl, Bool.true_and]
    exact answers_eq _ _ _ _ _ _ _ _ _ _ _ _ _ _ _ _ _ _ _ _ _ _ _ _ _ _ _ _ _ _ _ _ _ _ _ _ hA _ rfl w
  · rw [h1, Bool.false_and]
    obtain ⟨k, s, t, l, q, fl, n, e, sl, r, ep, d⟩ := f
    obtain ⟨k2, s2, t2, l2, q2, fl2, n2, e2, sl2, r2, ep2, d2⟩ := a
    exact answers_no _ _ _ _ _ _ _ _ _ _ _ _ _ _ _ _ _ _ _ _ _ _ _ _ x E0 h1 hA w
theorem answers2_any (f a : Fr) (w : World) : Calls Try.prog 25 #[frV f, frV a] w fun E w' => E = .returned (.bool (ansR f a)) ∧ Same w w' := by
  have hA := fun w1 => ack2_any f a.l a.e w1
  have hC := fun w1 => check2_any a w1
  have hc := ackR_01 f a.l a.e
  -- whatever is equal to an acknowledgement is valid
  have hv : ansR f a = true → okB a = true ∧ a.k = 2 := by
    unfold ansR
    intro h
    rw [Bool.and_eq_true, frEq_iff] at h
    rcases hc with ⟨_, ⟨h1, h2, h3, h4⟩, h5⟩ | ⟨h1, _⟩
    · rw [h5] at h
      have ho := (okB_iff f).1 h1
      have i1 := inB_yes h3
      have i2 := inB_yes h4
      unfold ansB at h2
      rw [Bool.and_eq_true, bne_iff_ne, bne_iff_ne] at h2
      have ha := h.2
      have hk : a.k = 2 := by rw [ha]
      refine ⟨(okB_iff a).2 ?_, hk⟩
      rw [ha]
      unfold Ok at ho ⊢
      simp only [ByteArray.size]
      simp
      omega
    · rw [h1] at h
      simp at h
  rcases chk_01 a with ⟨g1, g2⟩ | ⟨g1, g2⟩
  · by_cases hk : a.k = 2
    · rw [g2] at hC
      unfold ansR
      generalize ackR f a.l a.e = A at *
      obtain ⟨x, E0⟩ := A
      dsimp only at hA hc ⊢
      rcases hc with ⟨h1, _, _⟩ | ⟨h1, _⟩
      · rw [h1] at hA ⊢
        obtain ⟨k, s, t, l, q, fl, n, e, sl, r, ep, d⟩ := f
        obtain ⟨k2, s2, t2, l2, q2, fl2, n2, e2, sl2, r2, ep2, d2⟩ := a
        obtain ⟨k3, s3, t3, l3, q3, fl3, n3, e3, sl3, r3, ep3, d3⟩ := x
        dsimp only at hk
        subst hk
        rw [show ((0 : Int) == 0) = true from rfl, Bool.true_and]
        exact answers2_eq _ _ _ _ _ _ _ _ _ _ _ _ _ _ _ _ _ _ _ _ _ _ _ _ _ _ _ _ _ _ _ _ _ _ _ hA hC _ (frEq_comm _ _) w
      · rw [h1, Bool.false_and]
        obtain ⟨k, s, t, l, q, fl, n, e, sl, r, ep, d⟩ := f
        obtain ⟨k2, s2, t2, l2, q2, fl2, n2, e2, sl2, r2, ep2, d2⟩ := a
        dsimp only at hk
        subst hk
        exact answers2_no _ _ _ _ _ _ _ _ _ _ _ _ _ _ _ _ _ _ _ _ _ _ _ x E0 h1 hA hC w
    · have hr : ansR f a = false := by
        cases hh : ansR f a with
        | false => rfl
        | true => exact absurd (hv hh).2 hk
      rw [hr]
      rw [g2] at hC
      obtain ⟨k2, s2, t2, l2, q2, fl2, n2, e2, sl2, r2, ep2, d2⟩ := a
      exact answers2_bad f _ _ _ _ _ _ _ _ _ _ _ _ _ (.inr ⟨rfl, by simpa using hk⟩) hC w
  · have hr : ansR f a = false := by
      cases hh : ansR f a with
      | false => rfl
      | true => exact absurd (hv hh).1 (by rw [g1]; decide)
    rw [hr]
    rw [g2] at hC
    obtain ⟨k2, s2, t2, l2, q2, fl2, n2, e2, sl2, r2, ep2, d2⟩ := a
    exact answers2_bad f _ _ _ _ _ _ _ _ _ _ _ _ _ (.inl rfl) hC w
end Go.Proofs.Ytilpbbpdchbdfaa
