/- FrameTimes: for every frame and numbers the law returns true: a frame, the pause and its acknowledgement fit into a slot. No condition on the input. -/
import Derived.Test.YtilpbbpdchbdfaaFS
import Derived.Test.YtilpbbpdchbdfaaFA4
import Derived.Test.YtilpbbpdchbdfaaFAw
import Derived.Test.YtilpbbpdchbdfaaFArg
namespace Go.Proofs.Ytilpbbpdchbdfaa
open Go.RowKit

theorem ack_ok {f : Fr} {li di : Int} (h : (ackR f li di).2 = 0) : Ok f ∧ f.k ≠ 2 ∧ f.t ≠ -1 ∧ (0 ≤ li ∧ li ≤ 255) ∧ (-32768 ≤ di ∧ di ≤ 32767) ∧ (ackR f li di).1 = ⟨2, f.t, f.s, li, f.q, 0, 0, di, 0, 0, 0, ⟨#[]⟩⟩ := by
  rcases ackR_01 f li di with ⟨_, ⟨h1, h2, h3, h4⟩, h5⟩ | ⟨h1, _⟩
  · unfold ansB at h2
    rw [Bool.and_eq_true, bne_iff_ne, bne_iff_ne] at h2
    exact ⟨(okB_iff f).1 h1, h2.1, h2.2, inB_yes h3, inB_yes h4, h5⟩
  · rw [h] at h1; simp at h1
theorem ack_valid {f : Fr} {li di : Int} (h : (ackR f li di).2 = 0) : Ok (ackR f li di).1 ∧ fits (ackR f li di).1 := by
  obtain ⟨h1, h2, h3, h4, h5, h6⟩ := ack_ok h
  rw [h6]
  refine ⟨?_, ?_⟩
  · unfold Ok at h1 ⊢
    simp [ByteArray.size]
    omega
  · unfold fits nBase
    have := (nHead_le ⟨2, f.t, f.s, li, f.q, 0, 0, di, 0, 0, 0, ⟨#[]⟩⟩).1
    simp
    omega
namespace frameTimes
theorem time_cases (f : Fr) : (((timR f).2 != 0) = true ∧ (timR f).1 = 0) ∨ (((timR f).2 = 0) ∧ Ok f ∧ 192 ≤ (timR f).1 ∧ (timR f).1 ≤ 4256) := by
  have hz := encR_size f
  unfold timR
  rcases encR_cases f with ⟨h1, _, _⟩ | ⟨h1, h2, h3⟩
  · left
    rw [if_pos h1]
    exact ⟨by simpa using h1, rfl⟩
  · right
    rw [h3] at hz ⊢
    rw [if_neg (by simp)]
    refine ⟨rfl, h1, ?_⟩
    simp only at hz ⊢
    split <;> omega
theorem ack_time {f : Fr} {li di : Int} (h : (ackR f li di).2 = 0) : timR (ackR f li di).1 = (832, 0) := by
  have hv := ack_valid h
  obtain ⟨_, _, _, _, _, h6⟩ := ack_ok h
  unfold timR
  rcases encR_cases (ackR f li di).1 with ⟨_, _, _, h1⟩ | ⟨_, _, h3⟩
  · rcases h1 with h1 | h1
    · exact absurd hv.1 h1
    · exact absurd hv.2 h1
  · rw [h3, if_neg (by simp), h6]
    rfl
theorem ack_ans {f : Fr} {li di : Int} (h : (ackR f li di).2 = 0) : ansR f (ackR f li di).1 = true := by
  obtain ⟨_, _, _, _, _, h6⟩ := ack_ok h
  unfold ansR
  have e1 : (ackR f li di).1.l = li := by rw [h6]
  have e2 : (ackR f li di).1.e = di := by rw [h6]
  rw [e1, e2, h]
  rw [(frEq_iff _ _).2 rfl]
  rfl
theorem ack_for {f : Fr} {li di : Int} (h : (ackR f li di).2 = 0) : forR (ackR f li di).1 f.s = true ∧ forR f (ackR f li di).1.s = true := by
  have hv := ack_valid h
  obtain ⟨h1, h2, h3, h4, h5, h6⟩ := ack_ok h
  unfold forR
  rw [(okB_iff _).2 hv.1, (okB_iff _).2 h1, h6]
  unfold Ok at h1
  unfold inB
  simp
  omega
theorem two_at {w2 w' : World} {b : Nat} {f a : Fr} (hb : w2.heap[b]? = some (.cells (frC f) 23 (0, 0))) (k : Same (w2.alloc (.cells (frC a) 23)) w') :
    w'.heap[b]? = some (.cells (frC f) 23 (0, 0)) ∧ w'.heap[w2.heap.size]? = some (.cells (frC a) 23 (0, 0)) := by
  refine ⟨k.at ?_, k.at (heap_alloc_new w2 _)⟩
  rw [Below.heap_alloc _ _ _ (lt_of_block hb)]; exact hb
set_option maxRecDepth 100000 in
theorem short (f : Fr) (li di : Int) (hd : f.d.size ≤ 9223372036854775807) (h : decide ((300 : Int) < (f.d.size : Int)) = true ∨ (decide ((300 : Int) < (f.d.size : Int)) = false ∧ ((timR f).2 != 0) = true ∧ (timR f).1 = 0)) (w : World) :
    Calls Try.prog 10 #[frV f, .int .i64 li, .int .i64 di] w fun e w' => e = .returned (.bool true) ∧ Same w w' := by
  have k1 := fun w1 => time_any f hd w1
  have HS := Lib.hid ((Same.refl w).alloc (.cells (frC f) 23))
  have HB := Lib.hid (fun (w1 : World) (h : Same (w.alloc (.cells (frC f) 23)) w1) => fr_cells (h.at (heap_alloc_new w _)))
  rcases h with h | ⟨h, h1, h2⟩
  · clear k1 hd
    go_enter Try.func10, Try.ntmps10
    go_wp2_with (go_at_call 11; (with_reducible refine (awake_any _).mono ?_); rintro E1 w1 ⟨rfl, hw⟩; obtain ⟨c0, c1, c2, c3, c4, c5, c6, c7, c8, c9, c10, c11⟩ := HB.out _ hw; have HX := Lib.hid hw; clear hw)
    go_ret
    exact ⟨rfl, HS.out.trans HX.out⟩
  · rw [h2] at k1
    generalize (timR f).2 = E at *
    have K1 := Lib.hid k1
    clear k1 hd h2
    go_enter Try.func10, Try.ntmps10
    go_wp2_with (first
      | (go_at_call 11; (with_reducible refine (awake_any _).mono ?_); rintro E1 w1 ⟨rfl, hw⟩; obtain ⟨c0, c1, c2, c3, c4, c5, c6, c7, c8, c9, c10, c11⟩ := HB.out _ hw; have HX := Lib.hid hw; clear hw)
      | (go_at_call 14; (with_reducible refine (K1.out _).mono ?_); rintro E1 w2 ⟨rfl, hw⟩; have hw0 := HX.out.trans hw; clear hw c0 c1 c2 c3 c4 c5 c6 c7 c8 c9 c10 c11; obtain ⟨c0, c1, c2, c3, c4, c5, c6, c7, c8, c9, c10, c11⟩ := HB.out _ hw0; have HX := Lib.hid hw0; clear hw0))
    go_ret
    exact ⟨rfl, HS.out.trans HX.out⟩
set_option maxRecDepth 100000 in
set_option maxHeartbeats 1600000 in
theorem noAck (f : Fr) (li di : Int) (hd : f.d.size ≤ 9223372036854775807) (h : decide ((300 : Int) < (f.d.size : Int)) = false) (T : Int) (hT : timR f = (T, 0)) (h1 : decide (T < 192) = false) (a : Fr) (E : Int) (hA : ackR f li di = (a, E)) (hE : (E != 0) = true) (ha : a = fr0) (w : World) :
    Calls Try.prog 10 #[frV f, .int .i64 li, .int .i64 di] w fun e w' => e = .returned (.bool true) ∧ Same w w' := by
  have k1 := fun w1 => time_any f hd w1
  have k2 := fun w1 => ack_any f li di w1
  rw [hT] at k1
  rw [hA] at k2
  subst ha
  have HS := Lib.hid ((Same.refl w).alloc (.cells (frC f) 23))
  have HB := Lib.hid (fun (w1 : World) (h : Same (w.alloc (.cells (frC f) 23)) w1) => fr_cells (h.at (heap_alloc_new w _)))
  have K1 := Lib.hid k1; have K2 := Lib.hid k2
  clear k1 k2 hd hT hA
  go_enter Try.func10, Try.ntmps10
  go_wp2_with (first
    | (go_at_call 11; (with_reducible refine (awake_any _).mono ?_); rintro E1 w1 ⟨rfl, hw⟩; obtain ⟨c0, c1, c2, c3, c4, c5, c6, c7, c8, c9, c10, c11⟩ := HB.out _ hw; have HX := Lib.hid hw; clear hw)
    | (go_at_call 14; (with_reducible refine (K1.out _).mono ?_); rintro E1 w2 ⟨rfl, hw⟩; have hw0 := HX.out.trans hw; clear hw c0 c1 c2 c3 c4 c5 c6 c7 c8 c9 c10 c11; obtain ⟨c0, c1, c2, c3, c4, c5, c6, c7, c8, c9, c10, c11⟩ := HB.out _ hw0; have HX := Lib.hid hw0; clear hw0)
    | (go_at_call 22; (with_reducible refine (K2.out _).mono ?_); rintro E1 w3 ⟨rfl, hw⟩; have hw0 := HX.out.trans hw; clear hw c0 c1 c2 c3 c4 c5 c6 c7 c8 c9 c10 c11; have HT := Lib.hid (fun (w' : World) (k : Same (w3.alloc (.cells (frC fr0) 23)) w') => And.intro (fr_cells (two_at (b := w.heap.size) (hw0.at (heap_alloc_new w _)) k).1) (fr_cells (two_at (b := w.heap.size) (hw0.at (heap_alloc_new w _)) k).2)); obtain ⟨⟨c0, c1, c2, c3, c4, c5, c6, c7, c8, c9, c10, c11⟩, ⟨d0, d1, d2, d3, d4, d5, d6, d7, d8, d9, d10, d11⟩⟩ := HT.out _ (Same.refl _); have HX := Lib.hid (hw0.alloc (.cells (frC fr0) 23)); clear hw0))
  go_ret
  exact ⟨rfl, HS.out.trans HX.out⟩
set_option maxRecDepth 100000 in
set_option maxHeartbeats 1600000 in
theorem whole (f : Fr) (li di : Int) (hd : f.d.size ≤ 9223372036854775807) (h : decide ((300 : Int) < (f.d.size : Int)) = false) (T : Int) (hT : timR f = (T, 0)) (h1 : decide (T < 192) = false) (h2 : T ≤ 4256) (h3 : 192 ≤ T) (a : Fr) (hA : ackR f li di = (a, 0)) (w : World) :
    Calls Try.prog 10 #[frV f, .int .i64 li, .int .i64 di] w fun e w' => e = .returned (.bool true) ∧ Same w w' := by
  have k1 := fun w1 => time_any f hd w1
  have k2 := fun w1 => ack_any f li di w1
  have hA2 : (ackR f li di).2 = 0 := by rw [hA]
  have q1 := ack_time hA2
  have q2 := ack_ans hA2
  have q3 := ack_for hA2
  have q4 : (ackR f li di).1.d.size ≤ 9223372036854775807 := by rw [(ack_ok hA2).2.2.2.2.2]; simp [ByteArray.size]
  have k3 := fun w1 => time_any (ackR f li di).1 q4 w1
  have k4 := fun w1 => answers_any f (ackR f li di).1 w1
  have k5 := fun w1 => for_any (ackR f li di).1 f.s w1
  have k6 := fun w1 => for_any f (ackR f li di).1.s w1
  rw [hT] at k1
  rw [q1] at k3
  rw [q2] at k4
  rw [q3.1] at k5
  rw [q3.2] at k6
  rw [hA] at k2 k3 k4 k5 k6
  dsimp only at k1 k2 k3 k4 k5 k6
  have m1 : IntKind.i64.wrap (3220 + T) = 3220 + T := IntWalk.i64_in _ (by omega)
  have m2 : IntKind.i64.wrap (3220 + T + 1000) = 3220 + T + 1000 := IntWalk.i64_in _ (by omega)
  have m3 : IntKind.i64.wrap (3220 + T + 1000 + 832) = 3220 + T + 1000 + 832 := IntWalk.i64_in _ (by omega)
  have m4 : decide (3220 + T + 1000 + 832 < 10000) = true := decide_eq_true (by omega)
  have p1 : wrap64 (3220 + T) = 3220 + T := IntWalk.wrap64_in _ (by omega)
  have p2 : wrap64 (3220 + T + 1000) = 3220 + T + 1000 := IntWalk.wrap64_in _ (by omega)
  have p3 : wrap64 (3220 + T + 1000 + 832) = 3220 + T + 1000 + 832 := IntWalk.wrap64_in _ (by omega)
  have HS := Lib.hid ((Same.refl w).alloc (.cells (frC f) 23))
  have HB := Lib.hid (fun (w1 : World) (h : Same (w.alloc (.cells (frC f) 23)) w1) => fr_cells (h.at (heap_alloc_new w _)))
  have K1 := Lib.hid k1; have K2 := Lib.hid k2; have K3 := Lib.hid k3; have K4 := Lib.hid k4; have K5 := Lib.hid k5; have K6 := Lib.hid k6
  clear k1 k2 k3 k4 k5 k6 hd hT hA hA2 q1 q2 q3 q4
  go_enter Try.func10, Try.ntmps10
  go_wp2_with (first
    | (go_at_call 11; (with_reducible refine (awake_any _).mono ?_); rintro E1 w1 ⟨rfl, hw⟩; obtain ⟨c0, c1, c2, c3, c4, c5, c6, c7, c8, c9, c10, c11⟩ := HB.out _ hw; have HX := Lib.hid hw; clear hw)
    | (go_at_call 14; (with_reducible refine (K1.out _).mono ?_); rintro E1 w2 ⟨rfl, hw⟩; have hw0 := HX.out.trans hw; clear hw c0 c1 c2 c3 c4 c5 c6 c7 c8 c9 c10 c11; obtain ⟨c0, c1, c2, c3, c4, c5, c6, c7, c8, c9, c10, c11⟩ := HB.out _ hw0; have HX := Lib.hid hw0; clear hw0)
    | (go_at_call 22; (with_reducible refine (K2.out _).mono ?_); rintro E1 w3 ⟨rfl, hw⟩; have hw0 := HX.out.trans hw; clear hw c0 c1 c2 c3 c4 c5 c6 c7 c8 c9 c10 c11; have HT := Lib.hid (fun (w' : World) (k : Same (w3.alloc (.cells (frC a) 23)) w') => And.intro (fr_cells (two_at (b := w.heap.size) (hw0.at (heap_alloc_new w _)) k).1) (fr_cells (two_at (b := w.heap.size) (hw0.at (heap_alloc_new w _)) k).2)); obtain ⟨⟨c0, c1, c2, c3, c4, c5, c6, c7, c8, c9, c10, c11⟩, ⟨d0, d1, d2, d3, d4, d5, d6, d7, d8, d9, d10, d11⟩⟩ := HT.out _ (Same.refl _); have HX := Lib.hid (hw0.alloc (.cells (frC a) 23)); clear hw0)
    | (go_at_call 14; (with_reducible refine (K3.out _).mono ?_); rintro E1 w4 ⟨rfl, hw⟩; clear c0 c1 c2 c3 c4 c5 c6 c7 c8 c9 c10 c11 d0 d1 d2 d3 d4 d5 d6 d7 d8 d9 d10 d11; obtain ⟨⟨c0, c1, c2, c3, c4, c5, c6, c7, c8, c9, c10, c11⟩, ⟨d0, d1, d2, d3, d4, d5, d6, d7, d8, d9, d10, d11⟩⟩ := HT.out _ hw; have HP := Lib.hid hw; clear hw)
    | (go_at_call 24; (with_reducible refine (K4.out _).mono ?_); rintro E1 w4 ⟨rfl, hw⟩; have hw0 := HP.out.trans hw; clear hw c0 c1 c2 c3 c4 c5 c6 c7 c8 c9 c10 c11 d0 d1 d2 d3 d4 d5 d6 d7 d8 d9 d10 d11; obtain ⟨⟨c0, c1, c2, c3, c4, c5, c6, c7, c8, c9, c10, c11⟩, ⟨d0, d1, d2, d3, d4, d5, d6, d7, d8, d9, d10, d11⟩⟩ := HT.out _ hw0; have HP := Lib.hid hw0; clear hw0)
    | (go_at_call 26; (with_reducible refine (K5.out _).mono ?_); rintro E1 w4 ⟨rfl, hw⟩; have hw0 := HP.out.trans hw; clear hw c0 c1 c2 c3 c4 c5 c6 c7 c8 c9 c10 c11 d0 d1 d2 d3 d4 d5 d6 d7 d8 d9 d10 d11; obtain ⟨⟨c0, c1, c2, c3, c4, c5, c6, c7, c8, c9, c10, c11⟩, ⟨d0, d1, d2, d3, d4, d5, d6, d7, d8, d9, d10, d11⟩⟩ := HT.out _ hw0; have HP := Lib.hid hw0; clear hw0)
    | (go_at_call 26; (with_reducible refine (K6.out _).mono ?_); rintro E1 w4 ⟨rfl, hw⟩; have hw0 := HP.out.trans hw; clear hw c0 c1 c2 c3 c4 c5 c6 c7 c8 c9 c10 c11 d0 d1 d2 d3 d4 d5 d6 d7 d8 d9 d10 d11; obtain ⟨⟨c0, c1, c2, c3, c4, c5, c6, c7, c8, c9, c10, c11⟩, ⟨d0, d1, d2, d3, d4, d5, d6, d7, d8, d9, d10, d11⟩⟩ := HT.out _ hw0; have HP := Lib.hid hw0; clear hw0))
  all_goals
    go_ret
    exact ⟨by first | rfl | (refine ret_bool ?_; simp; omega), HS.out.trans (HX.out.trans HP.out)⟩
theorem walk (f : Fr) (hf : f.d.size ≤ 9223372036854775807) (li : Int) (_h1 : -9223372036854775808 ≤ li ∧ li ≤ 9223372036854775807) (di : Int) (_h2 : -9223372036854775808 ≤ di ∧ di ≤ 9223372036854775807) (w : World) :
    Calls Try.prog 10 #[frV f, .int .i64 li, .int .i64 di] w fun e w' => e = .returned (.bool true) ∧ Same w w' := by
  cases hu : decide ((300 : Int) < (f.d.size : Int)) with
  | true => exact short f li di hf (.inl hu) w
  | false =>
    rcases time_cases f with ⟨h1, h2⟩ | ⟨h1, h2, h3, h4⟩
    · exact short f li di hf (.inr ⟨hu, h1, h2⟩) w
    · have hT : timR f = ((timR f).1, 0) := by rw [← h1]
      rcases ackR_01 f li di with ⟨g1, _, _⟩ | ⟨g1, g2⟩
      · exact whole f li di hf hu _ hT (decide_eq_false (by omega)) h4 h3 (ackR f li di).1 (by rw [← g1]) w
      · exact noAck f li di hf hu _ hT (decide_eq_false (by omega)) (ackR f li di).1 (ackR f li di).2 rfl (by simpa using g1) g2 w

open Go.ChangeShapes Go.WideShapes Go.ChangeAt
theorem own : ownKnob Try.prog.godebug = none := by kernel_rfl

set_option maxRecDepth 100000 in
theorem lifted (os : Os) (started : os.Started) (H : Type) (enc : TypeId × Value → H) :
    ReturnsInHanded {} Try.checked os 10 .any (Rows.frameTimesSpec.pre6 enc Try.prog Try.f10 Rows.frameTimesRow.domain false) (Rows.frameTimesSpec.post enc Try.prog Try.f10 false true false false) := by
  refine returnsInHanded_of_change (C := Try.checked) own started (by kernel_rfl) Try.func10
    (ChangeSpec.witness6 (enc := enc) (C := Try.checked) false ⟨#[], #[.agg #[.int .i64 0, .int .i64 0, .int .i64 0, .int .i64 0, .int .i64 0, .int .i64 0, .int .i64 0, .int .i64 0, .int .i64 0, .int .i64 0, .int .i64 0, .string ⟨#[]⟩], .int .i64 0, .int .i64 0], []⟩ 8 (by kernel_rfl) (by kernel_rfl) (by kernel_rfl) (by kernel_rfl)) ?_
  intro W base args ds gs before hval0 hW hcnd _
  have hval : ∀ (j : Nat) t v, Try.f10.params[j]? = some t → args[j]? = some v → Value.okWide Try.prog W .any base t v := hval0
  have hW' := hW
  obtain ⟨p, q, hA0, hV, rfl, hfz, hnd⟩ := hW
  have hA : DataW.TrodAll enc Try.prog W 0 (fun _ => true) true Try.f10.params.toList args.toList ds p := hA0
  rw [Try.params10] at hA hval
  obtain ⟨v0, vs0, d0, ds0, p0, q0, hargs, rfl, rfl, h0, r0⟩ := trodAll_cons hA
  obtain ⟨v1, vs1, d1, ds1, p1, q1, rfl, rfl, rfl, h1, r1⟩ := trodAll_cons r0
  obtain ⟨v2, vs2, d2, ds2, p2, q2, rfl, rfl, rfl, h2, r2⟩ := trodAll_cons r1
  obtain ⟨rfl, rfl, rfl⟩ := trodAll_nil r2
  obtain rfl : args = #[v0, v1, v2] := by cases args; simp_all
  obtain ⟨rfl, rfl⟩ := trodVars_none hV
  obtain ⟨f0, rfl, fz0, fe0, fl0⟩ := open_frame (hval 0 23 v0 rfl rfl) h0
  obtain ⟨a1, rfl, rfl, rfl, w1⟩ := open_int Try.underlying3 (hval 1 3 v1 rfl rfl) h1
  obtain ⟨a2, rfl, rfl, rfl, w2⟩ := open_int Try.underlying3 (hval 2 3 v2 rfl rfl) h2
  clear hA0 hval0
  try simp only [List.append_nil] at hW'
  try simp only [List.nil_append] at hW'
  have hlt : ∀ x ∈ p0, x.block < W.heap.size := fun x hx => by
    have := hW'.lt x (by simpa using hx)
    simpa using this
  refine (walk f0 fz0 a1 (bounds_i64 w1) a2 (bounds_i64 w2) W).mono fun e W' ⟨he, hg⟩ => ?_
  subst he
  exact ⟨_, rfl, _, _, _, [], _, [], hW', trodAll_cons_mk (shut_bool Try.underlying4 _) trodAll_mk0, trodAll_cons_mk (Below.trod Try.laidOut (by kernel_rfl) (of_decide_eq_true (by kernel_rfl)) h0 (Same.toBelow hg) (fun x hx => hlt x (by simp [hx]))) (trodAll_cons_mk (shut_int Try.underlying3 w1) (trodAll_cons_mk (shut_int Try.underlying3 w2) trodAll_mk0)), rfl, (Same.toBelow hg).frame _, fun h => by cases h⟩

theorem over : Rows.frameTimesRow.holds Try.pinned (OpenSpec.ofChange Rows.frameTimesSpec) :=
  OpenClaim.holds_of_wide 10 Try.f10 rfl rfl rfl rfl rfl rfl rfl ⟨rfl, rfl, rfl, rfl, rfl⟩ rfl rfl rfl rfl rfl (by kernel_rfl) Try.func10 (by kernel_rfl)
    (of_decide_eq_true (by kernel_rfl)) (by unfold Func.isWrapper; first | (rw [if_pos (by decide +kernel)]; kernel_rfl) | (rw [if_neg (by decide +kernel)]; exact ⟨rfl, rfl⟩))
    (fun os started H enc _ => lifted os started H enc)

theorem proved : Rows.FrameTimesSaid :=
  over
end frameTimes
end Go.Proofs.Ytilpbbpdchbdfaa
