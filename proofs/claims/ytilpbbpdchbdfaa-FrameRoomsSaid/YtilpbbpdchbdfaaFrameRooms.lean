/- FrameRooms: for every frame the law returns true: what Room says fits, and one byte more does not. No condition on the input. -/
import Derived.Test.YtilpbbpdchbdfaaFS
import Derived.Test.YtilpbbpdchbdfaaFAw
import Derived.Test.YtilpbbpdchbdfaaFArg
import Derived.Test.YtilpbbpdchbdfaaShelfR
import Derived.Deep.RegionWith
namespace Go.Proofs.Ytilpbbpdchbdfaa
open Go.RowKit

namespace frameRooms
theorem ok_data {f : Fr} (h : Ok f) (h2 : f.k ≠ 2) (D : ByteArray) : Ok { f with d := D } := by
  unfold Ok at h ⊢
  obtain ⟨a, b, c, d⟩ := h
  refine ⟨a, b, c, ?_⟩
  rcases d with d | d | d | d
  · exact .inl d
  · exact absurd d.1 h2
  · exact .inr (.inr (.inl d))
  · exact .inr (.inr (.inr d))
theorem room_cases (f : Fr) : (((romR f).2 != 0) = true ∧ (romR f).1 = 0) ∨ (Ok f ∧ f.k ≠ 2 ∧ ∃ N : Nat, romR f = ((N : Int), 0) ∧ 8 * N + nBase f + 8 * f.d.size ≤ 1000 ∧ 1000 < 8 * N + 8 + nBase f + 8 * f.d.size) := by
  by_cases h : okB f = true ∧ f.k ≠ 2
  · have ho := (okB_iff f).1 h.1
    have g1 : romR f = if (wrR f).2.2 ≠ 0 then (0, (wrR f).2.2) else ((1000 - ((wrR f).2.1 : Int)) / 8, 0) := by unfold romR; rw [if_pos h]
    by_cases hf : fits f
    · right
      refine ⟨ho, h.2, (1000 - (nBase f + 8 * f.d.size)) / 8, ?_, ?_⟩
      · rw [g1, wrR_fit ho hf]
        simp only [ne_eq, not_true_eq_false, if_false]
        unfold fits at hf
        rw [if_neg h.2] at hf ⊢
        refine Prod.ext ?_ rfl
        generalize nBase f + 8 * f.d.size = L at *
        show (1000 - (L : Int)) / 8 = (((1000 - L) / 8 : Nat) : Int)
        omega
      · unfold fits at hf
        rw [if_neg h.2] at hf
        omega
    · left
      rw [g1, wrR_not ho hf]
      exact ⟨rfl, rfl⟩
  · left
    have g1 : romR f = (0, 1) := by unfold romR; rw [if_neg h]
    rw [g1]
    exact ⟨rfl, rfl⟩
theorem fit_full {f : Fr} (h : Ok f) (h2 : f.k ≠ 2) (D : ByteArray) (h3 : nBase f + 8 * D.size ≤ 1000) (h4 : 992 < nBase f + 8 * D.size) : ∃ P : ByteArray, encR { f with d := D } = (P, 0) ∧ P.size = 127 ∧ timR { f with d := D } = (4256, 0) := by
  have ho := ok_data h h2 D
  have hb : nBase { f with d := D } = nBase f := rfl
  have hf : fits { f with d := D } := by unfold fits; rw [hb, if_neg h2]; exact h3
  have he : encR { f with d := D } = (Cr.prot (Bit.wbytes (headL { f with d := D } ++ ownL { f with d := D }, 0)), 0) := by
    unfold encR
    rw [if_pos ((okB_iff _).2 ho), wrR_fit ho hf]
    rfl
  have hz : (Cr.prot (Bit.wbytes (headL { f with d := D } ++ ownL { f with d := D }, 0))).size = 127 := by
    rw [Cr.prot_size, wbytes_size _ rfl]
    simp only
    rw [bits_len ho, hb, if_neg h2]
    simp only
    omega
  refine ⟨_, he, hz, ?_⟩
  unfold timR
  rw [he, if_neg (by simp), if_neg h2]
  simp only
  rw [hz]
  rfl
theorem fit_over {f : Fr} (h : Ok f) (h2 : f.k ≠ 2) (D : ByteArray) (h3 : 1000 < nBase f + 8 * D.size) : encR { f with d := D } = (⟨#[]⟩, 8) := by
  have ho := ok_data h h2 D
  have hb : nBase { f with d := D } = nBase f := rfl
  unfold encR
  rw [if_pos ((okB_iff _).2 ho), wrR_not ho (by unfold fits; rw [hb, if_neg h2]; simp only; omega)]
  rfl
theorem repeat_x (N : Nat) (hN : N ≤ 127) : ∃ X : ByteArray, X.size = N ∧ ∀ w, Calls Try.prog 28 #[.string ⟨#[120]⟩, .int .i64 N] w fun e w' => e = .returned (.string X) ∧ Same w w' := by
  refine ⟨_, ?_, fun w => (Try.strings_Repeat ⟨#[120]⟩ N w (by omega) (by simp [ByteArray.size]; omega)).mono fun e w' ⟨he, hb⟩ => ⟨he, Same.ofKeeps (Bit.Keeps.ofBelow hb)⟩⟩
  rw [Lib.size_eq]
  simp [Lib.repeatL_length]
theorem all_d {w : World} {b : Nat} {T : TypeId} {f : Fr} {D : ByteArray} (h : w.heap[b]? = some (.cells (frC { f with d := D }) T (0, 0))) :
    (w.cell? ⟨b, 0, none⟩ = some (.int .i64 f.k) ∧ w.cell? ⟨b, 1, none⟩ = some (.int .i64 f.s) ∧ w.cell? ⟨b, 2, none⟩ = some (.int .i64 f.t) ∧ w.cell? ⟨b, 3, none⟩ = some (.int .i64 f.l) ∧ w.cell? ⟨b, 4, none⟩ = some (.int .i64 f.q) ∧ w.cell? ⟨b, 5, none⟩ = some (.int .i64 f.fl) ∧ w.cell? ⟨b, 6, none⟩ = some (.int .i64 f.n) ∧ w.cell? ⟨b, 7, none⟩ = some (.int .i64 f.e) ∧ w.cell? ⟨b, 8, none⟩ = some (.int .i64 f.sl) ∧ w.cell? ⟨b, 9, none⟩ = some (.int .i64 f.r) ∧ w.cell? ⟨b, 10, none⟩ = some (.int .i64 f.ep) ∧ w.cell? ⟨b, 11, none⟩ = some (.string D)) ∧ (w.frozen? ⟨b, 0, none⟩ = false ∧ w.frozen? ⟨b, 1, none⟩ = false ∧ w.frozen? ⟨b, 2, none⟩ = false ∧ w.frozen? ⟨b, 3, none⟩ = false ∧ w.frozen? ⟨b, 4, none⟩ = false ∧ w.frozen? ⟨b, 5, none⟩ = false ∧ w.frozen? ⟨b, 6, none⟩ = false ∧ w.frozen? ⟨b, 7, none⟩ = false ∧ w.frozen? ⟨b, 8, none⟩ = false ∧ w.frozen? ⟨b, 9, none⟩ = false ∧ w.frozen? ⟨b, 10, none⟩ = false ∧ w.frozen? ⟨b, 11, none⟩ = false) := by
  simp [World.cell?, World.frozen?, h, frC]
theorem box_set {w : World} {b : Nat} {f : Fr} (X : ByteArray) (h : w.heap[b]? = some (.cells (frC f) 23 (0, 0))) : (w.setCell ⟨b, 11, none⟩ (.string X)).heap[b]? = some (.cells (frC { f with d := X }) 23 (0, 0)) :=
  heap_setCell_same w b 11 _ 23 (.string X) h
set_option maxRecDepth 100000 in
theorem short (f : Fr) (hd : f.d.size ≤ 9223372036854775807) (h : decide ((300 : Int) < (f.d.size : Int)) = true ∨ (decide ((300 : Int) < (f.d.size : Int)) = false ∧ ((romR f).2 != 0) = true ∧ (romR f).1 = 0)) (w : World) :
    Calls Try.prog 9 #[frV f] w fun e w' => e = .returned (.bool true) ∧ Same w w' := by
  have k1 := fun w1 => room_any f hd w1
  have HS := Lib.hid ((Same.refl w).alloc (.cells (frC f) 23))
  have HB := Lib.hid (fun (w1 : World) (h : Same (w.alloc (.cells (frC f) 23)) w1) => fr_cells (h.at (heap_alloc_new w _)))
  rcases h with h | ⟨h, h1, h2⟩
  · clear k1 hd
    go_enter Try.func9, Try.ntmps9
    go_wp2_with (go_at_call 11; (with_reducible refine (awake_any _).mono ?_); rintro E1 w1 ⟨rfl, hw⟩; obtain ⟨c0, c1, c2, c3, c4, c5, c6, c7, c8, c9, c10, c11⟩ := HB.out _ hw; have HX := Lib.hid hw; clear hw)
    go_ret
    exact ⟨rfl, HS.out.trans HX.out⟩
  · rw [h2] at k1
    generalize (romR f).2 = E at *
    have K1 := Lib.hid k1
    clear k1 hd h2
    go_enter Try.func9, Try.ntmps9
    go_wp2_with (first
      | (go_at_call 11; (with_reducible refine (awake_any _).mono ?_); rintro E1 w1 ⟨rfl, hw⟩; obtain ⟨c0, c1, c2, c3, c4, c5, c6, c7, c8, c9, c10, c11⟩ := HB.out _ hw; have HX := Lib.hid hw; clear hw)
      | (go_at_call 16; (with_reducible refine (K1.out _).mono ?_); rintro E1 w2 ⟨rfl, hw⟩; have hw0 := HX.out.trans hw; clear hw c0 c1 c2 c3 c4 c5 c6 c7 c8 c9 c10 c11; obtain ⟨c0, c1, c2, c3, c4, c5, c6, c7, c8, c9, c10, c11⟩ := HB.out _ hw0; have HX := Lib.hid hw0; clear hw0))
    go_ret
    exact ⟨rfl, HS.out.trans HX.out⟩
set_option maxRecDepth 100000 in
set_option maxHeartbeats 3200000 in
theorem main (f : Fr) (hd : f.d.size ≤ 9223372036854775807) (h : decide ((300 : Int) < (f.d.size : Int)) = false) (N : Int) (hN1 : decide (N < 0) = false) (hN2 : decide (127 < N) = false) (hR : romR f = (N, 0)) (X : ByteArray) (k5 : ∀ w, Calls Try.prog 28 #[.string ⟨#[120]⟩, .int .i64 N] w fun e w' => e = .returned (.string X) ∧ Same w w') (P : ByteArray) (hP : ((P.size : Int) == 127) = true) (hd1 : (f.d ++ X).size ≤ 9223372036854775807) (hd2 : (f.d ++ X ++ ⟨#[120]⟩).size ≤ 9223372036854775807) (h1 : encR { f with d := f.d ++ X } = (P, 0)) (h2 : timR { f with d := f.d ++ X } = (4256, 0)) (h3 : encR { f with d := f.d ++ X ++ ⟨#[120]⟩ } = (⟨#[]⟩, 8)) (w : World) :
    Calls Try.prog 9 #[frV f] w fun e w' => e = .returned (.bool true) ∧ Same w w' := by
  have k1 := fun w1 => room_any f hd w1
  have k2 := fun w1 => encode_any { f with d := f.d ++ X } hd1 w1
  have k3 := fun w1 => time_any { f with d := f.d ++ X } hd1 w1
  have k4 := fun w1 => encode_any { f with d := f.d ++ X ++ ⟨#[120]⟩ } hd2 w1
  rw [hR] at k1
  rw [h1] at k2
  rw [h2] at k3
  rw [h3] at k4
  dsimp only at k1
  have K1 := Lib.hid k1; have K2 := Lib.hid k2; have K3 := Lib.hid k3; have K4 := Lib.hid k4; have K5 := Lib.hid k5
  have q1 : ¬ 9223372036854775807 < f.d.size + X.size := by rw [ByteArray.size_append] at hd1; omega
  have q2 : ¬ 9223372036854775807 < f.d.size + X.size + 1 := by
    have e : (f.d ++ X ++ ⟨#[120]⟩).size = f.d.size + X.size + 1 := by rw [ByteArray.size_append, ByteArray.size_append]; rfl
    omega
  have q3 : ¬ 9223372036854775807 < (f.d ++ X).size + ByteArray.size ⟨#[120]⟩ := by
    rw [ByteArray.size_append]; exact q2
  have q4 : ¬ 9223372036854775807 < (f.d ++ X).size + 1 := by
    rw [ByteArray.size_append]; exact q2
  clear k1 k2 k3 k4 k5 hd hd1 hd2 hR h1 h2 h3
  have HS := Lib.hid ((Same.refl w).alloc (.cells (frC f) 23))
  have HB := Lib.hid (fun (w1 : World) (h : Same (w.alloc (.cells (frC f) 23)) w1) => h.at (heap_alloc_new w (.cells (frC f) 23)))
  go_enter Try.func9, Try.ntmps9
  go_wp2_with (first
    | (go_at_call 11; (with_reducible refine (awake_any _).mono ?_); rintro E1 w1 ⟨rfl, hw⟩; obtain ⟨⟨c0, c1, c2, c3, c4, c5, c6, c7, c8, c9, c10, c11⟩, ⟨f0, f1, f2, f3, f4, f5, f6, f7, f8, f9, f10, f11⟩⟩ := all_d (f := f) (D := f.d) (HB.out _ hw); have HX := Lib.hid hw; clear hw)
    | (go_at_call 16; (with_reducible refine (K1.out _).mono ?_); rintro E1 w2 ⟨rfl, hw⟩; have hw0 := HX.out.trans hw; clear hw c0 c1 c2 c3 c4 c5 c6 c7 c8 c9 c10 c11 f0 f1 f2 f3 f4 f5 f6 f7 f8 f9 f10 f11; obtain ⟨⟨c0, c1, c2, c3, c4, c5, c6, c7, c8, c9, c10, c11⟩, ⟨f0, f1, f2, f3, f4, f5, f6, f7, f8, f9, f10, f11⟩⟩ := all_d (f := f) (D := f.d) ((HB.out _ (hw0.trans (Same.refl w2).drew))); have HX := Lib.hid hw0; clear hw0))
  go_region_with (first
    | (go_at_call 28; (with_reducible refine (K5.out _).mono ?_); rintro E1 w3 ⟨rfl, hw⟩; have hw0 := HX.out.trans ((Same.refl w2).drew.trans hw); have hb3 := HB.out _ hw0; have HQ := Lib.hid (HS.out.trans hw0); have HBX := Lib.hid hb3; obtain ⟨⟨b0, b1, b2, b3, b4, b5, b6, b7, b8, b9, b10, b11⟩, ⟨h0, h1, h2, h3, h4, h5, h6, h7, h8, h9, h10, h11⟩⟩ := all_d (f := f) (D := f.d) hb3; clear hw hw0 hb3))
  all_goals clear c0 c1 c2 c3 c4 c5 c6 c7 c8 c9 c10 c11 f0 f1 f2 f3 f4 f5 f6 f7 f8 f9 f10 f11
  all_goals
    go_wp2_with (first
      | (go_at_call 12; (with_reducible refine (K2.out _).mono ?_); rintro E1 w4 ⟨rfl, hw⟩; have hb4 := hw.at (box_set (f.d ++ X) HBX.out); have HQ4 := Lib.hid ((HQ.out.setCell (p := ⟨w.heap.size, 11, none⟩) (Nat.le_refl _) (.string (f.d ++ X))).trans hw); have HB4 := Lib.hid hb4; clear b0 b1 b2 b3 b4 b5 b6 b7 b8 b9 b10 b11 h0 h1 h2 h3 h4 h5 h6 h7 h8 h9 h10 h11; obtain ⟨⟨c0, c1, c2, c3, c4, c5, c6, c7, c8, c9, c10, c11⟩, ⟨f0, f1, f2, f3, f4, f5, f6, f7, f8, f9, f10, f11⟩⟩ := all_d (f := f) (D := f.d ++ X) hb4; clear hw hb4)
      | (go_at_call 14; (with_reducible refine (K3.out _).mono ?_); rintro E1 w5 ⟨rfl, hw⟩; have hb5 := hw.at HB4.out; have HQ5 := Lib.hid (HQ4.out.trans hw); have HB5 := Lib.hid hb5; clear c0 c1 c2 c3 c4 c5 c6 c7 c8 c9 c10 c11 f0 f1 f2 f3 f4 f5 f6 f7 f8 f9 f10 f11; obtain ⟨⟨c0, c1, c2, c3, c4, c5, c6, c7, c8, c9, c10, c11⟩, ⟨f0, f1, f2, f3, f4, f5, f6, f7, f8, f9, f10, f11⟩⟩ := all_d (f := f) (D := f.d ++ X) hb5; clear hw hb5)
      | (go_at_call 12; (with_reducible refine (K4.out _).mono ?_); rintro E1 w6 ⟨rfl, hw⟩; have HQ6 := Lib.hid ((HQ5.out.setCell (p := ⟨w.heap.size, 11, none⟩) (Nat.le_refl _) (.string (f.d ++ X ++ ⟨#[120]⟩))).trans hw); clear hw))
  all_goals
    go_ret
    exact ⟨rfl, HQ6.out⟩
theorem walk (f : Fr) (hf : f.d.size ≤ 9223372036854775807) (w : World) :
    Calls Try.prog 9 #[frV f] w fun e w' => e = .returned (.bool true) ∧ Same w w' := by
  cases hu : decide ((300 : Int) < (f.d.size : Int)) with
  | true => exact short f hf (.inl hu) w
  | false =>
    rcases room_cases f with h | ⟨h1, h2, N, h3, h4, h5⟩
    · exact short f hf (.inr ⟨hu, h⟩) w
    · have hs := of_decide_eq_false hu
      obtain ⟨X, hX, k5⟩ := repeat_x N (by omega)
      have hz : (f.d ++ X).size = f.d.size + N := by rw [ByteArray.size_append, hX]
      have hz2 : (f.d ++ X ++ ⟨#[120]⟩).size = f.d.size + N + 1 := by rw [ByteArray.size_append, hz]; rfl
      obtain ⟨P, g1, g2, g3⟩ := fit_full h1 h2 (f.d ++ X) (by omega) (by omega)
      have g4 := fit_over h1 h2 (f.d ++ X ++ ⟨#[120]⟩) (by omega)
      exact main f hf hu N (decide_eq_false (by omega)) (decide_eq_false (by omega)) h3 X k5 P (by rw [g2]; rfl) (by omega) (by omega) g1 g3 g4 w

open Go.ChangeShapes Go.WideShapes Go.ChangeAt
theorem own : ownKnob Try.prog.godebug = none := by kernel_rfl

set_option maxRecDepth 100000 in
theorem lifted (os : Os) (started : os.Started) (H : Type) (enc : TypeId × Value → H) :
    ReturnsInHanded {} Try.checked os 9 .any (Rows.frameRoomsSpec.pre6 enc Try.prog Try.f9 Rows.frameRoomsRow.domain false) (Rows.frameRoomsSpec.post enc Try.prog Try.f9 false true false false) := by
  refine returnsInHanded_of_change (C := Try.checked) own started (by kernel_rfl) Try.func9
    (ChangeSpec.witness6 (enc := enc) (C := Try.checked) false ⟨#[], #[.agg #[.int .i64 0, .int .i64 0, .int .i64 0, .int .i64 0, .int .i64 0, .int .i64 0, .int .i64 0, .int .i64 0, .int .i64 0, .int .i64 0, .int .i64 0, .string ⟨#[]⟩]], []⟩ 8 (by kernel_rfl) (by kernel_rfl) (by kernel_rfl) (by kernel_rfl)) ?_
  intro W base args ds gs before hval0 hW hcnd _
  have hval : ∀ (j : Nat) t v, Try.f9.params[j]? = some t → args[j]? = some v → Value.okWide Try.prog W .any base t v := hval0
  have hW' := hW
  obtain ⟨p, q, hA0, hV, rfl, hfz, hnd⟩ := hW
  have hA : DataW.TrodAll enc Try.prog W 0 (fun _ => true) true Try.f9.params.toList args.toList ds p := hA0
  rw [Try.params9] at hA hval
  obtain ⟨v0, vs0, d0, ds0, p0, q0, hargs, rfl, rfl, h0, r0⟩ := trodAll_cons hA
  obtain ⟨rfl, rfl, rfl⟩ := trodAll_nil r0
  obtain rfl : args = #[v0] := by cases args; simp_all
  obtain ⟨rfl, rfl⟩ := trodVars_none hV
  obtain ⟨f0, rfl, fz0, fe0, fl0⟩ := open_frame (hval 0 23 v0 rfl rfl) h0
  clear hA0 hval0
  try simp only [List.append_nil] at hW'
  try simp only [List.nil_append] at hW'
  have hlt : ∀ x ∈ p0, x.block < W.heap.size := fun x hx => by
    have := hW'.lt x (by simpa using hx)
    simpa using this
  refine (walk f0 fz0 W).mono fun e W' ⟨he, hg⟩ => ?_
  subst he
  exact ⟨_, rfl, _, _, _, [], _, [], hW', trodAll_cons_mk (shut_bool Try.underlying4 _) trodAll_mk0, trodAll_cons_mk (Below.trod Try.laidOut (by kernel_rfl) (of_decide_eq_true (by kernel_rfl)) h0 (Same.toBelow hg) (fun x hx => hlt x (by simp [hx]))) trodAll_mk0, rfl, (Same.toBelow hg).frame _, fun h => by cases h⟩

theorem over : Rows.frameRoomsRow.holds Try.pinned (OpenSpec.ofChange Rows.frameRoomsSpec) :=
  OpenClaim.holds_of_wide 9 Try.f9 rfl rfl rfl rfl rfl rfl rfl ⟨rfl, rfl, rfl, rfl, rfl⟩ rfl rfl rfl rfl rfl (by kernel_rfl) Try.func9 (by kernel_rfl)
    (of_decide_eq_true (by kernel_rfl)) (by unfold Func.isWrapper; first | (rw [if_pos (by decide +kernel)]; kernel_rfl) | (rw [if_neg (by decide +kernel)]; exact ⟨rfl, rfl⟩))
    (fun os started H enc _ => lifted os started H enc)

theorem proved : Rows.FrameRoomsSaid :=
  over
end frameRooms
end Go.Proofs.Ytilpbbpdchbdfaa
