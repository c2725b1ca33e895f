/- FrameBack: for every frame the law returns true: what can be sent is read as it was, and only valid frames can be sent. No condition on the input. -/
import Derived.Test.YtilpbbpdchbdfaaFB
import Derived.Test.YtilpbbpdchbdfaaFA4
import Derived.Test.YtilpbbpdchbdfaaFAw
import Derived.Test.YtilpbbpdchbdfaaFArg
namespace Go.Proofs.Ytilpbbpdchbdfaa
open Go.RowKit

namespace frameBack
theorem two_at {w2 w' : World} {b : Nat} {f a : Fr} (hb : w2.heap[b]? = some (.cells (frC f) 23 (0, 0))) (k : Same (w2.alloc (.cells (frC a) 23)) w') :
    w'.heap[b]? = some (.cells (frC f) 23 (0, 0)) ∧ w'.heap[w2.heap.size]? = some (.cells (frC a) 23 (0, 0)) := by
  refine ⟨k.at ?_, k.at (heap_alloc_new w2 _)⟩
  rw [Below.heap_alloc _ _ _ (lt_of_block hb)]; exact hb
set_option maxRecDepth 100000 in
theorem long (f : Fr) (h : decide ((300 : Int) < (f.d.size : Int)) = true) (w : World) :
    Calls Try.prog 6 #[frV f] w fun e w' => e = .returned (.bool true) ∧ Same w w' := by
  have HS := Lib.hid ((Same.refl w).alloc (.cells (frC f) 23))
  have HB := Lib.hid (fun (w1 : World) (h : Same (w.alloc (.cells (frC f) 23)) w1) => fr_cells (h.at (heap_alloc_new w _)))
  go_enter Try.func6, Try.ntmps6
  go_wp2_with (go_at_call 11; (with_reducible refine (awake_any _).mono ?_); rintro E1 w1 ⟨rfl, hw⟩; obtain ⟨c0, c1, c2, c3, c4, c5, c6, c7, c8, c9, c10, c11⟩ := HB.out _ hw; have HX := Lib.hid hw; clear hw)
  go_ret
  exact ⟨rfl, HS.out.trans HX.out⟩
set_option maxRecDepth 100000 in
theorem bad (f : Fr) (hd : f.d.size ≤ 9223372036854775807) (h : decide ((300 : Int) < (f.d.size : Int)) = false) (E c : Int) (he : encR f = (⟨#[]⟩, E)) (hc : chk f = c) (hx : (E = 1 ∧ c = 1) ∨ (E = 8 ∧ c = 0)) (w : World) :
    Calls Try.prog 6 #[frV f] w fun e w' => e = .returned (.bool true) ∧ Same w w' := by
  have k1 := fun w1 => encode_any f hd w1
  have k2 := fun w1 => check_any f w1
  rw [he] at k1
  rw [hc] at k2
  have K1 := Lib.hid k1; have K2 := Lib.hid k2
  clear k1 k2 he hc hd
  have HS := Lib.hid ((Same.refl w).alloc (.cells (frC f) 23))
  have HB := Lib.hid (fun (w1 : World) (h : Same (w.alloc (.cells (frC f) 23)) w1) => fr_cells (h.at (heap_alloc_new w _)))
  rcases hx with ⟨rfl, rfl⟩ | ⟨rfl, rfl⟩
  all_goals
    go_enter Try.func6, Try.ntmps6
    go_wp2_with (first
      | (go_at_call 11; (with_reducible refine (awake_any _).mono ?_); rintro E1 w1 ⟨rfl, hw⟩; obtain ⟨c0, c1, c2, c3, c4, c5, c6, c7, c8, c9, c10, c11⟩ := HB.out _ hw; have HX := Lib.hid hw; clear hw)
      | (go_at_call 12; (with_reducible refine (K1.out _).mono ?_); rintro E1 w2 ⟨rfl, hw⟩; have hw0 := HX.out.trans hw; clear hw c0 c1 c2 c3 c4 c5 c6 c7 c8 c9 c10 c11; obtain ⟨c0, c1, c2, c3, c4, c5, c6, c7, c8, c9, c10, c11⟩ := HB.out _ hw0; have HX := Lib.hid hw0; clear hw0)
      | (go_at_call 18; (with_reducible refine (K2.out _).mono ?_); rintro E1 w2 ⟨rfl, hw⟩; have hw0 := HX.out.trans hw; clear hw c0 c1 c2 c3 c4 c5 c6 c7 c8 c9 c10 c11; obtain ⟨c0, c1, c2, c3, c4, c5, c6, c7, c8, c9, c10, c11⟩ := HB.out _ hw0; have HX := Lib.hid hw0; clear hw0))
    go_ret
    exact ⟨rfl, HS.out.trans HX.out⟩
set_option maxRecDepth 100000 in
set_option maxHeartbeats 1600000 in
theorem good (f : Fr) (hd : f.d.size ≤ 9223372036854775807) (h : decide ((300 : Int) < (f.d.size : Int)) = false) (S : ByteArray) (he : encR f = (S, 0)) (hc : chk f = 0) (hs : decide ((S.size : Int) ≤ 127) = true) (hD : decR S = (f, 0)) (w : World) :
    Calls Try.prog 6 #[frV f] w fun e w' => e = .returned (.bool true) ∧ Same w w' := by
  have k1 := fun w1 => encode_any f hd w1
  have k2 := fun w1 => check_any f w1
  have k3 := fun w1 => decode_any S w1
  rw [he] at k1
  rw [hc] at k2
  rw [hD] at k3
  dsimp only at k1 k3
  have K1 := Lib.hid k1; have K2 := Lib.hid k2; have K3 := Lib.hid k3
  clear k1 k2 k3 he hc hd hD
  have HS := Lib.hid ((Same.refl w).alloc (.cells (frC f) 23))
  have HB := Lib.hid (fun (w1 : World) (h : Same (w.alloc (.cells (frC f) 23)) w1) => fr_cells (h.at (heap_alloc_new w _)))
  go_enter Try.func6, Try.ntmps6
  go_wp2_with (first
    | (go_at_call 11; (with_reducible refine (awake_any _).mono ?_); rintro E1 w1 ⟨rfl, hw⟩; obtain ⟨c0, c1, c2, c3, c4, c5, c6, c7, c8, c9, c10, c11⟩ := HB.out _ hw; have HX := Lib.hid hw; clear hw)
    | (go_at_call 12; (with_reducible refine (K1.out _).mono ?_); rintro E1 w2 ⟨rfl, hw⟩; have hw0 := HX.out.trans hw; clear hw c0 c1 c2 c3 c4 c5 c6 c7 c8 c9 c10 c11; obtain ⟨c0, c1, c2, c3, c4, c5, c6, c7, c8, c9, c10, c11⟩ := HB.out _ hw0; have HX := Lib.hid hw0; clear hw0)
    | (go_at_call 20; (with_reducible refine (K3.out _).mono ?_); rintro E1 w3 ⟨rfl, hw⟩; have hw0 := HX.out.trans hw; clear hw c0 c1 c2 c3 c4 c5 c6 c7 c8 c9 c10 c11; have HT := Lib.hid (fun (w' : World) (k : Same (w3.alloc (.cells (frC f) 23)) w') => And.intro (fr_cells (two_at (b := w.heap.size) (hw0.at (heap_alloc_new w _)) k).1) (fr_cells (two_at (b := w.heap.size) (hw0.at (heap_alloc_new w _)) k).2)); obtain ⟨⟨c0, c1, c2, c3, c4, c5, c6, c7, c8, c9, c10, c11⟩, ⟨d0, d1, d2, d3, d4, d5, d6, d7, d8, d9, d10, d11⟩⟩ := HT.out _ (Same.refl _); have HX := Lib.hid (hw0.alloc (.cells (frC f) 23)); clear hw0)
    | (go_at_call 18; (with_reducible refine (K2.out _).mono ?_); rintro E1 w4 ⟨rfl, hw⟩; clear c0 c1 c2 c3 c4 c5 c6 c7 c8 c9 c10 c11 d0 d1 d2 d3 d4 d5 d6 d7 d8 d9 d10 d11; obtain ⟨⟨c0, c1, c2, c3, c4, c5, c6, c7, c8, c9, c10, c11⟩, ⟨d0, d1, d2, d3, d4, d5, d6, d7, d8, d9, d10, d11⟩⟩ := HT.out _ hw; have HP := Lib.hid hw; clear hw))
  go_ret
  exact ⟨rfl, HS.out.trans (HX.out.trans HP.out)⟩
theorem walk (f : Fr) (hf : f.d.size ≤ 9223372036854775807) (w : World) :
    Calls Try.prog 6 #[frV f] w fun e w' => e = .returned (.bool true) ∧ Same w w' := by
  cases hu : decide ((300 : Int) < (f.d.size : Int)) with
  | true => exact long f hu w
  | false =>
    rcases encR_cases f with ⟨h1, h2, h3, h4⟩ | ⟨h1, h2, h3⟩
    · have he : encR f = (⟨#[]⟩, (encR f).2) := by rw [← h2]
      refine bad f hf hu _ _ he rfl ?_ w
      rcases chk_01 f with ⟨g1, g2⟩ | ⟨g1, g2⟩
      · right
        refine ⟨?_, g2⟩
        have ho := (okB_iff f).1 g1
        have hn : ¬ fits f := by rcases h4 with x | x; exact absurd ho x; exact x
        unfold encR
        rw [if_pos g1, wrR_not ho hn]
        rfl
      · exact .inl ⟨h3.2 g1, g2⟩
    · have hz := encR_size f
      rw [h3] at hz
      exact good f hf hu _ h3 (chk_yes h1) (decide_eq_true (by simp only at hz; omega)) (decR_back h1 h2) w

open Go.ChangeShapes Go.WideShapes Go.ChangeAt
theorem own : ownKnob Try.prog.godebug = none := by kernel_rfl

set_option maxRecDepth 100000 in
theorem lifted (os : Os) (started : os.Started) (H : Type) (enc : TypeId × Value → H) :
    ReturnsInHanded {} Try.checked os 6 .any (Rows.frameBackSpec.pre6 enc Try.prog Try.f6 Rows.frameBackRow.domain false) (Rows.frameBackSpec.post enc Try.prog Try.f6 false true false false) := by
  refine returnsInHanded_of_change (C := Try.checked) own started (by kernel_rfl) Try.func6
    (ChangeSpec.witness6 (enc := enc) (C := Try.checked) false ⟨#[], #[.agg #[.int .i64 0, .int .i64 0, .int .i64 0, .int .i64 0, .int .i64 0, .int .i64 0, .int .i64 0, .int .i64 0, .int .i64 0, .int .i64 0, .int .i64 0, .string ⟨#[]⟩]], []⟩ 8 (by kernel_rfl) (by kernel_rfl) (by kernel_rfl) (by kernel_rfl)) ?_
  intro W base args ds gs before hval0 hW hcnd _
  have hval : ∀ (j : Nat) t v, Try.f6.params[j]? = some t → args[j]? = some v → Value.okWide Try.prog W .any base t v := hval0
  have hW' := hW
  obtain ⟨p, q, hA0, hV, rfl, hfz, hnd⟩ := hW
  have hA : DataW.TrodAll enc Try.prog W 0 (fun _ => true) true Try.f6.params.toList args.toList ds p := hA0
  rw [Try.params6] at hA hval
  obtain ⟨v0, vs0, d0, ds0, p0, q0, hargs, rfl, rfl, h0, r0⟩ := trodAll_cons hA
  obtain ⟨rfl, rfl, rfl⟩ := trodAll_nil r0
  obtain rfl : args = #[v0] := by cases args; simp_all
  obtain ⟨rfl, rfl⟩ := trodVars_none hV
  obtain ⟨f0, rfl, fz0, fe0, fl0⟩ := open_frame (hval 0 23 v0 rfl rfl) h0
  clear hA0 hval0
  try simp only [List.append_nil] at hW'
  try simp only [List.nil_append] at hW'
  have hlt : ∀ x ∈ p0, x.block < W.heap.size := fun x hx => by
    have := hW'.lt x (by simpa using hx)
    simpa using this
  refine (walk f0 fz0 W).mono fun e W' ⟨he, hg⟩ => ?_
  subst he
  exact ⟨_, rfl, _, _, _, [], _, [], hW', trodAll_cons_mk (shut_bool Try.underlying4 _) trodAll_mk0, trodAll_cons_mk (Below.trod Try.laidOut (by kernel_rfl) (of_decide_eq_true (by kernel_rfl)) h0 (Same.toBelow hg) (fun x hx => hlt x (by simp [hx]))) trodAll_mk0, rfl, (Same.toBelow hg).frame _, fun h => by cases h⟩

theorem over : Rows.frameBackRow.holds Try.pinned (OpenSpec.ofChange Rows.frameBackSpec) :=
  OpenClaim.holds_of_wide 6 Try.f6 rfl rfl rfl rfl rfl rfl rfl ⟨rfl, rfl, rfl, rfl, rfl⟩ rfl rfl rfl rfl rfl (by kernel_rfl) Try.func6 (by kernel_rfl)
    (of_decide_eq_true (by kernel_rfl)) (by unfold Func.isWrapper; first | (rw [if_pos (by decide +kernel)]; kernel_rfl) | (rw [if_neg (by decide +kernel)]; exact ⟨rfl, rfl⟩))
    (fun os started H enc _ => lifted os started H enc)

theorem proved : Rows.FrameBackSaid :=
  over
end frameBack
end Go.Proofs.Ytilpbbpdchbdfaa
