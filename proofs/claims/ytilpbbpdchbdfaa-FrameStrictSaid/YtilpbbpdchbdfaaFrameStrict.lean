/- FrameStrict: for every string the law returns true: bytes that are accepted are those of their frame. No condition on the input. -/
import Derived.Test.YtilpbbpdchbdfaaFSt
import Derived.Test.YtilpbbpdchbdfaaFAw
import Derived.Test.YtilpbbpdchbdfaaFArg
namespace Go.Proofs.Ytilpbbpdchbdfaa
open Go.RowKit

theorem decR_err {data : ByteArray} (h : (decR data).2 ≠ 0) : (decR data).1 = fr0 := by
  unfold decR at h ⊢
  by_cases h1 : 127 < data.size
  · rw [if_pos h1]
  · rw [if_neg h1] at h ⊢
    by_cases h2 : (cut data).2 ≠ 0
    · rw [if_pos h2]
    · rw [if_neg h2] at h ⊢
      by_cases h3 : Bit.rclose (cut data).1 (rdX (cut data).1).1 = 0 ∧ okB (rdX (cut data).1).2 = true
      · rw [if_pos h3] at h; exact absurd rfl h
      · rw [if_neg h3]
theorem encR_short {f : Fr} (h : Ok f) (he : (encR f).2 = 0) : f.d.size ≤ 127 := by
  by_cases hd : f.d.size ≤ 127
  · exact hd
  · have hw : wrR f = (⟨#[]⟩, 0, 8) := by
      unfold wrR
      rw [if_pos (Or.inl (wst_long h (by omega)))]
    unfold encR at he
    rw [if_pos ((okB_iff f).2 h), hw] at he
    simp at he
namespace frameStrict
set_option maxRecDepth 100000 in
theorem long (d : ByteArray) (h : decide ((300 : Int) < (d.size : Int)) = true) (w : World) :
    Calls Try.prog 7 #[.string d] w fun e w' => e = .returned (.bool true) ∧ Same w w' := by
  go_enter Try.func7, Try.ntmps7
  go_wp2_with (go_at_call 11; (with_reducible refine (awake_any _).mono ?_); rintro E1 w1 ⟨rfl, hw⟩; have HX := Lib.hid hw; clear hw)
  go_ret
  exact ⟨rfl, HX.out⟩
set_option maxRecDepth 100000 in
theorem bad (d : ByteArray) (h : decide ((300 : Int) < (d.size : Int)) = false) (E : Int) (hE : (E != 0) = true) (hD : decR d = (fr0, E)) (w : World) :
    Calls Try.prog 7 #[.string d] w fun e w' => e = .returned (.bool true) ∧ Same w w' := by
  have k1 := fun w1 => decode_any d w1
  rw [hD] at k1
  have K1 := Lib.hid k1
  clear k1 hD
  go_enter Try.func7, Try.ntmps7
  go_wp2_with (first
    | (go_at_call 11; (with_reducible refine (awake_any _).mono ?_); rintro E1 w1 ⟨rfl, hw⟩; have HX := Lib.hid hw; clear hw)
    | (go_at_call 20; (with_reducible refine (K1.out _).mono ?_); rintro E1 w2 ⟨rfl, hw⟩; have HY := Lib.hid ((HX.out.trans hw).alloc (.cells (frC fr0) 23)); clear hw))
  go_ret
  exact ⟨rfl, HY.out⟩
set_option maxRecDepth 100000 in
theorem good (d : ByteArray) (h : decide ((300 : Int) < (d.size : Int)) = false) (f : Fr) (hD : decR d = (f, 0)) (hf : f.d.size ≤ 9223372036854775807) (he : encR f = (d, 0)) (w : World) :
    Calls Try.prog 7 #[.string d] w fun e w' => e = .returned (.bool true) ∧ Same w w' := by
  have k1 := fun w1 => decode_any d w1
  have k2 := fun w1 => encode_any f hf w1
  rw [hD] at k1
  rw [he] at k2
  have K1 := Lib.hid k1; have K2 := Lib.hid k2
  clear k1 k2 hD he hf
  go_enter Try.func7, Try.ntmps7
  go_wp2_with (first
    | (go_at_call 11; (with_reducible refine (awake_any _).mono ?_); rintro E1 w1 ⟨rfl, hw⟩; have HX := Lib.hid hw; clear hw)
    | (go_at_call 20; (with_reducible refine (K1.out _).mono ?_); rintro E1 w2 ⟨rfl, hw⟩; have HY := Lib.hid ((HX.out.trans hw).alloc (.cells (frC f) 23)); clear hw)
    | (go_at_call 12; (with_reducible refine (K2.out _).mono ?_); rintro E1 w3 ⟨rfl, hw⟩; have HZ := Lib.hid (HY.out.trans hw); clear hw))
  go_ret
  exact ⟨rfl, HZ.out⟩
theorem walk (d : ByteArray) (_hd : d.size ≤ maxLen) (w : World) :
    Calls Try.prog 7 #[.string d] w fun e w' => e = .returned (.bool true) ∧ Same w w' := by
  cases hu : decide ((300 : Int) < (d.size : Int)) with
  | true => exact long d hu w
  | false =>
    by_cases h0 : (decR d).2 = 0
    · have hD : decR d = ((decR d).1, 0) := by rw [← h0]
      have hs := decR_strict hD
      have hz := encR_short hs.1 (by rw [hs.2])
      exact good d hu _ hD (by omega) hs.2 w
    · have hD : decR d = (fr0, (decR d).2) := by rw [← decR_err h0]
      exact bad d hu _ (by simpa using h0) hD w

open Go.ChangeShapes Go.WideShapes Go.ChangeAt
open Go.ChangeMaps (shut_string open_string)
theorem own : ownKnob Try.prog.godebug = none := by kernel_rfl

set_option maxRecDepth 100000 in
theorem lifted (os : Os) (started : os.Started) (H : Type) (enc : TypeId × Value → H) :
    ReturnsInHanded {} Try.checked os 7 .any (Rows.frameStrictSpec.pre6 enc Try.prog Try.f7 Rows.frameStrictRow.domain false) (Rows.frameStrictSpec.post enc Try.prog Try.f7 false true false false) := by
  refine returnsInHanded_of_change (C := Try.checked) own started (by kernel_rfl) Try.func7
    (ChangeSpec.witness6 (enc := enc) (C := Try.checked) false ⟨#[], #[.string ⟨#[]⟩], []⟩ 8 (by kernel_rfl) (by kernel_rfl) (by kernel_rfl) (by kernel_rfl)) ?_
  intro W base args ds gs before hval0 hW hcnd _
  have hval : ∀ (j : Nat) t v, Try.f7.params[j]? = some t → args[j]? = some v → Value.okWide Try.prog W .any base t v := hval0
  have hW' := hW
  obtain ⟨p, q, hA0, hV, rfl, hfz, hnd⟩ := hW
  have hA : DataW.TrodAll enc Try.prog W 0 (fun _ => true) true Try.f7.params.toList args.toList ds p := hA0
  rw [Try.params7] at hA hval
  obtain ⟨v0, vs0, d0, ds0, p0, q0, hargs, rfl, rfl, h0, r0⟩ := trodAll_cons hA
  obtain ⟨rfl, rfl, rfl⟩ := trodAll_nil r0
  obtain rfl : args = #[v0] := by cases args; simp_all
  obtain ⟨rfl, rfl⟩ := trodVars_none hV
  obtain ⟨a0, rfl, rfl, rfl, w0⟩ := open_string Try.underlying9 (hval 0 9 v0 rfl rfl) h0
  clear hA0 hval0
  try simp only [List.append_nil] at hW'
  try simp only [List.nil_append] at hW'
  refine (walk a0 w0 W).mono fun e W' ⟨he, hg⟩ => ?_
  subst he
  exact ⟨_, rfl, _, _, _, [], _, [], hW', trodAll_cons_mk (shut_bool Try.underlying4 _) trodAll_mk0, trodAll_cons_mk (shut_string Try.underlying9 w0) trodAll_mk0, rfl, (Same.toBelow hg).frame _, fun h => by cases h⟩

theorem over : Rows.frameStrictRow.holds Try.pinned (OpenSpec.ofChange Rows.frameStrictSpec) :=
  OpenClaim.holds_of_wide 7 Try.f7 rfl rfl rfl rfl rfl rfl rfl ⟨rfl, rfl, rfl, rfl, rfl⟩ rfl rfl rfl rfl rfl (by kernel_rfl) Try.func7 (by kernel_rfl)
    (of_decide_eq_true (by kernel_rfl)) (by unfold Func.isWrapper; first | (rw [if_pos (by decide +kernel)]; kernel_rfl) | (rw [if_neg (by decide +kernel)]; exact ⟨rfl, rfl⟩))
    (fun os started H enc _ => lifted os started H enc)

theorem proved : Rows.FrameStrictSaid :=
  over
end frameStrict
end Go.Proofs.Ytilpbbpdchbdfaa
