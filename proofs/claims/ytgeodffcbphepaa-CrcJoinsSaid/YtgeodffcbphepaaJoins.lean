/- CrcJoins: for all strings the law returns true: the check sum of two strings, one behind the other, follows from both, and from the first one and the second string. No condition on the input. -/
import Derived.Test.YtgeodffcbphepaaAwake
import Derived.ProofKit
import Derived.OpenShut
namespace Go.Proofs.Ytgeodffcbphepaa
open Go.RowKit
open Crc

namespace crcJoins
set_option maxHeartbeats 1600000 in
theorem walk (a : ByteArray) (ha : a.size ≤ maxLen) (b : ByteArray) (hb : b.size ≤ maxLen) (w : World) :
    Calls Try.prog 7 #[.string a, .string b] w fun e w' => e = .returned (.bool true) ∧ Same w w' := by
  have ha' := ha
  have hb' := hb
  unfold maxLen at ha hb
  by_cases h1 : a.size ≤ 300
  · by_cases h2 : b.size ≤ 300
    · have hab : (a ++ b).data.toList = a.data.toList ++ b.data.toList := by rw [ByteArray.data_append, Array.toList_append]
      have hs : U 0 (a ++ b).data.toList = U (U 0 a.data.toList) b.data.toList := by rw [hab, U_append]
      have hul := U_lt (s := 0) (by decide) a.data.toList
      have hub := U_lt (s := 0) (by decide) b.data.toList
      have c1 := fun w => sum_any (a ++ b) (by rw [ByteArray.size_append]; unfold maxLen; omega) w
      have c2 := fun w => sum_any a ha' w
      have c3 := fun w => sum_any b hb' w
      have c4 := fun w => update_any (U 0 a.data.toList) hul b hb' w
      have c5 := fun w => combine_any (U 0 a.data.toList) (U 0 b.data.toList) hul hub b.size (by omega) w
      have c6 : ∀ w, Calls Try.prog 14 #[.int .u16 0, .string a] w fun e w' => e = .returned (.int .u16 (U 0 a.data.toList : Nat)) ∧ Same w w' := fun w => update_any 0 (by decide) a ha' w
      have hc : comb (U 0 a.data.toList) (U 0 b.data.toList) (b.size : Int) = U (U 0 a.data.toList) b.data.toList := by
        unfold comb; rw [if_neg (by omega)]
        have := C_U hul b.data.toList
        rw [Array.length_toList] at this; exact this
      rw [hc] at c5
      rw [hs] at c1
      have C1 := Lib.hid c1; clear c1
      have C2 := Lib.hid c2; clear c2
      have C3 := Lib.hid c3; clear c3
      have C4 := Lib.hid c4; clear c4
      have C5 := Lib.hid c5; clear c5
      have C6 := Lib.hid c6; clear c6
      clear hab hs hul hub hc ha' hb'
      go_enter Try.func7, Try.ntmps7
      go_wp2_with (first
        | (go_at_call 11; refine (awake_any _).mono ?_; rintro e w1 ⟨rfl, h⟩; have H := Lib.hid h; clear h)
        | (go_at_call 12; with_reducible refine (C1.out _).mono ?_; rintro e w3 ⟨rfl, h⟩; have H' := Lib.hid (H.out.trans h); clear h H; have H := H'; clear H')
        | (go_at_call 12; with_reducible refine (C2.out _).mono ?_; rintro e w3 ⟨rfl, h⟩; have H' := Lib.hid (H.out.trans h); clear h H; have H := H'; clear H')
        | (go_at_call 12; with_reducible refine (C3.out _).mono ?_; rintro e w3 ⟨rfl, h⟩; have H' := Lib.hid (H.out.trans h); clear h H; have H := H'; clear H')
        | (go_at_call 14; with_reducible refine (C4.out _).mono ?_; rintro e w3 ⟨rfl, h⟩; have H' := Lib.hid (H.out.trans h); clear h H; have H := H'; clear H')
        | (go_at_call 14; with_reducible refine (C6.out _).mono ?_; rintro e w3 ⟨rfl, h⟩; have H' := Lib.hid (H.out.trans h); clear h H; have H := H'; clear H')
        | (go_at_call 16; with_reducible refine (C5.out _).mono ?_; rintro e w3 ⟨rfl, h⟩; have H' := Lib.hid (H.out.trans (Same.ofDrewN h)); clear h H; have H := H'; clear H'))
      go_ret
      exact ⟨rfl, H.out⟩
    · go_enter Try.func7, Try.ntmps7
      go_wp2_with (go_at_call 11; refine (awake_any _).mono ?_; rintro e w1 ⟨rfl, h⟩; have H := Lib.hid h; clear h)
      go_ret
      exact ⟨rfl, H.out⟩
  · go_enter Try.func7, Try.ntmps7
    go_wp2_with (go_at_call 11; refine (awake_any _).mono ?_; rintro e w1 ⟨rfl, h⟩; have H := Lib.hid h; clear h)
    go_ret
    exact ⟨rfl, H.out⟩
open Go.ChangeShapes Go.WideShapes Go.ChangeAt
open Go.ChangeMaps (shut_string open_string)
theorem own : ownKnob Try.prog.godebug = none := by kernel_rfl

set_option maxRecDepth 100000 in
theorem lifted (os : Os) (started : os.Started) (H : Type) (enc : TypeId × Value → H) :
    ReturnsInHanded {} Try.checked os 7 .any (Rows.crcJoinsSpec.pre6 enc Try.prog Try.f7 Rows.crcJoinsRow.domain false) (Rows.crcJoinsSpec.post enc Try.prog Try.f7 false true false false) := by
  refine returnsInHanded_of_change (C := Try.checked) own started (by kernel_rfl) Try.func7
    (ChangeSpec.witness6 (enc := enc) (C := Try.checked) false ⟨#[], #[.string ⟨#[]⟩, .string ⟨#[]⟩], []⟩ 8 (by kernel_rfl) (by kernel_rfl) (by kernel_rfl) (by kernel_rfl)) ?_
  intro W base args ds gs before hval0 hW hcnd _
  have hval : ∀ (j : Nat) t v, Try.f7.params[j]? = some t → args[j]? = some v → Value.okWide Try.prog W .any base t v := hval0
  have hW' := hW
  obtain ⟨p, q, hA0, hV, rfl, hfz, hnd⟩ := hW
  have hA : DataW.TrodAll enc Try.prog W 0 (fun _ => true) true Try.f7.params.toList args.toList ds p := hA0
  rw [Try.params7] at hA hval
  obtain ⟨v0, vs0, d0, ds0, p0, q0, hargs, rfl, rfl, h0, r0⟩ := trodAll_cons hA
  obtain ⟨v1, vs1, d1, ds1, p1, q1, rfl, rfl, rfl, h1, r1⟩ := trodAll_cons r0
  obtain ⟨rfl, rfl, rfl⟩ := trodAll_nil r1
  obtain rfl : args = #[v0, v1] := by cases args; simp_all
  obtain ⟨rfl, rfl⟩ := trodVars_none hV
  obtain ⟨a0, rfl, rfl, rfl, w0⟩ := open_string Try.underlying9 (hval 0 9 v0 rfl rfl) h0
  obtain ⟨a1, rfl, rfl, rfl, w1⟩ := open_string Try.underlying9 (hval 1 9 v1 rfl rfl) h1
  clear hA0 hval0
  try simp only [List.append_nil] at hW'
  try simp only [List.nil_append] at hW'
  refine (walk a0 w0 a1 w1 W).mono fun e W' ⟨he, hg⟩ => ?_
  subst he
  exact ⟨_, rfl, _, _, _, [], _, [], hW', trodAll_cons_mk (shut_bool Try.underlying4 _) trodAll_mk0, trodAll_cons_mk (shut_string Try.underlying9 w0) (trodAll_cons_mk (shut_string Try.underlying9 w1) trodAll_mk0), rfl, (Same.toBelow hg).frame _, fun h => by cases h⟩

theorem over : Rows.crcJoinsRow.holds Try.pinned (OpenSpec.ofChange Rows.crcJoinsSpec) :=
  OpenClaim.holds_of_wide 7 Try.f7 rfl rfl rfl rfl rfl rfl rfl ⟨rfl, rfl, rfl, rfl, rfl⟩ rfl rfl rfl rfl rfl (by kernel_rfl) Try.func7 (by kernel_rfl)
    (of_decide_eq_true (by kernel_rfl)) (by unfold Func.isWrapper; first | (rw [if_pos (by decide +kernel)]; kernel_rfl) | (rw [if_neg (by decide +kernel)]; exact ⟨rfl, rfl⟩))
    (fun os started H enc _ => lifted os started H enc)

theorem proved : Rows.CrcJoinsSaid :=
  over
end crcJoins
end Go.Proofs.Ytgeodffcbphepaa
