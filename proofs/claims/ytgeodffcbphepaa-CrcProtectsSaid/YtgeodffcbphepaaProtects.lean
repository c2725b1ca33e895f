/- CrcProtects: for every string the law returns true: a protected string is accepted, and gives the string; other strings are accepted exactly if they are protected ones. No condition on the input. -/
import Derived.Test.YtgeodffcbphepaaProt
import Derived.Lib.Strings
import Derived.Test.YtgeodffcbphepaaAwake
import Derived.ProofKit
import Derived.OpenShut
namespace Go.Proofs.Ytgeodffcbphepaa
open Go.RowKit
open Crc

namespace crcProtects
theorem short (d : ByteArray) (ha : d.size ≤ 300) (h2 : d.size < 2) (w : World) :
    Calls Try.prog 8 #[.string d] w fun e w' => e = .returned (.bool true) ∧ Same w w' := by
  have c1 := fun w => protect_any d (by omega) w
  have c2 := fun w => check_ok (prot d) (by rw [prot_size]; unfold maxLen; omega) d.size (by rw [prot_size]) (syn_prot d) w
  rw [prot_front] at c2
  have c3 := fun w => check_short d h2 w
  have c4 := fun w => syndrome_short d h2 w
  have hb : (((prot d).size : Int) != (d.size : Int) + 2) = false := by rw [prot_size]; simp
  generalize prot d = p at c1 c2 hb
  have C1 := Lib.hid c1; clear c1
  have C2 := Lib.hid c2; clear c2
  have C3 := Lib.hid c3; clear c3
  have C4 := Lib.hid c4; clear c4
  go_enter Try.func8, Try.ntmps8
  go_wp2_with (first
    | (go_at_call 11; refine (awake_any _).mono ?_; rintro e w1 ⟨rfl, h⟩; have H := Lib.hid h; clear h)
    | (go_at_call 22; with_reducible refine (C1.out _).mono ?_; rintro e w3 ⟨rfl, h⟩; have H' := Lib.hid (H.out.trans h); clear h H; have H := H'; clear H')
    | (go_at_call 23; with_reducible refine (C2.out _).mono ?_; rintro e w3 ⟨rfl, h⟩; have H' := Lib.hid (H.out.trans h); clear h H; have H := H'; clear H')
    | (go_at_call 23; with_reducible refine (C3.out _).mono ?_; rintro e w3 ⟨rfl, rfl⟩)
    | (go_at_call 24; with_reducible refine (C4.out _).mono ?_; rintro e w3 ⟨rfl, rfl⟩))
  go_ret
  exact ⟨rfl, H.out⟩
theorem right (d : ByteArray) (ha : d.size ≤ 300) (n : Nat) (h2 : n + 2 = d.size) (h0 : syn d = 0) (w : World) :
    Calls Try.prog 8 #[.string d] w fun e w' => e = .returned (.bool true) ∧ Same w w' := by
  have c1 := fun w => protect_any d (by omega) w
  have c2 := fun w => check_ok (prot d) (by rw [prot_size]; unfold maxLen; omega) d.size (by rw [prot_size]) (syn_prot d) w
  rw [prot_front] at c2
  have c3 := fun w => check_ok d (by unfold maxLen; omega) n h2 h0 w
  have c4 := fun w => syndrome_any d (by unfold maxLen; omega) (by omega) w
  rw [h0] at c4
  rw [show ((0 : Nat) : Int) = 0 from rfl] at c4
  have c5 := fun w => protect_any (d.extract 0 n) (by simp; omega) w
  rw [(syn_zero d n h2).1 h0] at c5
  have hb : (((prot d).size : Int) != (d.size : Int) + 2) = false := by rw [prot_size]; simp
  generalize prot d = p at c1 c2 hb
  have hs : ((d.size : Int) - 2) = (n : Int) := by omega
  have i0 : (0 : Int) ≤ (n : Int) := by omega
  have i6 : (n : Int) ≤ (d.size : Int) := by omega
  have i7 : n ≤ d.size := by omega
  have i8 : 2 ≤ d.size := by omega
  have C1 := Lib.hid c1; clear c1
  have C2 := Lib.hid c2; clear c2
  have C3 := Lib.hid c3; clear c3
  have C4 := Lib.hid c4; clear c4
  have C5 := Lib.hid c5; clear c5
  clear h2 h0
  go_enter Try.func8, Try.ntmps8
  go_wp2_with (first
    | (go_at_call 11; refine (awake_any _).mono ?_; rintro e w1 ⟨rfl, h⟩; have H := Lib.hid h; clear h)
    | (go_at_call 22; with_reducible refine (C1.out _).mono ?_; rintro e w3 ⟨rfl, h⟩; have H' := Lib.hid (H.out.trans h); clear h H; have H := H'; clear H')
    | (go_at_call 22; with_reducible refine (C5.out _).mono ?_; rintro e w3 ⟨rfl, h⟩; have H' := Lib.hid (H.out.trans h); clear h H; have H := H'; clear H')
    | (go_at_call 23; with_reducible refine (C2.out _).mono ?_; rintro e w3 ⟨rfl, h⟩; have H' := Lib.hid (H.out.trans h); clear h H; have H := H'; clear H')
    | (go_at_call 23; with_reducible refine (C3.out _).mono ?_; rintro e w3 ⟨rfl, h⟩; have H' := Lib.hid (H.out.trans h); clear h H; have H := H'; clear H')
    | (go_at_call 24; with_reducible refine (C4.out _).mono ?_; rintro e w3 ⟨rfl, h⟩; have H' := Lib.hid (H.out.trans h); clear h H; have H := H'; clear H'))
  go_ret
  exact ⟨rfl, H.out⟩
theorem wrong (d : ByteArray) (ha : d.size ≤ 300) (n : Nat) (h2 : n + 2 = d.size) (h0 : syn d ≠ 0) (w : World) :
    Calls Try.prog 8 #[.string d] w fun e w' => e = .returned (.bool true) ∧ Same w w' := by
  have c1 := fun w => protect_any d (by omega) w
  have c2 := fun w => check_ok (prot d) (by rw [prot_size]; unfold maxLen; omega) d.size (by rw [prot_size]) (syn_prot d) w
  rw [prot_front] at c2
  have c3 := fun w => check_bad d (by unfold maxLen; omega) (by omega) h0 w
  have c4 := fun w => syndrome_any d (by unfold maxLen; omega) (by omega) w
  have c5 := fun w => protect_any (d.extract 0 n) (by simp; omega) w
  have hq : ((prot (d.extract 0 n)).toList == d.toList) = false := by
    rw [beq_eq_false_iff_ne, Lib.toList_data, Lib.toList_data]
    exact fun e => h0 ((syn_zero d n h2).2 (bytes_eq e))
  have hb : (((prot d).size : Int) != (d.size : Int) + 2) = false := by rw [prot_size]; simp
  have hz : (((syn d : Nat) : Int) == 0) = false := by simp; omega
  generalize prot (d.extract 0 n) = q at c5 hq
  generalize prot d = p at c1 c2 hb
  generalize syn d = s at c4 hz
  have hs : ((d.size : Int) - 2) = (n : Int) := by omega
  have i0 : (0 : Int) ≤ (n : Int) := by omega
  have i6 : (n : Int) ≤ (d.size : Int) := by omega
  have i7 : n ≤ d.size := by omega
  have i8 : 2 ≤ d.size := by omega
  have C1 := Lib.hid c1; clear c1
  have C2 := Lib.hid c2; clear c2
  have C3 := Lib.hid c3; clear c3
  have C4 := Lib.hid c4; clear c4
  have C5 := Lib.hid c5; clear c5
  clear h2 h0
  go_enter Try.func8, Try.ntmps8
  go_wp2_with (first
    | (go_at_call 11; refine (awake_any _).mono ?_; rintro e w1 ⟨rfl, h⟩; have H := Lib.hid h; clear h)
    | (go_at_call 22; with_reducible refine (C1.out _).mono ?_; rintro e w3 ⟨rfl, h⟩; have H' := Lib.hid (H.out.trans h); clear h H; have H := H'; clear H')
    | (go_at_call 22; with_reducible refine (C5.out _).mono ?_; rintro e w3 ⟨rfl, h⟩; have H' := Lib.hid (H.out.trans h); clear h H; have H := H'; clear H')
    | (go_at_call 23; with_reducible refine (C2.out _).mono ?_; rintro e w3 ⟨rfl, h⟩; have H' := Lib.hid (H.out.trans h); clear h H; have H := H'; clear H')
    | (go_at_call 23; with_reducible refine (C3.out _).mono ?_; rintro e w3 ⟨rfl, h⟩; have H' := Lib.hid (H.out.trans h); clear h H; have H := H'; clear H')
    | (go_at_call 24; with_reducible refine (C4.out _).mono ?_; rintro e w3 ⟨rfl, h⟩; have H' := Lib.hid (H.out.trans h); clear h H; have H := H'; clear H'))
  go_ret
  exact ⟨rfl, H.out⟩
theorem walk (d : ByteArray) (hd : d.size ≤ maxLen) (w : World) :
    Calls Try.prog 8 #[.string d] w fun e w' => e = .returned (.bool true) ∧ Same w w' := by
  by_cases ha : d.size ≤ 300
  · by_cases h2 : d.size < 2
    · exact short d ha h2 w
    · by_cases h0 : syn d = 0
      · exact right d ha (d.size - 2) (by omega) h0 w
      · exact wrong d ha (d.size - 2) (by omega) h0 w
  · unfold maxLen at hd
    go_enter Try.func8, Try.ntmps8
    go_wp2_with (go_at_call 11; refine (awake_any _).mono ?_; rintro e w1 ⟨rfl, h⟩; have H := Lib.hid h; clear h)
    go_ret
    exact ⟨rfl, H.out⟩
open Go.ChangeShapes Go.WideShapes Go.ChangeAt
open Go.ChangeMaps (shut_string open_string)
theorem own : ownKnob Try.prog.godebug = none := by kernel_rfl

set_option maxRecDepth 100000 in
theorem lifted (os : Os) (started : os.Started) (H : Type) (enc : TypeId × Value → H) :
    ReturnsInHanded {} Try.checked os 8 .any (Rows.crcProtectsSpec.pre6 enc Try.prog Try.f8 Rows.crcProtectsRow.domain false) (Rows.crcProtectsSpec.post enc Try.prog Try.f8 false true false false) := by
  refine returnsInHanded_of_change (C := Try.checked) own started (by kernel_rfl) Try.func8
    (ChangeSpec.witness6 (enc := enc) (C := Try.checked) false ⟨#[], #[.string ⟨#[]⟩], []⟩ 8 (by kernel_rfl) (by kernel_rfl) (by kernel_rfl) (by kernel_rfl)) ?_
  intro W base args ds gs before hval0 hW hcnd _
  have hval : ∀ (j : Nat) t v, Try.f8.params[j]? = some t → args[j]? = some v → Value.okWide Try.prog W .any base t v := hval0
  have hW' := hW
  obtain ⟨p, q, hA0, hV, rfl, hfz, hnd⟩ := hW
  have hA : DataW.TrodAll enc Try.prog W 0 (fun _ => true) true Try.f8.params.toList args.toList ds p := hA0
  rw [Try.params8] at hA hval
  obtain ⟨v0, vs0, d0, ds0, p0, q0, hargs, rfl, rfl, h0, r0⟩ := trodAll_cons hA
  obtain ⟨rfl, rfl, rfl⟩ := trodAll_nil r0
  obtain rfl : args = #[v0] := by cases args; simp_all
  obtain ⟨rfl, rfl⟩ := trodVars_none hV
  obtain ⟨a0, rfl, rfl, rfl, w0⟩ := open_string Try.underlying9 (hval 0 9 v0 rfl rfl) h0
  clear hA0 hval0
  try simp only [List.append_nil] at hW'
  try simp only [List.nil_append] at hW'
  refine (walk a0 w0 W).mono fun e W' ⟨he, hg⟩ => ?_
  subst he
  exact ⟨_, rfl, _, _, _, [], _, [], hW', trodAll_cons_mk (shut_bool Try.underlying4 _) trodAll_mk0, trodAll_cons_mk (shut_string Try.underlying9 w0) trodAll_mk0, rfl, (Same.toBelow hg).frame _, fun h => by cases h⟩

theorem over : Rows.crcProtectsRow.holds Try.pinned (OpenSpec.ofChange Rows.crcProtectsSpec) :=
  OpenClaim.holds_of_wide 8 Try.f8 rfl rfl rfl rfl rfl rfl rfl ⟨rfl, rfl, rfl, rfl, rfl⟩ rfl rfl rfl rfl rfl (by kernel_rfl) Try.func8 (by kernel_rfl)
    (of_decide_eq_true (by kernel_rfl)) (by unfold Func.isWrapper; first | (rw [if_pos (by decide +kernel)]; kernel_rfl) | (rw [if_neg (by decide +kernel)]; exact ⟨rfl, rfl⟩))
    (fun os started H enc _ => lifted os started H enc)

theorem proved : Rows.CrcProtectsSaid :=
  over
end crcProtects
end Go.Proofs.Ytgeodffcbphepaa
