/- CrcLocates: for every residue, every int of bits and every n the law returns true: Locate finds just the least power of x that is a syndrome. No condition on the input. -/
import Derived.Test.YtgeodffcbphepaaAwake
import Derived.ProofKit
import Derived.OpenShut
namespace Go.Proofs.Ytgeodffcbphepaa
open Go.RowKit
open Crc

namespace crcLocates
theorem bne_true {a b : Nat} (h : a ≠ b) : (((a : Nat) : Int) != (b : Int)) = true := by simp; omega
theorem pw (i : Nat) (hi : i ≤ 70000) (w : World) : Calls Try.prog 20 #[.int .i64 (i : Int)] w fun e w' => e = .returned (.int .u16 (X i : Nat)) ∧ Same w w' := by
  have h := power_any i (by omega) w
  have e : powr (i : Int) = X i := by unfold powr; rw [if_neg (by omega)]; rfl
  rw [e] at h
  exact h.mono fun e w' ⟨he, hw⟩ => ⟨he, Same.ofDrewN hw⟩

set_option maxHeartbeats 1600000 in
theorem walk (x : Int) (hx : 0 ≤ x ∧ x ≤ 65535) (bits : Int) (_hbits : -9223372036854775808 ≤ bits ∧ bits ≤ 9223372036854775807) (y : Int) (hy : 0 ≤ y ∧ y ≤ 65535) (w : World) :
    Calls Try.prog 10 #[.int .u16 x, .int .i64 bits, .int .u16 y] w fun e w' => e = .returned (.bool true) ∧ Same w w' := by
  obtain ⟨s, rfl⟩ := Int.eq_ofNat_of_zero_le hx.1
  obtain ⟨n, rfl⟩ := Int.eq_ofNat_of_zero_le hy.1
  have hk : n % 32767 < 32767 := Nat.mod_lt _ (by decide)
  have c1 : ∀ w, Calls Try.prog 20 #[.int .i64 ((n : Int) % 32767)] w fun e w' => e = .returned (.int .u16 (X (n % 32767) : Nat)) ∧ Same w w' := fun w => pw (n % 32767) (by omega) w
  have c2 : ∀ w, Calls Try.prog 26 #[.int .u16 (X (n % 32767) : Nat), .int .i64 ((n : Int) % 32767 + 1)] w fun e w' => e = .returned (.tuple #[.int .i64 ((n : Int) % 32767), .bool true]) ∧ w' = w := fun w => locate_yes (X (n % 32767)) ((n : Int) % 32767 + 1) (n % 32767) (by omega) hk rfl w
  have c3 : ∀ w, Calls Try.prog 26 #[.int .u16 (X (n % 32767) : Nat), .int .i64 ((n : Int) % 32767)] w fun e w' => e = .returned (.tuple #[.int .i64 0, .bool false]) ∧ w' = w := fun w => locate_no (X (n % 32767)) ((n : Int) % 32767) (fun j hj hj2 e => by have := X_inj hj2 hk e; omega) w
  have C1 := Lib.hid c1; clear c1
  have C2 := Lib.hid c2; clear c2
  have C3 := Lib.hid c3; clear c3
  have hn9 : (n : Int) % 32767 ≤ 40000 := by omega
  have hn0 : 0 ≤ (n : Int) % 32767 := by omega
  have hn1 : (n : Int) ≤ 70000 := by omega
  by_cases hf : ∃ i : Nat, (i : Int) < bits ∧ i < 32767 ∧ X i = s
  · obtain ⟨i, h1, h2, h3⟩ := hf
    have c4 := fun w => locate_yes s bits i h1 h2 h3 w
    have c5 : ∀ w, Calls Try.prog 20 #[.int .i64 (i : Int)] w fun e w' => e = .returned (.int .u16 (s : Nat)) ∧ Same w w' := fun w => by have := pw i (by omega) w; rw [h3] at this; exact this
    have C4 := Lib.hid c4; clear c4
    have C5 := Lib.hid c5; clear c5
    have t1 : decide (32767 ≤ (i : Int)) = false := by simp; omega
    clear hx hy h2 h3 hk
    go_enter Try.func10, Try.ntmps10
    go_wp2_with (first
      | (go_at_call 11; refine (awake_any _).mono ?_; rintro e w1 ⟨rfl, h⟩; have H := Lib.hid h; clear h)
      | (go_at_call 26; with_reducible refine (C4.out _).mono ?_; rintro e w2 ⟨rfl, rfl⟩)
      | (go_at_call 26; with_reducible refine (C2.out _).mono ?_; rintro e w2 ⟨rfl, rfl⟩)
      | (go_at_call 26; with_reducible refine (C3.out _).mono ?_; rintro e w2 ⟨rfl, rfl⟩)
      | (go_at_call 20; with_reducible refine (C5.out _).mono ?_; rintro e w3 ⟨rfl, h⟩; have H' := Lib.hid (H.out.trans h); clear h H; have H := H'; clear H')
      | (go_at_call 20; with_reducible refine (C1.out _).mono ?_; rintro e w3 ⟨rfl, h⟩; have H' := Lib.hid (H.out.trans h); clear h H; have H := H'; clear H'))
    go_ret
    exact ⟨rfl, H.out⟩
  · have hno : ∀ j : Nat, (j : Int) < bits → j < 32767 → X j ≠ s := fun j h1 h2 h3 => hf ⟨j, h1, h2, h3⟩
    have c4 := fun w => locate_no s bits hno w
    have c5 := fun w => pw n (by omega) w
    have C4 := Lib.hid c4; clear c4
    have C5 := Lib.hid c5; clear c5
    have hno' : (n : Int) < bits → X n ≠ s := fun h => by
      rw [← X_mod]; exact hno _ (by omega) hk
    clear hx hy hk hno hf
    by_cases hnb : (n : Int) < bits
    · have t1 := bne_u16 (hno' hnb)
      clear hno'
      go_enter Try.func10, Try.ntmps10
      go_wp2_with (first
        | (go_at_call 11; refine (awake_any _).mono ?_; rintro e w1 ⟨rfl, h⟩; have H := Lib.hid h; clear h)
        | (go_at_call 26; with_reducible refine (C4.out _).mono ?_; rintro e w2 ⟨rfl, rfl⟩)
        | (go_at_call 26; with_reducible refine (C2.out _).mono ?_; rintro e w2 ⟨rfl, rfl⟩)
        | (go_at_call 26; with_reducible refine (C3.out _).mono ?_; rintro e w2 ⟨rfl, rfl⟩)
        | (go_at_call 20; with_reducible refine (C5.out _).mono ?_; rintro e w3 ⟨rfl, h⟩; have H' := Lib.hid (H.out.trans h); clear h H; have H := H'; clear H')
        | (go_at_call 20; with_reducible refine (C1.out _).mono ?_; rintro e w3 ⟨rfl, h⟩; have H' := Lib.hid (H.out.trans h); clear h H; have H := H'; clear H'))
      go_ret
      exact ⟨rfl, H.out⟩
    · clear hno'
      go_enter Try.func10, Try.ntmps10
      go_wp2_with (first
        | (go_at_call 11; refine (awake_any _).mono ?_; rintro e w1 ⟨rfl, h⟩; have H := Lib.hid h; clear h)
        | (go_at_call 26; with_reducible refine (C4.out _).mono ?_; rintro e w2 ⟨rfl, rfl⟩)
        | (go_at_call 26; with_reducible refine (C2.out _).mono ?_; rintro e w2 ⟨rfl, rfl⟩)
        | (go_at_call 26; with_reducible refine (C3.out _).mono ?_; rintro e w2 ⟨rfl, rfl⟩)
        | (go_at_call 20; with_reducible refine (C1.out _).mono ?_; rintro e w3 ⟨rfl, h⟩; have H' := Lib.hid (H.out.trans h); clear h H; have H := H'; clear H'))
      go_ret
      exact ⟨rfl, H.out⟩
open Go.ChangeShapes Go.WideShapes Go.ChangeAt
theorem own : ownKnob Try.prog.godebug = none := by kernel_rfl

set_option maxRecDepth 100000 in
theorem lifted (os : Os) (started : os.Started) (H : Type) (enc : TypeId × Value → H) :
    ReturnsInHanded {} Try.checked os 10 .any (Rows.crcLocatesSpec.pre6 enc Try.prog Try.f10 Rows.crcLocatesRow.domain false) (Rows.crcLocatesSpec.post enc Try.prog Try.f10 false true false false) := by
  refine returnsInHanded_of_change (C := Try.checked) own started (by kernel_rfl) Try.func10
    (ChangeSpec.witness6 (enc := enc) (C := Try.checked) false ⟨#[], #[.int .u16 0, .int .i64 0, .int .u16 0], []⟩ 8 (by kernel_rfl) (by kernel_rfl) (by kernel_rfl) (by kernel_rfl)) ?_
  intro W base args ds gs before hval0 hW hcnd _
  have hval : ∀ (j : Nat) t v, Try.f10.params[j]? = some t → args[j]? = some v → Value.okWide Try.prog W .any base t v := hval0
  have hW' := hW
  obtain ⟨p, q, hA0, hV, rfl, hfz, hnd⟩ := hW
  have hA : DataW.TrodAll enc Try.prog W 0 (fun _ => true) true Try.f10.params.toList args.toList ds p := hA0
  rw [Try.params10] at hA hval
  obtain ⟨v0, vs0, d0, ds0, p0, q0, hargs, rfl, rfl, h0, r0⟩ := trodAll_cons hA
  obtain ⟨v1, vs1, d1, ds1, p1, q1, rfl, rfl, rfl, h1, r1⟩ := trodAll_cons r0
  obtain ⟨v2, vs2, d2, ds2, p2, q2, rfl, rfl, rfl, h2, r2⟩ := trodAll_cons r1
  obtain ⟨rfl, rfl, rfl⟩ := trodAll_nil r2
  obtain rfl : args = #[v0, v1, v2] := by cases args; simp_all
  obtain ⟨rfl, rfl⟩ := trodVars_none hV
  obtain ⟨a0, rfl, rfl, rfl, w0⟩ := open_int Try.underlying22 (hval 0 22 v0 rfl rfl) h0
  obtain ⟨a1, rfl, rfl, rfl, w1⟩ := open_int Try.underlying3 (hval 1 3 v1 rfl rfl) h1
  obtain ⟨a2, rfl, rfl, rfl, w2⟩ := open_int Try.underlying22 (hval 2 22 v2 rfl rfl) h2
  clear hA0 hval0
  try simp only [List.append_nil] at hW'
  try simp only [List.nil_append] at hW'
  refine (walk a0 (bounds_u16 w0) a1 (bounds_i64 w1) a2 (bounds_u16 w2) W).mono fun e W' ⟨he, hg⟩ => ?_
  subst he
  exact ⟨_, rfl, _, _, _, [], _, [], hW', trodAll_cons_mk (shut_bool Try.underlying4 _) trodAll_mk0, trodAll_cons_mk (shut_int Try.underlying22 w0) (trodAll_cons_mk (shut_int Try.underlying3 w1) (trodAll_cons_mk (shut_int Try.underlying22 w2) trodAll_mk0)), rfl, (Same.toBelow hg).frame _, fun h => by cases h⟩

theorem over : Rows.crcLocatesRow.holds Try.pinned (OpenSpec.ofChange Rows.crcLocatesSpec) :=
  OpenClaim.holds_of_wide 10 Try.f10 rfl rfl rfl rfl rfl rfl rfl ⟨rfl, rfl, rfl, rfl, rfl⟩ rfl rfl rfl rfl rfl (by kernel_rfl) Try.func10 (by kernel_rfl)
    (of_decide_eq_true (by kernel_rfl)) (by unfold Func.isWrapper; first | (rw [if_pos (by decide +kernel)]; kernel_rfl) | (rw [if_neg (by decide +kernel)]; exact ⟨rfl, rfl⟩))
    (fun os started H enc _ => lifted os started H enc)

theorem proved : Rows.CrcLocatesSaid :=
  over
end crcLocates
end Go.Proofs.Ytgeodffcbphepaa
