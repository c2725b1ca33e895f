/- BitioWidths: for every int the law returns true: Width is the least width with which the number can be written. No condition on the input. -/
import Derived.Test.YtficlefifjhecaaAwake
import Derived.ProofKit
import Derived.OpenShut
namespace Go.Proofs.Ytficlefifjhecaa
open Go.RowKit

theorem Keeps.toBelow {w w' : World} (h : Keeps (fun _ => False) w w') : Below w.heap.size w w' := ⟨h.os, h.tape, h.output, h.size, fun k hk => h.block k hk (fun h => h)⟩

/-- A writer that has just been made, and nothing written. -/
def Fresh (w : World) (a : Nat) (w' : World) : Prop := Wr w' a ([], 0) none ∧ Keeps (fun _ => False) w w' ∧ w.heap.size ≤ a
def Two (w : World) (a b : Nat) (w' : World) : Prop := Wr w' a ([], 0) none ∧ w.heap.size ≤ a ∧ a ≠ b ∧ Fresh w b w'
def Then (w : World) (a : Nat) (st : List Nat × Int) (b : Nat) (w' : World) : Prop := (∃ d, Wr w' a st d) ∧ Fresh w b w'
theorem Fresh.same {w w1 w2 : World} {a : Nat} (h : Fresh w a w1) (k : Keeps (fun _ => False) w1 w2) : Fresh w a w2 :=
  ⟨h.1.keep k (fun h => h) (fun _ _ h => h), h.2.1.trans k (fun _ h => h) (fun _ _ h => h), h.2.2⟩
theorem new1 (w w1 : World) (h : WrSame w w1) : Calls Try.prog 13 #[] w1 fun e w' => e = .returned (.pointer (some ⟨w1.heap.size, 0, none⟩)) ∧ Fresh w w1.heap.size w' :=
  (newWriter_any w1).mono fun e w' ⟨he, hw⟩ => ⟨he, by subst hw; exact ⟨Wr.new w1, h.trans ((Keeps.refl (fun _ => False) w1).alloc _) (fun _ h => h) (fun _ _ h => h), h.size⟩⟩
theorem new2 (w w1 : World) (a : Nat) (h : Fresh w a w1) : Calls Try.prog 13 #[] w1 fun e w' => e = .returned (.pointer (some ⟨w1.heap.size, 0, none⟩)) ∧ Two w a w1.heap.size w' :=
  (newWriter_any w1).mono fun e w' ⟨he, hw⟩ => ⟨he, by
    have hk : Keeps (fun _ => False) w1 w' := by subst hw; exact (Keeps.refl _ w1).alloc _
    have hlt := h.1.lt
    have h2 := h.2.1.size
    exact ⟨h.1.keep hk (fun h => h) (fun _ _ h => h), h.2.2, by omega, by subst hw; exact Wr.new w1, h.2.1.trans hk (fun _ h => h) (fun _ _ h => h), h2⟩⟩
theorem uns1 (w w1 : World) (a b : Nat) (h : Two w a b w1) (wd x : Int) : Calls Try.prog 35 #[.pointer (some ⟨a, 0, none⟩), .int .i64 wd, .int .i64 x] w1 fun e w' => e = .returned (.tuple #[]) ∧ Then w a (wuns wd x ([], 0)) b w' :=
  (wunsigned_any w1 a _ none h.1 wd x).mono fun e w' ⟨he, d, h1, h2, _⟩ => ⟨he, ⟨d, h1⟩, by
    obtain ⟨_, ha, hab, hf⟩ := h
    refine ⟨hf.1.keep h2 ?_ (fun _ h => by cases h), hf.2.1.trans h2 (fun _ h => h) ?_, hf.2.2⟩
    · rintro (rfl | h)
      · exact hab rfl
      · cases h
    · rintro i hi (rfl | h)
      · omega
      · cases h⟩
theorem bytes1 (w w1 : World) (a b : Nat) (st : List Nat × Int) (h : Then w a st b w1) : Calls Try.prog 17 #[.pointer (some ⟨a, 0, none⟩)] w1 fun e w' => e = .returned (.tuple #[.string (wbytes st), .int .i64 st.2]) ∧ Then w a st b w' := by
  obtain ⟨⟨d, hd⟩, hf⟩ := h
  exact (wbytes_any w1 a _ d hd).mono fun e w' ⟨he, hk⟩ => ⟨he, ⟨d, hd.keep hk (fun h => h) (fun _ _ h => h)⟩, hf.same hk⟩
theorem bits1 (w w1 : World) (a b : Nat) (st : List Nat × Int) (h : Then w a st b w1) : Calls Try.prog 19 #[.pointer (some ⟨a, 0, none⟩)] w1 fun e w' => e = .returned (.int .i64 st.1.length) ∧ Fresh w b w' := by
  obtain ⟨⟨d, hd⟩, hf⟩ := h
  exact (wbits_any w1 a _ d hd).mono fun e w' ⟨he, hk⟩ => ⟨he, hk ▸ hf⟩
theorem uns2 (w w1 : World) (b : Nat) (h : Fresh w b w1) (wd x : Int) : Calls Try.prog 35 #[.pointer (some ⟨b, 0, none⟩), .int .i64 wd, .int .i64 x] w1 fun e w' => e = .returned (.tuple #[]) ∧ NewWr w b (wuns wd x ([], 0)) w' := by
  refine NewWr.call (st := ([], 0)) ⟨none, h.1, h.2.1, h.2.2, fun _ h => by cases h⟩ (fun d hd => wunsigned_any w1 b _ d hd wd x)
theorem bytes2 (w w1 : World) (b : Nat) (st : List Nat × Int) (h : NewWr w b st w1) : Calls Try.prog 17 #[.pointer (some ⟨b, 0, none⟩)] w1 fun e w' => e = .returned (.tuple #[.string (wbytes st), .int .i64 st.2]) ∧ NewWr w b st w' := by
  obtain ⟨d, hd, _⟩ := id h
  exact (wbytes_any w1 b _ d hd).mono fun e w' ⟨he, hk⟩ => ⟨he, h.same hk⟩
theorem bits2 (w w1 : World) (b : Nat) (st : List Nat × Int) (h : NewWr w b st w1) : Calls Try.prog 19 #[.pointer (some ⟨b, 0, none⟩)] w1 fun e w' => e = .returned (.int .i64 st.1.length) ∧ NewWr w b st w' := by
  obtain ⟨d, hd, _⟩ := id h
  exact (wbits_any w1 b _ d hd).mono fun e w' ⟨he, hk⟩ => ⟨he, hk ▸ h⟩

namespace bitioWidths
open Go.ChangeShapes Go.WideShapes Go.ChangeAt
theorem own : ownKnob Try.prog.godebug = none := by kernel_rfl

theorem walk (m : Int) (hlo : -9223372036854775808 ≤ m) (hhi : m ≤ 9223372036854775807) (w : World) :
    Calls Try.prog 8 #[.int .i64 m] w fun e w' => e = .returned (.bool true) ∧ WrSame w w' := by
  by_cases hm : m < 0
  · have hw : ∀ w, Calls Try.prog 34 #[.int .i64 m] w fun e w' => e = .returned (.int .i64 0) ∧ w = w' := by
      intro w; have := width_any w m hhi; rw [show wid m = 0 by unfold wid; rw [if_pos hm]] at this; exact this
    have HW := Lib.hid hw; clear hw
    go_enter Try.func8, Try.ntmps8
    go_wp2_with (first | (go_at_call 11; refine (awake_any _).mono ?_; rintro e w1 ⟨rfl, h1⟩; have H1 := Lib.hid h1; clear h1) | (go_at_call 34; refine (HW.out _).mono ?_; rintro e w2 ⟨rfl, rfl⟩))
    go_ret
    exact ⟨rfl, H1.out⟩
  · have hm0 : 0 ≤ m := by omega
    obtain ⟨s1, s2, s3, s4, s5⟩ := wid_spec m hm0 hhi
    have hw := fun w => width_any w m hhi
    have hu1 : wuns (wid m) m ([], 0) = (enc (wid m) m, 0) := by
      unfold wuns
      rw [if_neg (by simp), if_neg (by omega), if_neg (by rw [Int.toNat_natCast]; omega), if_neg (by simp; omega), Int.toNat_natCast, List.nil_append]
    have hu2 : wid m ≠ 1 → wuns ((wid m : Int) - 1) m ([], 0) = ([], 2) := by
      intro h1
      have h2 := s5 h1
      unfold wuns
      rw [if_neg (by simp), if_neg (by omega), if_pos (by rw [show ((wid m : Int) - 1).toNat = wid m - 1 by omega]; exact Or.inr h2)]
    generalize wid m = n at *
    have hc1 := fun w w1 a b h => uns1 w w1 a b h n m
    rw [hu1] at hc1
    have hc2 := fun w w1 a b h => bytes1 w w1 a b (enc n m, 0) h
    have hc3 := fun w w1 a b h => bits1 w w1 a b (enc n m, 0) h
    simp only [enc_length] at hc3
    have HW := Lib.hid hw; clear hw
    have HC1 := Lib.hid hc1; clear hc1
    have HC2 := Lib.hid hc2; clear hc2
    have HC3 := Lib.hid hc3; clear hc3
    clear hu1 s3
    by_cases h1 : n = 1
    · have h2 : m ≤ 1 := s4 h1
      have h1' : ((n : Int) == 1) = true := by rw [beq_iff_eq]; omega
      clear s4 s5 hu2 h1
      go_enter Try.func8, Try.ntmps8
      go_wp2_with (first
        | (go_at_call 11; refine (awake_any _).mono ?_; rintro e w1 ⟨rfl, h1⟩; have H1 := Lib.hid h1; clear h1)
        | (go_at_call 34; refine (HW.out _).mono ?_; rintro e w2 ⟨rfl, rfl⟩)
        | (go_at_call 13; refine (new2 _ _ _ H3.out).mono ?_; rintro e w4 ⟨rfl, h4⟩; have H4 := Lib.hid h4; clear h4)
        | (go_at_call 13; refine (new1 _ _ H1.out).mono ?_; rintro e w3 ⟨rfl, h3⟩; have H3 := Lib.hid h3; clear h3)
        | (go_at_call 35; refine (HC1.out _ _ _ _ H4.out).mono ?_; rintro e w5 ⟨rfl, h5⟩; have H5 := Lib.hid h5; clear h5)
        | (go_at_call 17; refine (HC2.out _ _ _ _ H5.out).mono ?_; rintro e w6 ⟨rfl, h6⟩; have H6 := Lib.hid h6; clear h6)
        | (go_at_call 19; refine (HC3.out _ _ _ _ H6.out).mono ?_; rintro e w7 ⟨rfl, h7⟩; have H7 := Lib.hid h7; clear h7))
      go_ret
      exact ⟨rfl, H7.out.2.1⟩
    · have h1' : ((n : Int) == 1) = false := by rw [beq_eq_false_iff_ne]; omega
      have hc4 := fun w w1 b h => uns2 w w1 b h ((n : Int) - 1) m
      rw [hu2 h1] at hc4
      have hc5 := fun w w1 b h => bytes2 w w1 b ([], 2) h
      have hc6 := fun w w1 b h => bits2 w w1 b ([], 2) h
      have HC4 := Lib.hid hc4; clear hc4
      have HC5 := Lib.hid hc5; clear hc5
      have HC6 := Lib.hid hc6; clear hc6
      clear s4 s5 hu2 h1
      go_enter Try.func8, Try.ntmps8
      go_wp2_with (first
        | (go_at_call 11; refine (awake_any _).mono ?_; rintro e w1 ⟨rfl, h1⟩; have H1 := Lib.hid h1; clear h1)
        | (go_at_call 34; refine (HW.out _).mono ?_; rintro e w2 ⟨rfl, rfl⟩)
        | (go_at_call 13; refine (new2 _ _ _ H3.out).mono ?_; rintro e w4 ⟨rfl, h4⟩; have H4 := Lib.hid h4; clear h4)
        | (go_at_call 13; refine (new1 _ _ H1.out).mono ?_; rintro e w3 ⟨rfl, h3⟩; have H3 := Lib.hid h3; clear h3)
        | (go_at_call 35; refine (HC4.out _ _ _ H7.out).mono ?_; rintro e w8 ⟨rfl, h8⟩; have H8 := Lib.hid h8; clear h8)
        | (go_at_call 35; refine (HC1.out _ _ _ _ H4.out).mono ?_; rintro e w5 ⟨rfl, h5⟩; have H5 := Lib.hid h5; clear h5)
        | (go_at_call 17; refine (HC5.out _ _ _ H8.out).mono ?_; rintro e w9 ⟨rfl, h9⟩; have H9 := Lib.hid h9; clear h9)
        | (go_at_call 17; refine (HC2.out _ _ _ _ H5.out).mono ?_; rintro e w6 ⟨rfl, h6⟩; have H6 := Lib.hid h6; clear h6)
        | (go_at_call 19; refine (HC6.out _ _ _ H9.out).mono ?_; rintro e w10 ⟨rfl, h10⟩; have H10 := Lib.hid h10; clear h10)
        | (go_at_call 19; refine (HC3.out _ _ _ _ H6.out).mono ?_; rintro e w7 ⟨rfl, h7⟩; have H7 := Lib.hid h7; clear h7))
      go_ret
      obtain ⟨_, _, h, _⟩ := H10.out
      exact ⟨rfl, h⟩

set_option maxRecDepth 100000 in
theorem lifted (os : Os) (started : os.Started) (H : Type) (enc : TypeId × Value → H) :
    ReturnsInHanded {} Try.checked os 8 .any (Rows.bitioWidthsSpec.pre6 enc Try.prog Try.f8 Rows.bitioWidthsRow.domain false) (Rows.bitioWidthsSpec.post enc Try.prog Try.f8 false true false false) := by
  refine returnsInHanded_of_change (C := Try.checked) own started (by kernel_rfl) Try.func8
    (ChangeSpec.witness6 (enc := enc) (C := Try.checked) false ⟨#[], #[.int .i64 0], []⟩ 8 (by kernel_rfl) (by kernel_rfl) (by kernel_rfl) (by kernel_rfl)) ?_
  intro W base args ds gs before hval0 hW hcnd _
  have hval : ∀ (j : Nat) t v, Try.f8.params[j]? = some t → args[j]? = some v → Value.okWide Try.prog W .any base t v := hval0
  have hW' := hW
  obtain ⟨p, q, hA0, hV, rfl, hfz, hnd⟩ := hW
  have hA : DataW.TrodAll enc Try.prog W 0 (fun _ => true) true Try.f8.params.toList args.toList ds p := hA0
  rw [Try.params8] at hA hval
  obtain ⟨v0, vs0, d0, ds0, p0, q0, hargs, rfl, rfl, h0, r0⟩ := trodAll_cons hA
  obtain ⟨rfl, rfl, rfl⟩ := trodAll_nil r0
  obtain rfl : args = #[v0] := by cases args; simp_all
  obtain ⟨rfl, rfl⟩ := trodVars_none hV
  obtain ⟨a0, rfl, rfl, rfl, w0⟩ := open_int Try.underlying3 (hval 0 3 v0 rfl rfl) h0
  clear hA0 hval0
  simp only [List.append_nil] at hW'
  have hx : -9223372036854775808 ≤ a0 ∧ a0 ≤ 9223372036854775807 := by simpa [Lit.wf, IntKind.min, IntKind.max, IntKind.signed, IntKind.bits] using w0
  refine (walk a0 hx.1 hx.2 W).mono fun e W' ⟨he, hg⟩ => ?_
  subst he
  exact ⟨_, rfl, _, _, _, [], [], [], hW', trodAll_cons_mk (shut_bool Try.underlying4 _) trodAll_mk0, trodAll_cons_mk (shut_int Try.underlying3 w0) trodAll_mk0, rfl, (Keeps.toBelow hg).frame _, fun h => by cases h⟩

theorem over : Rows.bitioWidthsRow.holds Try.pinned (OpenSpec.ofChange Rows.bitioWidthsSpec) :=
  OpenClaim.holds_of_wide 8 Try.f8 rfl rfl rfl rfl rfl rfl rfl ⟨rfl, rfl, rfl, rfl, rfl⟩ rfl rfl rfl rfl rfl (by kernel_rfl) Try.func8 (by kernel_rfl)
    (of_decide_eq_true (by kernel_rfl)) (by unfold Func.isWrapper; first | (rw [if_pos (by decide +kernel)]; kernel_rfl) | (rw [if_neg (by decide +kernel)]; exact ⟨rfl, rfl⟩))
    (fun os started H enc _ => lifted os started H enc)

theorem proved : Rows.BitioWidthsSaid :=
  over
end bitioWidths
end Go.Proofs.Ytficlefifjhecaa
