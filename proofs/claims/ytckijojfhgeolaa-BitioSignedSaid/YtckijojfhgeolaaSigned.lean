/- BitioSigned: for every width and int the law returns true: a signed field is the unsigned one that is equal to it modulo 2^w, and it is read back. No condition on the input. -/
import Derived.Test.YtckijojfhgeolaaWidths
import Derived.Test.YtckijojfhgeolaaPlainB
import Derived.Deep.DeepCutAuto
namespace Go.Proofs.Ytckijojfhgeolaa
open Go.RowKit

theorem sig1 (w w1 : World) (a b : Nat) (h : Two w a b w1) (wd x : Int) : Calls Try.prog 36 #[.pointer (some ⟨a, 0, none⟩), .int .i64 wd, .int .i64 x] w1 fun e w' => e = .returned (.tuple #[]) ∧ Then w a (wsig wd x ([], 0)) b w' :=
  (wsigned_any w1 a _ none h.1 wd x).mono fun _ _ ⟨he, d, h1, h2, _⟩ => ⟨he, ⟨d, h1⟩, by
    obtain ⟨_, ha, hab, hf⟩ := h
    refine ⟨hf.1.keep h2 ?_ (fun _ h => by cases h), hf.2.1.trans h2 (fun _ h => h) ?_, hf.2.2⟩
    · rintro (rfl | h)
      · exact hab rfl
      · cases h
    · rintro i hi (rfl | h)
      · omega
      · cases h⟩
theorem bytesF (w w1 : World) (a b : Nat) (st : List Nat × Int) (h : Then w a st b w1) : Calls Try.prog 17 #[.pointer (some ⟨a, 0, none⟩)] w1 fun e w' => e = .returned (.tuple #[.string (wbytes st), .int .i64 st.2]) ∧ Fresh w b w' :=
  (bytes1 w w1 a b st h).mono fun _ _ ⟨he, hk⟩ => ⟨he, hk.2⟩
theorem bytesS (w w1 : World) (b : Nat) (st : List Nat × Int) (h : NewWr w b st w1) : Calls Try.prog 17 #[.pointer (some ⟨b, 0, none⟩)] w1 fun e w' => e = .returned (.tuple #[.string (wbytes st), .int .i64 st.2]) ∧ WrSame w w' := by
  obtain ⟨d, hd, hk1, _⟩ := id h
  exact (wbytes_any w1 b _ d hd).mono fun e w' ⟨he, hk⟩ => ⟨he, hk1.trans hk (fun _ h => h) (fun _ _ h => h)⟩
theorem readerN (w w1 : World) (s : ByteArray) (hs : s.size ≤ 65536) (h : WrSame w w1) : Calls Try.prog 21 #[.string s] w1 fun e w' => e = .returned (.pointer (some ⟨w1.heap.size, 0, none⟩)) ∧ NewRe w w1.heap.size s (0, 0) w' := by
  have := newReader_any w1 s (by omega)
  rw [if_pos hs] at this
  exact this.mono fun e w' ⟨he, hr, hk⟩ => ⟨he, hr, h.trans hk (fun _ h => h) (fun _ _ h => h), h.size⟩

namespace bitioSigned
open Go.ChangeShapes Go.WideShapes Go.ChangeAt
theorem own : ownKnob Try.prog.godebug = none := by kernel_rfl

theorem pow_facts (k : Nat) (h2 : 2 ≤ k) (h62 : k ≤ 62) : wrap64 (2 ^ (k - 1)) = 2 ^ (k - 1) ∧ wrap64 (-wrap64 (2 ^ (k - 1))) = -2 ^ (k - 1) ∧ wrap64 (2 ^ k) = 2 ^ k ∧ (2 : Int) ^ k = 2 * 2 ^ (k - 1) ∧ (2 : Int) ^ k ≤ 4611686018427387904 ∧ (0 : Int) < 2 ^ (k - 1) := by
  have hp : (0 : Int) < 2 ^ (k - 1) := Int.pow_pos (by omega)
  have h2 : (2 : Int) ^ k = 2 * 2 ^ (k - 1) := by
    conv => lhs; rw [show k = (k - 1) + 1 by omega, Int.pow_succ, Int.mul_comm]
  have h3 : (2 : Int) ^ k ≤ 4611686018427387904 := by
    have := Nat.pow_le_pow_right (show 0 < 2 by omega) (show k ≤ 62 by omega)
    have e : ((2 : Int) ^ k) = ((2 ^ k : Nat) : Int) := by simp
    rw [e]; omega
  rw [h2] at h3 ⊢
  generalize (2 : Int) ^ (k - 1) = P at *
  have e1 : wrap64 P = P := IntWalk.wrap64_in _ (by omega)
  refine ⟨e1, ?_, IntWalk.wrap64_in _ (by omega), rfl, h3, hp⟩
  rw [e1]; exact IntWalk.wrap64_in _ (by omega)

theorem sig_out (k : Nat) (h2 : 2 ≤ k) (h62 : k ≤ 62) (n : Int) (hr : n < -2 ^ (k - 1) ∨ 2 ^ (k - 1) ≤ n) (w w1 : World) (a b : Nat) (h : Two w a b w1) :
    Calls Try.prog 36 #[.pointer (some ⟨a, 0, none⟩), .int .i64 k, .int .i64 n] w1 fun e w' => e = .returned (.tuple #[]) ∧ Then w a ([], 2) b w' := by
  have := sig1 w w1 a b h k n
  have e : wsig k n ([], 0) = ([], 2) := by
    unfold wsig
    rw [if_neg (by simp), if_neg (by omega), if_pos (by rw [Int.toNat_natCast]; exact hr)]
  rw [e] at this; exact this
theorem bytes_out (w w1 : World) (a b : Nat) (h : Then w a ([], 2) b w1) : Calls Try.prog 17 #[.pointer (some ⟨a, 0, none⟩)] w1 fun e w' => e = .returned (.tuple #[.string ⟨#[]⟩, .int .i64 2]) ∧ Fresh w b w' := bytesF w w1 a b ([], 2) h

theorem sig_in (k : Nat) (h2 : 2 ≤ k) (h62 : k ≤ 62) (n : Int) (hr1 : -2 ^ (k - 1) ≤ n) (hr2 : n < 2 ^ (k - 1)) (w w1 : World) (a b : Nat) (h : Two w a b w1) :
    Calls Try.prog 36 #[.pointer (some ⟨a, 0, none⟩), .int .i64 k, .int .i64 n] w1 fun e w' => e = .returned (.tuple #[]) ∧ Then w a (enc k n, 0) b w' := by
  have := sig1 w w1 a b h k n
  have e : wsig k n ([], 0) = (enc k n, 0) := by
    unfold wsig
    rw [if_neg (by simp), if_neg (by omega), if_neg (by rw [Int.toNat_natCast]; omega), if_neg (by simp; omega), Int.toNat_natCast, List.nil_append]
  rw [e] at this; exact this
theorem uns_in (k : Nat) (h2 : 2 ≤ k) (h62 : k ≤ 62) (n u : Int) (hr1 : 0 ≤ u) (hr2 : u < 2 ^ k) (hm : u % 2 ^ k = n % 2 ^ k) (w w1 : World) (b : Nat) (h : Fresh w b w1) :
    Calls Try.prog 35 #[.pointer (some ⟨b, 0, none⟩), .int .i64 k, .int .i64 u] w1 fun e w' => e = .returned (.tuple #[]) ∧ NewWr w b (enc k n, 0) w' := by
  have := uns2 w w1 b h k u
  have e : wuns k u ([], 0) = (enc k n, 0) := by
    unfold wuns
    rw [if_neg (by simp), if_neg (by omega), if_neg (by rw [Int.toNat_natCast]; omega), if_neg (by simp; omega), Int.toNat_natCast, List.nil_append, enc_mod k u n hm]
  rw [e] at this; exact this
theorem rsig_in (k : Nat) (h2 : 2 ≤ k) (h62 : k ≤ 62) (n : Int) (hr1 : -2 ^ (k - 1) ≤ n) (hr2 : n < 2 ^ (k - 1)) (w w1 : World) (b : Nat) (h : NewRe w b (strB (pack (enc k n))) (0, 0) w1) :
    Calls Try.prog 37 #[.pointer (some ⟨b, 0, none⟩), .int .i64 k] w1 fun e w' => e = .returned (.int .i64 n) ∧ NewRe w b (strB (pack (enc k n))) (k, 0) w' := by
  have hs := rsigned_any w1 b _ _ h.1 k
  have e : rsig (strB (pack (enc k n))) k (0, 0) = ((k, 0), n) := by
    have hsz : (strB (pack (enc k n))).size = nby k := by rw [strB_size, pack_length, enc_length]
    have er : rnum (strB (pack (enc k n))) 2 k (0, 0) = ((k, 0), val (enc k n)) := by
      unfold rnum
      rw [if_neg (by simp), if_neg (by omega), if_neg (by rw [hsz]; unfold nby; simp; omega), Int.toNat_natCast, Nat.zero_add, sbits_strB (enc_bits k n) 0 k (by rw [enc_length]; omega), List.drop_zero, List.take_of_length_le (by rw [enc_length]; exact Nat.le_refl _)]
    unfold rsig
    simp only [er]
    rw [if_neg (by simp), Int.toNat_natCast, sgn_enc k n (by omega) hr1 hr2]
  rw [e] at hs
  exact h.call hs

def Cut3 (w : World) (s5 : Value) (wx : World) : Prop := ∃ k : Nat, 2 ≤ k ∧ k ≤ 62 ∧ s5 = .int .i64 k ∧ WrSame w wx

set_option maxRecDepth 100000 in
theorem walk (c : Nat) (hc : c < 256) (n : Int) (hlo : -9223372036854775808 ≤ n) (hhi : n ≤ 9223372036854775807) (w : World) :
    Calls Try.prog 9 #[.int .u8 c, .int .i64 n] w fun e w' => e = .returned (.bool true) ∧ WrSame w w' := by
  go_enter Try.func9, Try.ntmps9
  go_upto_region 3 with (go_at_call 11; refine (awake_any _).mono ?_; rintro e w1 ⟨rfl, h1⟩; have H1 := Lib.hid h1; clear h1)
  go_cut [5] (fun s5 wx => Cut3 w s5 wx)
  case first =>
    go_wp2
    go_meet
    exact ⟨2 + c % 61, by omega, by omega, by go_num, H1.out⟩
  case rest =>
    obtain ⟨k, hk2, hk62, rfl, hs⟩ := hcut
    have H1 := Lib.hid hs; clear hs
    obtain ⟨p1, p2, p3, p4, p5, p6⟩ := pow_facts k hk2 hk62
    obtain ⟨P, hP⟩ : ∃ P : Int, P = 2 ^ (k - 1) := ⟨_, rfl⟩
    obtain ⟨Q, hQ⟩ : ∃ Q : Int, Q = 2 ^ k := ⟨_, rfl⟩
    replace p1 := p1.trans hP.symm
    replace p3 := p3.trans hQ.symm
    rw [← hP] at p4 p6
    rw [← hQ] at p4 p5
    have hP2 : P ≤ 2305843009213693952 := by omega
    clear p2
    have HP := Lib.hid hP; clear hP
    have HQ := Lib.hid hQ; clear hQ
    have P4 := Lib.hid p4; clear p4
    by_cases hr : P ≤ n
    · have HS := Lib.hid (sig_out k hk2 hk62 n (Or.inr (by rw [← HP.out]; exact hr)))
      have hr2 : -P ≤ n := by omega
      go_wp2_with (first
      | (go_at_call 13; refine (new2 _ _ _ H3.out).mono ?_; rintro e w4 ⟨rfl, h4⟩; have H4 := Lib.hid h4; clear h4)
      | (go_at_call 13; refine (new1 _ _ H1.out).mono ?_; rintro e w3 ⟨rfl, h3⟩; have H3 := Lib.hid h3; clear h3)
      | (go_at_call 36; refine (HS.out _ _ _ _ H4.out).mono ?_; rintro e w5 ⟨rfl, h5⟩; have H5 := Lib.hid h5; clear h5)
      | (go_at_call 17; refine (bytes_out _ _ _ _ H5.out).mono ?_; rintro e w6 ⟨rfl, h6⟩; have H6 := Lib.hid h6; clear h6))
      go_ret
      exact ⟨rfl, H6.out.2.1⟩
    by_cases hr1 : n < -P
    · have HS := Lib.hid (sig_out k hk2 hk62 n (Or.inl (by rw [← HP.out]; exact hr1)))
      go_wp2_with (first
        | (go_at_call 13; refine (new2 _ _ _ H3.out).mono ?_; rintro e w4 ⟨rfl, h4⟩; have H4 := Lib.hid h4; clear h4)
        | (go_at_call 13; refine (new1 _ _ H1.out).mono ?_; rintro e w3 ⟨rfl, h3⟩; have H3 := Lib.hid h3; clear h3)
        | (go_at_call 36; refine (HS.out _ _ _ _ H4.out).mono ?_; rintro e w5 ⟨rfl, h5⟩; have H5 := Lib.hid h5; clear h5)
        | (go_at_call 17; refine (bytes_out _ _ _ _ H5.out).mono ?_; rintro e w6 ⟨rfl, h6⟩; have H6 := Lib.hid h6; clear h6))
      go_ret
      exact ⟨rfl, H6.out.2.1⟩
    have hr2 : n < P := by omega
    have hr3 : -P ≤ n := by omega
    have HS := Lib.hid (sig_in k hk2 hk62 n (by rw [← HP.out]; exact hr3) (by rw [← HP.out]; exact hr2))
    have hR := rsig_in k hk2 hk62 n (by rw [← HP.out]; exact hr3) (by rw [← HP.out]; exact hr2)
    have hB := fun w w1 a b h => bytesF w w1 a b (enc k n, 0) h
    have hB2 := fun w w1 b h => bytesS w w1 b (enc k n, 0) h
    have hN := fun w w1 h => readerN w w1 (strB (pack (enc k n))) (by rw [strB_size, pack_length, enc_length]; unfold nby; omega) h
    rw [show wbytes (enc k n, 0) = strB (pack (enc k n)) from rfl] at hB hB2
    generalize hSS : strB (pack (enc k n)) = S at *
    have HSS := Lib.hid hSS; clear hSS
    have HB := Lib.hid hB; clear hB
    have HB2 := Lib.hid hB2; clear hB2
    have HN := Lib.hid hN; clear hN
    have HR := Lib.hid hR; clear hR
    clear hr hr1
    by_cases hneg : n < 0
    · have hu1 : 0 ≤ n + Q := by have := P4.out; omega
      have hu2 : n + Q < Q := by omega
      have HU := Lib.hid (uns_in k hk2 hk62 n (n + Q) hu1 (by rw [← HQ.out]; exact hu2) (by rw [HQ.out]; exact Int.add_emod_right _ _))
      go_wp2_with (first
        | (go_at_call 13; refine (new2 _ _ _ H3.out).mono ?_; rintro e w4 ⟨rfl, h4⟩; have H4 := Lib.hid h4; clear h4)
        | (go_at_call 13; refine (new1 _ _ H1.out).mono ?_; rintro e w3 ⟨rfl, h3⟩; have H3 := Lib.hid h3; clear h3)
        | (go_at_call 36; refine (HS.out _ _ _ _ H4.out).mono ?_; rintro e w5 ⟨rfl, h5⟩; have H5 := Lib.hid h5; clear h5)
        | (go_at_call 17; refine (HB2.out _ _ _ H7.out).mono ?_; rintro e w8 ⟨rfl, h8⟩; have H8 := Lib.hid h8; clear h8)
        | (go_at_call 17; refine (HB.out _ _ _ _ H5.out).mono ?_; rintro e w6 ⟨rfl, h6⟩; have H6 := Lib.hid h6; clear h6)
        | (go_at_call 35; refine (HU.out _ _ _ H6.out).mono ?_; rintro e w7 ⟨rfl, h7⟩; have H7 := Lib.hid h7; clear h7)
        | (go_at_call 21; refine (HN.out _ _ H8.out).mono ?_; rintro e w9 ⟨rfl, h9⟩; have H9 := Lib.hid h9; clear h9)
        | (go_at_call 37; refine (HR.out _ _ _ H9.out).mono ?_; rintro e w10 ⟨rfl, h10⟩; have H10 := Lib.hid h10; clear h10))
      go_ret
      exact ⟨rfl, H10.out.2.1⟩
    · have hn0 : 0 ≤ n := by omega
      have HU := Lib.hid (uns_in k hk2 hk62 n n hn0 (by rw [← HQ.out]; have := P4.out; omega) rfl)
      clear hneg
      go_wp2_with (first
        | (go_at_call 13; refine (new2 _ _ _ H3.out).mono ?_; rintro e w4 ⟨rfl, h4⟩; have H4 := Lib.hid h4; clear h4)
        | (go_at_call 13; refine (new1 _ _ H1.out).mono ?_; rintro e w3 ⟨rfl, h3⟩; have H3 := Lib.hid h3; clear h3)
        | (go_at_call 36; refine (HS.out _ _ _ _ H4.out).mono ?_; rintro e w5 ⟨rfl, h5⟩; have H5 := Lib.hid h5; clear h5)
        | (go_at_call 17; refine (HB2.out _ _ _ H7.out).mono ?_; rintro e w8 ⟨rfl, h8⟩; have H8 := Lib.hid h8; clear h8)
        | (go_at_call 17; refine (HB.out _ _ _ _ H5.out).mono ?_; rintro e w6 ⟨rfl, h6⟩; have H6 := Lib.hid h6; clear h6)
        | (go_at_call 35; refine (HU.out _ _ _ H6.out).mono ?_; rintro e w7 ⟨rfl, h7⟩; have H7 := Lib.hid h7; clear h7)
        | (go_at_call 21; refine (HN.out _ _ H8.out).mono ?_; rintro e w9 ⟨rfl, h9⟩; have H9 := Lib.hid h9; clear h9)
        | (go_at_call 37; refine (HR.out _ _ _ H9.out).mono ?_; rintro e w10 ⟨rfl, h10⟩; have H10 := Lib.hid h10; clear h10))
      go_ret
      exact ⟨rfl, H10.out.2.1⟩

set_option maxRecDepth 100000 in
theorem lifted (os : Os) (started : os.Started) (H : Type) (enc : TypeId × Value → H) :
    ReturnsInHanded {} Try.checked os 9 .any (Rows.bitioSignedSpec.pre6 enc Try.prog Try.f9 Rows.bitioSignedRow.domain false) (Rows.bitioSignedSpec.post enc Try.prog Try.f9 false true false false) := by
  refine returnsInHanded_of_change (C := Try.checked) own started (by kernel_rfl) Try.func9
    (ChangeSpec.witness6 (enc := enc) (C := Try.checked) false ⟨#[], #[.int .u8 0, .int .i64 0], []⟩ 8 (by kernel_rfl) (by kernel_rfl) (by kernel_rfl) (by kernel_rfl)) ?_
  intro W base args ds gs before hval0 hW hcnd _
  have hval : ∀ (j : Nat) t v, Try.f9.params[j]? = some t → args[j]? = some v → Value.okWide Try.prog W .any base t v := hval0
  have hW' := hW
  obtain ⟨p, q, hA0, hV, rfl, hfz, hnd⟩ := hW
  have hA : DataW.TrodAll enc Try.prog W 0 (fun _ => true) true Try.f9.params.toList args.toList ds p := hA0
  rw [Try.params9] at hA hval
  obtain ⟨v0, vs0, d0, ds0, p0, q0, hargs, rfl, rfl, h0, r0⟩ := trodAll_cons hA
  obtain ⟨v1, vs1, d1, ds1, p1, q1, rfl, rfl, rfl, h1, r1⟩ := trodAll_cons r0
  obtain ⟨rfl, rfl, rfl⟩ := trodAll_nil r1
  obtain rfl : args = #[v0, v1] := by cases args; simp_all
  obtain ⟨rfl, rfl⟩ := trodVars_none hV
  obtain ⟨a0, rfl, rfl, rfl, w0⟩ := open_int Try.underlying5 (hval 0 5 v0 rfl rfl) h0
  obtain ⟨a1, rfl, rfl, rfl, w1⟩ := open_int Try.underlying3 (hval 1 3 v1 rfl rfl) h1
  clear hA0 hval0
  simp only [List.append_nil] at hW'
  have hx0 : 0 ≤ a0 ∧ a0 ≤ 255 := by simpa [Lit.wf, IntKind.min, IntKind.max, IntKind.signed, IntKind.bits] using w0
  have hx1 : -9223372036854775808 ≤ a1 ∧ a1 ≤ 9223372036854775807 := by simpa [Lit.wf, IntKind.min, IntKind.max, IntKind.signed, IntKind.bits] using w1
  obtain ⟨c, rfl⟩ := Int.eq_ofNat_of_zero_le hx0.1
  refine (walk c (by omega) a1 hx1.1 hx1.2 W).mono fun e W' ⟨he, hg⟩ => ?_
  subst he
  exact ⟨_, rfl, _, _, _, [], [], [], hW', trodAll_cons_mk (shut_bool Try.underlying4 _) trodAll_mk0, trodAll_cons_mk (shut_int Try.underlying5 w0) (trodAll_cons_mk (shut_int Try.underlying3 w1) trodAll_mk0), rfl, (Keeps.toBelow hg).frame _, fun h => by cases h⟩

theorem over : Rows.bitioSignedRow.holds Try.pinned (OpenSpec.ofChange Rows.bitioSignedSpec) :=
  OpenClaim.holds_of_wide 9 Try.f9 rfl rfl rfl rfl rfl rfl rfl ⟨rfl, rfl, rfl, rfl, rfl⟩ rfl rfl rfl rfl rfl (by kernel_rfl) Try.func9 (by kernel_rfl)
    (of_decide_eq_true (by kernel_rfl)) (by unfold Func.isWrapper; first | (rw [if_pos (by decide +kernel)]; kernel_rfl) | (rw [if_neg (by decide +kernel)]; exact ⟨rfl, rfl⟩))
    (fun os started H enc _ => lifted os started H enc)

/-- ████ THE STATEMENT ████ -/
theorem proved : Rows.BitioSignedSaid :=
  over
end bitioSigned
end Go.Proofs.Ytckijojfhgeolaa
