/- BitioFull: for every byte the law returns true: a writer accepts at most 8 * MaxData bits, a reader strings of at most MaxData bytes. No condition on the input. -/
import Derived.Test.YtckijojfhgeolaaWidths
import Derived.Test.YtckijojfhgeolaaPlainB
namespace Go.Proofs.Ytckijojfhgeolaa.bitioFull
open Go.RowKit
open Go.ChangeShapes Go.WideShapes Go.ChangeAt
theorem own : ownKnob Try.prog.godebug = none := by kernel_rfl

def FullAt (w : World) (a q : Nat) (w1 : World) : Prop := ∃ bs : List Nat, bs.length = q ∧ NewWr w a (bs, 0) w1

theorem made_row {w : World} {g n : Nat} (h : w.ownsRow 0 5 1 (.slice (some ⟨g, 0, none⟩) n n) n (madeCells (Value.int .u8 0).cells (n * 1)).toList) : w.ownsRow 0 5 1 (.slice (some ⟨g, 0, none⟩) n n) n (u8s (List.replicate n 0)) := by
  have e : (madeCells (Value.int .u8 0).cells (n * 1)).toList = u8s (List.replicate n 0) := by
    show (madeCells #[Value.int .u8 0] (n * 1)).toList = _
    rw [toList_madeCells_one, Nat.mul_one]; simp [u8s]
  rw [← e]; exact h
theorem made_text {w : World} {g n : Nat} (h : w.ownsRow 0 5 1 (.slice (some ⟨g, 0, none⟩) n n) n (madeCells (Value.int .u8 0).cells (n * 1)).toList) :
    ∃ S : ByteArray, S.size = n ∧ (convert 49 9 (.slice (some ⟨g, 0, none⟩) n n)).run Try.prog w = .ok (.string S) w :=
  ⟨strB (List.replicate n 0), by rw [strB_size, List.length_replicate], conv_row (made_row h)⟩

theorem wid4000 : wid 4000 = 12 := by decide +kernel
theorem text_more (w w1 : World) (a q : Nat) (S : ByteArray) (hS : S.size = 4000) (h : FullAt w a q w1) (hq : q + 32012 ≤ 524288) :
    Calls Try.prog 38 #[.pointer (some ⟨a, 0, none⟩), .int .i64 4000, .string S] w1 fun e w' => e = .returned (.tuple #[]) ∧ FullAt w a (q + 32012) w' := by
  obtain ⟨bs, hl, hn⟩ := h
  have := hn.call (fun d hd => wtext_any w1 a _ d hd 4000 (by omega) S (by omega))
  have e : wtext 4000 S (bs, 0) = (bs ++ enc 12 S.size ++ textBits S.data.toList, 0) := by
    unfold wtext
    rw [if_neg (by simp), if_neg (by omega), wid4000, if_neg (by dsimp only; omega)]
  rw [e] at this
  exact this.mono fun e w' ⟨he, h⟩ => ⟨he, _, by rw [List.length_append, List.length_append, enc_length, textBits_length, data_len]; omega, h⟩
theorem uns60 (w w1 : World) (a q : Nat) (h : FullAt w a q w1) (hq : q + 60 ≤ 524288) :
    Calls Try.prog 35 #[.pointer (some ⟨a, 0, none⟩), .int .i64 60, .int .i64 1] w1 fun e w' => e = .returned (.tuple #[]) ∧ FullAt w a (q + 60) w' := by
  obtain ⟨bs, hl, hn⟩ := h
  have := hn.call (fun d hd => wunsigned_any w1 a _ d hd 60 1)
  have e : wuns 60 1 (bs, 0) = (bs ++ enc 60 1, 0) := by
    unfold wuns
    rw [if_neg (by simp), if_neg (by omega), if_neg (by decide), if_neg (by dsimp only; omega)]; rfl
  rw [e] at this
  exact this.mono fun e w' ⟨he, h⟩ => ⟨he, _, by rw [List.length_append, enc_length]; omega, h⟩

/-- The last number, which does not fit. -/
def Over (w : World) (a : Nat) (w1 : World) : Prop := ∃ bs : List Nat, bs.length = 524252 ∧ NewWr w a (bs, 8) w1
theorem uns_over (w w1 : World) (a q : Nat) (hq : q = 524252) (h : FullAt w a q w1) (K : Int) (h1 : 36 < K) (h2 : K ≤ 63) :
    Calls Try.prog 35 #[.pointer (some ⟨a, 0, none⟩), .int .i64 K, .int .i64 1] w1 fun e w' => e = .returned (.tuple #[]) ∧ Over w a w' := by
  obtain ⟨bs, hl, hn⟩ := h
  have := hn.call (fun d hd => wunsigned_any w1 a _ d hd K 1)
  have hp : (2 : Int) ≤ 2 ^ K.toNat := by
    obtain ⟨j, hj⟩ : ∃ j, K.toNat = j + 1 := ⟨K.toNat - 1, by omega⟩
    have : (0 : Int) < 2 ^ j := Int.pow_pos (by omega)
    rw [hj, Int.pow_succ]; omega
  have e : wuns K 1 (bs, 0) = (bs, 8) := by
    unfold wuns
    rw [if_neg (by simp), if_neg (by omega), if_neg (by omega), if_pos (by dsimp only; omega)]
  rw [e] at this
  exact this.mono fun e w' ⟨he, h⟩ => ⟨he, bs, by omega, h⟩
theorem bytes_over (w w1 : World) (a : Nat) (h : Over w a w1) : Calls Try.prog 17 #[.pointer (some ⟨a, 0, none⟩)] w1 fun e w' => e = .returned (.tuple #[.string ⟨#[]⟩, .int .i64 8]) ∧ Over w a w' := by
  obtain ⟨bs, hl, hn⟩ := h
  exact (bytes2 w w1 a (bs, 8) hn).mono fun e w' ⟨he, h⟩ => ⟨he, bs, hl, h⟩
theorem bits_over (w w1 : World) (a : Nat) (h : Over w a w1) : Calls Try.prog 19 #[.pointer (some ⟨a, 0, none⟩)] w1 fun e w' => e = .returned (.int .i64 524252) ∧ WrSame w w' := by
  obtain ⟨bs, hl, hn⟩ := h
  have := bits2 w w1 a (bs, 8) hn
  rw [show ((bs, (8 : Int)).1.length : Int) = 524252 by dsimp only; omega] at this
  exact this.mono fun e w' ⟨he, d, h1, h2, h3⟩ => ⟨he, h2⟩

/-- The last number, which fits. -/
def Fits (w : World) (a : Nat) (K : Int) (w1 : World) : Prop := ∃ bs : List Nat, (bs.length : Int) = 524252 + K ∧ NewWr w a (bs, 0) w1
theorem uns_fits (w w1 : World) (a q : Nat) (hq : q = 524252) (h : FullAt w a q w1) (K : Int) (h1 : 1 ≤ K) (h2 : K ≤ 36) :
    Calls Try.prog 35 #[.pointer (some ⟨a, 0, none⟩), .int .i64 K, .int .i64 1] w1 fun e w' => e = .returned (.tuple #[]) ∧ Fits w a K w' := by
  obtain ⟨bs, hl, hn⟩ := h
  have := hn.call (fun d hd => wunsigned_any w1 a _ d hd K 1)
  have hp : (2 : Int) ≤ 2 ^ K.toNat := by
    obtain ⟨j, hj⟩ : ∃ j, K.toNat = j + 1 := ⟨K.toNat - 1, by omega⟩
    have : (0 : Int) < 2 ^ j := Int.pow_pos (by omega)
    rw [hj, Int.pow_succ]; omega
  have e : wuns K 1 (bs, 0) = (bs ++ enc K.toNat 1, 0) := by
    unfold wuns
    rw [if_neg (by simp), if_neg (by omega), if_neg (by omega), if_neg (by dsimp only; omega)]
  rw [e] at this
  exact this.mono fun e w' ⟨he, h⟩ => ⟨he, _, by rw [List.length_append, enc_length]; omega, h⟩
/-- What the bytes are: a string S of so many bytes, and the writer is as before. -/
def Out (w : World) (a : Nat) (K : Int) (e : Ending) (w' : World) : Prop := ∃ S : ByteArray, e = .returned (.tuple #[.string S, .int .i64 0]) ∧ (S.size : Int) = (524252 + K + 7) / 8 ∧ Fits w a K w'
theorem bytes_fits (w w1 : World) (a : Nat) (K : Int) (h : Fits w a K w1) : Calls Try.prog 17 #[.pointer (some ⟨a, 0, none⟩)] w1 fun e w' => Out w a K e w' := by
  obtain ⟨bs, hl, hn⟩ := h
  exact (bytes2 w w1 a (bs, 0) hn).mono fun e w' ⟨he, h⟩ => ⟨wbytes (bs, 0), he, by
    unfold wbytes; rw [if_neg (by simp), strB_size, pack_length]; unfold nby; dsimp only; omega, bs, hl, h⟩
def WithRe (w : World) (a : Nat) (K : Int) (b : Nat) (s : ByteArray) (st : Nat × Int) (w1 : World) : Prop := Fits w a K w1 ∧ Re w1 b s st
theorem reader_fits (w w1 : World) (a : Nat) (K : Int) (s : ByteArray) (hs : s.size ≤ 65537) (h : Fits w a K w1) :
    Calls Try.prog 21 #[.string s] w1 fun e w' => e = .returned (.pointer (some ⟨w1.heap.size, 0, none⟩)) ∧ WithRe w a K w1.heap.size s (if s.size ≤ 65536 then (0, 0) else (0, 8)) w' := by
  obtain ⟨bs, hl, hn⟩ := h
  exact (newReader_any w1 s (by omega)).mono fun e w' ⟨he, hr, hk⟩ => ⟨he, ⟨bs, hl, hn.same hk⟩, hr⟩
theorem bits_fits (w w1 : World) (a : Nat) (K : Int) (b : Nat) (s : ByteArray) (st : Nat × Int) (h : WithRe w a K b s st w1) :
    Calls Try.prog 19 #[.pointer (some ⟨a, 0, none⟩)] w1 fun e w' => e = .returned (.int .i64 (524252 + K)) ∧ WithRe w a K b s st w' := by
  obtain ⟨⟨bs, hl, hn⟩, hr⟩ := h
  obtain ⟨d, hd, _⟩ := id hn
  have := wbits_any w1 a _ d hd
  rw [show ((bs, (0 : Int)).1.length : Int) = 524252 + K by dsimp only; omega] at this
  exact this.mono fun e w' ⟨he, hk⟩ => ⟨he, by subst hk; exact ⟨⟨bs, hl, hn⟩, hr⟩⟩
theorem err_fits (w w1 : World) (a : Nat) (K : Int) (b : Nat) (s : ByteArray) (h : WithRe w a K b s (0, 8) w1) :
    Calls Try.prog 30 #[.pointer (some ⟨b, 0, none⟩)] w1 fun e w' => e = .returned (.int .i64 8) ∧ WithRe w a K b s (0, 8) w' :=
  (rerr_any w1 b s (0, 8) h.2).mono fun _ _ ⟨he, hk⟩ => ⟨he, hk ▸ h⟩
theorem left_fits (w w1 : World) (a : Nat) (K : Int) (b : Nat) (s : ByteArray) (h : WithRe w a K b s (0, 8) w1) :
    Calls Try.prog 28 #[.pointer (some ⟨b, 0, none⟩)] w1 fun e w' => e = .returned (.int .i64 0) ∧ WrSame w w' :=
  (rleft_any w1 b s (0, 8) h.2).mono fun _ _ ⟨he, hk⟩ => ⟨he, by
    obtain ⟨⟨bs, hl, d, h1, h2, h3⟩, _⟩ := h
    subst hk; exact h2.drew⟩
theorem WithRe.same {w w1 : World} {a : Nat} {K : Int} {b : Nat} {s : ByteArray} {st : Nat × Int} (h : WithRe w a K b s st w1) : WrSame w w1 := by
  obtain ⟨⟨bs, hl, d, h1, h2, h3⟩, _⟩ := h; exact h2

def Loop1 (w : World) (a : Nat) (b i : Value) (wr : World) : Prop := ∃ j q : Nat, j ≤ 16 ∧ i = .int .i64 j ∧ b = .int .i64 q ∧ q = 32012 * j ∧ FullAt w a q wr
def Loop2 (w : World) (a : Nat) (b : Value) (wr : World) : Prop := ∃ j q : Nat, q ≤ 524288 ∧ b = .int .i64 q ∧ q = 512192 + 60 * j ∧ FullAt w a q wr

set_option maxRecDepth 1000000 in
theorem walk (c : Nat) (hc : c < 256) (w : World) :
    Calls Try.prog 10 #[.int .u8 c] w fun e w' => e = .returned (.bool true) ∧ WrSame w w' := by
  obtain ⟨i0, hi, hz0, hz1, hz2⟩ := info_parts Try.infoU8
  go_enter Try.func10, Try.ntmps10
  go_wp2_with (first
    | (go_at_call 11; refine (awake_any _).mono ?_; rintro e w1 ⟨rfl, h1⟩; have H1 := Lib.hid h1; clear h1)
    | (go_at_call 13; refine (new1 _ _ H1.out).mono ?_; rintro e w2 ⟨rfl, h2⟩; have H2 := Lib.hid h2; clear h2)
    | (at_make; refine wpList_make_full _ rfl _ _ 49 rfl 0 5 i0 (.int .u8 0) 1 Try.underlying49 hi hz0 hz1 _ _ _ _ 4000 rfl rfl rfl rfl ?c1 ?c2 ?c3 ?_))
  case c1 => rw [hz2]; omega
  case c2 => unfold maxLen; omega
  case c3 => omega
  · intro w3 hown hgrow
    obtain ⟨S, hS, hconv⟩ := made_text hown
    have hf : FullAt w w1.heap.size 0 w3 := by
      have h := H2.out
      have hk : Keeps (fun _ => False) w2 w3 := (Keeps.refl _ w2).grown hgrow (fun _ h => by cases h)
      have h' := h.same hk
      exact ⟨[], rfl, none, h'.1, h'.2.1, h'.2.2, fun _ h => by cases h⟩
    have HF := Lib.hid hf; clear hf hown hgrow
    generalize w1.heap.size = a at *
    go_wp2
    have HS := Lib.hid hS; clear hS hconv
    go_loopw [4, 18] (fun b i wr => Loop1 w a b i wr) (fun _ i _ => 16 - (intOf i).toNat)
    case atStart => exact ⟨0, 0, by omega, rfl, rfl, rfl, HF.out⟩
    case round =>
      obtain ⟨j, q, hj, rfl, rfl, hq, hfa⟩ := hrel
      have HQ := Lib.hid hq
      have HFA := Lib.hid hfa; clear hfa
      by_cases hlt : j < 16
      · have hq2 : q + 32012 ≤ 524288 := by omega
        clear hq
        go_wp2_with (go_at_call 38; refine (text_more _ _ _ _ _ HS.out HFA.out hq2).mono ?_; rintro e w4 ⟨rfl, h4⟩; have H4 := Lib.hid h4; clear h4)
        go_roundw
        case rel => exact ⟨j + 1, q + 32012, by omega, by go_num, by go_num, by have := HQ.out; omega, H4.out⟩
        case measure => simp [intOf]; omega
      · have hqq : q = 512192 := by omega
        clear hq
        have HQQ := Lib.hid hqq
        have hq3 : q ≤ 524288 := by omega
        clear hqq
        go_wp2
        clear hq3 hlt hj
        go_loopw [4] (fun b wr => Loop2 w a b wr) (fun b _ => 524288 - (intOf b).toNat)
        case atStart => exact ⟨0, q, by have := HQQ.out; omega, rfl, by have := HQQ.out; omega, HFA.out⟩
        case round =>
          obtain ⟨j2, q2, hq2, rfl, hqe, hfa2⟩ := hrel
          have HQ2 := Lib.hid hqe
          have HFA2 := Lib.hid hfa2; clear hfa2
          by_cases hlt2 : q2 + 60 ≤ 524288
          · have HL := Lib.hid hlt2
            have hlt3 : (q2 : Int) + 60 ≤ 524288 := by omega
            clear hlt2 hq2 hqe
            go_wp2_with (go_at_call 35; refine (uns60 _ _ _ _ HFA2.out HL.out).mono ?_; rintro e w4 ⟨rfl, h4⟩; have H4 := Lib.hid h4; clear h4)
            go_roundw
            case rel => exact ⟨j2 + 1, q2 + 60, HL.out, by go_num, by have := HQ2.out; omega, H4.out⟩
            case measure => simp only [intOf]; omega
          · have hqq2 : q2 = 524252 := by omega
            have HQQ2 := Lib.hid hqq2
            have hqz : ((q2 : Nat) : Int) = 524252 := by omega
            rw [hqz]
            clear hqe hqq2 hlt2 hq2 hqz
            by_cases hov : 36 < 1 + (c : Int) % 62
            · go_wp2_with (first
                | (go_at_call 35; refine (uns_over _ _ _ _ HQQ2.out HFA2.out _ hov (by omega)).mono ?_; rintro e w5 ⟨rfl, h5⟩; have H5 := Lib.hid h5; clear h5)
                | (go_at_call 17; refine (bytes_over _ _ _ H5.out).mono ?_; rintro e w6 ⟨rfl, h6⟩; have H6 := Lib.hid h6; clear h6)
                | (go_at_call 19; refine (bits_over _ _ _ H6.out).mono ?_; rintro e w7 ⟨rfl, h7⟩; have H7 := Lib.hid h7; clear h7))
              go_ret
              exact ⟨rfl, H7.out⟩
            · have hK : 1 + (c : Int) % 62 ≤ 36 := by omega
              have hK1 : 1 ≤ 1 + (c : Int) % 62 := by omega
              clear hov
              by_cases hk : 1 + (c : Int) % 62 ≤ 28
              · skip
                go_wp2_with (first
                  | (go_at_call 35; refine (uns_fits _ _ _ _ HQQ2.out HFA2.out _ hK1 hK).mono ?_; rintro e w5 ⟨rfl, h5⟩; have H5 := Lib.hid h5; clear h5)
                  | (go_at_call 17; refine (bytes_fits _ _ _ _ H5.out).mono ?_; rintro e w6 ⟨S2, rfl, hsz, h6⟩; have H6 := Lib.hid h6; clear h6; have hs8 : S2.size < 65536 := (by omega); have ho : ¬ 9223372036854775807 < S2.size + 1 := (by omega); have HS9 := Lib.hid (show S2.size + 1 ≤ 65537 from (by omega)); have HZ := Lib.hid hsz; clear hsz)
                  | (go_at_call 21; refine (reader_fits _ _ _ _ _ (by rw [ByteArray.size_append]; exact HS9.out) H6.out).mono ?_; rintro e w7 ⟨rfl, h7⟩; have H7 := Lib.hid h7; clear h7)
                  | (go_at_call 19; refine (bits_fits _ _ _ _ _ _ _ H7.out).mono ?_; rintro e w8 ⟨rfl, h8⟩; have H8 := Lib.hid h8; clear h8))
                go_ret
                exact ⟨rfl, WithRe.same H8.out⟩
              · skip
                go_wp2_with (first
                  | (go_at_call 35; refine (uns_fits _ _ _ _ HQQ2.out HFA2.out _ hK1 hK).mono ?_; rintro e w5 ⟨rfl, h5⟩; have H5 := Lib.hid h5; clear h5)
                  | (go_at_call 17; refine (bytes_fits _ _ _ _ H5.out).mono ?_; rintro e w6 ⟨S2, rfl, hsz, h6⟩; have H6 := Lib.hid h6; clear h6; have hs8 : 65536 ≤ S2.size := (by omega); have ho : ¬ 9223372036854775807 < S2.size + 1 := (by omega); have HS9 := Lib.hid (show S2.size + 1 ≤ 65537 from (by omega)); have HZ := Lib.hid hsz; clear hsz)
                  | (go_at_call 21; refine (reader_fits _ _ _ _ _ (by rw [ByteArray.size_append]; exact HS9.out) H6.out).mono ?_; rintro e w7 ⟨rfl, h7⟩; have H7 := Lib.hid h7; clear h7)
                  | (go_at_call 19; refine (bits_fits _ _ _ _ _ _ _ H7.out).mono ?_; rintro e w8 ⟨rfl, h8⟩; have H8 := Lib.hid h8; clear h8)
                  | (go_at_call 30; refine (err_fits _ _ _ _ _ _ (by have := H8.out; rw [if_neg (by rw [ByteArray.size_append]; have := hs8; show ¬ S2.size + 1 ≤ 65536; omega)] at this; exact this)).mono ?_; rintro e w9 ⟨rfl, h9⟩; have H9 := Lib.hid h9; clear h9)
                  | (go_at_call 28; refine (left_fits _ _ _ _ _ _ H9.out).mono ?_; rintro e w10 ⟨rfl, h10⟩; have H10 := Lib.hid h10; clear h10))
                go_ret
                exact ⟨rfl, H10.out⟩

set_option maxRecDepth 100000 in
theorem lifted (os : Os) (started : os.Started) (H : Type) (enc : TypeId × Value → H) :
    ReturnsInHanded {} Try.checked os 10 .any (Rows.bitioFullSpec.pre6 enc Try.prog Try.f10 Rows.bitioFullRow.domain false) (Rows.bitioFullSpec.post enc Try.prog Try.f10 false true false false) := by
  refine returnsInHanded_of_change (C := Try.checked) own started (by kernel_rfl) Try.func10
    (ChangeSpec.witness6 (enc := enc) (C := Try.checked) false ⟨#[], #[.int .u8 0], []⟩ 8 (by kernel_rfl) (by kernel_rfl) (by kernel_rfl) (by kernel_rfl)) ?_
  intro W base args ds gs before hval0 hW hcnd _
  have hval : ∀ (j : Nat) t v, Try.f10.params[j]? = some t → args[j]? = some v → Value.okWide Try.prog W .any base t v := hval0
  have hW' := hW
  obtain ⟨p, q, hA0, hV, rfl, hfz, hnd⟩ := hW
  have hA : DataW.TrodAll enc Try.prog W 0 (fun _ => true) true Try.f10.params.toList args.toList ds p := hA0
  rw [Try.params10] at hA hval
  obtain ⟨v0, vs0, d0, ds0, p0, q0, hargs, rfl, rfl, h0, r0⟩ := trodAll_cons hA
  obtain ⟨rfl, rfl, rfl⟩ := trodAll_nil r0
  obtain rfl : args = #[v0] := by cases args; simp_all
  obtain ⟨rfl, rfl⟩ := trodVars_none hV
  obtain ⟨a0, rfl, rfl, rfl, w0⟩ := open_int Try.underlying5 (hval 0 5 v0 rfl rfl) h0
  clear hA0 hval0
  simp only [List.append_nil] at hW'
  have hx0 : 0 ≤ a0 ∧ a0 ≤ 255 := by simpa [Lit.wf, IntKind.min, IntKind.max, IntKind.signed, IntKind.bits] using w0
  obtain ⟨c, rfl⟩ := Int.eq_ofNat_of_zero_le hx0.1
  refine (walk c (by omega) W).mono fun e W' ⟨he, hg⟩ => ?_
  subst he
  exact ⟨_, rfl, _, _, _, [], [], [], hW', trodAll_cons_mk (shut_bool Try.underlying4 _) trodAll_mk0, trodAll_cons_mk (shut_int Try.underlying5 w0) trodAll_mk0, rfl, (Keeps.toBelow hg).frame _, fun h => by cases h⟩

theorem over : Rows.bitioFullRow.holds Try.pinned (OpenSpec.ofChange Rows.bitioFullSpec) :=
  OpenClaim.holds_of_wide 10 Try.f10 rfl rfl rfl rfl rfl rfl rfl ⟨rfl, rfl, rfl, rfl, rfl⟩ rfl rfl rfl rfl rfl (by kernel_rfl) Try.func10 (by kernel_rfl)
    (of_decide_eq_true (by kernel_rfl)) (by unfold Func.isWrapper; first | (rw [if_pos (by decide +kernel)]; kernel_rfl) | (rw [if_neg (by decide +kernel)]; exact ⟨rfl, rfl⟩))
    (fun os started H enc _ => lifted os started H enc)

/-- ████ THE STATEMENT ████ -/
theorem proved : Rows.BitioFullSaid :=
  over
end Go.Proofs.Ytckijojfhgeolaa.bitioFull
