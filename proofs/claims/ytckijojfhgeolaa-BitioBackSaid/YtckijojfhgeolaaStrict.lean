/- BitioStrict: for every string and every list of fields the law returns true: a string that is read to its end is just what is written by what was read. No condition on the input. -/
import Derived.Test.YtckijojfhgeolaaPlainS
import Derived.Test.YtckijojfhgeolaaArgs
namespace Go.Proofs.Ytckijojfhgeolaa
open Go.RowKit

/-- A reader and a writer that the call has made. -/
def Pair (w : World) (a c : Nat) (s : ByteArray) (sr : Nat × Int) (sw : List Nat × Int) (w1 : World) : Prop :=
  Re w1 a s sr ∧ (∃ d, Wr w1 c sw d ∧ (∀ g, d = some g → w.heap.size ≤ g ∧ g ≠ a)) ∧ a ≠ c ∧ Keeps (fun _ => False) w w1 ∧ w.heap.size ≤ a ∧ w.heap.size ≤ c
theorem Pair.same {w w1 w2 : World} {a c : Nat} {s : ByteArray} {sr : Nat × Int} {sw : List Nat × Int} (h : Pair w a c s sr sw w1) (k : Keeps (fun _ => False) w1 w2) : Pair w a c s sr sw w2 := by
  obtain ⟨h1, ⟨d, h2, h3⟩, h4, h5, h6, h7⟩ := h
  exact ⟨h1.keep k (fun h => h), ⟨d, h2.keep k (fun h => h) (fun _ _ h => h), h3⟩, h4, h5.trans k (fun _ h => h) (fun _ _ h => h), h6, h7⟩
theorem pair_new {w w1 : World} {a : Nat} {s : ByteArray} (h : NewRe w a s (0, 0) w1) : Calls Try.prog 13 #[] w1 fun e w' => e = .returned (.pointer (some ⟨w1.heap.size, 0, none⟩)) ∧ Pair w a w1.heap.size s (0, 0) ([], 0) w' :=
  (newWriter_any w1).mono fun e w' ⟨he, hw⟩ => ⟨he, by
    have hk : Keeps (fun _ => False) w1 w' := by subst hw; exact (Keeps.refl _ w1).alloc _
    have hlt := h.1.lt
    have hsz := h.2.1.size
    exact ⟨h.1.keep hk (fun h => h), ⟨none, by subst hw; exact Wr.new w1, fun _ h => by cases h⟩, by omega, h.2.1.trans hk (fun _ h => h) (fun _ _ h => h), h.2.2, hsz⟩⟩
theorem pair_read {w w0 : World} {a c : Nat} {s : ByteArray} {sr : Nat × Int} {sw : List Nat × Int} (h : Pair w a c s sr sw w0) (f : Fld) (hf : f.ok) :
    Calls Try.prog 23 #[.pointer (some ⟨a, 0, none⟩), .agg #[.int .i64 f.kind, .int .i64 f.width, .int .i64 f.n, .string f.s]] w0 fun e w1 => e = .returned (.agg #[.int .i64 (rdF s f sr).kind, .int .i64 (rdF s f sr).width, .int .i64 (rdF s f sr).n, .string (rdF s f sr).s]) ∧ Pair w a c s (rdSt s f sr) sw w1 := by
  obtain ⟨h1, ⟨d, h2, h3⟩, h4, h5, h6, h7⟩ := h
  refine (lread_any w0 a s sr h1 f hf).mono fun e w1 ⟨he, hr⟩ => ⟨he, hr.1, ⟨d, h2.keep hr.2 (by omega) (fun g hg hh => (h3 g hg).2 hh), h3⟩, h4, h5.trans hr.2 (fun _ h => h) ?_, h6, h7⟩
  rintro i hi rfl; omega
theorem pair_write {w w0 : World} {a c : Nat} {s : ByteArray} {sr : Nat × Int} {sw : List Nat × Int} (h : Pair w a c s sr sw w0) (f : Fld) (hwd : f.width ≤ 9223372036854775807) (ht : f.s.size ≤ 9223372036854775807) :
    Calls Try.prog 15 #[.pointer (some ⟨c, 0, none⟩), .agg #[.int .i64 f.kind, .int .i64 f.width, .int .i64 f.n, .string f.s]] w0 fun e w1 => e = .returned (.tuple #[]) ∧ Pair w a c s sr (wrSt f sw) w1 := by
  obtain ⟨h1, ⟨d, h2, h3⟩, h4, h5, h6, h7⟩ := h
  have halt := h1.lt
  refine (lwrite_any w0 c sw d h2 f hwd ht).mono fun e w1 ⟨he, d2, g1, g2, g3⟩ => ⟨he, h1.keep g2 ?_, ⟨d2, g1, ?_⟩, h4, h5.trans g2 (fun _ h => h) ?_, h6, h7⟩
  · rintro (h | h)
    · exact h4 h
    · exact (h3 a h).2 rfl
  · intro g hg
    rcases g3 g hg with h | h
    · exact h3 g h
    · have := h5.size; omega
  · rintro i hi (rfl | h)
    · omega
    · have := (h3 i h).1; omega
theorem pair_close {w w0 : World} {a c : Nat} {s : ByteArray} {sr : Nat × Int} {sw : List Nat × Int} (h : Pair w a c s sr sw w0) :
    Calls Try.prog 32 #[.pointer (some ⟨a, 0, none⟩)] w0 fun e w1 => e = .returned (.int .i64 (rclose s sr)) ∧ Pair w a c s sr sw w1 :=
  (rclose_any w0 a s sr h.1).mono fun _ _ ⟨he, hk⟩ => ⟨he, h.same hk⟩
theorem pair_bytes {w w0 : World} {a c : Nat} {s : ByteArray} {sr : Nat × Int} {sw : List Nat × Int} (h : Pair w a c s sr sw w0) :
    Calls Try.prog 17 #[.pointer (some ⟨c, 0, none⟩)] w0 fun e w1 => e = .returned (.tuple #[.string (wbytes sw), .int .i64 sw.2]) ∧ Pair w a c s sr sw w1 := by
  obtain ⟨d, hd, _⟩ := h.2.1
  exact (wbytes_any w0 c sw d hd).mono fun _ _ ⟨he, hk⟩ => ⟨he, h.same hk⟩

theorem rdF_width {s : ByteArray} {f : Fld} {st : Nat × Int} (h : f.width ≤ 9223372036854775807) : (rdF s f st).width ≤ 9223372036854775807 := by
  unfold rdF
  split
  · exact h
  · split
    · exact h
    · split
      · dsimp only; omega
      · split <;> exact h
theorem rtext_size {s : ByteArray} {m : Int} {st : Nat × Int} : (rtext s m st).2.size ≤ 4095 := by
  unfold rtext
  dsimp only
  split
  · exact Nat.zero_le _
  · split
    · exact Nat.zero_le _
    · split
      · exact Nat.zero_le _
      · split
        · exact Nat.zero_le _
        · split
          · exact Nat.zero_le _
          · dsimp only; rw [strB_size, rbytes_length]; omega
theorem rdF_size {s : ByteArray} {f : Fld} {st : Nat × Int} (h : f.s.size ≤ 9223372036854775807) : (rdF s f st).s.size ≤ 9223372036854775807 := by
  unfold rdF
  split
  · exact Nat.zero_le _
  · split
    · exact Nat.zero_le _
    · split
      · exact Nat.zero_le _
      · split
        · have := @rtext_size s f.width st; dsimp only; omega
        · exact h

namespace bitioStrict
/-- Before the reader's first error the writer holds what was read. -/
def Inv (s : ByteArray) (sr : Nat × Int) (sw : List Nat × Int) : Prop := sr.2 = 0 → sw = (sbits s 0 sr.1, 0) ∧ sr.1 ≤ 8 * s.size
theorem Inv.step {s : ByteArray} {sr : Nat × Int} {sw : List Nat × Int} (hs : s.size ≤ 300) (h : Inv s sr sw) (f : Fld) : Inv s (rdSt s f sr) (wrSt (rdF s f sr) sw) := by
  intro h0
  by_cases he : sr.2 = 0
  · obtain ⟨rfl, hk⟩ := h he
    obtain ⟨k, er⟩ := sr
    simp only at he hk
    subst he
    exact strict_step hs hk h0
  · have : rdSt s f sr = sr := by
      unfold rdSt rsig rflag rtext rnum
      simp only [if_pos he]
      split
      · rfl
      · split
        · rfl
        · split
          · rfl
          · split <;> rfl
    rw [this] at h0; exact absurd h0 he
def At (w : World) (a c : Nat) (s : ByteArray) (fs : List Fld) (i : Value) (wr : World) : Prop :=
  ∃ (j : Nat) (sr : Nat × Int) (sw : List Nat × Int), j ≤ fs.length ∧ i = .int .i64 j ∧ Inv s sr sw ∧ Pair w a c s sr sw wr

theorem walk (s : ByteArray) (hs : s.size ≤ 9223372036854775807) (ao : Option Addr) (cap : Nat) (fs : List Fld) (hl : fs.length ≤ 9223372036854775807) (w : World) (harg : fs = [] ∨ ∃ b off, ao = some ⟨b, off, none⟩ ∧ b < w.heap.size ∧ FldsAt w b off fs) (hA : Arg w (.slice ao fs.length cap) fs) :
    Calls Try.prog 6 #[.string s, .slice ao fs.length cap] w fun e w' => e = .returned (.bool true) ∧ WrSame w w' := by
  have hfew := fun w1 h => few_any w w1 h _ fs hA
  by_cases h300 : s.size ≤ 300
  · have h300' : (s.size : Int) ≤ 300 := by omega
    cases hfb : fewB fs with
    | false =>
      rw [hfb] at hfew
      have HF := Lib.hid hfew
      clear hfew hfb harg hA h300
      go_enter Try.func6, Try.ntmps6
      go_wp2_with (first
        | (go_at_call 11; refine (awake_any _).mono ?_; rintro e w1 ⟨rfl, h1⟩; have H1 := Lib.hid h1; clear h1)
        | (go_at_call 12; refine (HF.out _ H1.out).mono ?_; rintro e w2 ⟨rfl, h2⟩; have H2 := Lib.hid h2; clear h2))
      go_ret
      exact ⟨rfl, H2.out⟩
    | true =>
      rw [hfb] at hfew
      have HF := Lib.hid hfew
      have HARG := Lib.hid harg
      have HS := Lib.hid h300
      have HN := Lib.hid (fun w1 h => readerN w w1 s (by omega) h)
      clear hfew hfb harg hA h300
      go_enter Try.func6, Try.ntmps6
      go_wp2_with (first
        | (go_at_call 11; refine (awake_any _).mono ?_; rintro e w1 ⟨rfl, h1⟩; have H1 := Lib.hid h1; clear h1)
        | (go_at_call 12; refine (HF.out _ H1.out).mono ?_; rintro e w2 ⟨rfl, h2⟩; have H2 := Lib.hid h2; clear h2)
        | (go_at_call 21; refine (HN.out _ H2.out).mono ?_; rintro e w3 ⟨rfl, h3⟩; have H3 := Lib.hid h3; clear h3)
        | (go_at_call 13; refine (pair_new H3.out).mono ?_; rintro e w4 ⟨rfl, h4⟩; have H4 := Lib.hid h4; clear h4))
      generalize w3.heap.size = c at *
      generalize w2.heap.size = a at *
      go_loopw [33] (fun i wr => At w a c s fs i wr) (fun i _ => fs.length - (intOf i).toNat)
      case atStart => exact ⟨0, (0, 0), ([], 0), Nat.zero_le _, rfl, fun _ => ⟨rfl, Nat.zero_le _⟩, H4.out⟩
      case round =>
        obtain ⟨j, sr, sw, hj, rfl, hinv, hp⟩ := hrel
        by_cases hlt : j < fs.length
        · obtain ⟨b, off, rfl, hb, hfl⟩ : ∃ b off, ao = some ⟨b, off, none⟩ ∧ b < w.heap.size ∧ FldsAt w b off fs := by
            rcases HARG.out with h | h
            · subst h; simp at hlt
            · exact h
          obtain ⟨f, hf⟩ : ∃ f, fs[j]? = some f := ⟨_, List.getElem?_eq_getElem hlt⟩
          obtain ⟨hfok, c0, c1, c2, c3⟩ := (hfl.keep hp.2.2.2.1.toBelow hb) j f hf
          have hr := fun w0 (h : Pair w a c s sr sw w0) => pair_read h f hfok
          have hw := fun w0 (h : Pair w a c s (rdSt s f sr) sw w0) => pair_write h (rdF s f sr) (rdF_width hfok.2.1.2) (rdF_size hfok.2.2.2)
          have HI := Lib.hid (hinv.step HS.out f)
          generalize rdF s f sr = x at *
          generalize rdSt s f sr = sr2 at *
          generalize wrSt x sw = sw2 at *
          have HR := Lib.hid hr
          have HW := Lib.hid hw
          have HP := Lib.hid hp
          have HFL := Lib.hid hfl
          clear hr hw hp hfl hinv hf
          go_wp2_with (first
            | (go_at_call 23; refine (HR.out _ (by exact HP.out.same ((Keeps.refl _ _).alloc _))).mono ?_; rintro e w5 ⟨rfl, h5⟩; have H5 := Lib.hid h5; clear h5)
            | (go_at_call 15; refine (HW.out _ (by exact H5.out.same ((Keeps.refl _ _).alloc _))).mono ?_; rintro e w6 ⟨rfl, h6⟩; have H6 := Lib.hid h6; clear h6))
          go_roundw
          case rel => exact ⟨j + 1, sr2, sw2, by omega, by go_num, HI.out, H6.out⟩
          case measure => simp [intOf]; omega
        · have hc := pair_close hp
          by_cases h0 : rclose s sr = 0
          · have hk : sr.2 = 0 := by
              unfold rclose at h0
              by_cases he : sr.2 ≠ 0
              · rw [if_pos he] at h0; exact absurd h0 he
              · simpa using he
            obtain ⟨hsw, hle⟩ := hinv hk
            have hend : wbytes sw = s := by
              rw [hsw]
              obtain ⟨k, er⟩ := sr
              simp only at hk; subst hk
              exact strict_end hle h0
            have hb := fun w0 (h : Pair w a c s sr sw w0) => pair_bytes h
            rw [hend, show sw.2 = 0 by rw [hsw]] at hb
            rw [h0] at hc
            have HC := Lib.hid hc
            have HB := Lib.hid hb
            clear hc hb hend hsw hle hinv hp h0 hk
            go_wp2_with (first
              | (go_at_call 32; refine (HC.out).mono ?_; rintro e w5 ⟨rfl, h5⟩; have H5 := Lib.hid h5; clear h5)
              | (go_at_call 17; refine (HB.out _ H5.out).mono ?_; rintro e w6 ⟨rfl, h6⟩; have H6 := Lib.hid h6; clear h6))
            go_ret
            exact ⟨rfl, H6.out.2.2.2.1⟩
          · have hne : (rclose s sr != 0) = true := by simpa using h0
            generalize rclose s sr = rc at *
            have HC := Lib.hid hc
            clear hc hinv hp h0
            go_wp2_with (go_at_call 32; refine (HC.out).mono ?_; rintro e w5 ⟨rfl, h5⟩; have H5 := Lib.hid h5; clear h5)
            go_ret
            exact ⟨rfl, H5.out.2.2.2.1⟩
  · have h300' : 300 < (s.size : Int) := by omega
    clear hfew harg hA h300
    go_enter Try.func6, Try.ntmps6
    go_wp2_with (go_at_call 11; refine (awake_any _).mono ?_; rintro e w1 ⟨rfl, h1⟩; have H1 := Lib.hid h1; clear h1)
    go_ret
    exact ⟨rfl, H1.out⟩

open Go.ChangeShapes Go.WideShapes Go.ChangeAt
open Go.ChangeMaps (shut_string open_string)
theorem own : ownKnob Try.prog.godebug = none := by kernel_rfl

set_option maxRecDepth 100000 in
theorem lifted (os : Os) (started : os.Started) (H : Type) (enc : TypeId × Value → H) :
    ReturnsInHanded {} Try.checked os 6 .any (Rows.bitioStrictSpec.pre6 enc Try.prog Try.f6 Rows.bitioStrictRow.domain false) (Rows.bitioStrictSpec.post enc Try.prog Try.f6 false true false false) := by
  refine returnsInHanded_of_change (C := Try.checked) own started (by kernel_rfl) Try.func6
    (ChangeSpec.witness6 (enc := enc) (C := Try.checked) false ⟨#[], #[.string ⟨#[]⟩, .slice none 0 0], []⟩ 8 (by kernel_rfl) (by kernel_rfl) (by kernel_rfl) (by kernel_rfl)) ?_
  intro W base args ds gs before hval0 hW hcnd _
  have hval : ∀ (j : Nat) t v, Try.f6.params[j]? = some t → args[j]? = some v → Value.okWide Try.prog W .any base t v := hval0
  have hW' := hW
  obtain ⟨p, q, hA0, hV, rfl, hfz, hnd⟩ := hW
  have hA : DataW.TrodAll enc Try.prog W 0 (fun _ => true) true Try.f6.params.toList args.toList ds p := hA0
  rw [Try.params6] at hA hval
  obtain ⟨v0, vs0, d0, ds0, p0, q0, hargs, rfl, rfl, h0, r0⟩ := trodAll_cons hA
  obtain ⟨v1, vs1, d1, ds1, p1, q1, rfl, rfl, rfl, h1, r1⟩ := trodAll_cons r0
  obtain ⟨rfl, rfl, rfl⟩ := trodAll_nil r1
  obtain rfl : args = #[v0, v1] := by cases args; simp_all
  obtain ⟨rfl, rfl⟩ := trodVars_none hV
  obtain ⟨s, rfl, rfl, rfl, hs⟩ := open_string Try.underlying9 (hval 0 9 v0 rfl rfl) h0
  obtain ⟨ao, cap, fs, hv1, hl, hArg, hList⟩ := arg_of (hval 1 22 v1 rfl rfl) h1
  clear hA0 hval0
  simp only [List.append_nil, List.nil_append] at hW'
  subst hv1
  have hlt : ∀ x ∈ p1, x.block < W.heap.size := fun x hx => by
    have := hW'.lt x hx
    simpa using this
  refine (walk s (by unfold maxLen at hs; omega) ao cap fs hl W hList hArg).mono fun e W' ⟨he, hg⟩ => ?_
  subst he
  exact ⟨_, rfl, _, _, _, [], _, [], hW', trodAll_cons_mk (shut_bool Try.underlying4 _) trodAll_mk0,
    trodAll_cons_mk (shut_string Try.underlying9 hs) (trodAll_cons_mk (Below.trod Try.laidOut (by kernel_rfl) (of_decide_eq_true (by kernel_rfl)) h1 (Keeps.toBelow hg) hlt) trodAll_mk0), rfl, (Keeps.toBelow hg).frame _, fun h => by cases h⟩

theorem over : Rows.bitioStrictRow.holds Try.pinned (OpenSpec.ofChange Rows.bitioStrictSpec) :=
  OpenClaim.holds_of_wide 6 Try.f6 rfl rfl rfl rfl rfl rfl rfl ⟨rfl, rfl, rfl, rfl, rfl⟩ rfl rfl rfl rfl rfl (by kernel_rfl) Try.func6 (by kernel_rfl)
    (of_decide_eq_true (by kernel_rfl)) (by unfold Func.isWrapper; first | (rw [if_pos (by decide +kernel)]; kernel_rfl) | (rw [if_neg (by decide +kernel)]; exact ⟨rfl, rfl⟩))
    (fun os started H enc _ => lifted os started H enc)

theorem proved : Rows.BitioStrictSaid :=
  over
end bitioStrict
end Go.Proofs.Ytckijojfhgeolaa
