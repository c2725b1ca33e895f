/- BitioWrites: for every list of fields the law returns true: a writer writes what the reference's writer writes, behind each field. No condition on the input. -/
import Derived.Test.YtficlefifjhecaaRefWL
import Derived.Test.YtficlefifjhecaaArgs
namespace Go.Proofs.Ytficlefifjhecaa
open Go.RowKit

theorem Wr2.dlt {w : World} {a : Nat} {st : List Nat × Int} {d : Option Nat} (h : Wr2 w a st d) : ∀ g, d = some g → g < w.heap.size ∧ g ≠ a := by
  obtain ⟨_, _, v, h1, h2, h3, h4⟩ := h
  intro g hg
  exact ⟨(h2.lt g (h3.trans hg)).2, by rintro rfl; exact h4 hg⟩
/-- The writer and the reference's writer, which the call has made. -/
def Duo (w : World) (a c : Nat) (st st2 : List Nat × Int) (w1 : World) : Prop :=
  a ≠ c ∧ Keeps (fun _ => False) w w1 ∧ w.heap.size ≤ a ∧ w.heap.size ≤ c ∧ ∃ d1 d2, Wr w1 a st d1 ∧ Wr2 w1 c st2 d2 ∧ (∀ g, d1 = some g → w.heap.size ≤ g ∧ g ≠ c ∧ d2 ≠ some g) ∧ (∀ g, d2 = some g → w.heap.size ≤ g ∧ g ≠ a)
theorem Duo.same {w w1 w2 : World} {a c : Nat} {st st2 : List Nat × Int} (h : Duo w a c st st2 w1) (k : Keeps (fun _ => False) w1 w2) : Duo w a c st st2 w2 := by
  obtain ⟨h1, h2, h3, h4, d1, d2, h5, h6, h7, h8⟩ := h
  exact ⟨h1, h2.trans k (fun _ h => h) (fun _ _ h => h), h3, h4, d1, d2, h5.keep k (fun h => h) (fun _ _ h => h), h6.keep k (fun h => h) (fun _ _ h => h), h7, h8⟩
theorem duo_new {w w1 : World} {a : Nat} (h : NewWr w a ([], 0) w1) : Calls Try.prog 14 #[] w1 fun e w' => e = .returned (.pointer (some ⟨w1.heap.size, 0, none⟩)) ∧ Duo w a w1.heap.size ([], 0) ([], 0) w' :=
  (newWriter2_any w1).mono fun e w' ⟨he, hw, hk⟩ => ⟨he, by
    obtain ⟨d, h1, h2, h3, h4⟩ := h
    have hlt := h1.lt
    have hsz := h2.size
    refine ⟨by omega, h2.trans hk (fun _ h => h) (fun _ _ h => h), h3, hsz, d, none, h1.keep hk (fun h => h) (fun _ _ h => h), hw, fun g hg => ⟨h4 g hg, ?_, by simp⟩, fun g hg => by cases hg⟩
    have := (h1.dlt g hg).1; omega⟩
/-- A box that holds the field. -/
abbrev fbox (f : Fld) : Obj := .cells #[.int .i64 f.kind, .int .i64 f.width, .int .i64 f.n, .string f.s] 30
theorem duo_write {w wr : World} {a c : Nat} {st st2 : List Nat × Int} (h : Duo w a c st st2 wr) (f : Fld) (hf : f.ok) :
    Calls Try.prog 15 #[.pointer (some ⟨a, 0, none⟩), .agg #[.int .i64 f.kind, .int .i64 f.width, .int .i64 f.n, .string f.s]] (wr.alloc (fbox f)) fun e w1 => e = .returned (.tuple #[]) ∧ Duo w a c (wrSt f st) st2 w1 ∧ w1.heap[wr.heap.size]? = some (.cells #[.int .i64 f.kind, .int .i64 f.width, .int .i64 f.n, .string f.s] 30 (0, 0)) := by
  obtain ⟨h1, h2, h3, h4, d1, d2, h5, h6, h7, h8⟩ := h
  have k0 : Keeps (fun _ => False) wr (wr.alloc (fbox f)) := (Keeps.refl _ wr).alloc _
  have hs0 : (wr.alloc (fbox f)).heap.size = wr.heap.size + 1 := by simp
  have ha := h5.lt
  have hc := h6.lt
  have hd1 := h5.dlt
  have hd2 := h6.dlt
  have hw := h2.size
  refine (lwrite_any _ a st d1 (h5.keep k0 (fun h => h) (fun _ _ h => h)) f hf.2.1.2 hf.2.2.2).mono fun e w1 ⟨he, d1', g1, g2, g3⟩ => ⟨he, ⟨h1, (h2.trans k0 (fun _ h => h) (fun _ _ h => h)).trans g2 (fun _ h => h) ?_, h3, h4, d1', d2, g1, (h6.keep k0 (fun h => h) (fun _ _ h => h)).keep g2 ?_ ?_, ?_, h8⟩, g2.at (heap_alloc_new wr _) ?_⟩
  · rintro i hi (rfl | h)
    · omega
    · have := (h7 i h).1; omega
  · rintro (h | h)
    · exact h1 h.symm
    · exact (h7 c h).2.1 rfl
  · rintro g hg (h | h)
    · exact (h8 g hg).2 h
    · exact (h7 g h).2.2 hg
  · intro g hg
    rcases g3 g hg with h | h
    · exact h7 g h
    · refine ⟨by omega, by omega, fun h' => ?_⟩
      have := (hd2 g h').1; omega
  · rintro (h | h)
    · omega
    · have := (hd1 _ h).1; omega
theorem duo_ref {w w0 : World} {a c : Nat} {st st2 : List Nat × Int} (h : Duo w a c st st2 w0) (f : Fld) (hf : f.ok) :
    Calls Try.prog 16 #[.pointer (some ⟨c, 0, none⟩), .agg #[.int .i64 f.kind, .int .i64 f.width, .int .i64 f.n, .string f.s]] w0 fun e w1 => e = .returned (.tuple #[]) ∧ Duo w a c st (wrSt f st2) w1 := by
  obtain ⟨h1, h2, h3, h4, d1, d2, h5, h6, h7, h8⟩ := h
  have ha := h5.lt
  have hc := h6.lt
  have hd1 := h5.dlt
  have hd2 := h6.dlt
  have hw := h2.size
  refine (lref_any w0 c st2 d2 h6 f hf.2.2.1.2).mono fun e w1 ⟨he, d2', g1, g2, g3⟩ => ⟨he, h1, h2.trans g2 (fun _ h => h) ?_, h3, h4, d1, d2', h5.keep g2 ?_ ?_, g1, ?_, ?_⟩
  · rintro i hi (rfl | h)
    · omega
    · have := (h8 i h).1; omega
  · rintro (h | h)
    · exact h1 h
    · exact (h8 a h).2 rfl
  · rintro g hg (h | h)
    · exact (h7 g hg).2.1 h
    · exact (h7 g hg).2.2 h
  · intro g hg
    refine ⟨(h7 g hg).1, (h7 g hg).2.1, fun h' => ?_⟩
    rcases g3 g h' with h | h
    · exact (h7 g hg).2.2 h
    · have := (hd1 g hg).1; omega
  · intro g hg
    rcases g3 g hg with h | h
    · exact h8 g h
    · exact ⟨by omega, by omega⟩
theorem duo_bytes {w w0 : World} {a c : Nat} {st st2 : List Nat × Int} (h : Duo w a c st st2 w0) :
    Calls Try.prog 17 #[.pointer (some ⟨a, 0, none⟩)] w0 fun e w1 => e = .returned (.tuple #[.string (wbytes st), .int .i64 st.2]) ∧ Duo w a c st st2 w1 := by
  obtain ⟨d1, d2, h5, _⟩ := h.2.2.2.2
  exact (wbytes_any w0 a st d1 h5).mono fun _ _ ⟨he, hk⟩ => ⟨he, h.same hk⟩
theorem duo_bytes2 {w w0 : World} {a c : Nat} {st st2 : List Nat × Int} (h : Duo w a c st st2 w0) :
    Calls Try.prog 18 #[.pointer (some ⟨c, 0, none⟩)] w0 fun e w1 => e = .returned (.tuple #[.string (wbytes st2), .int .i64 st2.2]) ∧ Duo w a c st st2 w1 := by
  obtain ⟨d1, d2, _, h6, _⟩ := h.2.2.2.2
  exact (bytes2_any w0 c st2 d2 h6).mono fun _ _ ⟨he, hk⟩ => ⟨he, h.same hk⟩
theorem duo_bits {w w0 : World} {a c : Nat} {st st2 : List Nat × Int} (h : Duo w a c st st2 w0) :
    Calls Try.prog 19 #[.pointer (some ⟨a, 0, none⟩)] w0 fun e w1 => e = .returned (.int .i64 st.1.length) ∧ Duo w a c st st2 w1 := by
  obtain ⟨d1, d2, h5, _⟩ := h.2.2.2.2
  exact (wbits_any w0 a st d1 h5).mono fun _ _ ⟨he, hk⟩ => ⟨he, hk ▸ h⟩
theorem duo_bits2 {w w0 : World} {a c : Nat} {st st2 : List Nat × Int} (h : Duo w a c st st2 w0) :
    Calls Try.prog 20 #[.pointer (some ⟨c, 0, none⟩)] w0 fun e w1 => e = .returned (.int .i64 st2.1.length) ∧ Duo w a c st st2 w1 := by
  obtain ⟨d1, d2, _, h6, _⟩ := h.2.2.2.2
  exact (bits2_any w0 c st2 d2 h6).mono fun _ _ ⟨he, hk⟩ => ⟨he, hk ▸ h⟩

namespace bitioWrites
def At (w : World) (a c : Nat) (fs : List Fld) (i : Value) (wr : World) : Prop :=
  ∃ (j : Nat) (st : List Nat × Int), j ≤ fs.length ∧ i = .int .i64 j ∧ Duo w a c st st wr

theorem walk (ao : Option Addr) (cap : Nat) (fs : List Fld) (hl : fs.length ≤ 9223372036854775807) (w : World) (harg : fs = [] ∨ ∃ b off, ao = some ⟨b, off, none⟩ ∧ b < w.heap.size ∧ FldsAt w b off fs) (hA : Arg w (.slice ao fs.length cap) fs) :
    Calls Try.prog 3 #[.slice ao fs.length cap] w fun e w' => e = .returned (.bool true) ∧ WrSame w w' := by
  have hfew := fun w1 h => few_any w w1 h _ fs hA
  cases hfb : fewB fs with
  | false =>
    rw [hfb] at hfew
    have HF := Lib.hid hfew
    clear hfew hfb harg hA
    go_enter Try.func3, Try.ntmps3
    go_wp2_with (first
      | (go_at_call 11; refine (awake_any _).mono ?_; rintro e w1 ⟨rfl, h1⟩; have H1 := Lib.hid h1; clear h1)
      | (go_at_call 12; refine (HF.out _ H1.out).mono ?_; rintro e w2 ⟨rfl, h2⟩; have H2 := Lib.hid h2; clear h2))
    go_ret
    exact ⟨rfl, H2.out⟩
  | true =>
    rw [hfb] at hfew
    have HF := Lib.hid hfew
    have HARG := Lib.hid harg
    clear hfew hfb harg hA
    have hnw : ∀ w1, WrSame w w1 → Calls Try.prog 13 #[] w1 fun e w' => e = .returned (.pointer (some ⟨w1.heap.size, 0, none⟩)) ∧ NewWr w w1.heap.size ([], 0) w' :=
      fun w1 h => (new1 w w1 h).mono fun _ _ ⟨he, hf⟩ => ⟨he, none, hf.1, hf.2.1, hf.2.2, fun _ h => by cases h⟩
    have HNW := Lib.hid hnw; clear hnw
    go_enter Try.func3, Try.ntmps3
    go_wp2_with (first
      | (go_at_call 11; refine (awake_any _).mono ?_; rintro e w1 ⟨rfl, h1⟩; have H1 := Lib.hid h1; clear h1)
      | (go_at_call 12; refine (HF.out _ H1.out).mono ?_; rintro e w2 ⟨rfl, h2⟩; have H2 := Lib.hid h2; clear h2)
      | (go_at_call 13; refine (HNW.out _ H2.out).mono ?_; rintro e w3 ⟨rfl, h3⟩; have H3 := Lib.hid h3; clear h3)
      | (go_at_call 14; refine (duo_new H3.out).mono ?_; rintro e w4 ⟨rfl, h4⟩; have H4 := Lib.hid h4; clear h4))
    generalize w3.heap.size = c at *
    generalize w2.heap.size = a at *
    go_loopw [22] (fun i wr => At w a c fs i wr) (fun i _ => fs.length - (intOf i).toNat)
    case atStart => exact ⟨0, ([], 0), Nat.zero_le _, rfl, H4.out⟩
    case round =>
      obtain ⟨j, st, hj, rfl, hp⟩ := hrel
      by_cases hlt : j < fs.length
      · obtain ⟨b, off, rfl, hb, hfl⟩ : ∃ b off, ao = some ⟨b, off, none⟩ ∧ b < w.heap.size ∧ FldsAt w b off fs := by
          rcases HARG.out with h | h
          · subst h; simp at hlt
          · exact h
        obtain ⟨f, hf⟩ : ∃ f, fs[j]? = some f := ⟨_, List.getElem?_eq_getElem hlt⟩
        obtain ⟨hfok, c0, c1, c2, c3⟩ := (hfl.keep hp.2.1.toBelow hb) j f hf
        have hw := duo_write hp f hfok
        have hr := fun w0 (h : Duo w a c (wrSt f st) st w0) => duo_ref h f hfok
        generalize wrSt f st = st2 at *
        have hb1 := fun w0 (h : Duo w a c st2 st2 w0) => duo_bytes h
        have hb2 := fun w0 (h : Duo w a c st2 st2 w0) => duo_bytes2 h
        have hc1 := fun w0 (h : Duo w a c st2 st2 w0) => duo_bits h
        have hc2 := fun w0 (h : Duo w a c st2 st2 w0) => duo_bits2 h
        obtain ⟨st2, hst⟩ : ∃ x, x = st2 := ⟨_, rfl⟩
        obtain ⟨bs2, er⟩ := st2
        subst hst
        dsimp only at hb1 hb2 hc1 hc2
        generalize wbytes (bs2, er) = S at *
        have hln : bs2.length ≤ bs2.length := Nat.le_refl _
        generalize hll : bs2.length = L at *
        clear hln
        have HW := Lib.hid hw
        have HR := Lib.hid hr
        have HB1 := Lib.hid hb1
        have HB2 := Lib.hid hb2
        have HC1 := Lib.hid hc1
        have HC2 := Lib.hid hc2
        have HLL := Lib.hid hll
        have HFL := Lib.hid hfl
        clear hw hr hb1 hb2 hc1 hc2 hp hfl hf hfok hll
        go_wp2_with (first
          | (go_at_call 15; refine (HW.out).mono ?_; rintro e w5 ⟨rfl, h5, h5b⟩; obtain ⟨p0, p1, p2, p3, q0, q1, q2, q3⟩ := block4_cell h5b; have H5 := Lib.hid h5; clear h5 h5b)
          | (go_at_call 16; refine (HR.out _ H5.out).mono ?_; rintro e w6 ⟨rfl, h6⟩; have H6 := Lib.hid h6; clear h6)
          | (go_at_call 17; refine (HB1.out _ H6.out).mono ?_; rintro e w7 ⟨rfl, h7⟩; have H7 := Lib.hid h7; clear h7)
          | (go_at_call 18; refine (HB2.out _ H7.out).mono ?_; rintro e w8 ⟨rfl, h8⟩; have H8 := Lib.hid h8; clear h8)
          | (go_at_call 19; refine (HC1.out _ H8.out).mono ?_; rintro e w9 ⟨rfl, h9⟩; have H9 := Lib.hid h9; clear h9)
          | (go_at_call 20; refine (HC2.out _ H9.out).mono ?_; rintro e w10 ⟨rfl, h10⟩; have H10 := Lib.hid h10; clear h10))
        go_roundw
        case rel => exact ⟨j + 1, (bs2, er), by omega, by go_num, H10.out⟩
        case measure => simp [intOf]; omega
      · have hc1 := duo_bits hp
        have hc2 := fun w0 (h : Duo w a c st st w0) => duo_bits2 h
        generalize st.1.length = L at *
        have HC1 := Lib.hid hc1
        have HC2 := Lib.hid hc2
        clear hc1 hc2 hp
        go_wp2_with (first
          | (go_at_call 19; refine (HC1.out).mono ?_; rintro e w9 ⟨rfl, h9⟩; have H9 := Lib.hid h9; clear h9)
          | (go_at_call 20; refine (HC2.out _ H9.out).mono ?_; rintro e w10 ⟨rfl, h10⟩; have H10 := Lib.hid h10; clear h10))
        go_ret
        exact ⟨by first | rfl | simp, H10.out.2.1⟩

open Go.ChangeShapes Go.WideShapes Go.ChangeAt
open Go.ChangeMaps (shut_string open_string)
theorem own : ownKnob Try.prog.godebug = none := by kernel_rfl

set_option maxRecDepth 100000 in
theorem lifted (os : Os) (started : os.Started) (H : Type) (enc : TypeId × Value → H) :
    ReturnsInHanded {} Try.checked os 3 .any (Rows.bitioWritesSpec.pre6 enc Try.prog Try.f3 Rows.bitioWritesRow.domain false) (Rows.bitioWritesSpec.post enc Try.prog Try.f3 false true false false) := by
  refine returnsInHanded_of_change (C := Try.checked) own started (by kernel_rfl) Try.func3
    (ChangeSpec.witness6 (enc := enc) (C := Try.checked) false ⟨#[], #[.slice none 0 0], []⟩ 8 (by kernel_rfl) (by kernel_rfl) (by kernel_rfl) (by kernel_rfl)) ?_
  intro W base args ds gs before hval0 hW hcnd _
  have hval : ∀ (j : Nat) t v, Try.f3.params[j]? = some t → args[j]? = some v → Value.okWide Try.prog W .any base t v := hval0
  have hW' := hW
  obtain ⟨p, q, hA0, hV, rfl, hfz, hnd⟩ := hW
  have hA : DataW.TrodAll enc Try.prog W 0 (fun _ => true) true Try.f3.params.toList args.toList ds p := hA0
  rw [Try.params3] at hA hval
  obtain ⟨v1, vs1, d1, ds1, p1, q1, hargs, rfl, rfl, h1, r1⟩ := trodAll_cons hA
  obtain ⟨rfl, rfl, rfl⟩ := trodAll_nil r1
  obtain rfl : args = #[v1] := by cases args; simp_all
  obtain ⟨rfl, rfl⟩ := trodVars_none hV
  obtain ⟨ao, cap, fs, hv1, hl, hArg, hList⟩ := arg_of (hval 0 22 v1 rfl rfl) h1
  clear hA0 hval0
  simp only [List.append_nil] at hW'
  subst hv1
  have hlt : ∀ x ∈ p1, x.block < W.heap.size := fun x hx => by
    have := hW'.lt x hx
    simpa using this
  refine (walk ao cap fs hl W hList hArg).mono fun e W' ⟨he, hg⟩ => ?_
  subst he
  exact ⟨_, rfl, _, _, _, [], _, [], hW', trodAll_cons_mk (shut_bool Try.underlying4 _) trodAll_mk0,
    trodAll_cons_mk (Below.trod Try.laidOut (by kernel_rfl) (of_decide_eq_true (by kernel_rfl)) h1 (Keeps.toBelow hg) hlt) trodAll_mk0, rfl, (Keeps.toBelow hg).frame _, fun h => by cases h⟩

theorem over : Rows.bitioWritesRow.holds Try.pinned (OpenSpec.ofChange Rows.bitioWritesSpec) :=
  OpenClaim.holds_of_wide 3 Try.f3 rfl rfl rfl rfl rfl rfl rfl ⟨rfl, rfl, rfl, rfl, rfl⟩ rfl rfl rfl rfl rfl (by kernel_rfl) Try.func3 (by kernel_rfl)
    (of_decide_eq_true (by kernel_rfl)) (by unfold Func.isWrapper; first | (rw [if_pos (by decide +kernel)]; kernel_rfl) | (rw [if_neg (by decide +kernel)]; exact ⟨rfl, rfl⟩))
    (fun os started H enc _ => lifted os started H enc)

theorem proved : Rows.BitioWritesSaid :=
  over
end bitioWrites
end Go.Proofs.Ytficlefifjhecaa
