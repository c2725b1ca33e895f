/- BitioStops: for every string and every list of fields the law returns true: behind its first error a reader returns nothing, and keeps the error. No condition on the input. -/
import Derived.Test.YtficlefifjhecaaFields2
import Derived.Test.YtficlefifjhecaaArgs
namespace Go.Proofs.Ytficlefifjhecaa
open Go.RowKit

theorem rnum_stay {s : ByteArray} {l wd : Int} {st : Nat × Int} (h : st.2 ≠ 0) : rnum s l wd st = (st, 0) := by unfold rnum; rw [if_pos h]
theorem rdSt_stay {s : ByteArray} {f : Fld} {st : Nat × Int} (h : st.2 ≠ 0) : rdSt s f st = st := by
  unfold rdSt rsig rflag rtext
  simp only [rnum_stay h, if_pos h]
  split
  · rfl
  · split
    · rfl
    · split
      · rfl
      · split <;> rfl
theorem rdF_stay {s : ByteArray} {f : Fld} {st : Nat × Int} (h : st.2 ≠ 0) (h1 : 0 ≤ f.kind) (h2 : f.kind ≤ 3) : (rdF s f st).n = 0 ∧ (rdF s f st).s = ⟨#[]⟩ := by
  unfold rdF rsig rflag rtext
  simp only [rnum_stay h, if_pos h]
  split
  · exact ⟨rfl, rfl⟩
  · split
    · exact ⟨rfl, rfl⟩
    · split
      · exact ⟨rfl, rfl⟩
      · rw [if_pos (by omega)]; exact ⟨rfl, rfl⟩

/-- What read leaves, in a call that has made the reader itself. -/
def LR (w : World) (a : Nat) (s : ByteArray) (st : Nat × Int) (w0 w1 : World) : Prop := NewRe w a s st w1 ∧ Keeps (fun i => i = a) w0 w1
theorem lread_new {w w0 : World} {a : Nat} {s : ByteArray} {st : Nat × Int} (h : NewRe w a s st w0) (f : Fld) (hf : f.ok) :
    Calls Try.prog 23 #[.pointer (some ⟨a, 0, none⟩), .agg #[.int .i64 f.kind, .int .i64 f.width, .int .i64 f.n, .string f.s]] w0 fun e w1 => e = .returned (.agg #[.int .i64 (rdF s f st).kind, .int .i64 (rdF s f st).width, .int .i64 (rdF s f st).n, .string (rdF s f st).s]) ∧ LR w a s (rdSt s f st) w0 w1 := by
  refine (lread_any w0 a s st h.1 f hf).mono fun e w1 ⟨he, hr⟩ => ⟨he, ⟨hr.1, h.2.1.trans hr.2 (fun _ h => h) ?_, h.2.2⟩, hr.2⟩
  rintro i hi rfl; have := h.2.2; omega
/-- The box of f behind read. -/
theorem box_behind {w wr w1 : World} {a : Nat} {s : ByteArray} {st : Nat × Int} {x y z u : Value} (ha : a < wr.heap.size) (h : LR w a s st (wr.alloc (.cells #[x, y, z, u] 30)) w1) :
    w1.heap[wr.heap.size]? = some (.cells #[x, y, z, u] 30 (0, 0)) := h.2.at (heap_alloc_new wr _) (by omega)

theorem errN {w w1 : World} {a : Nat} {s : ByteArray} {st : Nat × Int} (h : NewRe w a s st w1) (o : Obj) :
    Calls Try.prog 30 #[.pointer (some ⟨a, 0, none⟩)] (w1.alloc o) fun e w' => e = .returned (.int .i64 st.2) ∧ w1.alloc o = w' :=
  rerr_any (w1.alloc o) a s st (h.1.keep ((Keeps.refl (fun _ => False) w1).alloc o) (fun h => h))
theorem leftN {w w1 : World} {a : Nat} {s : ByteArray} {st : Nat × Int} (h : NewRe w a s st w1) (h0 : st.2 ≠ 0) (o : Obj) :
    Calls Try.prog 28 #[.pointer (some ⟨a, 0, none⟩)] (w1.alloc o) fun e w' => e = .returned (.int .i64 0) ∧ w' = (w1.alloc o).drew := by
  have := rleft_any (w1.alloc o) a s st (h.1.keep ((Keeps.refl (fun _ => False) w1).alloc o) (fun h => h))
  unfold rleft at this; rw [if_neg h0] at this; exact this
theorem closeN {w w1 : World} {a : Nat} {s : ByteArray} {st : Nat × Int} (h : NewRe w a s st w1) (h0 : st.2 ≠ 0) (o : Obj) :
    Calls Try.prog 32 #[.pointer (some ⟨a, 0, none⟩)] (w1.alloc o).drew fun e w' => e = .returned (.int .i64 st.2) ∧ NewRe w a s st w' := by
  have hk : Keeps (fun _ => False) w1 (w1.alloc o).drew := ((Keeps.refl (fun _ => False) w1).alloc o).drew
  have := rclose_any (w1.alloc o).drew a s st (h.1.keep hk (fun h => h))
  unfold rclose at this; rw [if_pos h0] at this
  exact this.mono fun e w' ⟨he, hk2⟩ => ⟨he, (h.same hk).same hk2⟩

/-- The list in the middle of a call. -/
def ListAt (w : World) (ao : Option Addr) (fs : List Fld) : Prop := fs = [] ∨ ∃ b off, ao = some ⟨b, off, none⟩ ∧ b < w.heap.size ∧ FldsAt w b off fs

namespace bitioStops
def At (w : World) (a : Nat) (s : ByteArray) (fs : List Fld) (v i : Value) (wr : World) : Prop :=
  ∃ (j : Nat) (st : Nat × Int), j ≤ fs.length ∧ i = .int .i64 j ∧ v = .int .i64 st.2 ∧ NewRe w a s st wr

theorem walk (s : ByteArray) (hs : s.size ≤ 9223372036854775807) (ao : Option Addr) (cap : Nat) (fs : List Fld) (hl : fs.length ≤ 9223372036854775807) (w : World) (harg : ListAt w ao fs) (hA : Arg w (.slice ao fs.length cap) fs) :
    Calls Try.prog 7 #[.string s, .slice ao fs.length cap] w fun e w' => e = .returned (.bool true) ∧ WrSame w w' := by
  have hfew := fun w1 h => few_any w w1 h _ fs hA
  by_cases h300 : s.size ≤ 300
  · have h300' : (s.size : Int) ≤ 300 := by omega
    cases hfb : fewB fs with
    | false =>
      rw [hfb] at hfew
      have HF := Lib.hid hfew
      clear hfew hfb harg hA h300
      go_enter Try.func7, Try.ntmps7
      go_wp2_with (first
        | (go_at_call 11; refine (awake_any _).mono ?_; rintro e w1 ⟨rfl, h1⟩; have H1 := Lib.hid h1; clear h1)
        | (go_at_call 12; refine (HF.out _ H1.out).mono ?_; rintro e w2 ⟨rfl, h2⟩; have H2 := Lib.hid h2; clear h2))
      go_ret
      exact ⟨rfl, H2.out⟩
    | true =>
      rw [hfb] at hfew
      have HF := Lib.hid hfew
      have HARG := Lib.hid harg
      have HN := Lib.hid (fun w1 h => readerN w w1 s (by omega) h)
      clear hfew hfb harg hA h300
      go_enter Try.func7, Try.ntmps7
      go_wp2_with (first
        | (go_at_call 11; refine (awake_any _).mono ?_; rintro e w1 ⟨rfl, h1⟩; have H1 := Lib.hid h1; clear h1)
        | (go_at_call 12; refine (HF.out _ H1.out).mono ?_; rintro e w2 ⟨rfl, h2⟩; have H2 := Lib.hid h2; clear h2)
        | (go_at_call 21; refine (HN.out _ H2.out).mono ?_; rintro e w3 ⟨rfl, h3⟩; have H3 := Lib.hid h3; clear h3))
      generalize w2.heap.size = a at *
      go_loopw [6, 26] (fun v i wr => At w a s fs v i wr) (fun _ i _ => fs.length - (intOf i).toNat)
      case atStart => exact ⟨0, (0, 0), Nat.zero_le _, rfl, rfl, H3.out⟩
      case round =>
        obtain ⟨j, ⟨k, er⟩, hj, rfl, rfl, hre⟩ := hrel
        dsimp only
        by_cases hlt : j < fs.length
        · obtain ⟨b, off, rfl, hb, hfl⟩ : ∃ b off, ao = some ⟨b, off, none⟩ ∧ b < w.heap.size ∧ FldsAt w b off fs := by
            rcases HARG.out with h | h
            · subst h; simp at hlt
            · exact h
          obtain ⟨f, hf⟩ : ∃ f, fs[j]? = some f := ⟨_, List.getElem?_eq_getElem hlt⟩
          obtain ⟨hfok, c0, c1, c2, c3⟩ := (hfl.keep hre.2.1.toBelow hb) j f hf
          have halt := hre.1.lt
          have hlr := fun w0 h => lread_new (w := w) (w0 := w0) (a := a) (s := s) (st := (k, er)) h f hfok
          have HB := Lib.hid hre
          have HFL := Lib.hid hfl
          clear hre hfl
          by_cases her : er = 0
          · subst her
            generalize rdF s f (k, 0) = x at *
            generalize hst : rdSt s f (k, 0) = st' at *
            obtain ⟨k', er'⟩ := st'
            have HLR := Lib.hid hlr
            clear hlr hst
            by_cases he' : er' = 0
            · subst he'
              go_wp2_with (first
                | (go_at_call 23; refine (HLR.out _ (by exact HB.out.same ((Keeps.refl _ _).alloc _))).mono ?_; rintro e w4 ⟨rfl, hr⟩; obtain ⟨p0, p1, p2, p3, q0, q1, q2, q3⟩ := block4_cell (box_behind halt hr); have hz := lt_of_block (box_behind halt hr); have HR := Lib.hid hr; clear hr)
                | (go_at_call 30; refine (errN HR.out.1 _).mono ?_; rintro e w5 ⟨rfl, rfl⟩))
              go_roundw
              case rel => exact ⟨j + 1, (k', 0), by omega, by go_num, rfl, HR.out.1.same ((Keeps.refl _ _).alloc _)⟩
              case measure => simp [intOf]; omega
            · have hne : (er' != 0) = true := by simpa using he'
              have HE0 := Lib.hid (show (k', er').2 ≠ 0 from he')
              clear he'
              go_wp2_with (first
                | (go_at_call 23; refine (HLR.out _ (by exact HB.out.same ((Keeps.refl _ _).alloc _))).mono ?_; rintro e w4 ⟨rfl, hr⟩; obtain ⟨p0, p1, p2, p3, q0, q1, q2, q3⟩ := block4_cell (box_behind halt hr); have hz := lt_of_block (box_behind halt hr); have HR := Lib.hid hr; clear hr)
                | (go_at_call 30; refine (errN HR.out.1 _).mono ?_; rintro e w5 ⟨rfl, rfl⟩)
                | (go_at_call 28; refine (leftN HR.out.1 HE0.out _).mono ?_; rintro e w6 ⟨rfl, rfl⟩)
                | (go_at_call 32; refine (closeN HR.out.1 HE0.out _).mono ?_; rintro e w7 ⟨rfl, h7⟩; have H7 := Lib.hid h7; clear h7))
              go_roundw
              case rel => exact ⟨j + 1, (k', er'), by omega, by go_num, rfl, H7.out⟩
              case measure => simp [intOf]; omega
          · have hne : (er != 0) = true := by simpa using her
            have hs1 : rdSt s f (k, er) = (k, er) := rdSt_stay her
            rw [hs1] at hlr
            have HE0 := Lib.hid (show (k, er).2 ≠ 0 from her)
            by_cases hk0 : f.kind < 0
            · generalize rdF s f (k, er) = x at *
              have HLR := Lib.hid hlr
              clear hlr hs1 her
              go_wp2_with (first
                | (go_at_call 23; refine (HLR.out _ (by exact HB.out.same ((Keeps.refl _ _).alloc _))).mono ?_; rintro e w4 ⟨rfl, hr⟩; obtain ⟨p0, p1, p2, p3, q0, q1, q2, q3⟩ := block4_cell (box_behind halt hr); have hz := lt_of_block (box_behind halt hr); have HR := Lib.hid hr; clear hr)
                | (go_at_call 30; refine (errN HR.out.1 _).mono ?_; rintro e w5 ⟨rfl, rfl⟩)
                | (go_at_call 28; refine (leftN HR.out.1 HE0.out _).mono ?_; rintro e w6 ⟨rfl, rfl⟩)
                | (go_at_call 32; refine (closeN HR.out.1 HE0.out _).mono ?_; rintro e w7 ⟨rfl, h7⟩; have H7 := Lib.hid h7; clear h7))
              go_roundw
              case rel => exact ⟨j + 1, (k, er), by omega, by go_num, rfl, H7.out⟩
              case measure => simp [intOf]; omega
            have hk0' : 0 ≤ f.kind := by omega
            by_cases hk3 : 3 < f.kind
            · generalize rdF s f (k, er) = x at *
              have HLR := Lib.hid hlr
              clear hlr hs1 her hk0
              go_wp2_with (first
                | (go_at_call 23; refine (HLR.out _ (by exact HB.out.same ((Keeps.refl _ _).alloc _))).mono ?_; rintro e w4 ⟨rfl, hr⟩; obtain ⟨p0, p1, p2, p3, q0, q1, q2, q3⟩ := block4_cell (box_behind halt hr); have hz := lt_of_block (box_behind halt hr); have HR := Lib.hid hr; clear hr)
                | (go_at_call 30; refine (errN HR.out.1 _).mono ?_; rintro e w5 ⟨rfl, rfl⟩)
                | (go_at_call 28; refine (leftN HR.out.1 HE0.out _).mono ?_; rintro e w6 ⟨rfl, rfl⟩)
                | (go_at_call 32; refine (closeN HR.out.1 HE0.out _).mono ?_; rintro e w7 ⟨rfl, h7⟩; have H7 := Lib.hid h7; clear h7))
              go_roundw
              case rel => exact ⟨j + 1, (k, er), by omega, by go_num, rfl, H7.out⟩
              case measure => simp [intOf]; omega
            · have hk3' : f.kind ≤ 3 := by omega
              obtain ⟨hn, hss⟩ := rdF_stay (s := s) (st := (k, er)) her hk0' hk3'
              rw [hn, hss] at hlr
              generalize rdF s f (k, er) = x at *
              have HLR := Lib.hid hlr
              clear hlr hs1 her hk0 hk3 hn hss
              go_wp2_with (first
                | (go_at_call 23; refine (HLR.out _ (by exact HB.out.same ((Keeps.refl _ _).alloc _))).mono ?_; rintro e w4 ⟨rfl, hr⟩; obtain ⟨p0, p1, p2, p3, q0, q1, q2, q3⟩ := block4_cell (box_behind halt hr); have hz := lt_of_block (box_behind halt hr); have HR := Lib.hid hr; clear hr)
                | (go_at_call 30; refine (errN HR.out.1 _).mono ?_; rintro e w5 ⟨rfl, rfl⟩)
                | (go_at_call 28; refine (leftN HR.out.1 HE0.out _).mono ?_; rintro e w6 ⟨rfl, rfl⟩)
                | (go_at_call 32; refine (closeN HR.out.1 HE0.out _).mono ?_; rintro e w7 ⟨rfl, h7⟩; have H7 := Lib.hid h7; clear h7))
              go_roundw
              case rel => exact ⟨j + 1, (k, er), by omega, by go_num, rfl, H7.out⟩
              case measure => simp [intOf]; omega
        · have HR := Lib.hid hre
          clear hre
          have he := fun w1 (h : NewRe w a s (k, er) w1) => rerr_any w1 a s (k, er) h.1
          have HE := Lib.hid he; clear he
          go_wp2_with (go_at_call 30; refine (HE.out _ HR.out).mono ?_; rintro e w5 ⟨rfl, rfl⟩)
          go_ret
          exact ⟨by first | rfl | simp, HR.out.2.1⟩
  · have h300' : 300 < (s.size : Int) := by omega
    clear hfew harg hA h300
    go_enter Try.func7, Try.ntmps7
    go_wp2_with (go_at_call 11; refine (awake_any _).mono ?_; rintro e w1 ⟨rfl, h1⟩; have H1 := Lib.hid h1; clear h1)
    go_ret
    exact ⟨rfl, H1.out⟩

open Go.ChangeShapes Go.WideShapes Go.ChangeAt
open Go.ChangeMaps (shut_string open_string)
theorem own : ownKnob Try.prog.godebug = none := by kernel_rfl

set_option maxRecDepth 100000 in
theorem lifted (os : Os) (started : os.Started) (H : Type) (enc : TypeId × Value → H) :
    ReturnsInHanded {} Try.checked os 7 .any (Rows.bitioStopsSpec.pre6 enc Try.prog Try.f7 Rows.bitioStopsRow.domain false) (Rows.bitioStopsSpec.post enc Try.prog Try.f7 false true false false) := by
  refine returnsInHanded_of_change (C := Try.checked) own started (by kernel_rfl) Try.func7
    (ChangeSpec.witness6 (enc := enc) (C := Try.checked) false ⟨#[], #[.string ⟨#[]⟩, .slice none 0 0], []⟩ 8 (by kernel_rfl) (by kernel_rfl) (by kernel_rfl) (by kernel_rfl)) ?_
  intro W base args ds gs before hval0 hW hcnd _
  have hval : ∀ (j : Nat) t v, Try.f7.params[j]? = some t → args[j]? = some v → Value.okWide Try.prog W .any base t v := hval0
  have hW' := hW
  obtain ⟨p, q, hA0, hV, rfl, hfz, hnd⟩ := hW
  have hA : DataW.TrodAll enc Try.prog W 0 (fun _ => true) true Try.f7.params.toList args.toList ds p := hA0
  rw [Try.params7] at hA hval
  obtain ⟨v0, vs0, d0, ds0, p0, q0, hargs, rfl, rfl, h0, r0⟩ := trodAll_cons hA
  obtain ⟨v1, vs1, d1, ds1, p1, q1, rfl, rfl, rfl, h1, r1⟩ := trodAll_cons r0
  obtain ⟨rfl, rfl, rfl⟩ := trodAll_nil r1
  obtain rfl : args = #[v0, v1] := by cases args; simp_all
  obtain ⟨rfl, rfl⟩ := trodVars_none hV
  obtain ⟨s, rfl, rfl, rfl, hs⟩ := open_string Try.underlying9 (hval 0 9 v0 rfl rfl) h0
  obtain ⟨ao, cap, fs, hv1, hl, hArg, hList⟩ := arg_of (hval 1 22 v1 rfl rfl) h1
  clear hA0 hval0
  simp only [List.append_nil, List.nil_append] at hW'
  subst hv1
  have hlt : ∀ x ∈ p1, x.block < W.heap.size := fun x hx => by
    have := hW'.lt x hx
    simpa using this
  refine (walk s (by unfold maxLen at hs; omega) ao cap fs hl W hList hArg).mono fun e W' ⟨he, hg⟩ => ?_
  subst he
  exact ⟨_, rfl, _, _, _, [], _, [], hW', trodAll_cons_mk (shut_bool Try.underlying4 _) trodAll_mk0,
    trodAll_cons_mk (shut_string Try.underlying9 hs) (trodAll_cons_mk (Below.trod Try.laidOut (by kernel_rfl) (of_decide_eq_true (by kernel_rfl)) h1 (Keeps.toBelow hg) hlt) trodAll_mk0), rfl, (Keeps.toBelow hg).frame _, fun h => by cases h⟩

theorem over : Rows.bitioStopsRow.holds Try.pinned (OpenSpec.ofChange Rows.bitioStopsSpec) :=
  OpenClaim.holds_of_wide 7 Try.f7 rfl rfl rfl rfl rfl rfl rfl ⟨rfl, rfl, rfl, rfl, rfl⟩ rfl rfl rfl rfl rfl (by kernel_rfl) Try.func7 (by kernel_rfl)
    (of_decide_eq_true (by kernel_rfl)) (by unfold Func.isWrapper; first | (rw [if_pos (by decide +kernel)]; kernel_rfl) | (rw [if_neg (by decide +kernel)]; exact ⟨rfl, rfl⟩))
    (fun os started H enc _ => lifted os started H enc)

theorem proved : Rows.BitioStopsSaid :=
  over
end bitioStops
end Go.Proofs.Ytficlefifjhecaa
