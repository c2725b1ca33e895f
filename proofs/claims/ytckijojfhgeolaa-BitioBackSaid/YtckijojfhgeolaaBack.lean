/- BitioBack: for every list of fields the law returns true: fields that are written without an error are read, and then nothing is left. No condition on the input. -/
import Derived.Test.YtckijojfhgeolaaPlainK
import Derived.Test.YtckijojfhgeolaaStrict
namespace Go.Proofs.Ytckijojfhgeolaa
open Go.RowKit

theorem pair_reader {w w1 : World} {c : Nat} {s : ByteArray} {sw : List Nat × Int} (hs : s.size ≤ 65536) (h : NewWr w c sw w1) : Calls Try.prog 21 #[.string s] w1 fun e w' => e = .returned (.pointer (some ⟨w1.heap.size, 0, none⟩)) ∧ Pair w w1.heap.size c s (0, 0) sw w' := by
  have := newReader_any w1 s (by omega)
  rw [if_pos hs] at this
  refine this.mono fun e w' ⟨he, hr, hk⟩ => ⟨he, hr, ?_⟩
  obtain ⟨d, h1, h2, h3, h4⟩ := h
  have hlt := h1.lt
  exact ⟨⟨d, h1.keep hk (fun h => h) (fun _ _ h => h), fun g hg => ⟨h4 g hg, by have := (h1.dlt g hg).1; omega⟩⟩, by omega, h2.trans hk (fun _ h => h) (fun _ _ h => h), h2.size, h3⟩
theorem pair_readK {w w0 : World} {a c : Nat} {s : ByteArray} {sr : Nat × Int} {sw : List Nat × Int} (h : Pair w a c s sr sw w0) (f : Fld) (hf : f.ok) :
    Calls Try.prog 23 #[.pointer (some ⟨a, 0, none⟩), .agg #[.int .i64 f.kind, .int .i64 f.width, .int .i64 f.n, .string f.s]] w0 fun e w1 => e = .returned (.agg #[.int .i64 (rdF s f sr).kind, .int .i64 (rdF s f sr).width, .int .i64 (rdF s f sr).n, .string (rdF s f sr).s]) ∧ Pair w a c s (rdSt s f sr) sw w1 ∧ Keeps (fun i => i = a) w0 w1 := by
  obtain ⟨h1, ⟨d, h2, h3⟩, h4, h5, h6, h7⟩ := h
  refine (lread_any w0 a s sr h1 f hf).mono fun e w1 ⟨he, hr⟩ => ⟨he, ⟨hr.1, ⟨d, h2.keep hr.2 (by omega) (fun g hg hh => (h3 g hg).2 hh), h3⟩, h4, h5.trans hr.2 (fun _ h => h) ?_, h6, h7⟩, hr.2⟩
  rintro i hi rfl; omega
theorem pair_err {w w1 : World} {a c : Nat} {s : ByteArray} {sr : Nat × Int} {sw : List Nat × Int} (h : Pair w a c s sr sw w1) (o : Obj) :
    Calls Try.prog 30 #[.pointer (some ⟨a, 0, none⟩)] (w1.alloc o) fun e w' => e = .returned (.int .i64 sr.2) ∧ w1.alloc o = w' :=
  rerr_any (w1.alloc o) a s sr (h.1.keep ((Keeps.refl (fun _ => False) w1).alloc o) (fun h => h))
theorem pair_left {w w1 : World} {a c : Nat} {s : ByteArray} {sr : Nat × Int} {sw : List Nat × Int} (h : Pair w a c s sr sw w1) :
    Calls Try.prog 28 #[.pointer (some ⟨a, 0, none⟩)] w1 fun e w' => e = .returned (.int .i64 (rleft s sr)) ∧ Pair w a c s sr sw w' :=
  (rleft_any w1 a s sr h.1).mono fun _ _ ⟨he, hk⟩ => ⟨he, by subst hk; exact h.same (Keeps.refl _ w1).drew⟩
theorem pair_bits {w w1 : World} {a c : Nat} {s : ByteArray} {sr : Nat × Int} {sw : List Nat × Int} (h : Pair w a c s sr sw w1) :
    Calls Try.prog 19 #[.pointer (some ⟨c, 0, none⟩)] w1 fun e w' => e = .returned (.int .i64 sw.1.length) ∧ Pair w a c s sr sw w' := by
  obtain ⟨d, hd, _⟩ := h.2.1
  exact (wbits_any w1 c sw d hd).mono fun _ _ ⟨he, hk⟩ => ⟨he, hk ▸ h⟩
theorem box_kept {wr w1 : World} {a : Nat} {x y z u : Value} (ha : a < wr.heap.size) (h : Keeps (fun i => i = a) (wr.alloc (.cells #[x, y, z, u] 30)) w1) :
    w1.heap[wr.heap.size]? = some (.cells #[x, y, z, u] 30 (0, 0)) := h.at (heap_alloc_new wr _) (by omega)

namespace bitioBack
def At1 (w : World) (c : Nat) (fs : List Fld) (i : Value) (wr : World) : Prop := ∃ j : Nat, j ≤ fs.length ∧ i = .int .i64 j ∧ NewWr w c (wfold (fs.take j)) wr
def At2 (w : World) (a c : Nat) (S : ByteArray) (fs : List Fld) (i : Value) (wr : World) : Prop :=
  ∃ j : Nat, j ≤ fs.length ∧ i = .int .i64 j ∧ Pair w a c S ((wfold (fs.take j)).1.length, 0) (wfold fs) wr

/-- The second loop's round, seen from outside: what read gives for a field of the kinds 0 to 3, or that nothing was written for it. -/
theorem round_facts {fs : List Fld} (h0 : (wfold fs).2 = 0) (hb : Bits (wfold fs).1) {j : Nat} {f : Fld} (hf : fs[j]? = some f) :
    rdSt (strB (pack (wfold fs).1)) f ((wfold (fs.take j)).1.length, 0) = ((wfold (fs.take (j + 1))).1.length, 0) ∧ Same f (rdF (strB (pack (wfold fs).1)) f ((wfold (fs.take j)).1.length, 0)) := by
  have hj : j < fs.length := (List.getElem?_eq_some_iff.1 hf).1
  obtain ⟨r1, g1, _⟩ := wfold_at h0 (j := j) (by omega)
  obtain ⟨r2, g2, e2⟩ := wfold_at h0 (j := j + 1) (by omega)
  have ht := wfold_take hf
  have hst : wfold (fs.take j) = ((wfold (fs.take j)).1, 0) := Prod.ext rfl g1
  have hst2 : wfold (fs.take (j + 1)) = ((wfold (fs.take (j + 1))).1, 0) := Prod.ext rfl g2
  have hstep : wrSt f ((wfold (fs.take j)).1, 0) = ((wfold (fs.take (j + 1))).1, 0) := by rw [← hst, ← ht]; exact hst2
  rw [e2] at hb ⊢
  exact back_step hstep hb
theorem skip_fact {fs : List Fld} {j : Nat} {f : Fld} (hf : fs[j]? = some f) (hk : f.kind < 0 ∨ 3 < f.kind) : wfold (fs.take (j + 1)) = wfold (fs.take j) := by
  rw [wfold_take hf]
  unfold wrSt
  rw [if_neg (by omega), if_neg (by omega), if_neg (by omega), if_neg (by omega)]

set_option maxRecDepth 100000 in
set_option maxHeartbeats 3200000 in
theorem walk (ao : Option Addr) (cap : Nat) (fs : List Fld) (hl : fs.length ≤ 9223372036854775807) (w : World) (harg : fs = [] ∨ ∃ b off, ao = some ⟨b, off, none⟩ ∧ b < w.heap.size ∧ FldsAt w b off fs) (hA : Arg w (.slice ao fs.length cap) fs) :
    Calls Try.prog 5 #[.slice ao fs.length cap] w fun e w' => e = .returned (.bool true) ∧ WrSame w w' := by
  have hfew := fun w1 h => few_any w w1 h _ fs hA
  cases hfb : fewB fs with
  | false =>
    rw [hfb] at hfew
    have HF := Lib.hid hfew
    clear hfew hfb harg hA
    go_enter Try.func5, Try.ntmps5
    go_wp2_with (first
      | (go_at_call 11; refine (awake_any _).mono ?_; rintro e w1 ⟨rfl, h1⟩; have H1 := Lib.hid h1; clear h1)
      | (go_at_call 12; refine (HF.out _ H1.out).mono ?_; rintro e w2 ⟨rfl, h2⟩; have H2 := Lib.hid h2; clear h2))
    go_ret
    exact ⟨rfl, H2.out⟩
  | true =>
    rw [hfb] at hfew
    have HF := Lib.hid hfew
    have HARG := Lib.hid harg
    clear hfew hfb harg hA
    have hnw : ∀ w1, WrSame w w1 → Calls Try.prog 13 #[] w1 fun e w' => e = .returned (.pointer (some ⟨w1.heap.size, 0, none⟩)) ∧ NewWr w w1.heap.size ([], 0) w' :=
      fun w1 h => (new1 w w1 h).mono fun _ _ ⟨he, hf⟩ => ⟨he, none, hf.1, hf.2.1, hf.2.2, fun _ h => by cases h⟩
    have HNW := Lib.hid hnw; clear hnw
    go_enter Try.func5, Try.ntmps5
    go_wp2_with (first
      | (go_at_call 11; refine (awake_any _).mono ?_; rintro e w1 ⟨rfl, h1⟩; have H1 := Lib.hid h1; clear h1)
      | (go_at_call 12; refine (HF.out _ H1.out).mono ?_; rintro e w2 ⟨rfl, h2⟩; have H2 := Lib.hid h2; clear h2)
      | (go_at_call 13; refine (HNW.out _ H2.out).mono ?_; rintro e w3 ⟨rfl, h3⟩; have H3 := Lib.hid h3; clear h3))
    generalize w2.heap.size = c at *
    go_loopw [22] (fun i wr => At1 w c fs i wr) (fun i _ => fs.length - (intOf i).toNat)
    case atStart => exact ⟨0, Nat.zero_le _, rfl, H3.out⟩
    case round =>
      obtain ⟨j, hj, rfl, hn⟩ := hrel
      by_cases hlt : j < fs.length
      · obtain ⟨b, off, rfl, hb, hfl⟩ : ∃ b off, ao = some ⟨b, off, none⟩ ∧ b < w.heap.size ∧ FldsAt w b off fs := by
          rcases HARG.out with h | h
          · subst h; simp at hlt
          · exact h
        obtain ⟨f, hf⟩ : ∃ f, fs[j]? = some f := ⟨_, List.getElem?_eq_getElem hlt⟩
        have hkb : Keeps (fun _ => False) w wr := by obtain ⟨d, g1, g2, g3⟩ := hn; exact g2
        obtain ⟨hfok, c0, c1, c2, c3⟩ := (hfl.keep hkb.toBelow hb) j f hf
        have hw := fun w0 (h : NewWr w c (wfold (fs.take j)) w0) => lwrite_new h f hfok.2.1.2 hfok.2.2.2
        rw [← wfold_take hf] at hw
        have HW := Lib.hid hw
        have HN := Lib.hid hn
        have HFL := Lib.hid hfl
        clear hw hn hfl hf hkb
        go_wp2_with (go_at_call 15; refine (HW.out _ (by exact HN.out.same ((Keeps.refl _ _).alloc _))).mono ?_; rintro e w6 ⟨rfl, h6⟩; have H6 := Lib.hid h6; clear h6)
        go_roundw
        case rel => exact ⟨j + 1, by omega, by go_num, H6.out⟩
        case measure => simp [intOf]; omega
      · have hjl : fs.take j = fs := List.take_of_length_le (by omega)
        rw [hjl] at hn
        have hby := bytes2 w wr c (wfold fs) hn
        by_cases h0 : (wfold fs).2 = 0
        · have hbl : Bits (wfold fs).1 ∧ (wfold fs).1.length ≤ 524288 := by obtain ⟨d, g1, _⟩ := hn; exact ⟨g1.bits h0, g1.1⟩
          obtain ⟨hbits, hlen⟩ := hbl
          have he : wbytes (wfold fs) = strB (pack (wfold fs).1) := by unfold wbytes; rw [if_neg (by simpa using h0)]
          have hround := fun j f (hf : fs[j]? = some f) => round_facts h0 hbits hf
          have hend := back_end hbits
          have hsz : (strB (pack (wfold fs).1)).size = nby (wfold fs).1.length := by rw [strB_size, pack_length]
          have hbi := fun w1 (h : NewWr w c (wfold fs) w1) => bits2 w w1 c (wfold fs) h
          rw [he, h0] at hby
          generalize strB (pack (wfold fs).1) = S at *
          have hpb := fun a w1 sr (h : Pair w a c S sr (wfold fs) w1) => pair_bits h
          obtain ⟨m, hm⟩ : ∃ m, m = (wfold fs).1.length := ⟨_, rfl⟩
          rw [← hm] at hsz hlen hbi hend hpb
          have hS8 : 8 * S.size < 8 * 65537 ∧ m ≤ 8 * S.size ∧ S.size = (m + 7) / 8 := by unfold nby at hsz; omega
          have hSs : S.size ≤ 65536 := by omega
          have hq : ((S.size : Int) != ((m : Int) + 7) / 8) = false := by
            have h1 : (S.size : Int) = ((m : Int) + 7) / 8 := by omega
            rw [h1]; simp
          have hm6 : m ≤ 600000 := by omega
          have HSZ := Lib.hid hS8
          have HRD := Lib.hid (fun w1 (h : NewWr w c (wfold fs) w1) => pair_reader (s := S) hSs h)
          have hS6 : S.size ≤ 70000 := by omega
          have HBY := Lib.hid hby
          have HBI := Lib.hid hbi
          have HEND := Lib.hid hend
          have HPB := Lib.hid hpb
          have HROUND := Lib.hid hround
          have HM := Lib.hid hm
          have HSS := Lib.hid hSs
          have HJL := Lib.hid hjl
          clear hby hbi hend hpb hround hm hjl hn he h0 hbits hlen hsz hS8 hSs
          go_wp2_with (first
            | (go_at_call 17; refine (HBY.out).mono ?_; rintro e w4 ⟨rfl, h4⟩; have H4 := Lib.hid h4; clear h4)
            | (go_at_call 19; refine (HBI.out _ H4.out).mono ?_; rintro e w5 ⟨rfl, h5⟩; have H5 := Lib.hid h5; clear h5)
            | (go_at_call 21; refine (HRD.out _ H5.out).mono ?_; rintro e w6 ⟨rfl, h6⟩; have H6 := Lib.hid h6; clear h6))
          generalize w5.heap.size = a at *
          clear hq
          go_loopw [52] (fun i wr => At2 w a c S fs i wr) (fun i _ => fs.length - (intOf i).toNat)
          case atStart => exact ⟨0, Nat.zero_le _, rfl, H6.out⟩
          case round =>
            obtain ⟨j2, hj2, rfl, hp⟩ := hrel
            by_cases hlt2 : j2 < fs.length
            · obtain ⟨b, off, rfl, hb, hfl⟩ : ∃ b off, ao = some ⟨b, off, none⟩ ∧ b < w.heap.size ∧ FldsAt w b off fs := by
                rcases HARG.out with h | h
                · subst h; simp at hlt2
                · exact h
              obtain ⟨f, hf⟩ : ∃ f, fs[j2]? = some f := ⟨_, List.getElem?_eq_getElem hlt2⟩
              obtain ⟨hfok, c0, c1, c2, c3⟩ := (hfl.keep hp.2.2.2.1.toBelow hb) j2 f hf
              have halt := hp.1.lt
              have HFL := Lib.hid hfl; clear hfl
              by_cases hk0 : f.kind < 0
              · rw [← skip_fact hf (Or.inl hk0)] at hp
                have HP := Lib.hid hp
                clear hp hf
                go_wp2
                go_roundw
                case rel => exact ⟨j2 + 1, by omega, by go_num, HP.out.same ((Keeps.refl _ _).alloc _)⟩
                case measure => simp [intOf]; omega
              by_cases hk3 : 3 < f.kind
              · rw [← skip_fact hf (Or.inr hk3)] at hp
                have HP := Lib.hid hp
                have hk0' : 0 ≤ f.kind := by omega
                clear hp hf hk0
                go_wp2
                go_roundw
                case rel => exact ⟨j2 + 1, by omega, by go_num, HP.out.same ((Keeps.refl _ _).alloc _)⟩
                case measure => simp [intOf]; omega
              obtain ⟨hrs, hsame⟩ := HROUND.out j2 f hf
              have hr := fun w0 (h : Pair w a c S ((wfold (fs.take j2)).1.length, 0) (wfold fs) w0) => pair_readK h f hfok
              rw [hrs] at hr
              generalize rdF S f ((wfold (fs.take j2)).1.length, 0) = x at *
              obtain ⟨s1, s2, s3⟩ := hsame
              have HP := Lib.hid hp
              obtain ⟨kk, wd, nn, tt⟩ := f
              dsimp only at hk0 hk3 s1 s2 s3 hr c0 c1 c2 c3
              clear hp hf hrs hfok
              rcases (show kk = 0 ∨ kk = 1 ∨ kk = 2 ∨ kk = 3 by omega) with rfl | rfl | rfl | rfl
              · rw [s1 (Or.inl rfl)] at hr
                have HR := Lib.hid hr
                clear hr s1 s2 s3 hk0 hk3
                go_wp2_with (first
                  | (go_at_call 23; refine (HR.out _ (by exact HP.out.same ((Keeps.refl _ _).alloc _))).mono ?_; rintro e w7 ⟨rfl, hr, hk⟩; obtain ⟨p0, p1, p2, p3, q0, q1, q2, q3⟩ := block4_cell (box_kept halt hk); have hz := lt_of_block (box_kept halt hk); have HR7 := Lib.hid hr; clear hr hk)
                  | (go_at_call 30; refine (pair_err HR7.out _).mono ?_; rintro e w8 ⟨rfl, rfl⟩))
                go_roundw
                case rel => exact ⟨j2 + 1, by omega, by go_num, HR7.out.same ((Keeps.refl _ _).alloc _)⟩
                case measure => simp [intOf]; omega
              · rw [s1 (Or.inr rfl)] at hr
                have HR := Lib.hid hr
                clear hr s1 s2 s3 hk0 hk3
                go_wp2_with (first
                  | (go_at_call 23; refine (HR.out _ (by exact HP.out.same ((Keeps.refl _ _).alloc _))).mono ?_; rintro e w7 ⟨rfl, hr, hk⟩; obtain ⟨p0, p1, p2, p3, q0, q1, q2, q3⟩ := block4_cell (box_kept halt hk); have hz := lt_of_block (box_kept halt hk); have HR7 := Lib.hid hr; clear hr hk)
                  | (go_at_call 30; refine (pair_err HR7.out _).mono ?_; rintro e w8 ⟨rfl, rfl⟩))
                go_roundw
                case rel => exact ⟨j2 + 1, by omega, by go_num, HR7.out.same ((Keeps.refl _ _).alloc _)⟩
                case measure => simp [intOf]; omega
              · rw [s2 rfl] at hr
                by_cases hn0 : nn = 0
                · subst hn0
                  rw [if_pos rfl] at hr
                  have HR := Lib.hid hr
                  clear hr s1 s2 s3 hk0 hk3
                  go_wp2_with (first
                    | (go_at_call 23; refine (HR.out _ (by exact HP.out.same ((Keeps.refl _ _).alloc _))).mono ?_; rintro e w7 ⟨rfl, hr, hk⟩; obtain ⟨p0, p1, p2, p3, q0, q1, q2, q3⟩ := block4_cell (box_kept halt hk); have hz := lt_of_block (box_kept halt hk); have HR7 := Lib.hid hr; clear hr hk)
                    | (go_at_call 30; refine (pair_err HR7.out _).mono ?_; rintro e w8 ⟨rfl, rfl⟩))
                  go_roundw
                  case rel => exact ⟨j2 + 1, by omega, by go_num, HR7.out.same ((Keeps.refl _ _).alloc _)⟩
                  case measure => simp [intOf]; omega
                · rw [if_neg hn0] at hr
                  have HR := Lib.hid hr
                  have hnn : (nn != 0) = true := by simpa using hn0
                  clear hr s1 s2 s3 hk0 hk3 hn0
                  go_wp2_with (first
                    | (go_at_call 23; refine (HR.out _ (by exact HP.out.same ((Keeps.refl _ _).alloc _))).mono ?_; rintro e w7 ⟨rfl, hr, hk⟩; obtain ⟨p0, p1, p2, p3, q0, q1, q2, q3⟩ := block4_cell (box_kept halt hk); have hz := lt_of_block (box_kept halt hk); have HR7 := Lib.hid hr; clear hr hk)
                    | (go_at_call 30; refine (pair_err HR7.out _).mono ?_; rintro e w8 ⟨rfl, rfl⟩))
                  go_roundw
                  case rel => exact ⟨j2 + 1, by omega, by go_num, HR7.out.same ((Keeps.refl _ _).alloc _)⟩
                  case measure => simp [intOf]; omega
              · rw [s3 rfl] at hr
                have HR := Lib.hid hr
                clear hr s1 s2 s3 hk0 hk3
                go_wp2_with (first
                  | (go_at_call 23; refine (HR.out _ (by exact HP.out.same ((Keeps.refl _ _).alloc _))).mono ?_; rintro e w7 ⟨rfl, hr, hk⟩; obtain ⟨p0, p1, p2, p3, q0, q1, q2, q3⟩ := block4_cell (box_kept halt hk); have hz := lt_of_block (box_kept halt hk); have HR7 := Lib.hid hr; clear hr hk)
                  | (go_at_call 30; refine (pair_err HR7.out _).mono ?_; rintro e w8 ⟨rfl, rfl⟩))
                go_roundw
                case rel => exact ⟨j2 + 1, by omega, by go_num, HR7.out.same ((Keeps.refl _ _).alloc _)⟩
                case measure => simp [intOf]; omega
            · have hj2l : fs.take j2 = fs := List.take_of_length_le (by omega)
              rw [hj2l, ← HM.out] at hp
              have hl2 := pair_left hp
              have e2 : (rleft S (m, 0) : Int) = 8 * (S.size : Int) - m := by
                unfold rleft; rw [if_pos rfl]; have := HSZ.out; dsimp only; omega
              rw [e2] at hl2
              have hc2 := fun w1 (h : Pair w a c S (m, 0) (wfold fs) w1) => pair_close h
              rw [HEND.out] at hc2
              have HL2 := Lib.hid hl2
              have HC2 := Lib.hid hc2
              clear hl2 hc2 e2 hp hj2l
              go_wp2_with (first
                | (go_at_call 28; refine (HL2.out).mono ?_; rintro e w7 ⟨rfl, h7⟩; have H7 := Lib.hid h7; clear h7)
                | (go_at_call 19; refine (HPB.out _ _ _ H7.out).mono ?_; rintro e w8 ⟨rfl, h8⟩; have H8 := Lib.hid h8; clear h8)
                | (go_at_call 32; refine (HC2.out _ H8.out).mono ?_; rintro e w9 ⟨rfl, h9⟩; have H9 := Lib.hid h9; clear h9))
              go_ret
              exact ⟨rfl, H9.out.2.2.2.1⟩
        · have he : wbytes (wfold fs) = ⟨#[]⟩ := by unfold wbytes; rw [if_pos h0]
          rw [he] at hby
          have hne : ((wfold fs).2 != 0) = true := by simpa using h0
          generalize wfold fs = st at *
          have HBY := Lib.hid hby
          clear hby he h0 hjl hn
          go_wp2_with (go_at_call 17; refine (HBY.out).mono ?_; rintro e w6 ⟨rfl, h6⟩; have H6 := Lib.hid h6; clear h6)
          go_ret
          obtain ⟨d, g1, g2, g3⟩ := H6.out
          exact ⟨rfl, g2⟩

open Go.ChangeShapes Go.WideShapes Go.ChangeAt
open Go.ChangeMaps (shut_string open_string)
theorem own : ownKnob Try.prog.godebug = none := by kernel_rfl

set_option maxRecDepth 100000 in
theorem lifted (os : Os) (started : os.Started) (H : Type) (enc : TypeId × Value → H) :
    ReturnsInHanded {} Try.checked os 5 .any (Rows.bitioBackSpec.pre6 enc Try.prog Try.f5 Rows.bitioBackRow.domain false) (Rows.bitioBackSpec.post enc Try.prog Try.f5 false true false false) := by
  refine returnsInHanded_of_change (C := Try.checked) own started (by kernel_rfl) Try.func5
    (ChangeSpec.witness6 (enc := enc) (C := Try.checked) false ⟨#[], #[.slice none 0 0], []⟩ 8 (by kernel_rfl) (by kernel_rfl) (by kernel_rfl) (by kernel_rfl)) ?_
  intro W base args ds gs before hval0 hW hcnd _
  have hval : ∀ (j : Nat) t v, Try.f5.params[j]? = some t → args[j]? = some v → Value.okWide Try.prog W .any base t v := hval0
  have hW' := hW
  obtain ⟨p, q, hA0, hV, rfl, hfz, hnd⟩ := hW
  have hA : DataW.TrodAll enc Try.prog W 0 (fun _ => true) true Try.f5.params.toList args.toList ds p := hA0
  rw [Try.params5] at hA hval
  obtain ⟨v1, vs1, d1, ds1, p1, q1, hargs, rfl, rfl, h1, r1⟩ := trodAll_cons hA
  obtain ⟨rfl, rfl, rfl⟩ := trodAll_nil r1
  obtain rfl : args = #[v1] := by cases args; simp_all
  obtain ⟨rfl, rfl⟩ := trodVars_none hV
  obtain ⟨ao, cap, fs, hv1, hl, hArg, hList⟩ := arg_of (hval 0 22 v1 rfl rfl) h1
  clear hA0 hval0
  simp only [List.append_nil] at hW'
  subst hv1
  have hlt : ∀ x ∈ p1, x.block < W.heap.size := fun x hx => by
    have := hW'.lt x hx
    simpa using this
  refine (walk ao cap fs hl W hList hArg).mono fun e W' ⟨he, hg⟩ => ?_
  subst he
  exact ⟨_, rfl, _, _, _, [], _, [], hW', trodAll_cons_mk (shut_bool Try.underlying4 _) trodAll_mk0,
    trodAll_cons_mk (Below.trod Try.laidOut (by kernel_rfl) (of_decide_eq_true (by kernel_rfl)) h1 (Keeps.toBelow hg) hlt) trodAll_mk0, rfl, (Keeps.toBelow hg).frame _, fun h => by cases h⟩

theorem over : Rows.bitioBackRow.holds Try.pinned (OpenSpec.ofChange Rows.bitioBackSpec) :=
  OpenClaim.holds_of_wide 5 Try.f5 rfl rfl rfl rfl rfl rfl rfl ⟨rfl, rfl, rfl, rfl, rfl⟩ rfl rfl rfl rfl rfl (by kernel_rfl) Try.func5 (by kernel_rfl)
    (of_decide_eq_true (by kernel_rfl)) (by unfold Func.isWrapper; first | (rw [if_pos (by decide +kernel)]; kernel_rfl) | (rw [if_neg (by decide +kernel)]; exact ⟨rfl, rfl⟩))
    (fun os started H enc _ => lifted os started H enc)

theorem proved : Rows.BitioBackSaid :=
  over
end bitioBack
end Go.Proofs.Ytckijojfhgeolaa
