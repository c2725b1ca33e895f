/- BitioReads: for every string and every list of fields the law returns true: a reader returns what the reference's reader returns, and leaves the same. No condition on the input. -/
import Derived.Test.YtckijojfhgeolaaRef4
import Derived.Test.YtckijojfhgeolaaArgs
namespace Go.Proofs.Ytckijojfhgeolaa
open Go.RowKit

/-- The reader and the reference's reader, which the call has made. -/
def Dup (w : World) (a c : Nat) (s : ByteArray) (st st2 : Nat × Int) (w1 : World) : Prop :=
  Re w1 a s st ∧ Re2 w1 c s st2 ∧ a ≠ c ∧ Keeps (fun _ => False) w w1 ∧ w.heap.size ≤ a ∧ w.heap.size ≤ c
theorem Dup.same {w w1 w2 : World} {a c : Nat} {s : ByteArray} {st st2 : Nat × Int} (h : Dup w a c s st st2 w1) (k : Keeps (fun _ => False) w1 w2) : Dup w a c s st st2 w2 := by
  obtain ⟨h1, h2, h4, h5, h6, h7⟩ := h
  exact ⟨h1.keep k (fun h => h), h2.keep k (fun h => h), h4, h5.trans k (fun _ h => h) (fun _ _ h => h), h6, h7⟩
theorem dup_new {w w1 : World} {a : Nat} {s : ByteArray} (hs : s.size ≤ 300) (h : NewRe w a s (0, 0) w1) : Calls Try.prog 22 #[.string s] w1 fun e w' => e = .returned (.pointer (some ⟨w1.heap.size, 0, none⟩)) ∧ Dup w a w1.heap.size s (0, 0) (0, 0) w' :=
  (newReader2_any w1 s hs).mono fun e w' ⟨he, hr, hk⟩ => ⟨he, by
    have hlt := h.1.lt
    have hsz := h.2.1.size
    exact ⟨h.1.keep hk (fun h => h), hr, by omega, h.2.1.trans hk (fun _ h => h) (fun _ _ h => h), h.2.2, hsz⟩⟩
/-- What a call leaves behind: the pair, and all that is neither of both. -/
def DupTo (w : World) (a c : Nat) (s : ByteArray) (st st2 : Nat × Int) (w0 w1 : World) : Prop := Dup w a c s st st2 w1 ∧ Keeps (fun i => i = a ∨ i = c) w0 w1
theorem dup_read {w w0 : World} {a c : Nat} {s : ByteArray} {st st2 : Nat × Int} (h : Dup w a c s st st2 w0) (f : Fld) (hf : f.ok) :
    Calls Try.prog 23 #[.pointer (some ⟨a, 0, none⟩), .agg #[.int .i64 f.kind, .int .i64 f.width, .int .i64 f.n, .string f.s]] w0 fun e w1 => e = .returned (.agg #[.int .i64 (rdF s f st).kind, .int .i64 (rdF s f st).width, .int .i64 (rdF s f st).n, .string (rdF s f st).s]) ∧ DupTo w a c s (rdSt s f st) st2 w0 w1 := by
  obtain ⟨h1, h2, h4, h5, h6, h7⟩ := h
  refine (lread_any w0 a s st h1 f hf).mono fun e w1 ⟨he, hr⟩ => ⟨he, ⟨hr.1, h2.keep hr.2 (by omega), h4, h5.trans hr.2 (fun _ h => h) ?_, h6, h7⟩, hr.2.mono fun _ _ h => Or.inl h⟩
  rintro i hi rfl; omega
theorem dup_ref {w w0 w1 : World} {a c : Nat} {s : ByteArray} {st st2 st3 : Nat × Int} (h : Dup w a c s st st2 w0) (hr : ReTo2 w0 c s st3 w1) : DupTo w a c s st st3 w0 w1 := by
  obtain ⟨h1, h2, h4, h5, h6, h7⟩ := h
  refine ⟨⟨h1.keep hr.2 (by omega), hr.1, h4, h5.trans hr.2 (fun _ h => h) ?_, h6, h7⟩, hr.2.mono fun _ _ h => Or.inr h⟩
  rintro i hi rfl; omega
theorem dup_left {w w0 : World} {a c : Nat} {s : ByteArray} {st st2 : Nat × Int} (h : Dup w a c s st st2 w0) :
    Calls Try.prog 28 #[.pointer (some ⟨a, 0, none⟩)] w0 fun e w1 => e = .returned (.int .i64 (rleft s st)) ∧ Dup w a c s st st2 w1 :=
  (rleft_any w0 a s st h.1).mono fun _ _ ⟨he, hk⟩ => ⟨he, hk ▸ h.same (Keeps.refl _ w0).drew⟩
theorem dup_left2 {w w0 : World} {a c : Nat} {s : ByteArray} {st st2 : Nat × Int} (h : Dup w a c s st st2 w0) :
    Calls Try.prog 29 #[.pointer (some ⟨c, 0, none⟩)] w0 fun e w1 => e = .returned (.int .i64 (rleft s st2)) ∧ Dup w a c s st st2 w1 :=
  (left2_any w0 c s st2 h.2.1).mono fun _ _ ⟨he, hk⟩ => ⟨he, hk ▸ h.same (Keeps.refl _ w0).drew⟩
theorem dup_err {w w0 : World} {a c : Nat} {s : ByteArray} {st st2 : Nat × Int} (h : Dup w a c s st st2 w0) :
    Calls Try.prog 30 #[.pointer (some ⟨a, 0, none⟩)] w0 fun e w1 => e = .returned (.int .i64 st.2) ∧ Dup w a c s st st2 w1 :=
  (rerr_any w0 a s st h.1).mono fun _ _ ⟨he, hk⟩ => ⟨he, hk ▸ h⟩
theorem dup_err2 {w w0 : World} {a c : Nat} {s : ByteArray} {st st2 : Nat × Int} (h : Dup w a c s st st2 w0) :
    Calls Try.prog 31 #[.pointer (some ⟨c, 0, none⟩)] w0 fun e w1 => e = .returned (.int .i64 st2.2) ∧ Dup w a c s st st2 w1 :=
  (err2_any w0 c s st2 h.2.1).mono fun _ _ ⟨he, hk⟩ => ⟨he, hk ▸ h⟩
theorem dup_close {w w0 : World} {a c : Nat} {s : ByteArray} {st st2 : Nat × Int} (h : Dup w a c s st st2 w0) :
    Calls Try.prog 32 #[.pointer (some ⟨a, 0, none⟩)] w0 fun e w1 => e = .returned (.int .i64 (rclose s st)) ∧ Dup w a c s st st2 w1 :=
  (rclose_any w0 a s st h.1).mono fun _ _ ⟨he, hk⟩ => ⟨he, h.same hk⟩
theorem dup_close2 {w w0 : World} {a c : Nat} {s : ByteArray} {st st2 : Nat × Int} (h : Dup w a c s st st2 w0) :
    Calls Try.prog 33 #[.pointer (some ⟨c, 0, none⟩)] w0 fun e w1 => e = .returned (.int .i64 (rclose s st2)) ∧ Dup w a c s st st2 w1 :=
  (close2_any w0 c s st2 h.2.1).mono fun _ _ ⟨he, hk⟩ => ⟨he, h.same hk⟩

theorem Re2.lt {w : World} {a : Nat} {s : ByteArray} {st : Nat × Int} (h : Re2 w a s st) : a < w.heap.size := by
  obtain ⟨x, y, h⟩ := h.block
  exact lt_of_block h

/-- The box of f behind read. -/
theorem dup_box {w wr w1 : World} {a c : Nat} {s : ByteArray} {st st2 : Nat × Int} {x y z u : Value} (ha : a < wr.heap.size) (hc : c < wr.heap.size) (h : DupTo w a c s st st2 (wr.alloc (.cells #[x, y, z, u] 30)) w1) :
    w1.heap[wr.heap.size]? = some (.cells #[x, y, z, u] 30 (0, 0)) := h.2.at (heap_alloc_new wr _) (by omega)
theorem dup_sizes {w wr w1 : World} {a c : Nat} {s : ByteArray} {st st2 : Nat × Int} {x y z u : Value} (ha : a < wr.heap.size) (hc : c < wr.heap.size) (h : DupTo w a c s st st2 (wr.alloc (.cells #[x, y, z, u] 30)) w1) :
    wr.heap.size < w1.heap.size ∧ a < w1.heap.size ∧ c < w1.heap.size ∧ (w1.heap.size + 1 ≠ a ∧ w1.heap.size + 1 ≠ c) ∧ w.heap.size ≤ w1.heap.size := by
  have h1 := lt_of_block (dup_box ha hc h)
  have h2 := h.1.2.2.2.1.size
  exact ⟨h1, by omega, by omega, by omega, h2⟩
/-- The two boxes behind the reference's call. -/
theorem dup_boxes {w w5 w6 : World} {a c : Nat} {s : ByteArray} {st st2 : Nat × Int} {x y z u x' y' z' u' : Value} (ha : a < w5.heap.size) (hc : c < w5.heap.size) (h : DupTo w a c s st st2 ((w5.alloc (.cells #[x, y, z, u] 30)).alloc (.cells #[x', y', z', u'] 30)) w6) :
    w6.heap[w5.heap.size]? = some (.cells #[x, y, z, u] 30 (0, 0)) ∧ w6.heap[w5.heap.size + 1]? = some (.cells #[x', y', z', u'] 30 (0, 0)) := by
  have h1 : ((w5.alloc (.cells #[x, y, z, u] 30)).alloc (.cells #[x', y', z', u'] 30)).heap[w5.heap.size]? = some (.cells #[x, y, z, u] 30 (0, 0)) := by
    rw [Below.heap_alloc _ _ _ (by simp)]; exact heap_alloc_new w5 _
  have h2 : ((w5.alloc (.cells #[x, y, z, u] 30)).alloc (.cells #[x', y', z', u'] 30)).heap[w5.heap.size + 1]? = some (.cells #[x', y', z', u'] 30 (0, 0)) := by
    have := heap_alloc_new (w5.alloc (.cells #[x, y, z, u] 30)) (.cells #[x', y', z', u'] 30)
    simpa using this
  exact ⟨h.2.at h1 (by omega), h.2.at h2 (by omega)⟩
theorem Dup.other {w w1 : World} {a c : Nat} {s : ByteArray} {st st2 : Nat × Int} (h : Dup w a c s st st2 w1) {p : Addr} (hp : p.block ≠ a ∧ p.block ≠ c) (hw : w.heap.size ≤ p.block) (u : Value) : Dup w a c s st st2 (w1.setCell p u) := by
  obtain ⟨h1, h2, h4, h5, h6, h7⟩ := h
  have k : Keeps (fun i => i = p.block) w1 (w1.setCell p u) := Keeps.setCell (S := fun i => i = p.block) (Keeps.refl _ w1) (p := p) (fun _ => rfl) u
  exact ⟨h1.keep k (fun e => hp.1 e.symm), h2.keep k (fun e => hp.2 e.symm), h4, h5.setCell (fun hh => by omega) u, h6, h7⟩
/-- Two stores into the box of what is wanted. -/
theorem DupE.store {w w0 w1 : World} {g a c : Nat} {s : ByteArray} {st st2 : Nat × Int} (hg : g + 1 ≠ a ∧ g + 1 ≠ c) (hw : w.heap.size ≤ g) (h : DupTo w a c s st st2 w0 w1) (o o' : Nat) (u u' : Value) :
    Dup w a c s st st2 ((w1.setCell ⟨g + 1, o, none⟩ u).setCell ⟨g + 1, o', none⟩ u') :=
  (h.1.other (p := ⟨g + 1, o, none⟩) hg (Nat.le_succ_of_le hw) u).other (p := ⟨g + 1, o', none⟩) hg (Nat.le_succ_of_le hw) u'

theorem DupE.store1 {w w0 w1 : World} {g a c : Nat} {s : ByteArray} {st st2 : Nat × Int} (hg : g + 1 ≠ a ∧ g + 1 ≠ c) (hw : w.heap.size ≤ g) (h : DupTo w a c s st st2 w0 w1) (o : Nat) (u : Value) :
    Dup w a c s st st2 (w1.setCell ⟨g + 1, o, none⟩ u) := h.1.other (p := ⟨g + 1, o, none⟩) hg (Nat.le_succ_of_le hw) u

namespace bitioReads
def At (w : World) (a c : Nat) (s : ByteArray) (fs : List Fld) (i : Value) (wr : World) : Prop :=
  ∃ (j : Nat) (st : Nat × Int), j ≤ fs.length ∧ i = .int .i64 j ∧ Dup w a c s st st wr

set_option maxRecDepth 100000 in
set_option maxHeartbeats 1600000 in
theorem walk (s : ByteArray) (hs : s.size ≤ 9223372036854775807) (ao : Option Addr) (cap : Nat) (fs : List Fld) (hl : fs.length ≤ 9223372036854775807) (w : World) (harg : ListAt w ao fs) (hA : Arg w (.slice ao fs.length cap) fs) :
    Calls Try.prog 4 #[.string s, .slice ao fs.length cap] w fun e w' => e = .returned (.bool true) ∧ WrSame w w' := by
  have hfew := fun w1 h => few_any w w1 h _ fs hA
  by_cases h300 : s.size ≤ 300
  · have h300' : (s.size : Int) ≤ 300 := by omega
    cases hfb : fewB fs with
    | false =>
      rw [hfb] at hfew
      have HF := Lib.hid hfew
      clear hfew hfb harg hA h300
      go_enter Try.func4, Try.ntmps4
      go_wp2_with (first
        | (go_at_call 11; refine (awake_any _).mono ?_; rintro e w1 ⟨rfl, h1⟩; have H1 := Lib.hid h1; clear h1)
        | (go_at_call 12; refine (HF.out _ H1.out).mono ?_; rintro e w2 ⟨rfl, h2⟩; have H2 := Lib.hid h2; clear h2))
      go_ret
      exact ⟨rfl, H2.out⟩
    | true =>
      rw [hfb] at hfew
      have HF := Lib.hid hfew
      have HARG := Lib.hid harg
      have HN := Lib.hid (fun w1 h => readerN w w1 s (by omega) h)
      have HN2 := Lib.hid (fun w1 a h => dup_new (w := w) (w1 := w1) (a := a) h300 h)
      clear hfew hfb harg hA h300
      go_enter Try.func4, Try.ntmps4
      go_wp2_with (first
        | (go_at_call 11; refine (awake_any _).mono ?_; rintro e w1 ⟨rfl, h1⟩; have H1 := Lib.hid h1; clear h1)
        | (go_at_call 12; refine (HF.out _ H1.out).mono ?_; rintro e w2 ⟨rfl, h2⟩; have H2 := Lib.hid h2; clear h2)
        | (go_at_call 21; refine (HN.out _ H2.out).mono ?_; rintro e w3 ⟨rfl, h3⟩; have H3 := Lib.hid h3; clear h3)
        | (go_at_call 22; refine (HN2.out _ _ H3.out).mono ?_; rintro e w4 ⟨rfl, h4⟩; have H4 := Lib.hid h4; clear h4))
      generalize w3.heap.size = c at *
      generalize w2.heap.size = a at *
      go_loopw [29] (fun i wr => At w a c s fs i wr) (fun i _ => fs.length - (intOf i).toNat)
      case atStart => exact ⟨0, (0, 0), Nat.zero_le _, rfl, H4.out⟩
      case round =>
        obtain ⟨j, st, hj, rfl, hp⟩ := hrel
        by_cases hlt : j < fs.length
        · obtain ⟨b, off, rfl, hb, hfl⟩ : ∃ b off, ao = some ⟨b, off, none⟩ ∧ b < w.heap.size ∧ FldsAt w b off fs := by
            rcases HARG.out with h | h
            · subst h; simp at hlt
            · exact h
          obtain ⟨f, hf⟩ : ∃ f, fs[j]? = some f := ⟨_, List.getElem?_eq_getElem hlt⟩
          obtain ⟨hfok, c0, c1, c2, c3⟩ := (hfl.keep hp.2.2.2.1.toBelow hb) j f hf
          have hr := fun w0 (h : Dup w a c s st st w0) => dup_read h f hfok
          have halt := hp.1.lt
          have hclt := hp.2.1.lt
          have HFL := Lib.hid hfl
          have HP := Lib.hid hp
          clear hfl hf hp
          obtain ⟨k, wd, n, tx⟩ := f
          dsimp only at c0 c1 c2 c3 hfok
          by_cases k0 : k = 0
          · subst k0
            have er : rdF s ⟨0, wd, n, tx⟩ st = ⟨0, wd, (rnum s 1 wd st).2, ⟨#[]⟩⟩ := rfl
            have es : rdSt s ⟨0, wd, n, tx⟩ st = (rnum s 1 wd st).1 := rfl
            rw [er, es] at hr
            have hu := fun w0 (h : Dup w a c s (rnum s 1 wd st).1 st w0) => (unsigned2_any w0 c s st h.2.1 wd).mono fun e w1 hh => And.imp_right (dup_ref h) hh
            dsimp only at hr
            generalize rnum s 1 wd st = r at *
            have HR := Lib.hid hr
            have HU := Lib.hid hu
            clear er es hr hu
            go_wp2_with (first
              | (go_at_call 23; refine (HR.out _ (by exact HP.out.same ((Keeps.refl _ _).alloc _))).mono ?_; rintro e w5 ⟨rfl, h5⟩; obtain ⟨p0, p1, p2, p3, q0, q1, q2, q3⟩ := block4_cell (dup_box halt hclt h5); obtain ⟨z1, z2, z3, z4, z5⟩ := dup_sizes halt hclt h5; have Z4 := Lib.hid z4; have Z5 := Lib.hid z5; clear z4 z5; have H5 := Lib.hid h5; clear h5)
              | (go_at_call 24; refine (HU.out _ (by exact H5.out.1.same (((Keeps.refl _ _).alloc _).alloc _))).mono ?_; rintro e w6 ⟨rfl, h6⟩; obtain ⟨b1, b2⟩ := dup_boxes z2 z3 h6; obtain ⟨x0, x1, x2, x3, y0, y1, y2, y3⟩ := block4_cell b1; obtain ⟨u0, u1, u2, u3, v0, v1, v2, v3⟩ := block4_cell b2; clear b1 b2; have H6 := Lib.hid (DupE.store Z4.out Z5.out h6); clear h6)
              | (go_at_call 28; refine (dup_left (by exact H6.out _ _ _ _)).mono ?_; rintro e w7 ⟨rfl, h7⟩; have H7 := Lib.hid h7; clear h7)
              | (go_at_call 29; refine (dup_left2 H7.out).mono ?_; rintro e w8 ⟨rfl, h8⟩; have H8 := Lib.hid h8; clear h8)
              | (go_at_call 30; refine (dup_err H8.out).mono ?_; rintro e w9 ⟨rfl, h9⟩; have H9 := Lib.hid h9; clear h9)
              | (go_at_call 31; refine (dup_err2 H9.out).mono ?_; rintro e w10 ⟨rfl, h10⟩; have H10 := Lib.hid h10; clear h10)
              | (go_at_call 32; refine (dup_close H10.out).mono ?_; rintro e w11 ⟨rfl, h11⟩; have H11 := Lib.hid h11; clear h11)
              | (go_at_call 33; refine (dup_close2 H11.out).mono ?_; rintro e w12 ⟨rfl, h12⟩; have H12 := Lib.hid h12; clear h12))
            go_roundw
            case rel => exact ⟨j + 1, r.1, by omega, by go_num, H12.out⟩
            case measure => simp [intOf]; omega
          by_cases k1 : k = 1
          · subst k1
            have er : rdF s ⟨1, wd, n, tx⟩ st = ⟨1, wd, (rsig s wd st).2, ⟨#[]⟩⟩ := rfl
            have es : rdSt s ⟨1, wd, n, tx⟩ st = (rsig s wd st).1 := rfl
            rw [er, es] at hr
            have hu := fun w0 (h : Dup w a c s (rsig s wd st).1 st w0) => (signed2_any w0 c s st h.2.1 wd).mono fun e w1 hh => And.imp_right (dup_ref h) hh
            dsimp only at hr
            generalize rsig s wd st = r at *
            have HR := Lib.hid hr
            have HU := Lib.hid hu
            clear er es hr hu
            go_wp2_with (first
              | (go_at_call 23; refine (HR.out _ (by exact HP.out.same ((Keeps.refl _ _).alloc _))).mono ?_; rintro e w5 ⟨rfl, h5⟩; obtain ⟨p0, p1, p2, p3, q0, q1, q2, q3⟩ := block4_cell (dup_box halt hclt h5); obtain ⟨z1, z2, z3, z4, z5⟩ := dup_sizes halt hclt h5; have Z4 := Lib.hid z4; have Z5 := Lib.hid z5; clear z4 z5; have H5 := Lib.hid h5; clear h5)
              | (go_at_call 25; refine (HU.out _ (by exact H5.out.1.same (((Keeps.refl _ _).alloc _).alloc _))).mono ?_; rintro e w6 ⟨rfl, h6⟩; obtain ⟨b1, b2⟩ := dup_boxes z2 z3 h6; obtain ⟨x0, x1, x2, x3, y0, y1, y2, y3⟩ := block4_cell b1; obtain ⟨u0, u1, u2, u3, v0, v1, v2, v3⟩ := block4_cell b2; clear b1 b2; have H6 := Lib.hid (DupE.store Z4.out Z5.out h6); clear h6)
              | (go_at_call 28; refine (dup_left (by exact H6.out _ _ _ _)).mono ?_; rintro e w7 ⟨rfl, h7⟩; have H7 := Lib.hid h7; clear h7)
              | (go_at_call 29; refine (dup_left2 H7.out).mono ?_; rintro e w8 ⟨rfl, h8⟩; have H8 := Lib.hid h8; clear h8)
              | (go_at_call 30; refine (dup_err H8.out).mono ?_; rintro e w9 ⟨rfl, h9⟩; have H9 := Lib.hid h9; clear h9)
              | (go_at_call 31; refine (dup_err2 H9.out).mono ?_; rintro e w10 ⟨rfl, h10⟩; have H10 := Lib.hid h10; clear h10)
              | (go_at_call 32; refine (dup_close H10.out).mono ?_; rintro e w11 ⟨rfl, h11⟩; have H11 := Lib.hid h11; clear h11)
              | (go_at_call 33; refine (dup_close2 H11.out).mono ?_; rintro e w12 ⟨rfl, h12⟩; have H12 := Lib.hid h12; clear h12))
            go_roundw
            case rel => exact ⟨j + 1, r.1, by omega, by go_num, H12.out⟩
            case measure => simp [intOf]; omega
          by_cases k3 : k = 3
          · subst k3
            have er : rdF s ⟨3, wd, n, tx⟩ st = ⟨3, wd, 0, (rtext s wd st).2⟩ := rfl
            have es : rdSt s ⟨3, wd, n, tx⟩ st = (rtext s wd st).1 := rfl
            rw [er, es] at hr
            have hu := fun w0 (h : Dup w a c s (rtext s wd st).1 st w0) => (text2_any w0 c s st h.2.1 wd hfok.2.1.2).mono fun e w1 hh => And.imp_right (dup_ref h) hh
            dsimp only at hr
            generalize rtext s wd st = r at *
            have HR := Lib.hid hr
            have HU := Lib.hid hu
            clear er es hr hu
            go_wp2_with (first
              | (go_at_call 23; refine (HR.out _ (by exact HP.out.same ((Keeps.refl _ _).alloc _))).mono ?_; rintro e w5 ⟨rfl, h5⟩; obtain ⟨p0, p1, p2, p3, q0, q1, q2, q3⟩ := block4_cell (dup_box halt hclt h5); obtain ⟨z1, z2, z3, z4, z5⟩ := dup_sizes halt hclt h5; have Z4 := Lib.hid z4; have Z5 := Lib.hid z5; clear z4 z5; have H5 := Lib.hid h5; clear h5)
              | (go_at_call 27; refine (HU.out _ (by exact H5.out.1.same (((Keeps.refl _ _).alloc _).alloc _))).mono ?_; rintro e w6 ⟨rfl, h6⟩; obtain ⟨b1, b2⟩ := dup_boxes z2 z3 h6; obtain ⟨x0, x1, x2, x3, y0, y1, y2, y3⟩ := block4_cell b1; obtain ⟨u0, u1, u2, u3, v0, v1, v2, v3⟩ := block4_cell b2; clear b1 b2; have H6 := Lib.hid (DupE.store Z4.out Z5.out h6); clear h6)
              | (go_at_call 28; refine (dup_left (by exact H6.out _ _ _ _)).mono ?_; rintro e w7 ⟨rfl, h7⟩; have H7 := Lib.hid h7; clear h7)
              | (go_at_call 29; refine (dup_left2 H7.out).mono ?_; rintro e w8 ⟨rfl, h8⟩; have H8 := Lib.hid h8; clear h8)
              | (go_at_call 30; refine (dup_err H8.out).mono ?_; rintro e w9 ⟨rfl, h9⟩; have H9 := Lib.hid h9; clear h9)
              | (go_at_call 31; refine (dup_err2 H9.out).mono ?_; rintro e w10 ⟨rfl, h10⟩; have H10 := Lib.hid h10; clear h10)
              | (go_at_call 32; refine (dup_close H10.out).mono ?_; rintro e w11 ⟨rfl, h11⟩; have H11 := Lib.hid h11; clear h11)
              | (go_at_call 33; refine (dup_close2 H11.out).mono ?_; rintro e w12 ⟨rfl, h12⟩; have H12 := Lib.hid h12; clear h12))
            go_roundw
            case rel => exact ⟨j + 1, r.1, by omega, by go_num, H12.out⟩
            case measure => simp [intOf]; omega
          by_cases k2 : k = 2
          · subst k2
            have er : rdF s ⟨2, wd, n, tx⟩ st = ⟨2, 0, if (rflag s st).2 then 1 else 0, ⟨#[]⟩⟩ := rfl
            have es : rdSt s ⟨2, wd, n, tx⟩ st = (rflag s st).1 := rfl
            rw [er, es] at hr
            have hu := fun w0 (h : Dup w a c s (rflag s st).1 st w0) => (flag2_any w0 c s st h.2.1).mono fun e w1 hh => And.imp_right (dup_ref h) hh
            dsimp only at hr
            generalize rflag s st = r at *
            obtain ⟨r1, rb⟩ := r
            cases rb
            all_goals
              dsimp only at hr hu
              simp only [if_true, if_false, Bool.false_eq_true] at hr
              have HR := Lib.hid hr
              have HU := Lib.hid hu
              clear er es hr hu
            · skip
              go_wp2_with (first
                | (go_at_call 23; refine (HR.out _ (by exact HP.out.same ((Keeps.refl _ _).alloc _))).mono ?_; rintro e w5 ⟨rfl, h5⟩; obtain ⟨p0, p1, p2, p3, q0, q1, q2, q3⟩ := block4_cell (dup_box halt hclt h5); obtain ⟨z1, z2, z3, z4, z5⟩ := dup_sizes halt hclt h5; have Z4 := Lib.hid z4; have Z5 := Lib.hid z5; clear z4 z5; have H5 := Lib.hid h5; clear h5)
                | (go_at_call 26; refine (HU.out _ (by exact H5.out.1.same (((Keeps.refl _ _).alloc _).alloc _))).mono ?_; rintro e w6 ⟨rfl, h6⟩; obtain ⟨b1, b2⟩ := dup_boxes z2 z3 h6; obtain ⟨x0, x1, x2, x3, y0, y1, y2, y3⟩ := block4_cell b1; obtain ⟨u0, u1, u2, u3, v0, v1, v2, v3⟩ := block4_cell b2; clear b1 b2; have H6 := Lib.hid (h6.1); clear h6)
                | (go_at_call 28; refine (dup_left (by exact H6.out)).mono ?_; rintro e w7 ⟨rfl, h7⟩; have H7 := Lib.hid h7; clear h7)
                | (go_at_call 29; refine (dup_left2 H7.out).mono ?_; rintro e w8 ⟨rfl, h8⟩; have H8 := Lib.hid h8; clear h8)
                | (go_at_call 30; refine (dup_err H8.out).mono ?_; rintro e w9 ⟨rfl, h9⟩; have H9 := Lib.hid h9; clear h9)
                | (go_at_call 31; refine (dup_err2 H9.out).mono ?_; rintro e w10 ⟨rfl, h10⟩; have H10 := Lib.hid h10; clear h10)
                | (go_at_call 32; refine (dup_close H10.out).mono ?_; rintro e w11 ⟨rfl, h11⟩; have H11 := Lib.hid h11; clear h11)
                | (go_at_call 33; refine (dup_close2 H11.out).mono ?_; rintro e w12 ⟨rfl, h12⟩; have H12 := Lib.hid h12; clear h12))
              go_roundw
              case rel => exact ⟨j + 1, r1, by omega, by go_num, H12.out⟩
              case measure => simp [intOf]; omega
            · skip
              go_wp2_with (first
                | (go_at_call 23; refine (HR.out _ (by exact HP.out.same ((Keeps.refl _ _).alloc _))).mono ?_; rintro e w5 ⟨rfl, h5⟩; obtain ⟨p0, p1, p2, p3, q0, q1, q2, q3⟩ := block4_cell (dup_box halt hclt h5); obtain ⟨z1, z2, z3, z4, z5⟩ := dup_sizes halt hclt h5; have Z4 := Lib.hid z4; have Z5 := Lib.hid z5; clear z4 z5; have H5 := Lib.hid h5; clear h5)
                | (go_at_call 26; refine (HU.out _ (by exact H5.out.1.same (((Keeps.refl _ _).alloc _).alloc _))).mono ?_; rintro e w6 ⟨rfl, h6⟩; obtain ⟨b1, b2⟩ := dup_boxes z2 z3 h6; obtain ⟨x0, x1, x2, x3, y0, y1, y2, y3⟩ := block4_cell b1; obtain ⟨u0, u1, u2, u3, v0, v1, v2, v3⟩ := block4_cell b2; clear b1 b2; have H6 := Lib.hid (DupE.store1 Z4.out Z5.out h6); clear h6)
                | (go_at_call 28; refine (dup_left (by exact H6.out _ _)).mono ?_; rintro e w7 ⟨rfl, h7⟩; have H7 := Lib.hid h7; clear h7)
                | (go_at_call 29; refine (dup_left2 H7.out).mono ?_; rintro e w8 ⟨rfl, h8⟩; have H8 := Lib.hid h8; clear h8)
                | (go_at_call 30; refine (dup_err H8.out).mono ?_; rintro e w9 ⟨rfl, h9⟩; have H9 := Lib.hid h9; clear h9)
                | (go_at_call 31; refine (dup_err2 H9.out).mono ?_; rintro e w10 ⟨rfl, h10⟩; have H10 := Lib.hid h10; clear h10)
                | (go_at_call 32; refine (dup_close H10.out).mono ?_; rintro e w11 ⟨rfl, h11⟩; have H11 := Lib.hid h11; clear h11)
                | (go_at_call 33; refine (dup_close2 H11.out).mono ?_; rintro e w12 ⟨rfl, h12⟩; have H12 := Lib.hid h12; clear h12))
              go_roundw
              case rel => exact ⟨j + 1, r1, by omega, by go_num, H12.out⟩
              case measure => simp [intOf]; omega
          have er : rdF s ⟨k, wd, n, tx⟩ st = ⟨k, wd, n, tx⟩ := by unfold rdF; rw [if_neg k0, if_neg k1, if_neg k2, if_neg k3]
          have es : rdSt s ⟨k, wd, n, tx⟩ st = st := by unfold rdSt; rw [if_neg k0, if_neg k1, if_neg k2, if_neg k3]
          rw [er, es] at hr
          dsimp only at hr
          have HR := Lib.hid hr
          have e0 : (k == 0) = false := by rw [beq_eq_false_iff_ne]; exact k0
          have e1 : (k == 1) = false := by rw [beq_eq_false_iff_ne]; exact k1
          have e2 : (k == 2) = false := by rw [beq_eq_false_iff_ne]; exact k2
          have e3 : (k == 3) = false := by rw [beq_eq_false_iff_ne]; exact k3
          clear er es hr k0 k1 k2 k3
          go_wp2_with (first
            | (go_at_call 23; refine (HR.out _ (by exact HP.out.same ((Keeps.refl _ _).alloc _))).mono ?_; rintro e w5 ⟨rfl, h5⟩; obtain ⟨p0, p1, p2, p3, q0, q1, q2, q3⟩ := block4_cell (dup_box halt hclt h5); obtain ⟨z1, z2, z3, z4, z5⟩ := dup_sizes halt hclt h5; have Z4 := Lib.hid z4; have Z5 := Lib.hid z5; clear z4 z5; have H5 := Lib.hid h5; clear h5)
            | (go_at_call 28; refine (dup_left (by exact H5.out.1.same (((Keeps.refl _ _).alloc _).alloc _))).mono ?_; rintro e w7 ⟨rfl, h7⟩; have H7 := Lib.hid h7; clear h7)
            | (go_at_call 29; refine (dup_left2 H7.out).mono ?_; rintro e w8 ⟨rfl, h8⟩; have H8 := Lib.hid h8; clear h8)
            | (go_at_call 30; refine (dup_err H8.out).mono ?_; rintro e w9 ⟨rfl, h9⟩; have H9 := Lib.hid h9; clear h9)
            | (go_at_call 31; refine (dup_err2 H9.out).mono ?_; rintro e w10 ⟨rfl, h10⟩; have H10 := Lib.hid h10; clear h10)
            | (go_at_call 32; refine (dup_close H10.out).mono ?_; rintro e w11 ⟨rfl, h11⟩; have H11 := Lib.hid h11; clear h11)
            | (go_at_call 33; refine (dup_close2 H11.out).mono ?_; rintro e w12 ⟨rfl, h12⟩; have H12 := Lib.hid h12; clear h12))
          go_roundw
          case rel => exact ⟨j + 1, st, by omega, by go_num, H12.out⟩
          case measure => simp [intOf]; omega
        · have HP := Lib.hid hp
          clear hp
          go_wp2_with (first
            | (go_at_call 28; refine (dup_left HP.out).mono ?_; rintro e w7 ⟨rfl, h7⟩; have H7 := Lib.hid h7; clear h7)
            | (go_at_call 29; refine (dup_left2 H7.out).mono ?_; rintro e w8 ⟨rfl, h8⟩; have H8 := Lib.hid h8; clear h8)
            | (go_at_call 32; refine (dup_close H8.out).mono ?_; rintro e w11 ⟨rfl, h11⟩; have H11 := Lib.hid h11; clear h11)
            | (go_at_call 33; refine (dup_close2 H11.out).mono ?_; rintro e w12 ⟨rfl, h12⟩; have H12 := Lib.hid h12; clear h12))
          go_ret
          exact ⟨by first | rfl | simp, H12.out.2.2.2.1⟩
  · have h300' : 300 < (s.size : Int) := by omega
    clear hfew harg hA h300
    go_enter Try.func4, Try.ntmps4
    go_wp2_with (go_at_call 11; refine (awake_any _).mono ?_; rintro e w1 ⟨rfl, h1⟩; have H1 := Lib.hid h1; clear h1)
    go_ret
    exact ⟨rfl, H1.out⟩
open Go.ChangeShapes Go.WideShapes Go.ChangeAt
open Go.ChangeMaps (shut_string open_string)
theorem own : ownKnob Try.prog.godebug = none := by kernel_rfl

set_option maxRecDepth 100000 in
theorem lifted (os : Os) (started : os.Started) (H : Type) (enc : TypeId × Value → H) :
    ReturnsInHanded {} Try.checked os 4 .any (Rows.bitioReadsSpec.pre6 enc Try.prog Try.f4 Rows.bitioReadsRow.domain false) (Rows.bitioReadsSpec.post enc Try.prog Try.f4 false true false false) := by
  refine returnsInHanded_of_change (C := Try.checked) own started (by kernel_rfl) Try.func4
    (ChangeSpec.witness6 (enc := enc) (C := Try.checked) false ⟨#[], #[.string ⟨#[]⟩, .slice none 0 0], []⟩ 8 (by kernel_rfl) (by kernel_rfl) (by kernel_rfl) (by kernel_rfl)) ?_
  intro W base args ds gs before hval0 hW hcnd _
  have hval : ∀ (j : Nat) t v, Try.f4.params[j]? = some t → args[j]? = some v → Value.okWide Try.prog W .any base t v := hval0
  have hW' := hW
  obtain ⟨p, q, hA0, hV, rfl, hfz, hnd⟩ := hW
  have hA : DataW.TrodAll enc Try.prog W 0 (fun _ => true) true Try.f4.params.toList args.toList ds p := hA0
  rw [Try.params4] at hA hval
  obtain ⟨v0, vs0, d0, ds0, p0, q0, hargs, rfl, rfl, h0, r0⟩ := trodAll_cons hA
  obtain ⟨v1, vs1, d1, ds1, p1, q1, rfl, rfl, rfl, h1, r1⟩ := trodAll_cons r0
  obtain ⟨rfl, rfl, rfl⟩ := trodAll_nil r1
  obtain rfl : args = #[v0, v1] := by cases args; simp_all
  obtain ⟨rfl, rfl⟩ := trodVars_none hV
  obtain ⟨s, rfl, rfl, rfl, hs⟩ := open_string Try.underlying9 (hval 0 9 v0 rfl rfl) h0
  obtain ⟨ao, cap, fs, hv1, hl, hArg, hList⟩ := arg_of (hval 1 22 v1 rfl rfl) h1
  clear hA0 hval0
  simp only [List.append_nil, List.nil_append] at hW'
  subst hv1
  have hlt : ∀ x ∈ p1, x.block < W.heap.size := fun x hx => by
    have := hW'.lt x hx
    simpa using this
  refine (walk s (by unfold maxLen at hs; omega) ao cap fs hl W hList hArg).mono fun e W' ⟨he, hg⟩ => ?_
  subst he
  exact ⟨_, rfl, _, _, _, [], _, [], hW', trodAll_cons_mk (shut_bool Try.underlying4 _) trodAll_mk0,
    trodAll_cons_mk (shut_string Try.underlying9 hs) (trodAll_cons_mk (Below.trod Try.laidOut (by kernel_rfl) (of_decide_eq_true (by kernel_rfl)) h1 (Keeps.toBelow hg) hlt) trodAll_mk0), rfl, (Keeps.toBelow hg).frame _, fun h => by cases h⟩

theorem over : Rows.bitioReadsRow.holds Try.pinned (OpenSpec.ofChange Rows.bitioReadsSpec) :=
  OpenClaim.holds_of_wide 4 Try.f4 rfl rfl rfl rfl rfl rfl rfl ⟨rfl, rfl, rfl, rfl, rfl⟩ rfl rfl rfl rfl rfl (by kernel_rfl) Try.func4 (by kernel_rfl)
    (of_decide_eq_true (by kernel_rfl)) (by unfold Func.isWrapper; first | (rw [if_pos (by decide +kernel)]; kernel_rfl) | (rw [if_neg (by decide +kernel)]; exact ⟨rfl, rfl⟩))
    (fun os started H enc _ => lifted os started H enc)

theorem proved : Rows.BitioReadsSaid :=
  over
end bitioReads
end Go.Proofs.Ytckijojfhgeolaa
