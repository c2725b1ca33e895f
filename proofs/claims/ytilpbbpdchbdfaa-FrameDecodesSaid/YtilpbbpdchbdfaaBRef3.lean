
/- The reference reader: texts. -/
import Derived.Test.YtilpbbpdchbdfaaBRef2
namespace Go.Proofs.Ytilpbbpdchbdfaa.Bit
open Go.RowKit
set_option maxRecDepth 100000

/-- The text call of a reader that has failed, or whose limit is wrong. -/
theorem text2_bad (w : World) (a : Nat) (s : ByteArray) (st : Nat × Int) (h : Re2 w a s st) (most : Int) (hm : most ≤ 9223372036854775807) (hb : st.2 ≠ 0) :
    Calls Try.prog 49 #[.pointer (some ⟨a, 0, none⟩), .int .i64 most] w fun e w' => e = .returned (.string ⟨#[]⟩) ∧ ReTo2 w a s st w' := by
  obtain ⟨x, y, hc⟩ := h.block
  obtain ⟨k0, k1, k2, f0, f1, f2⟩ := block3_cell hc
  have H0 := (show (st.2 == 0) = false by simpa using hb)
  have H1 := (show (st.2 != 0) = true by simpa using hb)
  have HWC := Lib.hid (width2_any w most hm)
  have HG := Lib.hid (get2_bad w a s st h hb (wid most))
  have HH := Lib.hid h
  generalize wid most = wd at *
  clear hc h hb
  go_enter Try.func49, Try.ntmps49
  go_wp2_with (first | (go_at_call 73; refine (HWC.out).mono ?_; rintro e w1 ⟨rfl, rfl⟩) | (go_at_call 86; refine (HG.out).mono ?_; rintro e w1 ⟨rfl, rfl⟩))
  go_ret
  exact ⟨rfl, HH.out, Keeps.refl _ _⟩
theorem text2_limit (w : World) (a : Nat) (s : ByteArray) (k : Nat) (h : Re2 w a s (k, 0)) (most : Int) (hm : most ≤ 9223372036854775807) (hb : most < 1 ∨ 4095 < most) :
    Calls Try.prog 49 #[.pointer (some ⟨a, 0, none⟩), .int .i64 most] w fun e w' => e = .returned (.string ⟨#[]⟩) ∧ ReTo2 w a s (0, 1) w' := by
  obtain ⟨x, y, hc⟩ := h.block
  obtain ⟨k0, k1, k2, f0, f1, f2⟩ := block3_cell hc
  have HF := Lib.hid (fail2_any w a s (k, 0) h 1 (by decide))
  have HWC := Lib.hid (fun w1 => width2_any w1 most hm)
  generalize wid most = wd at *
  clear hc h
  rcases hb with hb | hb
  all_goals
    go_enter Try.func49, Try.ntmps49
    go_wp2_with (first | (go_at_call 85; refine (HF.out).mono ?_; rintro e w1 ⟨rfl, hf⟩; obtain ⟨x2, y2, hc2⟩ := hf.1.block; obtain ⟨k0', k1', k2', f0', f1', f2'⟩ := block3_cell hc2; clear hc2; have HR := Lib.hid hf; clear hf) | (go_at_call 73; refine (HWC.out _).mono ?_; rintro e w1 ⟨rfl, rfl⟩) | (go_at_call 86; refine (get2_bad _ a s (0, 1) HR.out.1 (by decide) wd).mono ?_; rintro e w1 ⟨rfl, rfl⟩))
    go_ret
    exact ⟨rfl, HR.out⟩

/-- Behind the length. -/
theorem text2_short (w : World) (a : Nat) (s : ByteArray) (st : Nat × Int) (h : Re2 w a s st) (most : Int) (h1 : 1 ≤ most) (h2 : most ≤ 4095) (hs0 : st.2 = 0) (hb : (rget s (wid most) st).1.2 ≠ 0) :
    Calls Try.prog 49 #[.pointer (some ⟨a, 0, none⟩), .int .i64 most] w fun e w' => e = .returned (.string ⟨#[]⟩) ∧ ReTo2 w a s (rget s (wid most) st).1 w' := by
  obtain ⟨x, y, hc⟩ := h.block
  obtain ⟨k0, k1, k2, f0, f1, f2⟩ := block3_cell hc
  rw [hs0] at k2
  have hg := get2_any w a s st h (wid most) (by have := (wid_text most h1 h2).2.1; omega)
  rw [rget_bad hb] at hg
  have HWC := Lib.hid (width2_any w most (by omega))
  generalize rget s (wid most) st = r at *
  generalize wid most = wd at *
  have H0 := (show (r.1.2 == 0) = false by simpa using hb)
  have H1 := (show (r.1.2 != 0) = true by simpa using hb)
  have HG := Lib.hid hg
  clear hc h hb hg hs0
  go_enter Try.func49, Try.ntmps49
  go_wp2_with (first | (go_at_call 73; refine (HWC.out).mono ?_; rintro e w1 ⟨rfl, rfl⟩) | (go_at_call 86; refine (HG.out).mono ?_; rintro e w1 ⟨rfl, hf⟩; obtain ⟨x2, y2, hc2⟩ := hf.1.block; obtain ⟨k0', k1', k2', f0', f1', f2'⟩ := block3_cell hc2; clear hc2; have HR := Lib.hid hf; clear hf))
  go_ret
  exact ⟨rfl, HR.out⟩

theorem text2_range (w : World) (a : Nat) (s : ByteArray) (st : Nat × Int) (h : Re2 w a s st) (most : Int) (h1 : 1 ≤ most) (h2 : most ≤ 4095) (hs0 : st.2 = 0) (q v : Nat) (hr : rget s (wid most) st = ((q, 0), v)) (hv : most < v) :
    Calls Try.prog 49 #[.pointer (some ⟨a, 0, none⟩), .int .i64 most] w fun e w' => e = .returned (.string ⟨#[]⟩) ∧ ReTo2 w a s (0, 2) w' := by
  obtain ⟨x, y, hc⟩ := h.block
  obtain ⟨k0, k1, k2, f0, f1, f2⟩ := block3_cell hc
  rw [hs0] at k2
  have hg := get2_any w a s st h (wid most) (by have := (wid_text most h1 h2).2.1; omega)
  rw [hr] at hg
  have HWC := Lib.hid (width2_any w most (by omega))
  generalize wid most = wd at *
  have HG := Lib.hid hg
  have hf2 : ∀ w1, Re2 w1 a s (q, 0) → Calls Try.prog 85 #[.pointer (some ⟨a, 0, none⟩), .int .i64 2] w1 fun e w' => e = .returned (.tuple #[]) ∧ ReTo2 w1 a s (0, 2) w' := fun w1 h => fail2_any w1 a s (q, 0) h 2 (by decide)
  have HF := Lib.hid hf2
  clear hc h hg hs0 hr hf2
  go_enter Try.func49, Try.ntmps49
  go_wp2_with (first | (go_at_call 73; refine (HWC.out).mono ?_; rintro e w1 ⟨rfl, rfl⟩) | (go_at_call 86; refine (HG.out).mono ?_; rintro e w1 ⟨rfl, hf⟩; obtain ⟨x2, y2, hc2⟩ := hf.1.block; obtain ⟨k0', k1', k2', f0', f1', f2'⟩ := block3_cell hc2; clear hc2; have HR := Lib.hid hf; clear hf) | (go_at_call 85; refine (HF.out _ HR.out.1).mono ?_; rintro e w2 ⟨rfl, hf3⟩; obtain ⟨x3, y3, hc3⟩ := hf3.1.block; obtain ⟨j0, j1, j2, g0, g1, g2⟩ := block3_cell hc3; clear hc3; have HR3 := Lib.hid hf3; clear hf3))
  go_ret
  exact ⟨rfl, HR3.out.1, HR.out.2.trans HR3.out.2 (fun _ h => h) (fun _ _ h => h)⟩
theorem text2_less (w : World) (a : Nat) (s : ByteArray) (st : Nat × Int) (h : Re2 w a s st) (most : Int) (h1 : 1 ≤ most) (h2 : most ≤ 4095) (hs0 : st.2 = 0) (q v : Nat) (hr : rget s (wid most) st = ((q, 0), v)) (hv : (v : Int) ≤ most) (hl : 8 * s.size - q < 8 * v) :
    Calls Try.prog 49 #[.pointer (some ⟨a, 0, none⟩), .int .i64 most] w fun e w' => e = .returned (.string ⟨#[]⟩) ∧ ReTo2 w a s (0, 9) w' := by
  obtain ⟨x, y, hc⟩ := h.block
  obtain ⟨k0, k1, k2, f0, f1, f2⟩ := block3_cell hc
  rw [hs0] at k2
  have hg := get2_any w a s st h (wid most) (by have := (wid_text most h1 h2).2.1; omega)
  rw [hr] at hg
  have HWC := Lib.hid (width2_any w most (by omega))
  generalize wid most = wd at *
  have HG := Lib.hid hg
  have hf2 : ∀ w1, Re2 w1 a s (q, 0) → Calls Try.prog 85 #[.pointer (some ⟨a, 0, none⟩), .int .i64 9] w1.drew fun e w' => e = .returned (.tuple #[]) ∧ ReTo2 w1.drew a s (0, 9) w' := fun w1 h => fail2_any w1.drew a s (q, 0) h 9 (by decide)
  have HF := Lib.hid hf2
  have hl2 : ∀ w1, Re2 w1 a s (q, 0) → Calls Try.prog 87 #[.pointer (some ⟨a, 0, none⟩)] w1 fun e w' => e = .returned (.int .i64 ((8 * s.size - q : Nat) : Int)) ∧ w' = w1.drew := fun w1 h => left2_any w1 a s (q, 0) h
  generalize 8 * s.size - q = m at *
  have HL := Lib.hid hl2
  clear hc h hg hs0 hr hf2 hl2
  go_enter Try.func49, Try.ntmps49
  go_wp2_with (first | (go_at_call 73; refine (HWC.out).mono ?_; rintro e w1 ⟨rfl, rfl⟩) | (go_at_call 86; refine (HG.out).mono ?_; rintro e w1 ⟨rfl, hf⟩; obtain ⟨x2, y2, hc2⟩ := hf.1.block; obtain ⟨k0', k1', k2', f0', f1', f2'⟩ := block3_cell hc2; clear hc2; have HR := Lib.hid hf; clear hf) | (go_at_call 87; refine (HL.out _ HR.out.1).mono ?_; rintro e w2 ⟨rfl, rfl⟩) | (go_at_call 85; refine (HF.out _ HR.out.1).mono ?_; rintro e w2 ⟨rfl, hf3⟩; obtain ⟨x3, y3, hc3⟩ := hf3.1.block; obtain ⟨j0, j1, j2, g0, g1, g2⟩ := block3_cell hc3; clear hc3; have HR3 := Lib.hid hf3; clear hf3))
  go_ret
  exact ⟨rfl, HR3.out.1, (HR.out.2.drew).trans HR3.out.2 (fun _ h => h) (fun _ _ h => h)⟩
end Go.Proofs.Ytilpbbpdchbdfaa.Bit
