/- TimesyncCorrects: for all states, slots, times and differences the law returns true: Check, Measure, Hear, Acked and Synchronized return what the definitions specify, or the specified errors. No condition on the input. -/
import Derived.Test.YtbnaicgeblbkoaaKeeps
namespace Go.Proofs.Ytbnaicgeblbkoaa
open Go.RowKit

namespace timesyncCorrects
/-- The boxes of the law: a state and three numbers, and two results behind. -/
def E4 (w : World) (o d s c x y z : Int) (w' : World) : Prop :=
  Cy w o d s c w' ∧ w'.cell? ⟨w.heap.size + 1, 0, none⟩ = some (.int .i64 x) ∧ w'.cell? ⟨w.heap.size + 1, 1, none⟩ = some (.int .i64 y) ∧ w'.cell? ⟨w.heap.size + 1, 2, none⟩ = some (.int .i64 z)
theorem E4.keep {w w1 w2 : World} {o d s c x y z : Int} (h : E4 w o d s c x y z w1) (k : Same w1 w2) : E4 w o d s c x y z w2 := ⟨h.1.keep k, k.cell h.2.1, k.cell h.2.2.1, k.cell h.2.2.2⟩
theorem E4.new (w : World) (o d s c x y z : Int) : E4 w o d s c x y z ((w.alloc (.cells #[.int .i64 o, .int .i64 d, .int .i64 s, .int .i64 c] 25)).alloc (.cells #[.int .i64 x, .int .i64 y, .int .i64 z] 26)) :=
  ⟨(Cy.new w o d s c 25).keep ((Same.refl _).alloc _), by go_simp, by go_simp, by go_simp⟩
theorem E4.cells {w w1 : World} {o d s c x y z : Int} (h : E4 w o d s c x y z w1) :
    w1.cell? ⟨w.heap.size, 0, none⟩ = some (.int .i64 o) ∧ w1.cell? ⟨w.heap.size, 1, none⟩ = some (.int .i64 d) ∧ w1.cell? ⟨w.heap.size, 2, none⟩ = some (.int .i64 s) ∧ w1.cell? ⟨w.heap.size, 3, none⟩ = some (.int .i64 c) ∧
    w1.cell? ⟨w.heap.size + 1, 0, none⟩ = some (.int .i64 x) ∧ w1.cell? ⟨w.heap.size + 1, 1, none⟩ = some (.int .i64 y) ∧ w1.cell? ⟨w.heap.size + 1, 2, none⟩ = some (.int .i64 z) :=
  ⟨h.1.1, h.1.2.1, h.1.2.2.1, h.1.2.2.2.1, h.2⟩
abbrev Hold (w : World) (B0 B1 B2 B3 B4 : Nat) (o d s c a2 a3 a4 a5 a6 a7 a8 a9 : Int) (w' : World) : Prop := w'.cell? ⟨B0, 0, none⟩ = some (.int .i64 o) ∧ w'.cell? ⟨B0, 1, none⟩ = some (.int .i64 d) ∧ w'.cell? ⟨B0, 2, none⟩ = some (.int .i64 s) ∧ w'.cell? ⟨B0, 3, none⟩ = some (.int .i64 c) ∧ w'.cell? ⟨B1, 0, none⟩ = some (.int .i64 a2) ∧ w'.cell? ⟨B1, 1, none⟩ = some (.int .i64 a3) ∧ w'.cell? ⟨B1, 2, none⟩ = some (.int .i64 a4) ∧ w'.cell? ⟨B1, 3, none⟩ = some (.int .i64 a5) ∧ w'.cell? ⟨B2, 0, none⟩ = some (.int .i64 a2) ∧ w'.cell? ⟨B2, 1, none⟩ = some (.int .i64 a3) ∧ w'.cell? ⟨B2, 2, none⟩ = some (.int .i64 a4) ∧ w'.cell? ⟨B2, 3, none⟩ = some (.int .i64 a5) ∧ w'.cell? ⟨B3, 0, none⟩ = some (.int .i64 a6) ∧ w'.cell? ⟨B3, 1, none⟩ = some (.int .i64 a7) ∧ w'.cell? ⟨B3, 2, none⟩ = some (.int .i64 a8) ∧ w'.cell? ⟨B3, 3, none⟩ = some (.int .i64 a9) ∧ w'.cell? ⟨B4, 0, none⟩ = some (.int .i64 a6) ∧ w'.cell? ⟨B4, 1, none⟩ = some (.int .i64 a7) ∧ w'.cell? ⟨B4, 2, none⟩ = some (.int .i64 a8) ∧ w'.cell? ⟨B4, 3, none⟩ = some (.int .i64 a9) ∧ Same w w'
theorem Hold.keep {w w1 w2 : World} {B0 B1 B2 B3 B4 : Nat} {o d s c a2 a3 a4 a5 a6 a7 a8 a9 : Int} (h : Hold w B0 B1 B2 B3 B4 o d s c a2 a3 a4 a5 a6 a7 a8 a9 w1) (k : Same w1 w2) : Hold w B0 B1 B2 B3 B4 o d s c a2 a3 a4 a5 a6 a7 a8 a9 w2 := by
  obtain ⟨h0, h1, h2, h3, h4, h5, h6, h7, h8, h9, h10, h11, h12, h13, h14, h15, h16, h17, h18, h19, hh⟩ := h
  exact ⟨k.cell h0, k.cell h1, k.cell h2, k.cell h3, k.cell h4, k.cell h5, k.cell h6, k.cell h7, k.cell h8, k.cell h9, k.cell h10, k.cell h11, k.cell h12, k.cell h13, k.cell h14, k.cell h15, k.cell h16, k.cell h17, k.cell h18, k.cell h19, hh.trans k⟩
theorem Hold.same {w w1 : World} {B0 B1 B2 B3 B4 : Nat} {o d s c a2 a3 a4 a5 a6 a7 a8 a9 : Int} (h : Hold w B0 B1 B2 B3 B4 o d s c a2 a3 a4 a5 a6 a7 a8 a9 w1) : Same w w1 := by
  obtain ⟨_, _, _, _, _, _, _, _, _, _, _, _, _, _, _, _, _, _, _, _, hh⟩ := h
  exact hh
set_option maxHeartbeats 4000000 in
set_option maxRecDepth 100000 in
theorem walk (o d s c : Int) (_ : i64 o) (_ : i64 d) (_ : i64 s) (_ : i64 c) (n t k : Int) (hn : i64 n) (_ : i64 t) (_ : i64 k) (w : World) :
    Calls Try.prog 3 #[.agg #[.int .i64 o, .int .i64 d, .int .i64 s, .int .i64 c], .agg #[.int .i64 n, .int .i64 t, .int .i64 k]] w fun e w' => e = .returned (.bool true) ∧ Same w w' := by
  have HAW := Lib.hid (fun w => tawake_any w)
  have h1 := fun w => Measure_any o d n t w
  have h2 := fun w => Measure2_any o d n t w
  have h3 := fun w => Hear_any o d s c n t w
  have h4 := fun w => Hear2_any o d s c n t w
  have h5 := fun w => Acked_any o d s c n k w
  have h6 := fun w => Acked2_any o d s c n k w
  have h7 := fun w => tCheck_any o d s c w
  have h8 := fun w => tCheck2_any o d s c w
  have h9 := fun w => Synchronized_any o d s c n k hn.2 w
  have h10 := fun w => Synchronized2_any o d s c n k hn.2 w
  generalize meS o d n t = q1 at *
  generalize heS o d s c n t = q2 at *
  generalize acS o d s c n k = q3 at *
  generalize chkY o d s c = q4 at *
  generalize syS o d s c n k = q5 at *
  obtain ⟨a1, b1⟩ := q1
  obtain ⟨⟨a2, a3, a4, a5⟩, b2⟩ := q2
  obtain ⟨⟨a6, a7, a8, a9⟩, b3⟩ := q3
  have H1 := Lib.hid h1; clear h1
  have H2 := Lib.hid h2; clear h2
  have H3 := Lib.hid h3; clear h3
  have H4 := Lib.hid h4; clear h4
  have H5 := Lib.hid h5; clear h5
  have H6 := Lib.hid h6; clear h6
  have H7 := Lib.hid h7; clear h7
  have H8 := Lib.hid h8; clear h8
  have H9 := Lib.hid h9; clear h9
  have H10 := Lib.hid h10; clear h10 hn
  go_enter Try.func3, Try.ntmps3
  go_wp2_with (go_at_call 10; (with_reducible refine (HAW.out _).mono ?_); rintro e w1 ⟨rfl, hw⟩; have HB := Lib.hid ((E4.new w o d s c n t k).keep hw); clear hw; obtain ⟨k0, k1, k2, k3, k4, k5, k6⟩ := HB.out.cells)
  go_quiet (fail)
  go_wp2_with (first
    | (go_at_call 11; (with_reducible refine (H1.out _).mono ?_); rintro e w2 ⟨rfl, hw⟩; have HC := Lib.hid (HB.out.keep (((Same.refl _).drewN _).trans hw.toSame)); clear hw HB k0 k1 k2 k3 k4 k5 k6; obtain ⟨k0, k1, k2, k3, k4, k5, k6⟩ := HC.out.cells)
    | (go_at_call 12; (with_reducible refine (H2.out _).mono ?_); rintro e w2 ⟨rfl, hw⟩; have HD := Lib.hid (HC.out.keep hw.toSame); clear hw HC k0 k1 k2 k3 k4 k5 k6; obtain ⟨k0, k1, k2, k3, k4, k5, k6⟩ := HD.out.cells)
    | (go_at_call 13; (with_reducible refine (H3.out _).mono ?_); rintro e w3 ⟨rfl, hw⟩; have HE := Lib.hid (HD.out.keep (hw.alloc (sy4 a2 a3 a4 a5))); have HA1 := Lib.hid (Same.refl (w3.alloc (sy4 a2 a3 a4 a5))); clear hw HD k0 k1 k2 k3 k4 k5 k6; obtain ⟨k0, k1, k2, k3, k4, k5, k6⟩ := HE.out.cells)
    | (go_at_call 14; (with_reducible refine (H4.out _).mono ?_); rintro e w4 ⟨rfl, hw⟩; have HF := Lib.hid (HE.out.keep (hw.alloc (sy4 a2 a3 a4 a5))); have HA2 := Lib.hid (HA1.out.trans (hw.alloc (sy4 a2 a3 a4 a5))); have HB1 := Lib.hid (Same.refl (w4.alloc (sy4 a2 a3 a4 a5))); clear hw HE HA1 k0 k1 k2 k3 k4 k5 k6; obtain ⟨k0, k1, k2, k3, k4, k5, k6⟩ := HF.out.cells)
    | (go_at_call 15; (with_reducible refine (H5.out _).mono ?_); rintro e w5 ⟨rfl, hw⟩; have HG := Lib.hid (HF.out.keep (hw.alloc (sy4 a6 a7 a8 a9))); have HA3 := Lib.hid (HA2.out.trans (hw.alloc (sy4 a6 a7 a8 a9))); have HB2 := Lib.hid (HB1.out.trans (hw.alloc (sy4 a6 a7 a8 a9))); have HC1 := Lib.hid (Same.refl (w5.alloc (sy4 a6 a7 a8 a9))); clear hw HF HA2 HB1 k0 k1 k2 k3 k4 k5 k6; obtain ⟨k0, k1, k2, k3, k4, k5, k6⟩ := HG.out.cells)
    | (go_at_call 16; (with_reducible refine (H6.out _).mono ?_); rintro e w6 ⟨rfl, hw⟩; have HH := Lib.hid (HG.out.keep (hw.alloc (sy4 a6 a7 a8 a9))); have HA4 := Lib.hid (HA3.out.trans (hw.alloc (sy4 a6 a7 a8 a9))); have HB3 := Lib.hid (HB2.out.trans (hw.alloc (sy4 a6 a7 a8 a9))); have HC2 := Lib.hid (HC1.out.trans (hw.alloc (sy4 a6 a7 a8 a9))); have HD1 := Lib.hid (Same.refl (w6.alloc (sy4 a6 a7 a8 a9))); clear hw HG HA3 HB2 HC1 k0 k1 k2 k3 k4 k5 k6; obtain ⟨k0, k1, k2, k3, k4, k5, k6⟩ := HH.out.cells))
  obtain ⟨u0, u1, u2, u3⟩ := cells4 HA4.out
  obtain ⟨v0, v1, v2, v3⟩ := cells4 HB3.out
  obtain ⟨x0, x1, x2, x3⟩ := cells4 HC2.out
  obtain ⟨y0, y1, y2, y3⟩ := cells4 HD1.out
  have hS0 := HH.out.1.2.2.2.2
  clear k4 k5 k6 HH HA4 HB3 HC2 HD1 H1 H2 H3 H4 H5 H6
  go_region_held3 (fun w' => w'.cell? ⟨w.heap.size, 0, none⟩ = some (.int .i64 o) ∧ w'.cell? ⟨w.heap.size, 1, none⟩ = some (.int .i64 d) ∧ w'.cell? ⟨w.heap.size, 2, none⟩ = some (.int .i64 s) ∧ w'.cell? ⟨w.heap.size, 3, none⟩ = some (.int .i64 c) ∧ w'.cell? ⟨w3.heap.size, 0, none⟩ = some (.int .i64 a2) ∧ w'.cell? ⟨w3.heap.size, 1, none⟩ = some (.int .i64 a3) ∧ w'.cell? ⟨w3.heap.size, 2, none⟩ = some (.int .i64 a4) ∧ w'.cell? ⟨w3.heap.size, 3, none⟩ = some (.int .i64 a5) ∧ w'.cell? ⟨w4.heap.size, 0, none⟩ = some (.int .i64 a2) ∧ w'.cell? ⟨w4.heap.size, 1, none⟩ = some (.int .i64 a3) ∧ w'.cell? ⟨w4.heap.size, 2, none⟩ = some (.int .i64 a4) ∧ w'.cell? ⟨w4.heap.size, 3, none⟩ = some (.int .i64 a5) ∧ w'.cell? ⟨w5.heap.size, 0, none⟩ = some (.int .i64 a6) ∧ w'.cell? ⟨w5.heap.size, 1, none⟩ = some (.int .i64 a7) ∧ w'.cell? ⟨w5.heap.size, 2, none⟩ = some (.int .i64 a8) ∧ w'.cell? ⟨w5.heap.size, 3, none⟩ = some (.int .i64 a9) ∧ w'.cell? ⟨w6.heap.size, 0, none⟩ = some (.int .i64 a6) ∧ w'.cell? ⟨w6.heap.size, 1, none⟩ = some (.int .i64 a7) ∧ w'.cell? ⟨w6.heap.size, 2, none⟩ = some (.int .i64 a8) ∧ w'.cell? ⟨w6.heap.size, 3, none⟩ = some (.int .i64 a9) ∧ Same w w')
    (first
      | exact ⟨k0, k1, k2, k3, u0, u1, u2, u3, v0, v1, v2, v3, x0, x1, x2, x3, y0, y1, y2, y3, hS0.drew⟩
      | exact Hold.keep ⟨k0, k1, k2, k3, u0, u1, u2, u3, v0, v1, v2, v3, x0, x1, x2, x3, y0, y1, y2, y3, hS0.drew⟩ (by assumption)
      | exact Hold.keep (by assumption) (by assumption)
      | assumption)
    (first
      | (go_at_call 17; (with_reducible refine (H7.out _).mono ?_); rintro e w7 ⟨rfl, hw⟩; replace hw := hw.toSame)
      | (go_at_call 18; (with_reducible refine (H8.out _).mono ?_); rintro e w8 ⟨rfl, hw⟩; replace hw := hw.toSame)
      | (go_at_call 19; (with_reducible refine (H9.out _).mono ?_); rintro e w9 ⟨rfl, hw⟩; replace hw := hw.toSame)
      | (go_at_call 20; (with_reducible refine (H10.out _).mono ?_); rintro e w10 ⟨rfl, hw⟩; replace hw := hw.toSame)
      | fail)
  have hfin := Hold.same (by assumption : Hold w w.heap.size w3.heap.size w4.heap.size w5.heap.size w6.heap.size o d s c a2 a3 a4 a5 a6 a7 a8 a9 w10)
  have HF := Lib.hid hfin
  clear hfin
  go_wp2
  go_ret
  exact ⟨rfl, HF.out⟩
open Go.ChangeShapes Go.WideShapes Go.ChangeAt
theorem own : ownKnob Try.prog.godebug = none := by kernel_rfl

set_option maxRecDepth 100000 in
theorem lifted (os : Os) (started : os.Started) (H : Type) (enc : TypeId × Value → H) :
    ReturnsInHanded {} Try.checked os 3 .any (Rows.timesyncCorrectsSpec.pre6 enc Try.prog Try.f3 Rows.timesyncCorrectsRow.domain false) (Rows.timesyncCorrectsSpec.post enc Try.prog Try.f3 false true false false) := by
  refine returnsInHanded_of_change (C := Try.checked) own started (by kernel_rfl) Try.func3
    (ChangeSpec.witness6 (enc := enc) (C := Try.checked) false ⟨#[], #[.agg #[.int .i64 0, .int .i64 0, .int .i64 0, .int .i64 0], .agg #[.int .i64 0, .int .i64 0, .int .i64 0]], []⟩ 8 (by kernel_rfl) (by kernel_rfl) (by kernel_rfl) (by kernel_rfl)) ?_
  intro W base args ds gs before hval0 hW hcnd _
  have hval : ∀ (j : Nat) t v, Try.f3.params[j]? = some t → args[j]? = some v → Value.okWide Try.prog W .any base t v := hval0
  have hW' := hW
  obtain ⟨p, q, hA0, hV, rfl, hfz, hnd⟩ := hW
  have hA : DataW.TrodAll enc Try.prog W 0 (fun _ => true) true Try.f3.params.toList args.toList ds p := hA0
  rw [Try.params3] at hA hval
  obtain ⟨v0, vs0, d0, ds0, p0, q0, hargs, rfl, rfl, h0, r0⟩ := trodAll_cons hA
  obtain ⟨v1, vs1, d1, ds1, p1, q1, rfl, rfl, rfl, h1, r1⟩ := trodAll_cons r0
  obtain ⟨rfl, rfl, rfl⟩ := trodAll_nil r1
  obtain rfl : args = #[v0, v1] := by cases args; simp_all
  obtain ⟨rfl, rfl⟩ := trodVars_none hV
  obtain ⟨x0, y0, z0, u0, rfl, bx0, be0, bz0, bu0⟩ := open_synced (hval 0 25 v0 rfl rfl) h0
  obtain ⟨x1, y1, z1, rfl, bx1, be1, bz1⟩ := open_a3 (hval 1 26 v1 rfl rfl) h1
  clear hA0 hval0
  try simp only [List.append_nil] at hW'
  try simp only [List.nil_append] at hW'
  have hlt : ∀ x ∈ p0 ++ p1, x.block < W.heap.size := fun x hx => by
    have := hW'.lt x (by simpa using hx)
    simpa using this
  refine (walk x0 y0 z0 u0 bx0 be0 bz0 bu0 x1 y1 z1 bx1 be1 bz1 W).mono fun e W' ⟨he, hg⟩ => ?_
  subst he
  exact ⟨_, rfl, _, _, _, [], _, [], hW', trodAll_cons_mk (shut_bool Try.underlying4 _) trodAll_mk0, trodAll_cons_mk (Below.trod Try.laidOut (by kernel_rfl) (of_decide_eq_true (by kernel_rfl)) h0 (Same.toBelow hg) (fun x hx => hlt x (by simp [hx]))) (trodAll_cons_mk (Below.trod Try.laidOut (by kernel_rfl) (of_decide_eq_true (by kernel_rfl)) h1 (Same.toBelow hg) (fun x hx => hlt x (by simp [hx]))) trodAll_mk0), rfl, (Same.toBelow hg).frame _, fun h => by cases h⟩

theorem over : Rows.timesyncCorrectsRow.holds Try.pinned (OpenSpec.ofChange Rows.timesyncCorrectsSpec) :=
  OpenClaim.holds_of_wide 3 Try.f3 rfl rfl rfl rfl rfl rfl rfl ⟨rfl, rfl, rfl, rfl, rfl⟩ rfl rfl rfl rfl rfl (by kernel_rfl) Try.func3 (by kernel_rfl)
    (of_decide_eq_true (by kernel_rfl)) (by unfold Func.isWrapper; first | (rw [if_pos (by decide +kernel)]; kernel_rfl) | (rw [if_neg (by decide +kernel)]; exact ⟨rfl, rfl⟩))
    (fun os started H enc _ => lifted os started H enc)

theorem proved : Rows.TimesyncCorrectsSaid :=
  over
end timesyncCorrects
end Go.Proofs.Ytbnaicgeblbkoaa
