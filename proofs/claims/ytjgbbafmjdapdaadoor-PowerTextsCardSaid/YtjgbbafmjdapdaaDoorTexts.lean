/- PowerTexts: for all inputs the law returns true: Format and Parse are as the reference's, and what Format gives is parsed to at most the power. The condition: the tables and the error variable hold what the texts lay; the card ties it. -/
import Derived.Test.YtjgbbafmjdapdaaDoorTextC
import Derived.Test.YtjgbbafmjdapdaaDoorTextD
import Derived.Test.YtjgbbafmjdapdaaDoorLaid
import Derived.Lay
namespace Go.Proofs.YtjgbbafmjdapdaaDoor
open Go.RowKit

namespace powerTexts
theorem back : ∀ d, d ≤ 108 → parseS (num d ++ unitB).data.toList = ((lev d : Int), 0) := by decide +kernel
theorem fmt_size (p : Int) : (fmtS p).1.size ≤ 10 := by
  unfold fmtS
  split
  · show (num (dcb p) ++ unitB).size ≤ 10
    rw [ByteArray.size_append]
    have := num_size (dcb p)
    have : unitB.size = 3 := rfl
    omega
  · exact (by decide : 0 ≤ 10)
set_option linter.unusedVariables false in
theorem early (u : Int) (s : ByteArray) (hs : s.size ≤ maxLen) (h40 : 40 < s.size) (w : World) (ht : Tb w) :
    Calls Tryd.prog 5 #[.int .i64 u, .string s] w fun e w' => e = .returned (.bool true) ∧ Same w w' := by
  have HA := Lib.hid (awake_any w ht.dec)
  have h : (40 : Int) < (s.size : Int) := by omega
  unfold maxLen at hs
  clear ht h40
  go_enter Tryd.func5, Tryd.ntmps5
  go_wp2_with (go_at_call 11; with_reducible refine HA.out.mono ?_; rintro e w1 ⟨rfl, h⟩; have H := Lib.hid h; clear h)
  go_ret
  exact ⟨rfl, H.out⟩
theorem main (u : Int) (s : ByteArray) (hs : s.size ≤ 40) (w : World) (ht : Tb w) :
    Calls Tryd.prog 5 #[.int .i64 u, .string s] w fun e w' => e = .returned (.bool true) ∧ Same w w' := by
  have HA := Lib.hid (awake_any w ht.dec)
  have HF := Lib.hid (fun (w1 : World) (h : Same w w1) => format_any u w1 (ht.same h))
  have HF2 := Lib.hid (fun (w1 : World) => format2_any u w1)
  have HP := Lib.hid (fun (w1 : World) (h : Same w w1) => parse_any s (by omega) w1 (ht.same h))
  have HP2 := Lib.hid (fun (w1 : World) => parse2_any s (by omega) w1)
  have HQ := Lib.hid (fun (w1 : World) (h : Same w w1) => parse_any (fmtS u).1 (by have := fmt_size u; omega) w1 (ht.same h))
  have hsz := fmt_size u
  generalize hpv : parseS s.data.toList = pv at *
  clear hpv
  obtain ⟨p1, p2⟩ := pv
  by_cases h : Ok u
  · have hf : fmtS u = (num (dcb u) ++ unitB, 0) := if_pos h
    have hq : parseS (fmtS u).1.data.toList = ((lev (dcb u) : Int), 0) := by rw [hf]; exact back (dcb u) (dcb_le u)
    rw [hq] at HQ
    rw [hf] at HF HF2 HQ hsz
    have hlow := dcb_low u h.1
    have hsz2 : (num (dcb u) ++ unitB).size ≤ 10 := hsz
    clear hf hq h ht hsz
    generalize num (dcb u) ++ unitB = t at *
    generalize lev (dcb u) = lv at *
    go_enter Tryd.func5, Tryd.ntmps5
    go_wp2_with (first
      | (go_at_call 11; with_reducible refine HA.out.mono ?_; rintro e w1 ⟨rfl, h⟩; have H := Lib.hid h; clear h)
      | (go_at_call 27; with_reducible refine (HF.out _ (by exact H.out)).mono ?_; rintro e w2 ⟨rfl, h⟩; have H' := Lib.hid (H.out.trans h); clear h H; have H := H'; clear H')
      | (go_at_call 28; with_reducible refine (HF2.out _).mono ?_; rintro e w2 ⟨rfl, h⟩; have H' := Lib.hid (H.out.trans h); clear h H; have H := H'; clear H')
      | (go_at_call 29; with_reducible refine (HP.out _ (by exact H.out)).mono ?_; rintro e w2 ⟨rfl, h⟩; have H' := Lib.hid (H.out.trans h); clear h H; have H := H'; clear H')
      | (go_at_call 30; with_reducible refine (HP2.out _).mono ?_; rintro e w2 ⟨rfl, h⟩; have H' := Lib.hid (H.out.trans h); clear h H; have H := H'; clear H')
      | (go_at_call 29; with_reducible refine (HQ.out _ (by exact H.out)).mono ?_; rintro e w2 ⟨rfl, h⟩; have H' := Lib.hid (H.out.trans h); clear h H; have H := H'; clear H'))
    go_ret
    exact ⟨rfl, H.out⟩
  · have hf : fmtS u = (⟨#[]⟩, 2) := if_neg h
    rw [hf] at HF HF2
    clear hf h ht hsz HQ
    go_enter Tryd.func5, Tryd.ntmps5
    go_wp2_with (first
      | (go_at_call 11; with_reducible refine HA.out.mono ?_; rintro e w1 ⟨rfl, h⟩; have H := Lib.hid h; clear h)
      | (go_at_call 27; with_reducible refine (HF.out _ (by exact H.out)).mono ?_; rintro e w2 ⟨rfl, h⟩; have H' := Lib.hid (H.out.trans h); clear h H; have H := H'; clear H')
      | (go_at_call 28; with_reducible refine (HF2.out _).mono ?_; rintro e w2 ⟨rfl, h⟩; have H' := Lib.hid (H.out.trans h); clear h H; have H := H'; clear H')
      | (go_at_call 29; with_reducible refine (HP.out _ (by exact H.out)).mono ?_; rintro e w2 ⟨rfl, h⟩; have H' := Lib.hid (H.out.trans h); clear h H; have H := H'; clear H')
      | (go_at_call 30; with_reducible refine (HP2.out _).mono ?_; rintro e w2 ⟨rfl, h⟩; have H' := Lib.hid (H.out.trans h); clear h H; have H := H'; clear H'))
    go_ret
    exact ⟨rfl, H.out⟩
theorem walk (u : Int) (_hu : -9223372036854775808 ≤ u ∧ u ≤ 9223372036854775807) (s : ByteArray) (hs : s.size ≤ maxLen) (w : World) (ht : Tb w) :
    Calls Tryd.prog 5 #[.int .i64 u, .string s] w fun e w' => e = .returned (.bool true) ∧ Same w w' := by
  by_cases h : s.size ≤ 40
  · exact main u s h w ht
  · exact early u s hs (by omega) w ht
open Go.ChangeShapes Go.WideShapes Go.ChangeAt
def laidL : List (String × DataW Unit) := [("math/bits.deBruijn32tab", Rows.laid_math_bits_deBruijn32tab), ("math/bits.deBruijn64tab", Rows.laid_math_bits_deBruijn64tab), ("internal/strconv.uint64pow10", Rows.laid_internal_strconv_uint64pow10), ("unicode/utf8.acceptRanges", Rows.laid_unicode_utf8_acceptRanges), ("strconv.ErrRange", Rows.laid_strconv_ErrRange), ("strconv.ErrSyntax", Rows.laid_strconv_ErrSyntax), ("hopmesh/power.decade", Rows.laid_hopmesh_power_decade), ("unicode/utf8.first", Rows.laid_unicode_utf8_first)]
theorem star : "*" ++ "errors.errorString" = "*errors.errorString" := by decide
theorem rowE (u : TypeId) (h : Tryd.prog.typeName? 3 u = some "*errors.errorString") : u = 104 :=
  typeName_ptr_named (nm := "errors.errorString") (by rw [star]; kernel_rfl) (by kernel_rfl) (by decide) u (by rw [star]; exact h)
theorem of_laid {W : World} (h : laidMetH Tryd.prog laidL W) : Tb W := by
  rw [MakeChecks.laidMetH_plain _ _ _ (by kernel_rfl)] at h
  have h1 : laidMet Tryd.prog [("math/bits.deBruijn32tab", Rows.laid_math_bits_deBruijn32tab), ("math/bits.deBruijn64tab", Rows.laid_math_bits_deBruijn64tab), ("internal/strconv.uint64pow10", Lib.tabData .u64 Lib.pow10Tab), ("unicode/utf8.acceptRanges", Rows.laid_unicode_utf8_acceptRanges), ("strconv.ErrRange", Rows.laid_strconv_ErrRange), ("strconv.ErrSyntax", Rows.laid_strconv_ErrSyntax), ("hopmesh/power.decade", Lib.tabData .i64 decs), ("unicode/utf8.first", Rows.laid_unicode_utf8_first)] W := h
  have h3 := laidMet.tail (laidMet.tail h1)
  have h5 := laidMet.tail (laidMet.tail h3)
  have h7 := laidMet.tail (laidMet.tail h5)
  have ht := Lib.tabIs_of_head gDecade tDecade Tryd.underlying48 Tryd.underlying3 (by kernel_rfl) (by kernel_rfl) h7
  have hp := Lib.tabIs_of_head (show Tryd.prog.globalNamed "internal/strconv.uint64pow10" = some 3 by kernel_rfl) (show (Tryd.prog.globals[3]?).map (·.type) = some 97 by kernel_rfl) Tryd.underlying97 Tryd.underlying81 (by kernel_rfl) (by kernel_rfl) h3
  obtain ⟨a, s, hv, _⟩ := laid_sentinel h5 (show Tryd.prog.globalNamed "strconv.ErrRange" = some 2 by kernel_rfl) (show (Tryd.prog.globals[2]?).map (·.type) = some 58 by kernel_rfl) Tryd.underlying58 rowE Tryd.underlying104 Tryd.underlying106 rfl rfl Tryd.underlying9 (by kernel_rfl) (by kernel_rfl)
  refine ⟨?_, hp, ⟨_, _, hv⟩⟩
  intro i hi
  rw [ht.cell gDecade i hi]
  match i, hi with
  | 0, _ => rfl
  | 1, _ => rfl
  | 2, _ => rfl
  | 3, _ => rfl
  | 4, _ => rfl
  | 5, _ => rfl
  | 6, _ => rfl
  | 7, _ => rfl
  | 8, _ => rfl
  | 9, _ => rfl
  | n + 10, h => exact absurd h (by omega)
open Go.ChangeShapes Go.WideShapes Go.ChangeAt
open Go.ChangeMaps (shut_string open_string)
theorem own : ownKnob Tryd.prog.godebug = none := by kernel_rfl

set_option maxRecDepth 100000 in
theorem lifted (os : Os) (started : os.Started) (H : Type) (enc : TypeId × Value → H) :
    ReturnsInHanded {} Tryd.checked os 5 .any (fun w args => (Rows.powerTextsSpec.pre enc Tryd.prog Tryd.f5 [] false w args ∧ laidMetH Tryd.prog laidL w) ∧ sizedMet enc Tryd.prog Tryd.f5 (OpenSpec.ofChange Rows.powerTextsSpec) false w args) (Rows.powerTextsSpec.post enc Tryd.prog Tryd.f5 false true false false) := by
  refine returnsInHanded_of_change_and (C := Tryd.checked) (X := fun w _ => laidMetH Tryd.prog laidL w) (fun _ _ _ hh h => h.of_heap hh) own started (by kernel_rfl) Tryd.func5
    (ChangeSpec.witness_shaped (enc := enc) (C := Tryd.checked) (os := os) (X := fun w _ => laidMetH Tryd.prog laidL w) false (World.laidAll Tryd.prog os laidL) #[.int .i64 0, .string ⟨#[]⟩] 8 (World.laidAll_os _ _ _) (World.shaped_of_ZipB (by kernel_rfl) (by kernel_rfl)) (by kernel_rfl) (by kernel_rfl) (by kernel_rfl) (by rw [MakeChecks.laidMetH_plain _ _ _ (by kernel_rfl)]; exact laidMet_laidAll _ (by kernel_rfl) (by kernel_rfl))) ?_
  intro W base args ds gs before hval0 hW _ _ hL _
  have hval : ∀ (j : Nat) t v, Tryd.f5.params[j]? = some t → args[j]? = some v → Value.okWide Tryd.prog W .any base t v := hval0
  have hW' := hW
  obtain ⟨p, q, hA0, hV, rfl, hfz, hnd⟩ := hW
  have hA : DataW.TrodAll enc Tryd.prog W 0 (fun _ => true) true Tryd.f5.params.toList args.toList ds p := hA0
  rw [Tryd.params5] at hA hval
  obtain ⟨v0, vs0, d0, ds0, p0, q0, hargs, rfl, rfl, h0, r0⟩ := trodAll_cons hA
  obtain ⟨v1, vs1, d1, ds1, p1, q1, rfl, rfl, rfl, h1, r1⟩ := trodAll_cons r0
  obtain ⟨rfl, rfl, rfl⟩ := trodAll_nil r1
  obtain rfl : args = #[v0, v1] := by cases args; simp_all
  obtain ⟨rfl, rfl⟩ := trodVars_none hV
  obtain ⟨a0, rfl, rfl, rfl, w0⟩ := open_int Tryd.underlying3 (hval 0 3 v0 rfl rfl) h0
  obtain ⟨a1, rfl, rfl, rfl, w1⟩ := open_string Tryd.underlying9 (hval 1 9 v1 rfl rfl) h1
  clear hA0 hval0
  try simp only [List.append_nil] at hW'
  try simp only [List.nil_append] at hW'
  have ht := of_laid hL
  refine (walk a0 (bounds_i64 w0) a1 w1 W ht).mono fun e W' ⟨he, hg⟩ => ?_
  subst he
  exact ⟨_, rfl, _, _, _, [], _, [], hW', trodAll_cons_mk (shut_bool Tryd.underlying4 _) trodAll_mk0, trodAll_cons_mk (shut_int Tryd.underlying3 w0) (trodAll_cons_mk (shut_string Tryd.underlying9 w1) trodAll_mk0), rfl, (Same.toBelow hg).frame _, fun h => by cases h⟩

theorem row : Rows.PowerTextsSaid :=
  OpenClaim.holds_of_wide 5 Tryd.f5 rfl rfl rfl rfl rfl rfl rfl ⟨rfl, rfl, rfl, rfl, rfl⟩ rfl rfl rfl rfl rfl (by kernel_rfl) Tryd.func5 (by kernel_rfl)
    (of_decide_eq_true (by kernel_rfl)) (by unfold Func.isWrapper; first | (rw [if_pos (by decide +kernel)]; kernel_rfl) | (rw [if_neg (by decide +kernel)]; exact ⟨rfl, rfl⟩))
    (fun os started H enc _ => lifted os started H enc)

theorem proved : Rows.PowerTextsCardSaid :=
  Claim7.holds_tied_plain_at .later [] [.data, .data, .data, .data, .sentinel, .sentinel, .data, .pinned] true (true, "d6ae8d60838ff313198b094a43dac2e43326492e458907477987a915bcad92b0") true
    row (fun _ h => by cases h) (by kernel_rfl) (fun _ h => by cases h) powerTexts_row_tie rfl ⟨rfl, rfl⟩ (by kernel_rfl) rfl
    (fun f fn hf hfn => by
      obtain rfl : f = 5 := Option.some.inj ((show Tryd.prog.funcNamed "hopmesh/hopmeshlaw04.PowerTexts" = some 5 by kernel_rfl).symm.trans hf) |>.symm
      obtain rfl : fn = Tryd.f5 := (Option.some.inj (Tryd.func5.symm.trans hfn)).symm
      exact ⟨by kernel_rfl, fun j t ht => by
        rw [Tryd.params5] at ht
        have hm : t ∈ [3, 9] := by have hm0 := Array.mem_of_getElem? ht; simp at hm0 ⊢; omega
        have hall : ([3, 9].all fun u => !Tryd.prog.wantsStandIn u) = true := by kernel_rfl
        exact (show Tryd.prog.wantsStandIn t = false by simpa using List.all_eq_true.1 hall t hm)⟩)
    (by kernel_rfl)
end powerTexts
end Go.Proofs.YtjgbbafmjdapdaaDoor
