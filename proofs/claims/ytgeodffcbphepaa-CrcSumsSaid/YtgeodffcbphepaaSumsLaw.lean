/- CrcSums: for all strings, check sums and numbers of bytes the law returns true: Sum, Update and Combine return the check sums of the reference. No condition on the input. -/
import Derived.Test.YtgeodffcbphepaaField
import Derived.Deep.RegionHeld3
namespace Go.Proofs.Ytgeodffcbphepaa
open Go.RowKit
open Crc

namespace crcSums
theorem cell_kept {w w1 : World} (h : Same w w1) {p : Addr} {v : Value} (hc : w.cell? p = some v) : w1.cell? p = some v := by
  have hb := h.block p.block (World.block_lt_of_cell? w p hc)
  unfold World.cell? at hc ⊢
  rw [hb]; exact hc
theorem keep3 {w0 w w1 : World} {p q r : Addr} {x y z : Value} (h : w.cell? p = some x ∧ w.cell? q = some y ∧ w.cell? r = some z ∧ Same w0 w) (hs : Same w w1) :
    w1.cell? p = some x ∧ w1.cell? q = some y ∧ w1.cell? r = some z ∧ Same w0 w1 :=
  ⟨cell_kept hs h.1, cell_kept hs h.2.1, cell_kept hs h.2.2.1, h.2.2.2.trans hs⟩
set_option maxHeartbeats 1600000 in
theorem walk (d : ByteArray) (hd : d.size ≤ maxLen) (x y z : Int) (hx : 0 ≤ x ∧ x ≤ 65535) (hy : 0 ≤ y ∧ y ≤ 65535) (hz : -9223372036854775808 ≤ z ∧ z ≤ 9223372036854775807) (w : World) :
    Calls Try.prog 3 #[.string d, .agg #[.int .u16 x, .int .u16 y, .int .i64 z]] w fun e w' => e = .returned (.bool true) ∧ Same w w' := by
  by_cases ha : d.size ≤ 300
  · obtain ⟨a, rfl⟩ := Int.eq_ofNat_of_zero_le hx.1
    obtain ⟨b, rfl⟩ := Int.eq_ofNat_of_zero_le hy.1
    have c1 := fun w => sum_any d hd w
    have c2 := fun w => (sum2_any d hd w).mono (fun e w' ⟨he, hw⟩ => (⟨he, hw ▸ Same.refl w⟩ : e = Ending.returned (.int .u16 (U 0 d.data.toList : Nat)) ∧ Same w w'))
    have c3 := fun w => update_any a (by omega) d hd w
    have c4 := fun w => (update2_any a (by omega) d hd w).mono (fun e w' ⟨he, hw⟩ => (⟨he, hw ▸ Same.refl w⟩ : e = Ending.returned (.int .u16 (U a d.data.toList : Nat)) ∧ Same w w'))
    have c5 := fun w => (combine_any a b (by omega) (by omega) z hz.2 w).mono (fun e w' ⟨he, hw⟩ => (⟨he, Same.ofDrewN hw⟩ : e = Ending.returned (.int .u16 (comb a b z : Nat)) ∧ Same w w'))
    have c6 := fun w => (combine2_any a b (by omega) (by omega) z hz.2 w).mono (fun e w' ⟨he, hw⟩ => (⟨he, Same.ofDrewN hw⟩ : e = Ending.returned (.int .u16 (comb a b z : Nat)) ∧ Same w w'))
    have C1 := Lib.hid c1; clear c1
    have C2 := Lib.hid c2; clear c2
    have C3 := Lib.hid c3; clear c3
    have C4 := Lib.hid c4; clear c4
    have C5 := Lib.hid c5; clear c5
    have C6 := Lib.hid c6; clear c6
    clear hd hx hy hz
    go_enter Try.func3, Try.ntmps3
    go_wp2_with (go_at_call 11; refine (awake_any _).mono ?_; rintro e w1 ⟨rfl, h⟩; obtain ⟨k0, k1, k2, hs⟩ := box3 h; clear h)
    go_region_held3 (fun w' => w'.cell? ⟨w.heap.size, 0, none⟩ = some (.int .u16 (a : Int)) ∧ w'.cell? ⟨w.heap.size, 1, none⟩ = some (.int .u16 (b : Int)) ∧ w'.cell? ⟨w.heap.size, 2, none⟩ = some (.int .i64 z) ∧ Same w w')
      (first | exact ⟨k0, k1, k2, hs.drew⟩ | exact keep3 (by assumption) (by assumption))
      (first
        | (go_at_call 12; refine (C1.out _).mono ?_; rintro e w2 ⟨rfl, hw1⟩)
        | (go_at_call 13; refine (C2.out _).mono ?_; rintro e w2 ⟨rfl, hw1⟩)
        | (go_at_call 14; refine (C3.out _).mono ?_; rintro e w2 ⟨rfl, hw1⟩)
        | (go_at_call 15; refine (C4.out _).mono ?_; rintro e w2 ⟨rfl, hw1⟩)
        | (go_at_call 16; refine (C5.out _).mono ?_; rintro e w2 ⟨rfl, hw1⟩)
        | (go_at_call 17; refine (C6.out _).mono ?_; rintro e w2 ⟨rfl, hw1⟩))
    go_wp2
    go_ret
    exact ⟨rfl, (by assumption : _ ∧ _ ∧ _ ∧ Same w _).2.2.2⟩
  · unfold maxLen at hd
    go_enter Try.func3, Try.ntmps3
    go_wp2_with (go_at_call 11; refine (awake_any _).mono ?_; rintro e w1 ⟨rfl, h⟩; obtain ⟨k0, k1, k2, hs⟩ := box3 h; have H := Lib.hid hs; clear h hs)
    go_ret
    exact ⟨rfl, H.out⟩
open Go.ChangeShapes Go.WideShapes Go.ChangeAt
open Go.ChangeMaps (shut_string open_string)
theorem own : ownKnob Try.prog.godebug = none := by kernel_rfl

set_option maxRecDepth 100000 in
theorem lifted (os : Os) (started : os.Started) (H : Type) (enc : TypeId × Value → H) :
    ReturnsInHanded {} Try.checked os 3 .any (Rows.crcSumsSpec.pre6 enc Try.prog Try.f3 Rows.crcSumsRow.domain false) (Rows.crcSumsSpec.post enc Try.prog Try.f3 false true false false) := by
  refine returnsInHanded_of_change (C := Try.checked) own started (by kernel_rfl) Try.func3
    (ChangeSpec.witness6 (enc := enc) (C := Try.checked) false ⟨#[], #[.string ⟨#[]⟩, .agg #[.int .u16 0, .int .u16 0, .int .i64 0]], []⟩ 8 (by kernel_rfl) (by kernel_rfl) (by kernel_rfl) (by kernel_rfl)) ?_
  intro W base args ds gs before hval0 hW hcnd _
  have hval : ∀ (j : Nat) t v, Try.f3.params[j]? = some t → args[j]? = some v → Value.okWide Try.prog W .any base t v := hval0
  have hW' := hW
  obtain ⟨p, q, hA0, hV, rfl, hfz, hnd⟩ := hW
  have hA : DataW.TrodAll enc Try.prog W 0 (fun _ => true) true Try.f3.params.toList args.toList ds p := hA0
  rw [Try.params3] at hA hval
  obtain ⟨v0, vs0, d0, ds0, p0, q0, hargs, rfl, rfl, h0, r0⟩ := trodAll_cons hA
  obtain ⟨v1, vs1, d1, ds1, p1, q1, rfl, rfl, rfl, h1, r1⟩ := trodAll_cons r0
  obtain ⟨rfl, rfl, rfl⟩ := trodAll_nil r1
  obtain rfl : args = #[v0, v1] := by cases args; simp_all
  obtain ⟨rfl, rfl⟩ := trodVars_none hV
  obtain ⟨a0, rfl, rfl, rfl, w0⟩ := open_string Try.underlying9 (hval 0 9 v0 rfl rfl) h0
  obtain ⟨x1, y1, z1, rfl, bx1, be1, bz1⟩ := open_sums (hval 1 24 v1 rfl rfl) h1
  clear hA0 hval0
  try simp only [List.append_nil] at hW'
  try simp only [List.nil_append] at hW'
  have hlt : ∀ x ∈ p1, x.block < W.heap.size := fun x hx => by
    have := hW'.lt x (by simpa using hx)
    simpa using this
  refine (walk a0 w0 x1 y1 z1 bx1 be1 bz1 W).mono fun e W' ⟨he, hg⟩ => ?_
  subst he
  exact ⟨_, rfl, _, _, _, [], _, [], hW', trodAll_cons_mk (shut_bool Try.underlying4 _) trodAll_mk0, trodAll_cons_mk (shut_string Try.underlying9 w0) (trodAll_cons_mk (Below.trod Try.laidOut (by kernel_rfl) (of_decide_eq_true (by kernel_rfl)) h1 (Same.toBelow hg) (fun x hx => hlt x (by simp [hx]))) trodAll_mk0), rfl, (Same.toBelow hg).frame _, fun h => by cases h⟩

theorem over : Rows.crcSumsRow.holds Try.pinned (OpenSpec.ofChange Rows.crcSumsSpec) :=
  OpenClaim.holds_of_wide 3 Try.f3 rfl rfl rfl rfl rfl rfl rfl ⟨rfl, rfl, rfl, rfl, rfl⟩ rfl rfl rfl rfl rfl (by kernel_rfl) Try.func3 (by kernel_rfl)
    (of_decide_eq_true (by kernel_rfl)) (by unfold Func.isWrapper; first | (rw [if_pos (by decide +kernel)]; kernel_rfl) | (rw [if_neg (by decide +kernel)]; exact ⟨rfl, rfl⟩))
    (fun os started H enc _ => lifted os started H enc)

theorem proved : Rows.CrcSumsSaid :=
  over
end crcSums
end Go.Proofs.Ytgeodffcbphepaa
