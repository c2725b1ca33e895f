/- HopChannels: for every hopping list, slot and offsets, Check, Channel and Meet of the package hop return what those of the reference return. No conditions. -/
import Derived.Test.YtffanehmlbiemaaHArgs
import Derived.Deep.RegionHeld3
namespace Go.Proofs.Ytffanehmlbiemaa
open Go.RowKit Go.Deep

namespace hopChannels
theorem keepC {w0 w w1 w2 : World} {a b c d : Value} {g : Nat} (h : w1.cell? ⟨g, 0, none⟩ = some a ∧ w1.cell? ⟨g, 1, none⟩ = some b ∧ w1.cell? ⟨g, 2, none⟩ = some c ∧ w1.cell? ⟨g, 3, none⟩ = some d ∧ Same w0 w1 ∧ Same w w1) (k : Same w1 w2) : w2.cell? ⟨g, 0, none⟩ = some a ∧ w2.cell? ⟨g, 1, none⟩ = some b ∧ w2.cell? ⟨g, 2, none⟩ = some c ∧ w2.cell? ⟨g, 3, none⟩ = some d ∧ Same w0 w2 ∧ Same w w2 := ⟨k.cell h.1, k.cell h.2.1, k.cell h.2.2.1, k.cell h.2.2.2.1, h.2.2.2.2.1.trans k, h.2.2.2.2.2.trans k⟩
set_option maxHeartbeats 6400000 in
set_option maxRecDepth 100000 in
theorem early (w : World) (v f u : Int) (s : Value) (zs : List Int) (h : IL w s zs) (x y z : Int) (hl : 20 < zs.length) : Calls Try.prog 3 #[hopV v f u s, .agg #[.int .i64 x, .int .i64 y, .int .i64 z]] w fun e w' => e = .returned (.bool true) ∧ Same w w' := by
  have HAW := Lib.hid (fun w => hawake_any w)
  obtain ⟨ao, cap, rfl⟩ := h.shape
  clear h
  generalize zs.length = n at *
  have HS := Lib.hid (((Same.refl w).alloc (.cells #[.int .i64 v, .int .i64 f, .int .i64 u, .slice ao n cap] 24)).alloc (.cells #[.int .i64 x, .int .i64 y, .int .i64 z] 25))
  have c3 : ((w.alloc (.cells #[.int .i64 v, .int .i64 f, .int .i64 u, .slice ao n cap] 24)).alloc (.cells #[.int .i64 x, .int .i64 y, .int .i64 z] 25)).cell? ⟨w.heap.size, 3, none⟩ = some (.slice ao n cap) := by go_simp
  have hl' : (20 : Int) < (n : Int) := by omega
  go_enter Try.func3, Try.ntmps3
  go_wp2_with (go_at_call 11; (with_reducible refine (HAW.out _).mono ?_); rintro e w1 ⟨rfl, hw⟩; have d3 := hw.cell c3; have HW := Lib.hid (HS.out.trans hw); clear hw)
  go_ret
  exact ⟨rfl, HW.out⟩
set_option maxHeartbeats 6400000 in
set_option maxRecDepth 100000 in
theorem late (w : World) (v f u : Int) (s : Value) (zs : List Int) (h : IL w s zs) (x y z : Int) (hl : zs.length ≤ 20) : Calls Try.prog 3 #[hopV v f u s, .agg #[.int .i64 x, .int .i64 y, .int .i64 z]] w fun e w' => e = .returned (.bool true) ∧ Same w w' := by
  have HAW := Lib.hid (fun w => hawake_any w)
  have hc1 := fun (w1 : World) (hs : Same w w1) => Channel_any v f u s zs x y w1 (h.same hs) (by omega)
  have hc2 := fun (w1 : World) (hs : Same w w1) => Channel2_any v f u s zs x y w1 (h.same hs) (by omega)
  have hm1 := fun (w1 : World) (hs : Same w w1) => Meet_any v f u s zs x y z w1 (h.same hs) (by omega)
  have hm2 := fun (w1 : World) (hs : Same w w1) => Meet2_any v f u s zs x y z w1 (h.same hs) (by omega)
  have hk1 := fun (w1 : World) (hs : Same w w1) => Check_any v f u s zs w1 (h.same hs) (by omega)
  have hk2 := fun (w1 : World) (hs : Same w w1) => Check2_any v f u s zs w1 (h.same hs) (by omega)
  generalize chanS v f u zs x y = C at *
  generalize meetS v f u zs x y z = M at *
  generalize chkH v f u zs = K at *
  obtain ⟨cc, ce⟩ := C
  obtain ⟨mc, me⟩ := M
  simp only at hc1 hc2 hm1 hm2
  have HC1 := Lib.hid hc1; clear hc1
  have HC2 := Lib.hid hc2; clear hc2
  have HM1 := Lib.hid hm1; clear hm1
  have HM2 := Lib.hid hm2; clear hm2
  have HK1 := Lib.hid hk1; clear hk1
  have HK2 := Lib.hid hk2; clear hk2
  obtain ⟨ao, cap, rfl⟩ := h.shape
  clear h
  generalize zs.length = n at *
  have HS := Lib.hid (((Same.refl w).alloc (.cells #[.int .i64 v, .int .i64 f, .int .i64 u, .slice ao n cap] 24)).alloc (.cells #[.int .i64 x, .int .i64 y, .int .i64 z] 25))
  have HB := Lib.hid (fun (w1 : World) (hs : Same ((w.alloc (.cells #[.int .i64 v, .int .i64 f, .int .i64 u, .slice ao n cap] 24)).alloc (.cells #[.int .i64 x, .int .i64 y, .int .i64 z] 25)) w1) => (show w1.cell? ⟨w.heap.size, 0, none⟩ = some (.int .i64 v) ∧ w1.cell? ⟨w.heap.size, 1, none⟩ = some (.int .i64 f) ∧ w1.cell? ⟨w.heap.size, 2, none⟩ = some (.int .i64 u) ∧ w1.cell? ⟨w.heap.size, 3, none⟩ = some (.slice ao n cap) ∧ w1.cell? ⟨w.heap.size + 1, 0, none⟩ = some (.int .i64 x) ∧ w1.cell? ⟨w.heap.size + 1, 1, none⟩ = some (.int .i64 y) ∧ w1.cell? ⟨w.heap.size + 1, 2, none⟩ = some (.int .i64 z) from ⟨hs.cell (by go_simp), hs.cell (by go_simp), hs.cell (by go_simp), hs.cell (by go_simp), hs.cell (by go_simp), hs.cell (by go_simp), hs.cell (by go_simp)⟩))
  go_enter Try.func3, Try.ntmps3
  go_wp2_with (first
    | (go_at_call 11; (with_reducible refine (HAW.out _).mono ?_); rintro e w1 ⟨rfl, hw⟩; have HW1 := Lib.hid hw; obtain ⟨c0, c1, c2, c3, c4, c5, c6⟩ := HB.out _ hw; clear hw)
    | (go_at_call 12; (with_reducible refine (HC1.out _ (by exact HS.out.trans HW1.out)).mono ?_); rintro e w2 ⟨rfl, hw⟩; have HW2 := Lib.hid (HW1.out.trans hw); obtain ⟨d0, d1, d2, d3, d4, d5, d6⟩ := HB.out _ HW2.out; clear hw c0 c1 c2 c3 c4 c5 c6)
    | (go_at_call 13; (with_reducible refine (HC2.out _ (by exact HS.out.trans HW2.out)).mono ?_); rintro e w3 ⟨rfl, hw⟩; have HW3 := Lib.hid (HW2.out.trans hw); obtain ⟨c0, c1, c2, c3, c4, c5, c6⟩ := HB.out _ HW3.out; clear hw d0 d1 d2 d3 d4 d5 d6)
    | (go_at_call 14; (with_reducible refine (HM1.out _ (by exact HS.out.trans HW3.out)).mono ?_); rintro e w4 ⟨rfl, hw⟩; have HW4 := Lib.hid (HW3.out.trans hw); obtain ⟨d0, d1, d2, d3, d4, d5, d6⟩ := HB.out _ HW4.out; clear hw c0 c1 c2 c3 c4 c5 c6)
    | (go_at_call 15; (with_reducible refine (HM2.out _ (by exact HS.out.trans HW4.out)).mono ?_); rintro e w5 ⟨rfl, hw⟩; have HW5 := Lib.hid (HW4.out.trans hw); obtain ⟨c0, c1, c2, c3, c4, c5, c6⟩ := HB.out _ HW5.out; clear hw d0 d1 d2 d3 d4 d5 d6))
  have hs5 := (HS.out.trans HW5.out).drew
  have hr5 := (Same.refl w5).drew
  go_region_held3 (fun w' => w'.cell? ⟨w.heap.size, 0, none⟩ = some (.int .i64 v) ∧ w'.cell? ⟨w.heap.size, 1, none⟩ = some (.int .i64 f) ∧ w'.cell? ⟨w.heap.size, 2, none⟩ = some (.int .i64 u) ∧ w'.cell? ⟨w.heap.size, 3, none⟩ = some (.slice ao n cap) ∧ Same w w' ∧ Same w5 w')
    (first | exact ⟨c0, c1, c2, c3, hs5, hr5⟩ | exact keepC (by assumption) (by assumption) | assumption)
    (first
      | (go_at_call 16; refine (HK1.out _ (by first | exact hs5 | exact (by assumption : _ ∧ _ ∧ _ ∧ _ ∧ Same w _ ∧ _).2.2.2.2.1)).mono ?_; rintro e w6 ⟨rfl, hk6⟩)
      | (go_at_call 17; refine (HK2.out _ (by first | exact hs5 | exact (by assumption : _ ∧ _ ∧ _ ∧ _ ∧ Same w _ ∧ _).2.2.2.2.1)).mono ?_; rintro e w7 ⟨rfl, hk7⟩)
      | fail)
  have hfin := (by assumption : w7.cell? ⟨w.heap.size, 0, none⟩ = some (.int .i64 v) ∧ w7.cell? ⟨w.heap.size, 1, none⟩ = some (.int .i64 f) ∧ w7.cell? ⟨w.heap.size, 2, none⟩ = some (.int .i64 u) ∧ w7.cell? ⟨w.heap.size, 3, none⟩ = some (.slice ao n cap) ∧ Same w w7 ∧ Same w5 w7).2.2.2.2.1
  go_wp2
  go_ret
  exact ⟨rfl, hfin⟩
theorem walk (w : World) (v f u : Int) (s : Value) (zs : List Int) (_hv : i64 v) (_hf : i64 f) (_hu : i64 u) (h : IL w s zs) (x y z : Int) (_hx : i64 x) (_hy : i64 y) (_hz : i64 z) : Calls Try.prog 3 #[hopV v f u s, .agg #[.int .i64 x, .int .i64 y, .int .i64 z]] w fun e w' => e = .returned (.bool true) ∧ Same w w' := by
  by_cases hl : zs.length ≤ 20
  · exact late w v f u s zs h x y z hl
  · exact early w v f u s zs h x y z (by omega)
open Go.ChangeShapes Go.WideShapes Go.ChangeAt
theorem own : ownKnob Try.prog.godebug = none := by kernel_rfl

set_option maxRecDepth 100000 in
theorem lifted (os : Os) (started : os.Started) (H : Type) (enc : TypeId × Value → H) :
    ReturnsInHanded {} Try.checked os 3 .any (Rows.hopChannelsSpec.pre6 enc Try.prog Try.f3 Rows.hopChannelsRow.domain false) (Rows.hopChannelsSpec.post enc Try.prog Try.f3 false true false false) := by
  refine returnsInHanded_of_change (C := Try.checked) own started (by kernel_rfl) Try.func3
    (ChangeSpec.witness6 (enc := enc) (C := Try.checked) false ⟨#[], #[.agg #[.int .i64 0, .int .i64 0, .int .i64 0, .slice none 0 0], .agg #[.int .i64 0, .int .i64 0, .int .i64 0]], []⟩ 8 (by kernel_rfl) (by kernel_rfl) (by kernel_rfl) (by kernel_rfl)) ?_
  intro W base args ds gs before hval0 hW hcnd _
  have hval : ∀ (j : Nat) t v, Try.f3.params[j]? = some t → args[j]? = some v → Value.okWide Try.prog W .any base t v := hval0
  have hW' := hW
  obtain ⟨p, q, hA0, hV, rfl, hfz, hnd⟩ := hW
  have hA : DataW.TrodAll enc Try.prog W 0 (fun _ => true) true Try.f3.params.toList args.toList ds p := hA0
  rw [Try.params3] at hA hval
  obtain ⟨v0, vs0, d0, ds0, p0, q0, hargs, rfl, rfl, h0, r0⟩ := trodAll_cons hA
  obtain ⟨v1, vs1, d1, ds1, p1, q1, rfl, rfl, rfl, h1, r1⟩ := trodAll_cons r0
  obtain ⟨rfl, rfl, rfl⟩ := trodAll_nil r1
  obtain rfl : args = #[v0, v1] := by cases args; simp_all
  obtain ⟨rfl, rfl⟩ := trodVars_none hV
  obtain ⟨hv0, hf0, hu0, hs0, hz0, rfl, bv0, bf0, bu0, hl0⟩ := open_hop (hval 0 24 v0 rfl rfl) h0
  obtain ⟨x1, y1, z1, rfl, bx1, be1, bz1⟩ := open_a3 (hval 1 25 v1 rfl rfl) h1
  clear hA0 hval0
  try simp only [List.append_nil] at hW'
  try simp only [List.nil_append] at hW'
  have hlt : ∀ x ∈ p0 ++ p1, x.block < W.heap.size := fun x hx => by
    have := hW'.lt x (by simpa using hx)
    simpa using this
  refine (walk W hv0 hf0 hu0 hs0 hz0 bv0 bf0 bu0 hl0 x1 y1 z1 bx1 be1 bz1).mono fun e W' ⟨he, hg⟩ => ?_
  subst he
  exact ⟨_, rfl, _, _, _, [], _, [], hW', trodAll_cons_mk (shut_bool Try.underlying4 _) trodAll_mk0, trodAll_cons_mk (Below.trod Try.laidOut (by kernel_rfl) (of_decide_eq_true (by kernel_rfl)) h0 (Same.toBelow hg) (fun x hx => hlt x (by simp [hx]))) (trodAll_cons_mk (Below.trod Try.laidOut (by kernel_rfl) (of_decide_eq_true (by kernel_rfl)) h1 (Same.toBelow hg) (fun x hx => hlt x (by simp [hx]))) trodAll_mk0), rfl, (Same.toBelow hg).frame _, fun h => by cases h⟩

theorem over : Rows.hopChannelsRow.holds Try.pinned (OpenSpec.ofChange Rows.hopChannelsSpec) :=
  OpenClaim.holds_of_wide 3 Try.f3 rfl rfl rfl rfl rfl rfl rfl ⟨rfl, rfl, rfl, rfl, rfl⟩ rfl rfl rfl rfl rfl (by kernel_rfl) Try.func3 (by kernel_rfl)
    (of_decide_eq_true (by kernel_rfl)) (by unfold Func.isWrapper; first | (rw [if_pos (by decide +kernel)]; kernel_rfl) | (rw [if_neg (by decide +kernel)]; exact ⟨rfl, rfl⟩))
    (fun os started H enc _ => lifted os started H enc)

theorem proved : Rows.HopChannelsSaid :=
  over
end hopChannels
end Go.Proofs.Ytffanehmlbiemaa
