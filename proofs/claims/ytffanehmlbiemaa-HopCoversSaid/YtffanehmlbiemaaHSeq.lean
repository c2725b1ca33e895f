/- HopSequences: CheckAll and InForce return what the definitions specify, or the specified errors, for every list of lists and every slot. No conditions. -/
import Derived.Test.YtffanehmlbiemaaHArgs2
namespace Go.Proofs.Ytffanehmlbiemaa
open Go.RowKit Go.Deep

theorem forK_le {hs : List Hp} {slot : Int} (hz : ∀ i, (hs.getD i hp0).2.2.2.length ≤ 1000) : ∀ k, (forK hs slot k).1.2.2.2.length ≤ 1000
  | 0 => by show ([] : List Int).length ≤ 1000; simp
  | k + 1 => by
    unfold forK
    split
    · exact forK_le hz k
    · split
      · exact hz k
      · show ([] : List Int).length ≤ 1000; simp
theorem forS_le {hs : List Hp} {slot : Int} (hz : ∀ i, (hs.getD i hp0).2.2.2.length ≤ 1000) : (forS hs slot).1.2.2.2.length ≤ 1000 := by
  unfold forS
  split
  · exact forK_le hz _
  · show ([] : List Int).length ≤ 1000; simp
theorem fewB_of {hs : List Hp} (h : fewB hs = true) : hs.length ≤ 10 ∧ ∀ i, (hs.getD i hp0).2.2.2.length ≤ 1000 := by
  unfold fewB at h
  rw [Bool.and_eq_true, decide_eq_true_eq] at h
  refine ⟨by omega, fun i => ?_⟩
  by_cases hi : i < hs.length
  · have := h.2
    rw [Bool.not_eq_true', List.any_eq_false] at this
    have := this _ (hmem hs i hi)
    unfold longB at this
    simp only [decide_eq_true_eq] at this
    omega
  · rw [List.getD_eq_getElem?_getD, List.getElem?_eq_none (by omega)]
    show ([] : List Int).length ≤ 1000; simp
namespace hopSequences
theorem newH2 {w2 w4 : World} {x y z : Int} {ad : Option Addr} {n cap : Nat} {T : TypeId} (h : Same (w2.alloc (.cells #[.int .i64 x, .int .i64 y, .int .i64 z, .slice ad n cap] T)) w4) : w4.cell? ⟨w2.heap.size, 0, none⟩ = some (.int .i64 x) ∧ w4.cell? ⟨w2.heap.size, 1, none⟩ = some (.int .i64 y) ∧ w4.cell? ⟨w2.heap.size, 2, none⟩ = some (.int .i64 z) ∧ w4.cell? ⟨w2.heap.size, 3, none⟩ = some (.slice ad n cap) ∧
    w4.frozen? ⟨w2.heap.size, 0, none⟩ = false ∧ w4.frozen? ⟨w2.heap.size, 1, none⟩ = false ∧ w4.frozen? ⟨w2.heap.size, 2, none⟩ = false ∧ w4.frozen? ⟨w2.heap.size, 3, none⟩ = false :=
  rowH (h.heap (heap_alloc_new w2 _))
set_option maxHeartbeats 6400000 in
set_option maxRecDepth 100000 in
theorem walk (w : World) (v : Value) (hs : List Hp) (h : HL w v hs) (slot : Int) (_hs : -9223372036854775808 ≤ slot ∧ slot ≤ 9223372036854775807) : Calls Try.prog 4 #[v, .int .i64 slot] w fun e w' => e = .returned (.bool true) ∧ Same w w' := by
  have HAW := Lib.hid (fun w => hawake_any w)
  have hfw := fun (w1 : World) (q : Same w w1) => few_any w1 v hs (h.same q)
  by_cases hf : fewB hs = true
  · obtain ⟨hl, hz⟩ := fewB_of hf
    rw [hf] at hfw
    have HFW := Lib.hid hfw; clear hfw
    have HCP := Lib.hid (fun (w1 : World) (q : Same w w1) => cp_any w1 v hs (h.same q) (by omega) hz)
    have HIF := Lib.hid (fun (w1 : World) (x : Value) (q : HL w1 x hs) => InForce_any w1 x hs slot q hz (by omega))
    have HIG := Lib.hid (fun (w1 : World) (q : Same w w1) => InForce2_any w1 v hs slot (h.same q) hz (by omega))
    have HCA := Lib.hid (fun (w1 : World) (x : Value) (q : HL w1 x hs) => CheckAll_any w1 x hs q hz)
    have HCB := Lib.hid (fun (w1 : World) (q : Same w w1) => CheckAll2_any w1 v hs (h.same q) hz)
    have HLE := Lib.hid (forS_le (slot := slot) hz)
    obtain ⟨aV, cV, rfl⟩ := h.shape
    unfold ForceP at HIF HIG
    generalize forS hs slot = R at *
    obtain ⟨⟨R0, R1, R2, R3⟩, RE⟩ := R
    dsimp only at HLE HIF HIG
    clear h hz hf hl
    generalize allE hs = E at *
    generalize hs.length = n at *
    go_enter Try.func4, Try.ntmps4
    go_wp2_with (first
      | (go_at_call 11; (with_reducible refine (HAW.out _).mono ?_); rintro e w1 ⟨rfl, hw⟩; have HW1 := Lib.hid hw; clear hw)
      | (go_at_call 18; (with_reducible refine (HFW.out _ HW1.out).mono ?_); rintro e w2 ⟨rfl, hw⟩; have HW2 := Lib.hid (HW1.out.trans hw); clear hw)
      | (go_at_call 20; (with_reducible refine (HCP.out _ HW2.out).mono ?_); rintro e w3 ⟨u3, rfl, hL, hw⟩; have HW3 := Lib.hid (HW2.out.trans hw); have HL3 := Lib.hid hL; clear hw hL)
      | (go_at_call 19; (with_reducible refine (HIF.out _ _ HL3.out).mono ?_); rintro e w4 ⟨s4, rfl, hw, hL⟩; obtain ⟨a4, c4, he4⟩ := hL.shape; subst he4; have HL4 := Lib.hid hL; have HW4 := Lib.hid (HW3.out.trans hw); clear hw hL)
      | (go_at_call 21; (with_reducible refine (HIG.out _ (by exact HW4.out.alloc _)).mono ?_); rintro e w5 ⟨s5, rfl, hw, hL⟩; obtain ⟨a5, c5, he5⟩ := hL.shape; subst he5; have HL5 := Lib.hid hL; have HS5 := Lib.hid hw; clear hw hL)
      | (go_at_call 20; (with_reducible refine (HCP.out _ (by exact ((HW4.out.alloc _).trans HS5.out).alloc _)).mono ?_); rintro e w6 ⟨u6, rfl, hL, hw⟩; have HL6 := Lib.hid hL; have HS6 := Lib.hid hw; clear hw hL)
      | (go_at_call 22; (with_reducible refine (HCA.out _ _ HL6.out).mono ?_); rintro e w7 ⟨rfl, hw⟩; have HS7 := Lib.hid (HS6.out.trans hw); clear hw)
      | (go_at_call 23; (with_reducible refine (HCB.out _ (by exact (((HW4.out.alloc _).trans HS5.out).alloc _).trans HS7.out)).mono ?_); rintro e w8 ⟨rfl, hw⟩; have HS8 := Lib.hid (HS7.out.trans hw); obtain ⟨q0, q1, q2, q3, _⟩ := newH2 HS8.out; obtain ⟨p0, p1, p2, p3, _⟩ := newH2 (HS5.out.trans (((Same.refl _).alloc _).trans HS8.out)); clear hw)
      | (go_at_call 24; (with_reducible refine (Same2_any _ R0 R1 R2 _ _ R3 (HL4.out.same (((Same.refl _).alloc _).trans (HS5.out.trans (((Same.refl _).alloc _).trans HS8.out)))) (HL5.out.same (((Same.refl _).alloc _).trans HS8.out)) HLE.out).mono ?_); rintro e w9 ⟨rfl, hw⟩; have HS9 := Lib.hid (HS8.out.trans hw); clear hw)
      | fail)
    go_ret
    exact ⟨by first | rfl | simp, (((HW4.out.alloc _).trans HS5.out).alloc _).trans HS9.out⟩
  · have hf' : fewB hs = false := by simpa using hf
    rw [hf'] at hfw
    have HFW := Lib.hid hfw; clear hfw hf hf'
    obtain ⟨aV, cV, rfl⟩ := h.shape
    clear h
    generalize hs.length = n at *
    go_enter Try.func4, Try.ntmps4
    go_wp2_with (first
      | (go_at_call 11; (with_reducible refine (HAW.out _).mono ?_); rintro e w1 ⟨rfl, hw⟩; have HW1 := Lib.hid hw; clear hw)
      | (go_at_call 18; (with_reducible refine (HFW.out _ HW1.out).mono ?_); rintro e w2 ⟨rfl, hw⟩; have HW2 := Lib.hid (HW1.out.trans hw); clear hw))
    go_ret
    exact ⟨rfl, HW2.out⟩
open Go.ChangeShapes Go.WideShapes Go.ChangeAt
theorem own : ownKnob Try.prog.godebug = none := by kernel_rfl

set_option maxRecDepth 100000 in
theorem lifted (os : Os) (started : os.Started) (H : Type) (enc : TypeId × Value → H) :
    ReturnsInHanded {} Try.checked os 4 .any (Rows.hopSequencesSpec.pre6 enc Try.prog Try.f4 Rows.hopSequencesRow.domain false) (Rows.hopSequencesSpec.post enc Try.prog Try.f4 false true false false) := by
  refine returnsInHanded_of_change (C := Try.checked) own started (by kernel_rfl) Try.func4
    (ChangeSpec.witness6 (enc := enc) (C := Try.checked) false ⟨#[], #[.slice none 0 0, .int .i64 0], []⟩ 8 (by kernel_rfl) (by kernel_rfl) (by kernel_rfl) (by kernel_rfl)) ?_
  intro W base args ds gs before hval0 hW hcnd _
  have hval : ∀ (j : Nat) t v, Try.f4.params[j]? = some t → args[j]? = some v → Value.okWide Try.prog W .any base t v := hval0
  have hW' := hW
  obtain ⟨p, q, hA0, hV, rfl, hfz, hnd⟩ := hW
  have hA : DataW.TrodAll enc Try.prog W 0 (fun _ => true) true Try.f4.params.toList args.toList ds p := hA0
  rw [Try.params4] at hA hval
  obtain ⟨v0, vs0, d0, ds0, p0, q0, hargs, rfl, rfl, h0, r0⟩ := trodAll_cons hA
  obtain ⟨v1, vs1, d1, ds1, p1, q1, rfl, rfl, rfl, h1, r1⟩ := trodAll_cons r0
  obtain ⟨rfl, rfl, rfl⟩ := trodAll_nil r1
  obtain rfl : args = #[v0, v1] := by cases args; simp_all
  obtain ⟨rfl, rfl⟩ := trodVars_none hV
  obtain ⟨xs0, hx0⟩ := open_hops (hval 0 34 v0 rfl rfl) h0
  obtain ⟨a1, rfl, rfl, rfl, w1⟩ := open_int Try.underlying3 (hval 1 3 v1 rfl rfl) h1
  clear hA0 hval0
  try simp only [List.append_nil] at hW'
  try simp only [List.nil_append] at hW'
  have hlt : ∀ x ∈ p0, x.block < W.heap.size := fun x hx => by
    have := hW'.lt x (by simpa using hx)
    simpa using this
  refine (walk W v0 xs0 hx0 a1 (bounds_i64 w1)).mono fun e W' ⟨he, hg⟩ => ?_
  subst he
  exact ⟨_, rfl, _, _, _, [], _, [], hW', trodAll_cons_mk (shut_bool Try.underlying4 _) trodAll_mk0, trodAll_cons_mk (Below.trod Try.laidOut (by kernel_rfl) (of_decide_eq_true (by kernel_rfl)) h0 (Same.toBelow hg) (fun x hx => hlt x (by simp [hx]))) (trodAll_cons_mk (shut_int Try.underlying3 w1) trodAll_mk0), rfl, (Same.toBelow hg).frame _, fun h => by cases h⟩

theorem over : Rows.hopSequencesRow.holds Try.pinned (OpenSpec.ofChange Rows.hopSequencesSpec) :=
  OpenClaim.holds_of_wide 4 Try.f4 rfl rfl rfl rfl rfl rfl rfl ⟨rfl, rfl, rfl, rfl, rfl⟩ rfl rfl rfl rfl rfl (by kernel_rfl) Try.func4 (by kernel_rfl)
    (of_decide_eq_true (by kernel_rfl)) (by unfold Func.isWrapper; first | (rw [if_pos (by decide +kernel)]; kernel_rfl) | (rw [if_neg (by decide +kernel)]; exact ⟨rfl, rfl⟩))
    (fun os started H enc _ => lifted os started H enc)

theorem proved : Rows.HopSequencesSaid :=
  over
end hopSequences
end Go.Proofs.Ytffanehmlbiemaa
