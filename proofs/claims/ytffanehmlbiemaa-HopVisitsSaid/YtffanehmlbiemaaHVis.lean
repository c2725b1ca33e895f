/- HopVisits: for every hopping list, slot and offset, in as many slots as the list has channels the offset has each channel once, and then the first one again, as long as the list is in force. No conditions. -/
import Derived.Test.YtffanehmlbiemaaHDiff
namespace Go.Proofs.Ytffanehmlbiemaa
open Go.RowKit

namespace hopVisits
/-- The channel of an offset k slots later. -/
def vch (zs : List Int) (slot off : Int) (k : Nat) : Int := gch zs (slot + off) k
theorem chan_vch {v f u : Int} {zs : List Int} {slot off : Int} {k : Nat} (h : (chanS v f u zs (slot + (k : Int)) off).2 = 0) : (chanS v f u zs (slot + (k : Int)) off).1 = vch zs slot off k ∧ diffB zs = true := by
  unfold chanS at h ⊢
  by_cases h1 : hopB v f u zs = true
  · rw [if_pos h1] at h ⊢
    by_cases h2 : forceB (slot + (k : Int)) f u = true
    · rw [if_pos h2] at h ⊢
      by_cases h3 : 0 ≤ off ∧ off < (zs.length : Int)
      · rw [if_pos h3]
        refine ⟨?_, (chsB_of (hopB_of h1).2.2.2.2).2.2⟩
        show zs.getD ((slot + (k : Int) + off) % (zs.length : Int)).toNat 0 = zs.getD ((slot + off + (k : Int)) % (zs.length : Int)).toNat 0
        rw [show slot + (k : Int) + off = slot + off + (k : Int) by omega]
      · rw [if_neg h3] at h; exact absurd h (by decide)
    · rw [if_neg h2] at h; exact absurd h (by decide)
  · rw [if_neg h1] at h; exact absurd h (by decide)
theorem vch_again (zs : List Int) (slot off : Int) : vch zs slot off zs.length = vch zs slot off 0 := by
  unfold vch gch
  rw [show slot + off + ((0 : Nat) : Int) = slot + off by omega]
  rw [Int.add_emod_right]
set_option maxHeartbeats 6400000 in
set_option maxRecDepth 100000 in
theorem early (w : World) (v f u : Int) (s : Value) (zs : List Int) (h : IL w s zs) (slot off : Int) (hl : 20 < zs.length ∨ (zs.length ≤ 20 ∧ slot < 0) ∨ (zs.length ≤ 20 ∧ 0 ≤ slot ∧ 1099511627776 < slot)) : Calls Try.prog 7 #[hopV v f u s, .int .i64 slot, .int .i64 off] w fun e w' => e = .returned (.bool true) ∧ Same w w' := by
  have HAW := Lib.hid (fun w => hawake_any w)
  obtain ⟨ao, cap, rfl⟩ := h.shape
  clear h
  have HS := Lib.hid ((Same.refl w).alloc (.cells #[.int .i64 v, .int .i64 f, .int .i64 u, .slice ao zs.length cap] 24))
  have HB := Lib.hid (fun (w1 : World) (hs : Same (w.alloc (.cells #[.int .i64 v, .int .i64 f, .int .i64 u, .slice ao zs.length cap] 24)) w1) => hopDiffers.box hs)
  generalize zs.length = n at *
  rcases hl with hl | ⟨hl, hb⟩ | ⟨hl, hb, hb2⟩
  · have hl' : (20 : Int) < (n : Int) := by omega
    go_enter Try.func7, Try.ntmps7
    go_wp2_with (go_at_call 11; (with_reducible refine (HAW.out _).mono ?_); rintro e w1 ⟨rfl, hw⟩; obtain ⟨c0, c1, c2, c3⟩ := HB.out _ hw; have HW := Lib.hid (HS.out.trans hw); clear hw)
    go_ret
    exact ⟨rfl, HW.out⟩
  · have hl' : decide ((20 : Int) < (n : Int)) = false := decide_eq_false (by omega)
    go_enter Try.func7, Try.ntmps7
    go_wp2_with (go_at_call 11; (with_reducible refine (HAW.out _).mono ?_); rintro e w1 ⟨rfl, hw⟩; obtain ⟨c0, c1, c2, c3⟩ := HB.out _ hw; have HW := Lib.hid (HS.out.trans hw); clear hw)
    go_ret
    exact ⟨rfl, HW.out⟩
  · have hl' : decide ((20 : Int) < (n : Int)) = false := decide_eq_false (by omega)
    have hd : decide (1099511627776 < slot) = true := decide_eq_true hb2
    have hd2 : decide (slot < 0) = false := decide_eq_false (by omega)
    clear hb hb2
    go_enter Try.func7, Try.ntmps7
    go_wp2_with (go_at_call 11; (with_reducible refine (HAW.out _).mono ?_); rintro e w1 ⟨rfl, hw⟩; obtain ⟨c0, c1, c2, c3⟩ := HB.out _ hw; have HW := Lib.hid (HS.out.trans hw); clear hw)
    go_ret
    exact ⟨rfl, HW.out⟩
set_option maxHeartbeats 6400000 in
set_option maxRecDepth 100000 in
theorem late (w : World) (v f u : Int) (s : Value) (zs : List Int) (h : IL w s zs) (slot off : Int) (hl : zs.length ≤ 20) (q0 : 0 ≤ slot) (q1 : slot ≤ 1099511627776) : Calls Try.prog 7 #[hopV v f u s, .int .i64 slot, .int .i64 off] w fun e w' => e = .returned (.bool true) ∧ Same w w' := by
  obtain ⟨i0, hi, hz0, hz1, hz2⟩ := info_parts Try.infoI
  have HAW := Lib.hid (fun w => hawake_any w)
  have HCK := Lib.hid (fun (k : Nat) (w1 : World) (hs : Same w w1) => (show ∃ c e, Calls Try.prog 12 #[hopV v f u s, .int .i64 (slot + (k : Int)), .int .i64 off] w1 (fun e' w' => e' = .returned (.tuple #[.int .i64 c, .int .i64 e]) ∧ Same w1 w') ∧ (e = 0 → c = vch zs slot off k ∧ (k < zs.length → hasB (upto (vch zs slot off) k) (vch zs slot off k) = false)) from
    ⟨_, _, Channel_any v f u s zs (slot + (k : Int)) off w1 (h.same hs) (by omega), fun he => by
      obtain ⟨e1, e2⟩ := chan_vch he
      exact ⟨e1, fun hk => seen_not e2 hk⟩⟩))
  have HAG := Lib.hid (vch_again zs slot off)
  obtain ⟨ao, cap, rfl⟩ := h.shape
  clear h
  have HS := Lib.hid ((Same.refl w).alloc (.cells #[.int .i64 v, .int .i64 f, .int .i64 u, .slice ao zs.length cap] 24))
  have HB := Lib.hid (fun (w1 : World) (hs : Same (w.alloc (.cells #[.int .i64 v, .int .i64 f, .int .i64 u, .slice ao zs.length cap] 24)) w1) => hopDiffers.box hs)
  generalize vch zs slot off = g at *
  generalize zs.length = n at *
  have r1 : decide ((20 : Int) < (n : Int)) = false := decide_eq_false (by omega)
  have r2 : decide (slot < 0) = false := decide_eq_false (by omega)
  have r3 : decide (1099511627776 < slot) = false := decide_eq_false (by omega)
  go_enter Try.func7, Try.ntmps7
  go_wp2_with (go_at_call 11; (with_reducible refine (HAW.out _).mono ?_); rintro e w2 ⟨rfl, hw⟩; obtain ⟨c0, c1, c2, c3⟩ := HB.out _ hw; have HW2 := Lib.hid hw; clear hw)
  clear c0 c1 c2 c3
  go_loopw [7, 30] (fun s i wr => ∃ k : Nat, k ≤ n ∧ i = .int .i64 k ∧ Same w2 wr ∧ wr.ownsRow w2.heap.size 3 1 s k (icells (upto g k))) (fun _ i _ => n - (intOf i).toNat)
  case atStart => exact ⟨0, Nat.zero_le _, rfl, Same.refl _, World.ownsRow_nil _ _ _ _⟩
  case round =>
    obtain ⟨k, hk, rfl, hS, hrow⟩ := hrel
    obtain ⟨c0, c1, c2, c3⟩ := HB.out _ (HW2.out.trans hS)
    have hil := IL.of_own (zs := upto g k) (by rw [upto_length]; exact hrow)
    obtain ⟨c, e, hcall, hce⟩ := HCK.out k wr (HS.out.trans (HW2.out.trans hS))
    have HC := Lib.hid hcall; clear hcall
    have HCE := Lib.hid hce; clear hce
    by_cases hlt : k < n
    · by_cases he : e = 0
      · subst he
        obtain ⟨e1, e2⟩ := HCE.out rfl
        have e3 := e2 hlt
        clear e2
        rw [← e1] at e3
        have HSE := Lib.hid (fun (w1 : World) (hs : Same wr w1) => (show Calls Try.prog 31 #[_, .int .i64 c] w1 fun e w' => e = .returned (.bool false) ∧ w' = w1 from by
          have := ContainsI_any w1 _ (upto g k) c (hil.same hs) (by rw [upto_length]; omega)
          rw [e3] at this; exact this))
        have HUS := Lib.hid (show icells (upto g (k + 1)) = icells (upto g k) ++ [.int .i64 c] from by rw [upto_succ, e1]; unfold icells; simp)
        obtain ⟨a7, c7, rfl⟩ := hil.shape
        clear hil e1 e3
        rw [upto_length] at *
        have HQ := Lib.hid (And.intro hS hrow); clear hS hrow
        go_wp2_with (first
          | (go_at_call 12; (with_reducible refine HC.out.mono ?_); rintro e w3 ⟨rfl, hw⟩; have HW3 := Lib.hid hw; clear hw c0 c1 c2 c3)
          | (go_at_call 31; (with_reducible refine (HSE.out _ (by exact HW3.out)).mono ?_); rintro e w4 ⟨rfl, hw⟩; replace hw := hw.symm; subst hw)
          | (at_builtin; refine wpList_append_own _ rfl _ _ 22 rfl w2.heap.size 3 i0 (.int .i64 0) 1 8 Try.underlying22 hi hz0 hz1 hz2 rfl (by decide) _ _ _ rfl ((own_same HQ.out.2 HW3.out).alloc _) ⟨w3.heap.size, 0, none⟩ 1 1 [.int .i64 c] rfl ?qc1 ?qc2 ?qc3 ?qc4 ?qc5 ?qc6 ?_))
        case qc1 => rfl
        case qc2 => exact World.news_of_block (by exact heap_alloc_new w3 _)
        case qc3 => intro u hu; simp at hu; subst hu; rfl
        case qc4 => unfold maxLen; omega
        case qc5 => omega
        case qc6 => have := (HQ.out.1.trans HW3.out).size; simp at this ⊢; omega
        intro v' w8 hown hgrow hnil
        have HO := Lib.hid hown
        have HGW := Lib.hid (same_grown (HQ.out.1.trans HW3.out) (own_same HQ.out.2 HW3.out) hgrow)
        clear hown hgrow hnil
        go_wp2
        go_roundw
        case rel => exact ⟨k + 1, by omega, by go_num, HGW.out, by rw [HUS.out]; exact HO.out⟩
        case measure => simp [intOf]; omega
      · have he' : (e == 0) = false := by simpa using he
        have HQ := Lib.hid hS; clear hS hrow hil HCE he
        go_wp2_with (go_at_call 12; (with_reducible refine HC.out.mono ?_); rintro e w3 ⟨rfl, hw⟩; have HW3 := Lib.hid hw; clear hw)
        go_ret
        exact ⟨rfl, HS.out.trans (HW2.out.trans (HQ.out.trans HW3.out))⟩
    · obtain rfl : n = k := by omega
      by_cases hn : n = 0
      · subst hn
        have hc := HC.out
        rw [show slot + ((0 : Nat) : Int) = slot by omega] at hc
        clear HC
        have HC := Lib.hid hc; clear hc
        obtain ⟨a7, c7, rfl⟩ := hil.shape
        have HQ := Lib.hid hS; clear hS hrow hil HCE
        rw [upto_length] at *
        go_wp2_with (go_at_call 12; (with_reducible refine HC.out.mono ?_); rintro e w3 ⟨rfl, hw⟩; have HW3 := Lib.hid hw; clear hw)
        go_ret
        exact ⟨by first | rfl | simp, HS.out.trans (HW2.out.trans (HQ.out.trans HW3.out))⟩
      · obtain ⟨b, o, c7, he7, hcell⟩ := hil.cells (by rw [upto_length]; omega)
        have hc0 := hcell 0 (by rw [upto_length]; omega)
        rw [Nat.add_zero] at hc0
        have hg0 : (upto g n).getD 0 0 = g 0 := by
          obtain ⟨m, rfl⟩ : ∃ m, n = m + 1 := ⟨n - 1, by omega⟩
          unfold upto; simp
        rw [hg0] at hc0
        subst he7
        rw [upto_length] at *
        have hn0 : ((n : Int) == 0) = false := by simp; omega
        have hn1 : decide ((n : Int) = 0) = false := decide_eq_false (by omega)
        have HQ := Lib.hid hS; clear hS hrow hil hcell hg0
        by_cases he : e = 0
        · subst he
          have hcg := (HCE.out rfl).1
          rw [HAG.out] at hcg
          rw [← hcg] at hc0
          clear hcg HCE
          have HC0 := Lib.hid (fun (w1 : World) (hs : Same wr w1) => hs.cell hc0); clear hc0
          go_wp2_with (go_at_call 12; (with_reducible refine HC.out.mono ?_); rintro e w3 ⟨rfl, hw⟩; have HW3 := Lib.hid hw; have z0 := HC0.out _ hw; clear hw)
          go_ret
          exact ⟨by first | rfl | simp, HS.out.trans (HW2.out.trans (HQ.out.trans HW3.out))⟩
        · have he' : (e == 0) = false := by simpa using he
          have he2 : (e != 0) = true := by simpa using he
          have he3 : decide (e = 0) = false := decide_eq_false he
          clear HCE hc0
          go_wp2_with (go_at_call 12; (with_reducible refine HC.out.mono ?_); rintro e w3 ⟨rfl, hw⟩; have HW3 := Lib.hid hw; clear hw)
          go_ret
          exact ⟨by first | rfl | simp, HS.out.trans (HW2.out.trans (HQ.out.trans HW3.out))⟩
theorem walk (w : World) (v f u : Int) (s : Value) (zs : List Int) (_hv : i64 v) (_hf : i64 f) (_hu : i64 u) (h : IL w s zs) (slot : Int) (_hs : -9223372036854775808 ≤ slot ∧ slot ≤ 9223372036854775807) (off : Int) (_ho : -9223372036854775808 ≤ off ∧ off ≤ 9223372036854775807) : Calls Try.prog 7 #[hopV v f u s, .int .i64 slot, .int .i64 off] w fun e w' => e = .returned (.bool true) ∧ Same w w' := by
  by_cases hl : zs.length ≤ 20
  · by_cases h0 : 0 ≤ slot
    · by_cases h1 : slot ≤ 1099511627776
      · exact late w v f u s zs h slot off hl h0 h1
      · exact early w v f u s zs h slot off (.inr (.inr ⟨hl, h0, by omega⟩))
    · exact early w v f u s zs h slot off (.inr (.inl ⟨hl, by omega⟩))
  · exact early w v f u s zs h slot off (.inl (by omega))
open Go.ChangeShapes Go.WideShapes Go.ChangeAt
theorem own : ownKnob Try.prog.godebug = none := by kernel_rfl

set_option maxRecDepth 100000 in
theorem lifted (os : Os) (started : os.Started) (H : Type) (enc : TypeId × Value → H) :
    ReturnsInHanded {} Try.checked os 7 .any (Rows.hopVisitsSpec.pre6 enc Try.prog Try.f7 Rows.hopVisitsRow.domain false) (Rows.hopVisitsSpec.post enc Try.prog Try.f7 false true false false) := by
  refine returnsInHanded_of_change (C := Try.checked) own started (by kernel_rfl) Try.func7
    (ChangeSpec.witness6 (enc := enc) (C := Try.checked) false ⟨#[], #[.agg #[.int .i64 0, .int .i64 0, .int .i64 0, .slice none 0 0], .int .i64 0, .int .i64 0], []⟩ 8 (by kernel_rfl) (by kernel_rfl) (by kernel_rfl) (by kernel_rfl)) ?_
  intro W base args ds gs before hval0 hW hcnd _
  have hval : ∀ (j : Nat) t v, Try.f7.params[j]? = some t → args[j]? = some v → Value.okWide Try.prog W .any base t v := hval0
  have hW' := hW
  obtain ⟨p, q, hA0, hV, rfl, hfz, hnd⟩ := hW
  have hA : DataW.TrodAll enc Try.prog W 0 (fun _ => true) true Try.f7.params.toList args.toList ds p := hA0
  rw [Try.params7] at hA hval
  obtain ⟨v0, vs0, d0, ds0, p0, q0, hargs, rfl, rfl, h0, r0⟩ := trodAll_cons hA
  obtain ⟨v1, vs1, d1, ds1, p1, q1, rfl, rfl, rfl, h1, r1⟩ := trodAll_cons r0
  obtain ⟨v2, vs2, d2, ds2, p2, q2, rfl, rfl, rfl, h2, r2⟩ := trodAll_cons r1
  obtain ⟨rfl, rfl, rfl⟩ := trodAll_nil r2
  obtain rfl : args = #[v0, v1, v2] := by cases args; simp_all
  obtain ⟨rfl, rfl⟩ := trodVars_none hV
  obtain ⟨hv0, hf0, hu0, hs0, hz0, rfl, bv0, bf0, bu0, hl0⟩ := open_hop (hval 0 24 v0 rfl rfl) h0
  obtain ⟨a1, rfl, rfl, rfl, w1⟩ := open_int Try.underlying3 (hval 1 3 v1 rfl rfl) h1
  obtain ⟨a2, rfl, rfl, rfl, w2⟩ := open_int Try.underlying3 (hval 2 3 v2 rfl rfl) h2
  clear hA0 hval0
  try simp only [List.append_nil] at hW'
  try simp only [List.nil_append] at hW'
  have hlt : ∀ x ∈ p0, x.block < W.heap.size := fun x hx => by
    have := hW'.lt x (by simpa using hx)
    simpa using this
  refine (walk W hv0 hf0 hu0 hs0 hz0 bv0 bf0 bu0 hl0 a1 (bounds_i64 w1) a2 (bounds_i64 w2)).mono fun e W' ⟨he, hg⟩ => ?_
  subst he
  exact ⟨_, rfl, _, _, _, [], _, [], hW', trodAll_cons_mk (shut_bool Try.underlying4 _) trodAll_mk0, trodAll_cons_mk (Below.trod Try.laidOut (by kernel_rfl) (of_decide_eq_true (by kernel_rfl)) h0 (Same.toBelow hg) (fun x hx => hlt x (by simp [hx]))) (trodAll_cons_mk (shut_int Try.underlying3 w1) (trodAll_cons_mk (shut_int Try.underlying3 w2) trodAll_mk0)), rfl, (Same.toBelow hg).frame _, fun h => by cases h⟩

theorem over : Rows.hopVisitsRow.holds Try.pinned (OpenSpec.ofChange Rows.hopVisitsSpec) :=
  OpenClaim.holds_of_wide 7 Try.f7 rfl rfl rfl rfl rfl rfl rfl ⟨rfl, rfl, rfl, rfl, rfl⟩ rfl rfl rfl rfl rfl (by kernel_rfl) Try.func7 (by kernel_rfl)
    (of_decide_eq_true (by kernel_rfl)) (by unfold Func.isWrapper; first | (rw [if_pos (by decide +kernel)]; kernel_rfl) | (rw [if_neg (by decide +kernel)]; exact ⟨rfl, rfl⟩))
    (fun os started H enc _ => lifted os started H enc)

theorem proved : Rows.HopVisitsSaid :=
  over
end hopVisits
end Go.Proofs.Ytffanehmlbiemaa
