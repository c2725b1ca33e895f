/- HopDiffers: for every hopping list and slot, if the list is valid and in force in the slot, the offsets below the length have channels of the list that are all different, Meet says so, and the length is no offset; otherwise the specified error. No conditions. -/
import Derived.Test.YtffanehmlbiemaaHArgs
namespace Go.Proofs.Ytffanehmlbiemaa
open Go.RowKit

/-- The channel of the k-th offset. -/
def gch (zs : List Int) (slot : Int) (k : Nat) : Int := zs.getD ((slot + (k : Int)) % (zs.length : Int)).toNat 0
theorem chanS_at {v f u : Int} {zs : List Int} {slot : Int} (h1 : hopB v f u zs = true) (h2 : forceB slot f u = true) (k : Nat) (hk : k < zs.length) : chanS v f u zs slot (k : Int) = (gch zs slot k, 0) := by
  unfold chanS; rw [if_pos h1, if_pos h2, if_pos ⟨by omega, by omega⟩]; rfl
theorem chanS_past {v f u : Int} {zs : List Int} {slot : Int} (h1 : hopB v f u zs = true) (h2 : forceB slot f u = true) : chanS v f u zs slot (zs.length : Int) = (0, 2) := by
  unfold chanS; rw [if_pos h1, if_pos h2, if_neg (by omega)]
theorem chanS_err {v f u : Int} {zs : List Int} {slot : Int} (h : ¬ (hopB v f u zs = true ∧ forceB slot f u = true)) (off : Int) : chanS v f u zs slot off = (0, 1) ∨ chanS v f u zs slot off = (0, 12) := by
  unfold chanS
  by_cases h1 : hopB v f u zs = true
  · rw [if_pos h1, if_neg (fun h2 => h ⟨h1, h2⟩)]; exact .inr rfl
  · rw [if_neg h1]; exact .inl rfl
theorem mod_ne {n : Nat} {s : Int} {j k : Nat} (hjk : j < k) (hk : k < n) : ¬ ((s + (j : Int)) % (n : Int)).toNat = ((s + (k : Int)) % (n : Int)).toNat := by
  intro h
  have a1 : 0 ≤ (s + (j : Int)) % (n : Int) := Int.emod_nonneg _ (by omega)
  have a2 : 0 ≤ (s + (k : Int)) % (n : Int) := Int.emod_nonneg _ (by omega)
  have h' : (s + (j : Int)) % (n : Int) = (s + (k : Int)) % (n : Int) := by omega
  have h3 := Int.emod_emod_of_dvd (s + (k : Int)) (Int.dvd_refl (n : Int))
  have e : ((s + (k : Int)) - (s + (j : Int))) % (n : Int) = 0 := by
    rw [Int.sub_emod, h', Int.sub_self]; simp
  rw [show (s + (k : Int)) - (s + (j : Int)) = (k : Int) - (j : Int) by omega, Int.emod_eq_of_lt (by omega) (by omega)] at e
  omega
theorem gch_ne {zs : List Int} (hd : diffB zs = true) {slot : Int} {j k : Nat} (hjk : j < k) (hk : k < zs.length) : ¬ gch zs slot j = gch zs slot k := by
  unfold gch
  have hn := mod_ne (s := slot) hjk hk
  have b1 := chan_at (zs := zs) (slot := slot) (by omega) j
  have b2 := chan_at (zs := zs) (slot := slot) (by omega) k
  rcases Nat.lt_or_gt_of_ne hn with h | h
  · exact (chOk_of b2 (diffB_at hd _ b2)).2 _ h
  · exact fun e => (chOk_of b1 (diffB_at hd _ b1)).2 _ h e.symm
theorem seen_not {zs : List Int} (hd : diffB zs = true) {slot : Int} {k : Nat} (hk : k < zs.length) : hasB (upto (gch zs slot) k) (gch zs slot k) = false := decide_eq_false fun h => by
  obtain ⟨j, hj, e⟩ := upto_mem.1 h
  exact gch_ne hd hj hk e
theorem gch_in {zs : List Int} {slot : Int} {k : Nat} (hk : k < zs.length) : hasB zs (gch zs slot k) = true := hasB_hit (chan_at (by omega) k) rfl
namespace hopDiffers
theorem box {w w1 : World} {v f u : Int} {ao : Option Addr} {n cap : Nat} (hs : Same (w.alloc (.cells #[.int .i64 v, .int .i64 f, .int .i64 u, .slice ao n cap] 24)) w1) : w1.cell? ⟨w.heap.size, 0, none⟩ = some (.int .i64 v) ∧ w1.cell? ⟨w.heap.size, 1, none⟩ = some (.int .i64 f) ∧ w1.cell? ⟨w.heap.size, 2, none⟩ = some (.int .i64 u) ∧ w1.cell? ⟨w.heap.size, 3, none⟩ = some (.slice ao n cap) :=
  ⟨hs.cell (by go_simp), hs.cell (by go_simp), hs.cell (by go_simp), hs.cell (by go_simp)⟩
set_option maxHeartbeats 6400000 in
set_option maxRecDepth 100000 in
theorem early (w : World) (v f u : Int) (s : Value) (zs : List Int) (h : IL w s zs) (slot : Int) (hl : 20 < zs.length ∨ (zs.length ≤ 20 ∧ ¬ (hopB v f u zs = true ∧ forceB slot f u = true))) : Calls Try.prog 6 #[hopV v f u s, .int .i64 slot] w fun e w' => e = .returned (.bool true) ∧ Same w w' := by
  have HAW := Lib.hid (fun w => hawake_any w)
  have hc1 := fun (w1 : World) (hs : Same w w1) (hl : zs.length ≤ 1000) => Channel_any v f u s zs slot 0 w1 (h.same hs) hl
  have hce := fun hh => chanS_err (v := v) (f := f) (u := u) (zs := zs) (slot := slot) hh 0
  obtain ⟨ao, cap, rfl⟩ := h.shape
  clear h
  have HS := Lib.hid ((Same.refl w).alloc (.cells #[.int .i64 v, .int .i64 f, .int .i64 u, .slice ao zs.length cap] 24))
  have HB := Lib.hid (fun (w1 : World) (hs : Same (w.alloc (.cells #[.int .i64 v, .int .i64 f, .int .i64 u, .slice ao zs.length cap] 24)) w1) => box hs)
  rcases hl with hl | ⟨hl, hbad⟩
  · clear hc1 hce
    generalize zs.length = n at *
    have hl' : (20 : Int) < (n : Int) := by omega
    go_enter Try.func6, Try.ntmps6
    go_wp2_with (go_at_call 11; (with_reducible refine (HAW.out _).mono ?_); rintro e w1 ⟨rfl, hw⟩; obtain ⟨c0, c1, c2, c3⟩ := HB.out _ hw; have HW := Lib.hid (HS.out.trans hw); clear hw)
    go_ret
    exact ⟨rfl, HW.out⟩
  · have hce' := hce hbad
    clear hce hbad
    generalize chanS v f u zs slot 0 = C at *
    have HC1 := Lib.hid (fun w1 hs => hc1 w1 hs (by omega)); clear hc1
    generalize zs.length = n at *
    rcases hce' with rfl | rfl
    all_goals
      go_enter Try.func6, Try.ntmps6
      go_wp2_with (first
        | (go_at_call 11; (with_reducible refine (HAW.out _).mono ?_); rintro e w1 ⟨rfl, hw⟩; obtain ⟨c0, c1, c2, c3⟩ := HB.out _ hw; have HW := Lib.hid (HS.out.trans hw); clear hw)
        | (go_at_call 12; (with_reducible refine (HC1.out _ (by exact HW.out)).mono ?_); rintro e w2 ⟨rfl, hw⟩; have HW2 := Lib.hid (HW.out.trans hw); clear hw))
      go_ret
      exact ⟨rfl, HW2.out⟩
set_option maxHeartbeats 6400000 in
set_option maxRecDepth 100000 in
theorem late (w : World) (v f u : Int) (s : Value) (zs : List Int) (h : IL w s zs) (slot : Int) (hl : zs.length ≤ 20) (h1 : hopB v f u zs = true) (h2 : forceB slot f u = true) : Calls Try.prog 6 #[hopV v f u s, .int .i64 slot] w fun e w' => e = .returned (.bool true) ∧ Same w w' := by
  obtain ⟨i0, hi, hz0, hz1, hz2⟩ := info_parts Try.infoI
  have HAW := Lib.hid (fun w => hawake_any w)
  obtain ⟨_, g1, g2, g3, g4⟩ := hopB_of h1
  obtain ⟨g5, g6, g7⟩ := chsB_of g4
  have HC0 := Lib.hid (fun (w1 : World) (hs : Same w w1) => (show Calls Try.prog 12 #[hopV v f u s, .int .i64 slot, .int .i64 0] w1 fun e w' => e = .returned (.tuple #[.int .i64 (gch zs slot 0), .int .i64 0]) ∧ Same w1 w' from by
    have := Channel_any v f u s zs slot ((0 : Nat) : Int) w1 (h.same hs) (by omega)
    rw [chanS_at h1 h2 0 g5] at this; exact this))
  have HCK := Lib.hid (fun (k : Nat) (hk : k < zs.length) (w1 : World) (hs : Same w w1) => (show Calls Try.prog 12 #[hopV v f u s, .int .i64 slot, .int .i64 (k : Int)] w1 fun e w' => e = .returned (.tuple #[.int .i64 (gch zs slot k), .int .i64 0]) ∧ Same w1 w' from by
    have := Channel_any v f u s zs slot (k : Int) w1 (h.same hs) (by omega)
    rw [chanS_at h1 h2 k hk] at this; exact this))
  have HCN := Lib.hid (fun (w1 : World) (hs : Same w w1) => (show Calls Try.prog 12 #[hopV v f u s, .int .i64 slot, .int .i64 (zs.length : Int)] w1 fun e w' => e = .returned (.tuple #[.int .i64 0, .int .i64 2]) ∧ Same w1 w' from by
    have := Channel_any v f u s zs slot (zs.length : Int) w1 (h.same hs) (by omega)
    rw [chanS_past h1 h2] at this; exact this))
  have HME := Lib.hid (fun (k : Nat) (hk : k < zs.length) (w1 : World) (hs : Same w w1) => (show Calls Try.prog 14 #[hopV v f u s, .int .i64 slot, .int .i64 0, .int .i64 (k : Int)] w1 fun e w' => e = .returned (.tuple #[.bool (decide (k = 0)), .int .i64 0]) ∧ Same w1 w' from by
    have := Meet_any v f u s zs slot ((0 : Nat) : Int) (k : Int) w1 (h.same hs) (by omega)
    unfold meetS at this
    rw [chanS_at h1 h2 k hk, chanS_at h1 h2 0 g5, if_pos rfl, if_pos rfl] at this
    have e : decide (gch zs slot 0 = gch zs slot k) = decide (k = 0) := by
      by_cases hk0 : k = 0
      · subst hk0; simp
      · rw [decide_eq_false hk0]; exact decide_eq_false (gch_ne g7 (by omega) hk)
    simp only [e] at this
    exact this))
  have HCO := Lib.hid (fun (w1 : World) (hs : Same w w1) (c : Int) => ContainsI_any w1 s zs c (h.same hs) (by omega))
  have HIN := Lib.hid (fun k hk => gch_in (zs := zs) (slot := slot) (k := k) hk)
  have HNO := Lib.hid (fun k hk => seen_not g7 (slot := slot) (k := k) hk)
  obtain ⟨ao, cap, rfl⟩ := h.shape
  clear h g4 g7 h1 h2 g1 g2 g3
  generalize gch zs slot = g at *
  generalize zs.length = n at *
  have HS := Lib.hid ((Same.refl w).alloc (.cells #[.int .i64 v, .int .i64 f, .int .i64 u, .slice ao n cap] 24))
  have HB := Lib.hid (fun (w1 : World) (hs : Same (w.alloc (.cells #[.int .i64 v, .int .i64 f, .int .i64 u, .slice ao n cap] 24)) w1) => box hs)
  go_enter Try.func6, Try.ntmps6
  go_wp2_with (first
    | (go_at_call 11; (with_reducible refine (HAW.out _).mono ?_); rintro e w1 ⟨rfl, hw⟩; obtain ⟨c0, c1, c2, c3⟩ := HB.out _ hw; have HW := Lib.hid hw; clear hw)
    | (go_at_call 12; (with_reducible refine (HC0.out _ (by exact HS.out.trans HW.out)).mono ?_); rintro e w2 ⟨rfl, hw⟩; obtain ⟨d0, d1, d2, d3⟩ := HB.out _ (HW.out.trans hw); have HW2 := Lib.hid (HW.out.trans hw); clear hw c0 c1 c2 c3))
  clear d0 d1 d2 d3
  go_loopw [7, 38] (fun s i wr => ∃ k : Nat, k ≤ n ∧ i = .int .i64 k ∧ Same w2 wr ∧ wr.ownsRow w2.heap.size 3 1 s k (icells (upto g k))) (fun _ i _ => n - (intOf i).toNat)
  case atStart => exact ⟨0, Nat.zero_le _, rfl, Same.refl _, World.ownsRow_nil _ _ _ _⟩
  case round =>
    obtain ⟨k, hk, rfl, hS, hrow⟩ := hrel
    obtain ⟨c0, c1, c2, c3⟩ := HB.out _ (HW2.out.trans hS)
    by_cases hlt : k < n
    · have hil := IL.of_own (zs := upto g k) (by rw [upto_length]; exact hrow)
      have HSE := Lib.hid (fun (w1 : World) (hs : Same wr w1) => (show Calls Try.prog 31 #[_, .int .i64 (g k)] w1 fun e w' => e = .returned (.bool false) ∧ w' = w1 from by
        have := ContainsI_any w1 _ (upto g k) (g k) (hil.same hs) (by rw [upto_length]; omega)
        rw [HNO.out k hlt] at this; exact this))
      have HIZ := Lib.hid (fun (w1 : World) (hs : Same w w1) => (show Calls Try.prog 31 #[.slice ao n cap, .int .i64 (g k)] w1 fun e w' => e = .returned (.bool true) ∧ w' = w1 from by
        have := HCO.out w1 hs (g k)
        rw [HIN.out k hlt] at this; exact this))
      have HCKK := Lib.hid (HCK.out k hlt)
      have hm := HME.out k hlt
      obtain ⟨u, hu⟩ : ∃ u, decide (k = 0) = u := ⟨_, rfl⟩
      have hu2 : ((k : Int) == 0) = u := by rw [← hu]; by_cases q : k = 0 <;> simp [q]
      have hu3 : decide ((k : Int) = 0) = u := by rw [← hu]; by_cases q : k = 0 <;> simp [q]
      rw [hu] at hm
      have HM := Lib.hid hm; clear hm hu
      obtain ⟨a7, c7, rfl⟩ := hil.shape
      clear hil
      rw [upto_length] at *
      have HUS := Lib.hid (show icells (upto g (k + 1)) = icells (upto g k) ++ [.int .i64 (g k)] from by rw [upto_succ]; unfold icells; simp)
      have HQ := Lib.hid (And.intro hS hrow); clear hS hrow
      generalize g k = y at *
      go_wp2_with (first
        | (go_at_call 12; (with_reducible refine (HCKK.out _ (by exact HS.out.trans (HW2.out.trans HQ.out.1))).mono ?_); rintro e w3 ⟨rfl, hw⟩; have HW3 := Lib.hid hw; obtain ⟨d0, d1, d2, d3⟩ := HB.out _ (HW2.out.trans (HQ.out.1.trans hw)); clear hw c0 c1 c2 c3)
        | (go_at_call 31; (with_reducible refine (HSE.out _ (by exact HW3.out)).mono ?_); rintro e w4 ⟨rfl, hw⟩; replace hw := hw.symm; subst hw)
        | (go_at_call 31; (with_reducible refine (HIZ.out _ (by exact HS.out.trans (HW2.out.trans (HQ.out.1.trans HW3.out)))).mono ?_); rintro e w4 ⟨rfl, hw⟩; replace hw := hw.symm; subst hw)
        | (at_builtin; refine wpList_append_own _ rfl _ _ 22 rfl w2.heap.size 3 i0 (.int .i64 0) 1 8 Try.underlying22 hi hz0 hz1 hz2 rfl (by decide) _ _ _ rfl ((own_same HQ.out.2 HW3.out).alloc _) ⟨w3.heap.size, 0, none⟩ 1 1 [.int .i64 y] rfl ?qc1 ?qc2 ?qc3 ?qc4 ?qc5 ?qc6 ?_))
      case qc1 => rfl
      case qc2 => exact World.news_of_block (by exact heap_alloc_new w3 _)
      case qc3 => intro u hu; simp at hu; subst hu; rfl
      case qc4 => unfold maxLen; omega
      case qc5 => omega
      case qc6 => have := (HQ.out.1.trans HW3.out).size; simp at this ⊢; omega
      intro v' w8 hown hgrow hnil
      have HO := Lib.hid hown
      have HGW := Lib.hid (same_grown (HQ.out.1.trans HW3.out) (own_same HQ.out.2 HW3.out) hgrow)
      clear hown hgrow hnil d0 d1 d2 d3
      obtain ⟨c0, c1, c2, c3⟩ := HB.out _ (HW2.out.trans HGW.out)
      cases u with
      | true =>
        go_wp2_with (go_at_call 14; (with_reducible refine (HM.out _ (by exact HS.out.trans (HW2.out.trans HGW.out))).mono ?_); rintro e w9 ⟨rfl, hw⟩; have HW9 := Lib.hid hw; clear hw)
        go_roundw
        case rel => exact ⟨k + 1, by omega, by go_num, HGW.out.trans HW9.out, by rw [HUS.out]; exact own_same HO.out HW9.out⟩
        case measure => simp [intOf]; omega
      | false =>
        go_wp2_with (go_at_call 14; (with_reducible refine (HM.out _ (by exact HS.out.trans (HW2.out.trans HGW.out))).mono ?_); rintro e w9 ⟨rfl, hw⟩; have HW9 := Lib.hid hw; clear hw)
        go_roundw
        case rel => exact ⟨k + 1, by omega, by go_num, HGW.out.trans HW9.out, by rw [HUS.out]; exact own_same HO.out HW9.out⟩
        case measure => simp [intOf]; omega
    · obtain rfl : n = k := by omega
      have HQ := Lib.hid hS; clear hS hrow
      go_wp2_with (go_at_call 12; (with_reducible refine (HCN.out _ (by exact HS.out.trans (HW2.out.trans HQ.out))).mono ?_); rintro e w5 ⟨rfl, hw⟩; have HW5 := Lib.hid ((HS.out.trans (HW2.out.trans HQ.out)).trans hw); clear hw)
      go_ret
      exact ⟨rfl, HW5.out⟩
theorem walk (w : World) (v f u : Int) (s : Value) (zs : List Int) (_hv : i64 v) (_hf : i64 f) (_hu : i64 u) (h : IL w s zs) (slot : Int) (_hs : -9223372036854775808 ≤ slot ∧ slot ≤ 9223372036854775807) : Calls Try.prog 6 #[hopV v f u s, .int .i64 slot] w fun e w' => e = .returned (.bool true) ∧ Same w w' := by
  by_cases hl : zs.length ≤ 20
  · by_cases hg : hopB v f u zs = true ∧ forceB slot f u = true
    · exact late w v f u s zs h slot hl hg.1 hg.2
    · exact early w v f u s zs h slot (.inr ⟨hl, hg⟩)
  · exact early w v f u s zs h slot (.inl (by omega))
open Go.ChangeShapes Go.WideShapes Go.ChangeAt
theorem own : ownKnob Try.prog.godebug = none := by kernel_rfl

set_option maxRecDepth 100000 in
theorem lifted (os : Os) (started : os.Started) (H : Type) (enc : TypeId × Value → H) :
    ReturnsInHanded {} Try.checked os 6 .any (Rows.hopDiffersSpec.pre6 enc Try.prog Try.f6 Rows.hopDiffersRow.domain false) (Rows.hopDiffersSpec.post enc Try.prog Try.f6 false true false false) := by
  refine returnsInHanded_of_change (C := Try.checked) own started (by kernel_rfl) Try.func6
    (ChangeSpec.witness6 (enc := enc) (C := Try.checked) false ⟨#[], #[.agg #[.int .i64 0, .int .i64 0, .int .i64 0, .slice none 0 0], .int .i64 0], []⟩ 8 (by kernel_rfl) (by kernel_rfl) (by kernel_rfl) (by kernel_rfl)) ?_
  intro W base args ds gs before hval0 hW hcnd _
  have hval : ∀ (j : Nat) t v, Try.f6.params[j]? = some t → args[j]? = some v → Value.okWide Try.prog W .any base t v := hval0
  have hW' := hW
  obtain ⟨p, q, hA0, hV, rfl, hfz, hnd⟩ := hW
  have hA : DataW.TrodAll enc Try.prog W 0 (fun _ => true) true Try.f6.params.toList args.toList ds p := hA0
  rw [Try.params6] at hA hval
  obtain ⟨v0, vs0, d0, ds0, p0, q0, hargs, rfl, rfl, h0, r0⟩ := trodAll_cons hA
  obtain ⟨v1, vs1, d1, ds1, p1, q1, rfl, rfl, rfl, h1, r1⟩ := trodAll_cons r0
  obtain ⟨rfl, rfl, rfl⟩ := trodAll_nil r1
  obtain rfl : args = #[v0, v1] := by cases args; simp_all
  obtain ⟨rfl, rfl⟩ := trodVars_none hV
  obtain ⟨hv0, hf0, hu0, hs0, hz0, rfl, bv0, bf0, bu0, hl0⟩ := open_hop (hval 0 24 v0 rfl rfl) h0
  obtain ⟨a1, rfl, rfl, rfl, w1⟩ := open_int Try.underlying3 (hval 1 3 v1 rfl rfl) h1
  clear hA0 hval0
  try simp only [List.append_nil] at hW'
  try simp only [List.nil_append] at hW'
  have hlt : ∀ x ∈ p0, x.block < W.heap.size := fun x hx => by
    have := hW'.lt x (by simpa using hx)
    simpa using this
  refine (walk W hv0 hf0 hu0 hs0 hz0 bv0 bf0 bu0 hl0 a1 (bounds_i64 w1)).mono fun e W' ⟨he, hg⟩ => ?_
  subst he
  exact ⟨_, rfl, _, _, _, [], _, [], hW', trodAll_cons_mk (shut_bool Try.underlying4 _) trodAll_mk0, trodAll_cons_mk (Below.trod Try.laidOut (by kernel_rfl) (of_decide_eq_true (by kernel_rfl)) h0 (Same.toBelow hg) (fun x hx => hlt x (by simp [hx]))) (trodAll_cons_mk (shut_int Try.underlying3 w1) trodAll_mk0), rfl, (Same.toBelow hg).frame _, fun h => by cases h⟩

theorem over : Rows.hopDiffersRow.holds Try.pinned (OpenSpec.ofChange Rows.hopDiffersSpec) :=
  OpenClaim.holds_of_wide 6 Try.f6 rfl rfl rfl rfl rfl rfl rfl ⟨rfl, rfl, rfl, rfl, rfl⟩ rfl rfl rfl rfl rfl (by kernel_rfl) Try.func6 (by kernel_rfl)
    (of_decide_eq_true (by kernel_rfl)) (by unfold Func.isWrapper; first | (rw [if_pos (by decide +kernel)]; kernel_rfl) | (rw [if_neg (by decide +kernel)]; exact ⟨rfl, rfl⟩))
    (fun os started H enc _ => lifted os started H enc)

theorem proved : Rows.HopDiffersSaid :=
  over
end hopDiffers
end Go.Proofs.Ytffanehmlbiemaa
