/- HopStays: for all channels, blacklists and numbers of channels that have to stay, what Without returns are channels of the list in their order, all that are not blacklisted among them, and as many as these, or as have to stay. No conditions. -/
import Derived.Test.YtffanehmlbiemaaHStayA
import Derived.Deep.RegionHeld3
namespace Go.Proofs.Ytffanehmlbiemaa
open Go.RowKit Go.Deep

namespace hopStays
theorem box {w w1 : World} {s1 s2 : Value} {a1 a2 : Option Addr} {n1 k1 n2 k2 : Nat} {l : Int} (e1 : s1 = .slice a1 n1 k1) (e2 : s2 = .slice a2 n2 k2) (hs : Same (w.alloc (.cells #[s1, s2, .int .i64 l] 43)) w1) : w1.cell? ⟨w.heap.size, 0, none⟩ = some s1 ∧ w1.cell? ⟨w.heap.size, 1, none⟩ = some s2 ∧ w1.cell? ⟨w.heap.size, 2, none⟩ = some (.int .i64 l) := by
  subst e1 e2
  exact ⟨hs.cell (by go_simp), hs.cell (by go_simp), hs.cell (by go_simp)⟩
theorem keepB {w0 w w1 w2 : World} {a b c : Value} {g : Nat} (h : w1.cell? ⟨g, 0, none⟩ = some a ∧ w1.cell? ⟨g, 1, none⟩ = some b ∧ w1.cell? ⟨g, 2, none⟩ = some c ∧ Same w0 w1 ∧ Same w w1) (k : Same w1 w2) : w2.cell? ⟨g, 0, none⟩ = some a ∧ w2.cell? ⟨g, 1, none⟩ = some b ∧ w2.cell? ⟨g, 2, none⟩ = some c ∧ Same w0 w2 ∧ Same w w2 := ⟨k.cell h.1, k.cell h.2.1, k.cell h.2.2.1, h.2.2.2.1.trans k, h.2.2.2.2.trans k⟩
set_option maxHeartbeats 6400000 in
set_option maxRecDepth 100000 in
theorem early (w : World) (s1 s2 : Value) (least : Int) (ch bl : List Int) (h1 : IL w s1 ch) (h2 : IL w s2 bl) (hl : 20 < ch.length ∨ (ch.length ≤ 20 ∧ 64 < bl.length)) : Calls Try.prog 9 #[.agg #[s1, s2, .int .i64 least]] w fun e w' => e = .returned (.bool true) ∧ Same w w' := by
  have HAW := Lib.hid (fun w => hawake_any w)
  obtain ⟨a1, k1, rfl⟩ := h1.shape
  obtain ⟨a2, k2, rfl⟩ := h2.shape
  clear h1 h2
  have HS := Lib.hid ((Same.refl w).alloc (.cells #[.slice a1 ch.length k1, .slice a2 bl.length k2, .int .i64 least] 43))
  have HB := Lib.hid (fun (w1 : World) (hs : Same (w.alloc (.cells #[.slice a1 ch.length k1, .slice a2 bl.length k2, .int .i64 least] 43)) w1) => box rfl rfl hs)
  generalize ch.length = n at *
  generalize bl.length = m at *
  rcases hl with hl | ⟨hl, hm⟩
  · have hl' : (20 : Int) < (n : Int) := by omega
    go_enter Try.func9, Try.ntmps9
    go_wp2_with (go_at_call 11; (with_reducible refine (HAW.out _).mono ?_); rintro e w1 ⟨rfl, hw⟩; obtain ⟨c0, c1, c2⟩ := HB.out _ hw; have HW := Lib.hid (HS.out.trans hw); clear hw)
    go_ret
    exact ⟨rfl, HW.out⟩
  · have hl' : decide ((20 : Int) < (n : Int)) = false := decide_eq_false (by omega)
    have hm' : (64 : Int) < (m : Int) := by omega
    go_enter Try.func9, Try.ntmps9
    go_wp2_with (go_at_call 11; (with_reducible refine (HAW.out _).mono ?_); rintro e w1 ⟨rfl, hw⟩; obtain ⟨c0, c1, c2⟩ := HB.out _ hw; have HW := Lib.hid (HS.out.trans hw); clear hw)
    go_ret
    exact ⟨rfl, HW.out⟩
theorem with_cases (ch bl : List Int) (least : Int) : (∃ e, withoutS ch bl least = ([], e) ∧ ¬ e = 0) ∨ (∃ K, withoutS ch bl least = (outL ch bl K, 0) ∧ diffB ch = true ∧ ((outL ch bl K).length : Int) = max ((goodN ch bl : Nat) : Int) least) := by
  unfold withoutS
  by_cases h1 : (chsB ch && blackB bl) = true
  · rw [if_pos h1]
    by_cases h2 : inB least 1 (ch.length : Int) = true
    · rw [if_pos h2]
      have hd := (chsB_of (by rw [Bool.and_eq_true] at h1; exact h1.1)).2.2
      exact .inr ⟨_, rfl, hd, out_len hd (inB_yes h2).2⟩
    · rw [if_neg h2]; exact .inl ⟨2, rfl, by decide⟩
  · rw [if_neg h1]; exact .inl ⟨1, rfl, by decide⟩
set_option maxHeartbeats 6400000 in
set_option maxRecDepth 100000 in
theorem late (w : World) (s1 s2 : Value) (least : Int) (ch bl : List Int) (h1 : IL w s1 ch) (h2 : IL w s2 bl) (hl1 : ch.length ≤ 20) (hl2 : bl.length ≤ 64) : Calls Try.prog 9 #[.agg #[s1, s2, .int .i64 least]] w fun e w' => e = .returned (.bool true) ∧ Same w w' := by
  have HAW := Lib.hid (fun w => hawake_any w)
  have HC1 := Lib.hid (fun (w1 : World) (hs : Same w w1) => CloneI_any w1 s1 ch (h1.same hs) (by omega))
  have HC2 := Lib.hid (fun (w1 : World) (hs : Same w w1) => CloneI_any w1 s2 bl (h2.same hs) (by omega))
  have hWI := fun (w1 : World) (u1 u2 : Value) (q1 : IL w1 u1 ch) (q2 : IL w1 u2 bl) => Without_any w1 u1 u2 ch bl least q1 q2 (by omega) (by omega)
  unfold WithP at hWI
  have HCO := Lib.hid (fun (w1 : World) (hs : Same w w1) (c : Int) => ContainsI_any w1 s2 bl c (h2.same hs) (by omega))
  have HSN := Lib.hid (fun k hk => take_snoc ch k hk)
  have HOA := Lib.hid (fun (K : List Int) (hd : diffB ch = true) (i : Nat) (hi : i < ch.length) => out_at (bl := bl) (K := K) hd i hi)
  have HGLE := Lib.hid (fun k => (show goodN (ch.take k) bl ≤ k from Nat.le_trans (goodN_le _ _) (by rw [List.length_take]; omega)))
  have HOLE := Lib.hid (fun k K => (show (outL (ch.take k) bl K).length ≤ k from Nat.le_trans (outL_le _ _ _) (by rw [List.length_take]; omega)))
  have HTL := Lib.hid (List.take_length (l := ch))
  have hwc := with_cases ch bl least
  generalize withoutS ch bl least = R at *
  obtain ⟨a1, k1, rfl, hx1⟩ := h1.parts
  obtain ⟨a2, k2, rfl, _⟩ := h2.parts
  have H1 := Lib.hid hx1; clear hx1 h1 h2
  have HS := Lib.hid ((Same.refl w).alloc (.cells #[.slice a1 ch.length k1, .slice a2 bl.length k2, .int .i64 least] 43))
  have HB := Lib.hid (fun (w1 : World) (hs : Same (w.alloc (.cells #[.slice a1 ch.length k1, .slice a2 bl.length k2, .int .i64 least] 43)) w1) => box rfl rfl hs)
  generalize hn : ch.length = n at *
  generalize hm : bl.length = m at *
  have HN := Lib.hid (And.intro hn hm); clear hn hm
  have r1 : decide ((20 : Int) < (n : Int)) = false := decide_eq_false (by omega)
  have r2 : decide ((64 : Int) < (m : Int)) = false := decide_eq_false (by omega)
  obtain ⟨RL, RE⟩ := R
  simp only at hWI
  have HWI := Lib.hid hWI; clear hWI
  have HWC := Lib.hid hwc; clear hwc
  go_enter Try.func9, Try.ntmps9
  go_wp2_with (go_at_call 11; (with_reducible refine (HAW.out _).mono ?_); rintro e w4 ⟨rfl, hw⟩; obtain ⟨c0, c1, c2⟩ := HB.out _ hw; have HB4 := Lib.hid hw; clear hw)
  clear HAW
  have hr4 := (Same.refl w4).drew
  have hs4 := (HS.out.trans HB4.out).drew
  go_region_held3 (fun w' => w'.cell? ⟨w.heap.size, 0, none⟩ = some (.slice a1 n k1) ∧ w'.cell? ⟨w.heap.size, 1, none⟩ = some (.slice a2 m k2) ∧ w'.cell? ⟨w.heap.size, 2, none⟩ = some (.int .i64 least) ∧ Same w w' ∧ Same w4 w')
    (first | exact ⟨c0, c1, c2, hs4, hr4⟩ | exact keepB (by assumption) (by assumption) | assumption)
    (first
      | (go_at_call 26; refine (HC1.out _ (by first | exact hs4 | exact (by assumption : _ ∧ _ ∧ _ ∧ Same w _ ∧ _).2.2.2.1)).mono ?_; rintro e w5 ⟨u1, rfl, hk5, hL5⟩)
      | (go_at_call 26; refine (HC2.out _ (by first | exact hs4 | exact (by assumption : _ ∧ _ ∧ _ ∧ Same w _ ∧ _).2.2.2.1)).mono ?_; rintro e w6 ⟨u2, rfl, hk6, hL6⟩)
      | (go_at_call 25; refine (HWI.out _ _ _ (by first | assumption | exact hL5.same (by first | assumption | exact Same.trans (by assumption) (by assumption))) (by first | assumption | exact hL6.same (by first | assumption | exact Same.trans (by assumption) (by assumption)))).mono ?_; rintro e w8 ⟨vc, rfl, hk8, hL8⟩)
      | fail)
  obtain ⟨_, _, _, hs8, hr8⟩ := (by assumption : w8.cell? ⟨w.heap.size, 0, none⟩ = some (.slice a1 n k1) ∧ w8.cell? ⟨w.heap.size, 1, none⟩ = some (.slice a2 m k2) ∧ w8.cell? ⟨w.heap.size, 2, none⟩ = some (.int .i64 least) ∧ Same w w8 ∧ Same w4 w8)
  have HS8 := Lib.hid hs8
  have HB8 := Lib.hid (HB4.out.trans hr8)
  have HL8 := Lib.hid hL8
  obtain ⟨ac, kc, rfl, hx8⟩ := hL8.parts
  have H8 := Lib.hid hx8
  clear hx8 hs8 hr8 hL8 hk8 hk6 hk5 hL6 hL5 c0 c1 c2 hs4 hr4 HB4
  rcases HWC.out with ⟨e, he, hne⟩ | ⟨K, he, hd, hlen⟩
  · injection he with e1 e2
    subst e1 e2
    have hne' : (RE == 0) = false := by simpa using hne
    clear hne HWC
    go_wp2
    go_ret
    exact ⟨by first | rfl | simp, HS8.out⟩
  · injection he with e1 e2
    subst e1 e2
    have HOAK := Lib.hid (HOA.out K hd)
    have HLEN := Lib.hid hlen
    clear HWC hlen hd HOA
    obtain ⟨c0, c1, c2⟩ := HB.out _ HB8.out
    have hmx : ∀ x y : Int, (if x < y then y else x) = max x y := fun x y => by by_cases q : x < y <;> simp [q] <;> omega
    generalize hO : outL ch bl K = O at *
    have HO := Lib.hid hO; clear hO
    have hol : O.length ≤ 20 := by have := HOLE.out n K; rw [HTL.out, HO.out] at this; omega
    go_wp2
    go_loopw [5, 6, 41] (fun c d i wr => ∃ k : Nat, k ≤ n ∧ i = .int .i64 k ∧ c = .int .i64 ((outL (ch.take k) bl K).length : Int) ∧ d = .int .i64 (goodN (ch.take k) bl : Int) ∧ wr = w8) (fun _ _ i _ => n - (intOf i).toNat)
    case atStart => exact ⟨0, Nat.zero_le _, rfl, rfl, rfl, rfl⟩
    case round =>
      obtain ⟨k, hk, rfl, rfl, rfl, hS⟩ := hrel
      replace hS := hS.symm; subst hS
      by_cases hlt : k < n
      · obtain ⟨b, off, rfl, z0⟩ := H1.out k hlt
        replace z0 := HS8.out.cell z0
        obtain ⟨o1, o2⟩ := HOAK.out k hlt
        have hgs := goodN_snoc (ch.take k) bl (ch.getD k 0)
        have hos := outL_snoc (ch.take k) bl K (ch.getD k 0)
        rw [← HSN.out k hlt] at hgs hos
        have hgl := HGLE.out k
        have hole := HOLE.out k K
        have hX := HCO.out w8 HS8.out (ch.getD k 0)
        obtain ⟨y, hy⟩ : ∃ y, ch.getD k 0 = y := ⟨_, rfl⟩
        rw [hy] at z0 o1 o2 hgs hos hX
        clear hy
        obtain ⟨u, hu⟩ : ∃ u, hasB bl y = u := ⟨_, rfl⟩
        obtain ⟨x, hx⟩ : ∃ x, hasB K y = x := ⟨_, rfl⟩
        rw [hu] at hX hgs
        rw [hu, hx] at o1 o2 hos
        clear hu hx
        have HX := Lib.hid hX; clear hX
        have HG := Lib.hid hgs; clear hgs
        have HOS := Lib.hid hos; clear hos
        generalize goodN (ch.take k) bl = gk at *
        generalize hj : (outL (ch.take k) bl K).length = j at *
        by_cases hp : (!u || x) = true
        · obtain ⟨j1, j2⟩ := o1 hp
          clear o1 o2
          obtain ⟨b8, o8, rfl, z8⟩ := H8.out j j1
          rw [j2] at z8
          clear j2
          have hos2 := HOS.out
          rw [if_pos hp] at hos2
          have HL2 := Lib.hid (show (outL (ch.take (k + 1)) bl K).length = j + 1 from by rw [hos2, List.length_append, hj]; rfl)
          clear hos2 HOS hj hp
          cases u with
          | true =>
            go_wp2_with (go_at_call 31; (with_reducible refine HX.out.mono ?_); rintro e w2 ⟨rfl, hw⟩; replace hw := hw.symm; subst hw)
            go_roundw
            case rel => exact ⟨k + 1, by omega, by go_num, by rw [HL2.out]; go_num, by rw [HG.out]; simp, by first | rfl | trivial⟩
            case measure => simp [intOf]; omega
          | false =>
            go_wp2_with (go_at_call 31; (with_reducible refine HX.out.mono ?_); rintro e w2 ⟨rfl, hw⟩; replace hw := hw.symm; subst hw)
            go_roundw
            case rel => exact ⟨k + 1, by omega, by go_num, by rw [HL2.out]; go_num, by rw [HG.out]; go_num, by first | rfl | trivial⟩
            case measure => simp [intOf]; omega
        · have hp' : (!u || x) = false := by simpa using hp
          have hut : u = true := by cases u <;> simp at hp' ⊢
          subst hut
          have o2' := o2 hp'
          have hos2 := HOS.out
          rw [if_neg hp, List.append_nil] at hos2
          have HL2 := Lib.hid (show (outL (ch.take (k + 1)) bl K).length = j from by rw [hos2, hj])
          clear hos2 HOS hj hp hp' o1 o2
          by_cases j1 : j < O.length
          · have hne := o2' j1
            obtain ⟨b8, o8, rfl, z8⟩ := H8.out j j1
            generalize O.getD j 0 = q at *
            have hq : (q == y) = false := by simpa using hne
            have hq2 : decide (q = y) = false := decide_eq_false hne
            clear o2' hne
            go_wp2_with (go_at_call 31; (with_reducible refine HX.out.mono ?_); rintro e w2 ⟨rfl, hw⟩; replace hw := hw.symm; subst hw)
            go_roundw
            case rel => exact ⟨k + 1, by omega, by go_num, by rw [HL2.out], by rw [HG.out]; simp, by first | rfl | trivial⟩
            case measure => simp [intOf]; omega
          · have j2 : decide ((j : Int) < (O.length : Int)) = false := decide_eq_false (by omega)
            clear o2'
            go_wp2_with (go_at_call 31; (with_reducible refine HX.out.mono ?_); rintro e w2 ⟨rfl, hw⟩; replace hw := hw.symm; subst hw)
            go_roundw
            case rel => exact ⟨k + 1, by omega, by go_num, by rw [HL2.out], by rw [HG.out]; simp, by first | rfl | trivial⟩
            case measure => simp [intOf]; omega
      · obtain rfl : n = k := by omega
        rw [HTL.out, HO.out]
        have hlen := HLEN.out
        have hgl := HGLE.out n
        rw [HTL.out] at hgl
        generalize goodN ch bl = gd at *
        have hb : (O.length : Int) ≤ 20 := by omega
        have hd2 : ((O.length : Int) == max (gd : Int) least) = true := by simp [hlen]
        have hd3 : decide ((O.length : Int) = max (gd : Int) least) = true := decide_eq_true hlen
        clear hlen
        go_wp2
        go_ret
        exact ⟨by first | rfl | simp, HS8.out⟩
theorem walk (w : World) (s1 s2 : Value) (least : Int) (ch bl : List Int) (h1 : IL w s1 ch) (h2 : IL w s2 bl) (_hl : i64 least) : Calls Try.prog 9 #[.agg #[s1, s2, .int .i64 least]] w fun e w' => e = .returned (.bool true) ∧ Same w w' := by
  by_cases l1 : ch.length ≤ 20
  · by_cases l2 : bl.length ≤ 64
    · exact late w s1 s2 least ch bl h1 h2 l1 l2
    · exact early w s1 s2 least ch bl h1 h2 (.inr ⟨l1, by omega⟩)
  · exact early w s1 s2 least ch bl h1 h2 (.inl (by omega))
open Go.ChangeShapes Go.WideShapes Go.ChangeAt
theorem own : ownKnob Try.prog.godebug = none := by kernel_rfl

set_option maxRecDepth 100000 in
theorem lifted (os : Os) (started : os.Started) (H : Type) (enc : TypeId × Value → H) :
    ReturnsInHanded {} Try.checked os 9 .any (Rows.hopStaysSpec.pre6 enc Try.prog Try.f9 Rows.hopStaysRow.domain false) (Rows.hopStaysSpec.post enc Try.prog Try.f9 false true false false) := by
  refine returnsInHanded_of_change (C := Try.checked) own started (by kernel_rfl) Try.func9
    (ChangeSpec.witness6 (enc := enc) (C := Try.checked) false ⟨#[], #[.agg #[.slice none 0 0, .slice none 0 0, .int .i64 0]], []⟩ 8 (by kernel_rfl) (by kernel_rfl) (by kernel_rfl) (by kernel_rfl)) ?_
  intro W base args ds gs before hval0 hW hcnd _
  have hval : ∀ (j : Nat) t v, Try.f9.params[j]? = some t → args[j]? = some v → Value.okWide Try.prog W .any base t v := hval0
  have hW' := hW
  obtain ⟨p, q, hA0, hV, rfl, hfz, hnd⟩ := hW
  have hA : DataW.TrodAll enc Try.prog W 0 (fun _ => true) true Try.f9.params.toList args.toList ds p := hA0
  rw [Try.params9] at hA hval
  obtain ⟨v0, vs0, d0, ds0, p0, q0, hargs, rfl, rfl, h0, r0⟩ := trodAll_cons hA
  obtain ⟨rfl, rfl, rfl⟩ := trodAll_nil r0
  obtain rfl : args = #[v0] := by cases args; simp_all
  obtain ⟨rfl, rfl⟩ := trodVars_none hV
  obtain ⟨ka0, kb0, kl0, kc0, kd0, rfl, ke0, kf0, kw0⟩ := open_black (hval 0 43 v0 rfl rfl) h0
  clear hA0 hval0
  try simp only [List.append_nil] at hW'
  try simp only [List.nil_append] at hW'
  have hlt : ∀ x ∈ p0, x.block < W.heap.size := fun x hx => by
    have := hW'.lt x (by simpa using hx)
    simpa using this
  refine (walk W ka0 kb0 kl0 kc0 kd0 ke0 kf0 kw0).mono fun e W' ⟨he, hg⟩ => ?_
  subst he
  exact ⟨_, rfl, _, _, _, [], _, [], hW', trodAll_cons_mk (shut_bool Try.underlying4 _) trodAll_mk0, trodAll_cons_mk (Below.trod Try.laidOut (by kernel_rfl) (of_decide_eq_true (by kernel_rfl)) h0 (Same.toBelow hg) (fun x hx => hlt x (by simp [hx]))) trodAll_mk0, rfl, (Same.toBelow hg).frame _, fun h => by cases h⟩

theorem over : Rows.hopStaysRow.holds Try.pinned (OpenSpec.ofChange Rows.hopStaysSpec) :=
  OpenClaim.holds_of_wide 9 Try.f9 rfl rfl rfl rfl rfl rfl rfl ⟨rfl, rfl, rfl, rfl, rfl⟩ rfl rfl rfl rfl rfl (by kernel_rfl) Try.func9 (by kernel_rfl)
    (of_decide_eq_true (by kernel_rfl)) (by unfold Func.isWrapper; first | (rw [if_pos (by decide +kernel)]; kernel_rfl) | (rw [if_neg (by decide +kernel)]; exact ⟨rfl, rfl⟩))
    (fun os started H enc _ => lifted os started H enc)

theorem proved : Rows.HopStaysSaid :=
  over
end hopStays
end Go.Proofs.Ytffanehmlbiemaa
