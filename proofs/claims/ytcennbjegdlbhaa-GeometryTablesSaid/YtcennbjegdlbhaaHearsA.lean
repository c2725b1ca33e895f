/- Hears, by the package and by the reference. -/
import Derived.Test.YtcennbjegdlbhaaHears
namespace Go.Proofs.Ytcennbjegdlbhaa
open Go.RowKit

/-- A list of ints comes back, and an error. -/
def HearP (w : World) (zs : List Int) (c : Int) (e : Ending) (w' : World) : Prop := ∃ v, e = .returned (.tuple #[v, .int .i64 c]) ∧ Ints w' v zs ∧ Same w w'
def heardL (s : Site) (i : Int) : List Int × Int := if siteB s then (if ndB s i then ((hL s i.toNat s.ps.length).map fun (i : Nat) => (i : Int), 0) else ([], 7)) else ([], 1)
theorem own_same {w w' : World} {base n size : Nat} {e : TypeId} {v : Value} {xs : List Value} (h : w.ownsRow base e size v n xs) (s : Same w w') : w'.ownsRow base e size v n xs :=
  h.kept (row := none) ⟨s.os, s.tape, s.output, s.size, fun k hk _ => s.block k hk⟩ (by cases v.ownBlock <;> simp)
theorem same_grown {A W W' : World} {base n size : Nat} {e : TypeId} {v' : Value} {xs : List Value} (h : Same A W) (ho : W.ownsRow base e size v' n xs) (hb : A.heap.size ≤ base) (hg : W.grownBy W' v'.ownBlock) : Same A W' := by
  refine ⟨hg.os.trans h.os, hg.tape.trans h.tape, hg.output.trans h.output, Nat.le_trans h.size hg.size, fun k hk => ?_⟩
  rw [hg.block k (Nat.lt_of_lt_of_le hk h.size) (fun e => by have := (ho.lt k e.symm).1; omega)]
  exact h.block k hk
theorem Try.infoInt : (Try.prog.info? 3).map (fun i => (i.zero, i.size, i.bytes)) = some (some (.int .i64 0), 1, 8) := by kernel_rfl
/-- The row of those that are heard, and the site's box. -/
def RowH (w : World) (v1 v2 v3 : Value) (e n t : Int) (s : Site) (b k : Nat) (V : Value) (wr : World) : Prop :=
  wr.ownsRow (w.heap.size + 1) 3 1 V (hL s b k).length (ncells (hL s b k)) ∧ Same (boxS w v1 v2 v3 e n t) wr
theorem RowH.skip {w wr w' : World} {v1 v2 v3 V : Value} {e n t : Int} {s : Site} {b k : Nat} (h : RowH w v1 v2 v3 e n t s b k V wr) (hs : Same wr w') (hk : decide (s.t * s.n ≤ 1000 * betS s k b) = false) : RowH w v1 v2 v3 e n t s b (k + 1) V w' := by
  unfold RowH
  rw [hL_succ, if_neg (by rw [hk]; decide), List.append_nil]
  exact ⟨own_same h.1 hs, h.2.trans hs⟩
theorem RowH.add {w wr w1 w2 : World} {v1 v2 v3 V V' : Value} {e n t : Int} {s : Site} {b k : Nat} (h : RowH w v1 v2 v3 e n t s b k V wr) (hs : Same wr w1) (hk : decide (s.t * s.n ≤ 1000 * betS s k b) = true)
    (ho : w2.ownsRow (w.heap.size + 1) 3 1 V' ((hL s b k).length + 1) (ncells (hL s b k) ++ [.int .i64 k])) (hg : w1.grownBy w2 V.ownBlock) : RowH w v1 v2 v3 e n t s b (k + 1) V' w2 := by
  unfold RowH
  rw [hL_succ, if_pos hk]
  refine ⟨?_, same_grown (h.2.trans hs) (own_same h.1 hs) (by simp) hg⟩
  have e1 : (hL s b k ++ [k]).length = (hL s b k).length + 1 := by simp
  have e2 : ncells (hL s b k ++ [k]) = ncells (hL s b k) ++ [.int .i64 k] := by simp [ncells]
  rw [e1, e2]; exact ho
/-- The site's box, as it is read. -/
abbrev S6 (w : World) (v1 v2 v3 : Value) (e n t : Int) (wr w' : World) : Prop :=
  (w'.cell? ⟨w.heap.size, 0, none⟩ = some v1 ∧ w'.cell? ⟨w.heap.size, 1, none⟩ = some v2 ∧ w'.cell? ⟨w.heap.size, 2, none⟩ = some v3 ∧ w'.cell? ⟨w.heap.size, 3, none⟩ = some (.int .i64 e) ∧ w'.cell? ⟨w.heap.size, 4, none⟩ = some (.int .i64 n) ∧ w'.cell? ⟨w.heap.size, 5, none⟩ = some (.int .i64 t)) ∧ Same wr w'
theorem keep6 {w wr w1 w2 : World} {v1 v2 v3 : Value} {e n t : Int} (h : S6 w v1 v2 v3 e n t wr w1) (s : Same w1 w2) : S6 w v1 v2 v3 e n t wr w2 := by
  obtain ⟨⟨h0, h1, h2, h3, h4, h5⟩, hs⟩ := h
  exact ⟨⟨s.cell h0, s.cell h1, s.cell h2, s.cell h3, s.cell h4, s.cell h5⟩, hs.trans s⟩
set_option maxHeartbeats 3200000 in
set_option maxRecDepth 100000 in
theorem hears_any (w : World) (v : Value) (s : Site) (h : SiteAt w v s) (i : Int) : Calls Try.prog 30 #[v, .int .i64 i] w (HearP w (heardL s i).1 (heardL s i).2) := by
  have hread := h.read
  obtain ⟨v1, v2, v3, rfl, h1, h2, h3⟩ := hread
  obtain ⟨ao1, cap1, e1⟩ := h1.shape
  obtain ⟨ao2, cap2, e2⟩ := h2.shape
  obtain ⟨ao3, cap3, e3⟩ := h3.shape
  have HAT := Lib.hid (fun (w1 : World) (h : Same (boxS w v1 v2 v3 s.e s.n s.t) w1) => boxS_at h)
  have s0 : Same w (boxS w v1 v2 v3 s.e s.n s.t) := by repeat' (first | exact Same.refl _ | apply Same.alloc)
  have HS0 := Lib.hid s0
  clear h1 h2 h3
  by_cases hs : siteB s = true
  · have hc := check_at _ _ s (h.same s0) 0 (by rw [if_pos hs])
    have HC := Lib.hid hc; clear hc
    have hg := good_of hs
    have hn2 := hg.n2
    have hn32 := hg.n32
    obtain ⟨u, hu⟩ : ∃ u, ndB s i = u := ⟨_, rfl⟩
    have H1 := Lib.hid (fun w1 k => isNode_at w1 _ s (h.same k) (by omega) i u hu)
    cases u with
    | false =>
      rw [show heardL s i = ([], 7) by unfold heardL; rw [if_pos hs, hu]; rfl]
      clear hs h s0 hu hg hn2 hn32
      subst e1 e2 e3
      generalize s.e = e at *
      generalize s.n = nn at *
      generalize s.t = t at *
      go_enter Try.func30, Try.ntmps30
      go_wp2_with (first
        | (go_at_call 24; (with_reducible refine HC.out.mono ?_); rintro e w1 ⟨rfl, hw⟩; have hb := Lib.hid hw; obtain ⟨z1, z2, z3, z4, z5, z6, hs⟩ := HAT.out _ hw; clear hw hs)
        | (go_at_call 51; (with_reducible refine (H1.out _ (HS0.out.trans hb.out)).mono ?_); rintro e w2 ⟨rfl, hw⟩; have hb' := Lib.hid (hb.out.trans hw); clear hb hw z1 z2 z3 z4 z5 z6; have hb := hb'; clear hb'; obtain ⟨z1, z2, z3, z4, z5, z6, hs⟩ := HAT.out _ hb.out; clear hs))
      go_ret2
      exact ⟨_, rfl, .inr ⟨_, _, rfl, rfl⟩, HS0.out.trans hb.out⟩
    | true =>
      have k1 := of_decide_eq_true hu
      obtain ⟨b, rfl⟩ := Int.eq_ofNat_of_zero_le k1.1
      have hb : b < s.ps.length := by omega
      have hrt := (head_of hs).2.2.2.2.2
      rw [show heardL s (b : Int) = ((hL s b s.ps.length).map fun (i : Nat) => (i : Int), 0) by unfold heardL; rw [if_pos hs, hu]; rfl]
      have HBT := Lib.hid (fun (k : Nat) (hk : k < s.ps.length) (w1 : World) (hs1 : Same w w1) => between_any w1 _ s (h.same hs1) hg k b hk hb)
      have HRC := Lib.hid (fun (k : Nat) (hk : k < s.ps.length) (u : Bool) (hu : decide (s.t * s.n ≤ 1000 * betS s k b) = u) (w1 : World) => received_nil (betS s k b) s.t s.n (pw_bet hg hk) hrt u hu w1)
      obtain ⟨zs, hzs⟩ : ∃ zs, zs = (hL s b s.ps.length).map fun (i : Nat) => (i : Int) := ⟨_, rfl⟩
      rw [← hzs]
      have HZS := Lib.hid hzs; clear hzs
      have l1 : (s.ps.length : Int) ≤ 32 := by omega
      obtain ⟨i0, hi, hz0, hz1, hz2⟩ := info_parts Try.infoInt
      have HLL := Lib.hid (fun k => hL_length s b k)
      clear hs h s0 hu hg hn2 hrt k1
      subst e1 e2 e3
      go_enter Try.func30, Try.ntmps30
      go_wp2_with (first
        | (go_at_call 24; (with_reducible refine HC.out.mono ?_); rintro e w1 ⟨rfl, hw⟩; have hb := Lib.hid hw; obtain ⟨z1, z2, z3, z4, z5, z6, hs⟩ := HAT.out _ hw; clear hw hs)
        | (go_at_call 51; (with_reducible refine (H1.out _ (HS0.out.trans hb.out)).mono ?_); rintro e w2 ⟨rfl, hw⟩; have hb' := Lib.hid (hb.out.trans hw); clear hb hw z1 z2 z3 z4 z5 z6; have hb := hb'; clear hb'; obtain ⟨z1, z2, z3, z4, z5, z6, hs⟩ := HAT.out _ hb.out; clear hs))
      clear z1 z2 z3 z4 z5 z6
      go_loopw [7, 23] (fun V i wr => ∃ k : Nat, k ≤ s.ps.length ∧ i = .int .i64 k ∧ RowH w (.slice ao1 s.ps.length cap1) (.slice ao2 s.zs.length cap2) (.slice ao3 s.ws.length cap3) s.e s.n s.t s b k V wr) (fun _ i _ => s.ps.length - (intOf i).toNat)
      case atStart => exact ⟨0, Nat.zero_le _, rfl, World.ownsRow_nil _ _ _ _, hb.out⟩
      case round =>
        clear hb
        obtain ⟨k, hk, rfl, hRow⟩ := hrel
        obtain ⟨z1, z2, z3, z4, z5, z6, hs⟩ := HAT.out _ hRow.2
        have HROW := Lib.hid hRow; clear hRow
        by_cases hlt : k < s.ps.length
        · obtain ⟨u, hu⟩ : ∃ u, decide (s.t * s.n ≤ 1000 * betS s k b) = u := ⟨_, rfl⟩
          have Q1 := Lib.hid (HBT.out k hlt)
          have Q2 := Lib.hid (HRC.out k hlt u hu)
          have HU := Lib.hid hu; clear hu
          have hst : (S6 w (.slice ao1 s.ps.length cap1) (.slice ao2 s.zs.length cap2) (.slice ao3 s.ws.length cap3) s.e s.n s.t wr wr) := ⟨⟨z1, z2, z3, z4, z5, z6⟩, Same.refl _⟩
          have HST := Lib.hid hst
          have HSW := Lib.hid hs; clear hs hst
          cases u
          all_goals
            go_wp2
            go_region_held3 (fun w' => (S6 w (.slice ao1 s.ps.length cap1) (.slice ao2 s.zs.length cap2) (.slice ao3 s.ws.length cap3) s.e s.n s.t wr w'))
              (first | exact keep6 HST.out ((Same.refl _).drew) | exact keep6 (by assumption) hw5 | assumption)
              (first
                | (go_at_call 52; (with_reducible refine (Q1.out _ (HSW.out.trans (by exact (by assumption : (S6 w (.slice ao1 s.ps.length cap1) (.slice ao2 s.zs.length cap2) (.slice ao3 s.ws.length cap3) s.e s.n s.t wr _)).2))).mono ?_); rintro e w5 ⟨rfl, hw5⟩)
                | (go_at_call 57; (with_reducible refine (Q2.out _).mono ?_); rintro e w6 ⟨rfl, rfl⟩))
            have hfin := (by assumption : (S6 w (.slice ao1 s.ps.length cap1) (.slice ao2 s.zs.length cap2) (.slice ao3 s.ws.length cap3) s.e s.n s.t wr w6)).2
            have HF := Lib.hid hfin
            clear hfin z1 z2 z3 z4 z5 z6 hw5
          · go_wp2
            go_roundw
            case rel => exact ⟨k + 1, by omega, by go_num, HROW.out.skip HF.out HU.out⟩
            case measure => simp [intOf]; omega
          · have hll := HLL.out k
            go_wp2_with (at_builtin; refine wpList_append_own _ rfl _ _ 31 rfl (w.heap.size + 1) 3 i0 (.int .i64 0) 1 8 Try.underlying31 hi hz0 hz1 hz2 rfl (by decide) _ _ _ rfl ((own_same HROW.out.1 HF.out).alloc _) ⟨w6.heap.size, 0, none⟩ 1 1 [.int .i64 k] rfl ?qc1 ?qc2 ?qc3 ?qc4 ?qc5 ?qc6 ?_)
            case qc1 => rfl
            case qc2 => exact World.news_of_block (by exact heap_alloc_new w6 _)
            case qc3 => intro u hu; simp at hu; subst hu; rfl
            case qc4 => unfold maxLen; omega
            case qc5 => omega
            case qc6 => have := HROW.out.2.size; have h2 := HF.out.size; simp at this ⊢; omega
            intro v' w8 hown hgrow hnil
            have HO := Lib.hid hown
            have HG := Lib.hid hgrow
            clear hown hgrow hnil
            go_wp2
            go_roundw
            case rel => exact ⟨k + 1, by omega, by go_num, HROW.out.add (HF.out.alloc _) HU.out HO.out HG.out⟩
            case measure => simp [intOf]; omega
        · obtain rfl : k = s.ps.length := by omega
          have HF := Lib.hid hs; clear hs z1 z2 z3 z4 z5 z6
          go_wp2
          go_ret2
          exact ⟨_, rfl, by rw [HZS.out]; exact ints_own rfl HROW.out.1, HF.out⟩
  · have hc := check_at _ _ s (h.same s0) 1 (by rw [if_neg hs])
    have HC := Lib.hid hc; clear hc
    rw [show heardL s i = ([], 1) by unfold heardL; rw [if_neg hs]]
    clear hs h s0
    subst e1 e2 e3
    generalize s.e = e at *
    generalize s.n = nn at *
    generalize s.t = t at *
    go_enter Try.func30, Try.ntmps30
    go_wp2_with (go_at_call 24; (with_reducible refine HC.out.mono ?_); rintro e w1 ⟨rfl, hw⟩; have hb := Lib.hid hw; obtain ⟨z1, z2, z3, z4, z5, z6, hs⟩ := HAT.out _ hw; clear hw hs)
    go_ret2
    exact ⟨_, rfl, .inr ⟨_, _, rfl, rfl⟩, HS0.out.trans hb.out⟩
theorem between2_in (w : World) (v : Value) (s : Site) (h : SiteAt w v s) (hs : siteB s = true) (a b : Nat) (ha : a < s.ps.length) (hb : b < s.ps.length) :
    Calls Try.prog 21 #[v, .int .i64 a, .int .i64 b] w fun e w' => e = .returned (.tuple #[.int .i64 (betS s a b), .int .i64 0]) ∧ Same w w' := by
  have := Between2_any w v s h a b
  rw [show betweenS s (a : Int) (b : Int) = (betS s a b, 0) by
    unfold betweenS
    rw [if_pos hs, show ndB s (a : Int) = true from decide_eq_true (by omega), show ndB s (b : Int) = true from decide_eq_true (by omega)]
    rfl] at this
  exact this
set_option maxHeartbeats 3200000 in
set_option maxRecDepth 100000 in
theorem hears2_any (w : World) (v : Value) (s : Site) (h : SiteAt w v s) (i : Int) : Calls Try.prog 31 #[v, .int .i64 i] w (HearP w (heardL s i).1 (heardL s i).2) := by
  have hread := h.read
  obtain ⟨v1, v2, v3, rfl, h1, h2, h3⟩ := hread
  obtain ⟨ao1, cap1, e1⟩ := h1.shape
  obtain ⟨ao2, cap2, e2⟩ := h2.shape
  obtain ⟨ao3, cap3, e3⟩ := h3.shape
  have HAT := Lib.hid (fun (w1 : World) (h : Same (boxS w v1 v2 v3 s.e s.n s.t) w1) => boxS_at h)
  have s0 : Same w (boxS w v1 v2 v3 s.e s.n s.t) := by repeat' (first | exact Same.refl _ | apply Same.alloc)
  have HS0 := Lib.hid s0
  clear h1 h2 h3
  by_cases hs : siteB s = true
  · have hc := check2_at _ _ s (h.same s0) 0 (by rw [if_pos hs])
    have HC := Lib.hid hc; clear hc
    have hg := good_of hs
    have hn32 := hg.n32
    by_cases hu : ndB s i = true
    rotate_left
    · rw [show heardL s i = ([], 7) by unfold heardL; rw [if_pos hs, if_neg hu]]
      have hcase : i < 0 ∨ (0 ≤ i ∧ (s.ps.length : Int) ≤ i) := by
        unfold ndB at hu
        simp only [decide_eq_true_eq] at hu
        omega
      clear hs h s0 hu hg hn32
      subst e1 e2 e3
      generalize s.e = e at *
      generalize s.n = nn at *
      generalize s.t = t at *
      generalize s.ps.length = n1 at *
      rcases hcase with g1 | ⟨g1, g2⟩
      all_goals
        go_enter Try.func31, Try.ntmps31
        go_wp2_with (go_at_call 25; (with_reducible refine HC.out.mono ?_); rintro e w1 ⟨rfl, hw⟩; have hb := Lib.hid hw; obtain ⟨z1, z2, z3, z4, z5, z6, hs⟩ := HAT.out _ hw; clear hw hs)
        go_ret2
        exact ⟨_, rfl, .inr ⟨_, _, rfl, rfl⟩, HS0.out.trans hb.out⟩
    · have k1 := of_decide_eq_true hu
      obtain ⟨b, rfl⟩ := Int.eq_ofNat_of_zero_le k1.1
      have hb : b < s.ps.length := by omega
      have hrt := (head_of hs).2.2.2.2.2
      rw [show heardL s (b : Int) = ((hL s b s.ps.length).map fun (i : Nat) => (i : Int), 0) by unfold heardL; rw [if_pos hs, hu]; rfl]
      have HBT := Lib.hid (fun (k : Nat) (hk : k < s.ps.length) (w1 : World) (hs1 : Same w w1) => between2_in w1 _ s (h.same hs1) hs k b hk hb)
      have HRC := Lib.hid (fun (k : Nat) (hk : k < s.ps.length) (u : Bool) (hu : decide (s.t * s.n ≤ 1000 * betS s k b) = u) (w1 : World) => decide_nil (betS s k b) s.t s.n (pw_bet hg hk) hrt u hu w1)
      obtain ⟨zs, hzs⟩ : ∃ zs, zs = (hL s b s.ps.length).map fun (i : Nat) => (i : Int) := ⟨_, rfl⟩
      rw [← hzs]
      have HZS := Lib.hid hzs; clear hzs
      have l1 : (s.ps.length : Int) ≤ 32 := by omega
      have l3 : decide ((b : Int) < 0) = false := decide_eq_false (by omega)
      have l4 : decide ((s.ps.length : Int) ≤ (b : Int)) = false := decide_eq_false (by omega)
      have l5 : decide (s.ps.length ≤ b) = false := decide_eq_false (by omega)
      obtain ⟨i0, hi, hz0, hz1, hz2⟩ := info_parts Try.infoInt
      have HLL := Lib.hid (fun k => hL_length s b k)
      clear hs h s0 hu hg hrt k1 hb
      subst e1 e2 e3
      go_enter Try.func31, Try.ntmps31
      go_wp2_with (go_at_call 25; (with_reducible refine HC.out.mono ?_); rintro e w1 ⟨rfl, hw⟩; have hb := Lib.hid hw; obtain ⟨z1, z2, z3, z4, z5, z6, hs⟩ := HAT.out _ hw; have HSS := Lib.hid hs; clear hw hs)
      clear z1 z2 z3 z4 z5 z6
      go_loopw [6, 7] (fun V i wr => ∃ k : Nat, k ≤ s.ps.length ∧ i = .int .i64 k ∧ RowH w (.slice ao1 s.ps.length cap1) (.slice ao2 s.zs.length cap2) (.slice ao3 s.ws.length cap3) s.e s.n s.t s b k V wr) (fun _ i _ => s.ps.length - (intOf i).toNat)
      case atStart => exact ⟨0, Nat.zero_le _, rfl, World.ownsRow_made _ #[] 0 (by have := hb.out.size; simp at this ⊢; omega) (Nat.zero_le _) rfl, hb.out.alloc _⟩
      case round =>
        clear hb HSS
        obtain ⟨k, hk, rfl, hRow⟩ := hrel
        obtain ⟨z1, z2, z3, z4, z5, z6, hs⟩ := HAT.out _ hRow.2
        have HROW := Lib.hid hRow; clear hRow
        by_cases hlt : k < s.ps.length
        · obtain ⟨u, hu⟩ : ∃ u, decide (s.t * s.n ≤ 1000 * betS s k b) = u := ⟨_, rfl⟩
          have Q1 := Lib.hid (HBT.out k hlt)
          have Q2 := Lib.hid (HRC.out k hlt u hu)
          have HU := Lib.hid hu; clear hu
          have HSW := Lib.hid hs; clear hs
          have hll := HLL.out k
          cases u
          · go_wp2_with (first
              | (go_at_call 21; (with_reducible refine (Q1.out _ HSW.out).mono ?_); rintro e w5 ⟨rfl, hw5⟩; have HF := Lib.hid hw5; replace z5 := hw5.cell z5; replace z6 := hw5.cell z6; clear hw5)
              | (go_at_call 58; (with_reducible refine (Q2.out _).mono ?_); rintro e w6 ⟨rfl, rfl⟩))
            go_roundw
            case rel => exact ⟨k + 1, by omega, by go_num, HROW.out.skip HF.out HU.out⟩
            case measure => simp [intOf]; omega
          · go_wp2_with (first
              | (go_at_call 21; (with_reducible refine (Q1.out _ HSW.out).mono ?_); rintro e w5 ⟨rfl, hw5⟩; have HF := Lib.hid hw5; replace z5 := hw5.cell z5; replace z6 := hw5.cell z6; clear hw5)
              | (go_at_call 58; (with_reducible refine (Q2.out _).mono ?_); rintro e w6 ⟨rfl, rfl⟩)
              | (at_builtin; refine wpList_append_own _ rfl _ _ 31 rfl (w.heap.size + 1) 3 i0 (.int .i64 0) 1 8 Try.underlying31 hi hz0 hz1 hz2 rfl (by decide) _ _ _ rfl ((own_same HROW.out.1 HF.out).alloc _) ⟨w6.heap.size, 0, none⟩ 1 1 [.int .i64 k] rfl ?qc1 ?qc2 ?qc3 ?qc4 ?qc5 ?qc6 ?_))
            case qc1 => rfl
            case qc2 => exact World.news_of_block (by exact heap_alloc_new w6 _)
            case qc3 => intro u hu; simp at hu; subst hu; rfl
            case qc4 => unfold maxLen; omega
            case qc5 => omega
            case qc6 => have := HROW.out.2.size; have h2 := HF.out.size; simp at this ⊢; omega
            intro v' w8 hown hgrow hnil
            have HO := Lib.hid hown
            have HG := Lib.hid hgrow
            clear hown hgrow hnil
            go_wp2
            go_roundw
            case rel => exact ⟨k + 1, by omega, by go_num, HROW.out.add (HF.out.alloc _) HU.out HO.out HG.out⟩
            case measure => simp [intOf]; omega
        · obtain rfl : k = s.ps.length := by omega
          have HF := Lib.hid hs; clear hs
          go_wp2
          go_ret2
          exact ⟨_, rfl, by rw [HZS.out]; exact ints_own rfl HROW.out.1, HF.out⟩
  · have hc := check2_at _ _ s (h.same s0) 1 (by rw [if_neg hs])
    have HC := Lib.hid hc; clear hc
    rw [show heardL s i = ([], 1) by unfold heardL; rw [if_neg hs]]
    clear hs h s0
    subst e1 e2 e3
    generalize s.e = e at *
    generalize s.n = nn at *
    generalize s.t = t at *
    go_enter Try.func31, Try.ntmps31
    go_wp2_with (go_at_call 25; (with_reducible refine HC.out.mono ?_); rintro e w1 ⟨rfl, hw⟩; have hb := Lib.hid hw; obtain ⟨z1, z2, z3, z4, z5, z6, hs⟩ := HAT.out _ hw; clear hw hs)
    go_ret2
    exact ⟨_, rfl, .inr ⟨_, _, rfl, rfl⟩, HS0.out.trans hb.out⟩
end Go.Proofs.Ytcennbjegdlbhaa
