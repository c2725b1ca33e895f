/- CheckAll of package hop. -/
import Derived.Test.YtffanehmlbiemaaHNext
namespace Go.Proofs.Ytffanehmlbiemaa
open Go.RowKit Go.Deep

abbrev Hp := Int × Int × Int × List Int
abbrev hp0 : Hp := (0, 0, 0, [])
def hopE (x : Hp) : Bool := hopB x.1 x.2.1 x.2.2.1 x.2.2.2
/-- The four cells of a hopping list. -/
def HAt (w : World) (b o : Nat) (x : Hp) : Prop := ∃ ao cap, w.cell? ⟨b, o, none⟩ = some (.int .i64 x.1) ∧ w.cell? ⟨b, o + 1, none⟩ = some (.int .i64 x.2.1) ∧ w.cell? ⟨b, o + 2, none⟩ = some (.int .i64 x.2.2.1) ∧ w.cell? ⟨b, o + 3, none⟩ = some (.slice ao x.2.2.2.length cap) ∧ IL w (.slice ao x.2.2.2.length cap) x.2.2.2
theorem HAt.same {w w' : World} {b o : Nat} {x : Hp} (h : HAt w b o x) (s : Same w w') : HAt w' b o x := by
  obtain ⟨ao, cap, h0, h1, h2, h3, h4⟩ := h
  exact ⟨ao, cap, s.cell h0, s.cell h1, s.cell h2, s.cell h3, h4.same s⟩
/-- A slice that reads as a list of hopping lists. -/
def HL (w : World) (v : Value) (hs : List Hp) : Prop :=
  (∃ b off cap, v = .slice (some ⟨b, off, none⟩) hs.length cap ∧ 0 < hs.length ∧ ∀ i, i < hs.length → HAt w b (off + i * 4) (hs.getD i hp0)) ∨ (∃ ao cap, v = .slice ao 0 cap ∧ hs = [])
theorem HL.same {w w' : World} {v : Value} {hs : List Hp} (h : HL w v hs) (s : Same w w') : HL w' v hs := by
  rcases h with ⟨b, off, cap, h1, h2, h3⟩ | h
  · exact .inl ⟨b, off, cap, h1, h2, fun i hi => (h3 i hi).same s⟩
  · exact .inr h
theorem HL.shape {w : World} {v : Value} {hs : List Hp} (h : HL w v hs) : ∃ ao cap, v = .slice ao hs.length cap := by
  rcases h with ⟨b, off, cap, rfl, _⟩ | ⟨ao, cap, rfl, rfl⟩
  · exact ⟨_, _, rfl⟩
  · exact ⟨_, _, rfl⟩
def Two (w1 w' : World) (b o g : Nat) (y0 y1 y2 y3 x0 x1 x2 x3 : Value) : Prop := w'.cell? ⟨b, o, none⟩ = some y0 ∧ w'.cell? ⟨b, o + 1, none⟩ = some y1 ∧ w'.cell? ⟨b, o + 2, none⟩ = some y2 ∧ w'.cell? ⟨b, o + 3, none⟩ = some y3 ∧ w'.cell? ⟨g, 0, none⟩ = some x0 ∧ w'.cell? ⟨g, 1, none⟩ = some x1 ∧ w'.cell? ⟨g, 2, none⟩ = some x2 ∧ w'.cell? ⟨g, 3, none⟩ = some x3 ∧ Same w1 w'
theorem Two.same {w1 w2 w' : World} {b o g : Nat} {y0 y1 y2 y3 x0 x1 x2 x3 : Value} (h : Two w1 w2 b o g y0 y1 y2 y3 x0 x1 x2 x3) (k : Same w2 w') : Two w1 w' b o g y0 y1 y2 y3 x0 x1 x2 x3 := by
  obtain ⟨a0, a1, a2, a3, a4, a5, a6, a7, a8⟩ := h
  exact ⟨k.cell a0, k.cell a1, k.cell a2, k.cell a3, k.cell a4, k.cell a5, k.cell a6, k.cell a7, a8.trans k⟩
/-- Why a list does not follow the one before it. -/
def folS (x y : Hp) : Int := if y.2.1 = x.2.2.1 then if y.1 = (x.1 + 1) % 256 then 0 else 23 else 5
def stepE (hs : List Hp) (i : Nat) : Int := if hopE (hs.getD i hp0) = true then if i = 0 then 0 else folS (hs.getD (i - 1) hp0) (hs.getD i hp0) else 1
def allK (hs : List Hp) : Nat → Int
  | 0 => 0
  | k + 1 => if allK hs k = 0 then stepE hs k else allK hs k
def allE (hs : List Hp) : Int := if inB (hs.length : Int) 1 1024 = true then allK hs hs.length else 1
theorem allK_zero {hs : List Hp} : ∀ k, (∀ j, j < k → stepE hs j = 0) → allK hs k = 0
  | 0, _ => rfl
  | k + 1, h => by
    have ih := allK_zero k (fun j hj => h j (by omega))
    unfold allK
    rw [if_pos ih]; exact h k (by omega)
theorem allK_stop {hs : List Hp} {k : Nat} (h0 : ∀ j, j < k → stepE hs j = 0) (h : ¬ stepE hs k = 0) : ∀ j, allK hs (k + 1 + j) = stepE hs k
  | 0 => by show (if allK hs k = 0 then stepE hs k else allK hs k) = _; rw [if_pos (allK_zero k h0)]
  | j + 1 => by
    have ih := allK_stop h0 h j
    show (if allK hs (k + 1 + j) = 0 then stepE hs (k + 1 + j) else allK hs (k + 1 + j)) = _
    rw [ih, if_neg h]
set_option maxHeartbeats 3200000 in
set_option maxRecDepth 100000 in
theorem follows_any (v f u : Int) (a1 : Option Addr) (n1 c1 : Nat) (v' f' u' : Int) (a2 : Option Addr) (n2 c2 : Nat) (hv : 0 ≤ v ∧ v ≤ 255) (zs zs' : List Int) (w : World) : Calls Try.prog 43 #[hopV v f u (.slice a1 n1 c1), hopV v' f' u' (.slice a2 n2 c2)] w fun e w' => e = .returned (.int .i64 (folS (v, f, u, zs) (v', f', u', zs'))) ∧ Same w w' := by
  have HNV := Lib.hid (fun (w1 : World) => nextVersion_any v hv w1)
  have HS := Lib.hid (((Same.refl w).alloc (.cells #[.int .i64 v, .int .i64 f, .int .i64 u, .slice a1 n1 c1] 24)).alloc (.cells #[.int .i64 v', .int .i64 f', .int .i64 u', .slice a2 n2 c2] 24))
  unfold folS
  simp only
  by_cases h1 : f' = u
  · rw [if_pos h1]
    have h1' : (f' == u) = true := by simpa using h1
    have h1b : (f' != u) = false := by simp [h1]
    by_cases h2 : v' = (v + 1) % 256
    · rw [if_pos h2]
      have h2' : (v' == (v + 1) % 256) = true := by simpa using h2
      generalize (v + 1) % 256 = x at *
      clear h1 h2
      go_enter Try.func43, Try.ntmps43
      go_wp2
      go_quiet (exact Calls.quiet_of_same (HNV.out _))
      go_wp2
      go_ret
      exact ⟨rfl, HS.out.drewN _⟩
    · rw [if_neg h2]
      have h2' : (v' == (v + 1) % 256) = false := by simpa using h2
      generalize (v + 1) % 256 = x at *
      clear h1 h2
      go_enter Try.func43, Try.ntmps43
      go_wp2
      go_quiet (exact Calls.quiet_of_same (HNV.out _))
      go_wp2
      go_ret
      exact ⟨rfl, HS.out.drewN _⟩
  · rw [if_neg h1]
    have h1' : (f' == u) = false := by simpa using h1
    clear h1
    go_enter Try.func43, Try.ntmps43
    go_wp2
    go_ret
    exact ⟨rfl, HS.out⟩
set_option maxHeartbeats 3200000 in
set_option maxRecDepth 100000 in
theorem CheckAll_any (w : World) (v : Value) (hs : List Hp) (h : HL w v hs) (hz : ∀ i, (hs.getD i hp0).2.2.2.length ≤ 1000) :
    Calls Try.prog 22 #[v] w fun e w' => e = .returned (.int .i64 (allE hs)) ∧ Same w w' := by
  by_cases c0 : inB (hs.length : Int) 1 1024 = true
  · obtain ⟨q1, q2⟩ := inB_yes c0
    have hw := within_any (hs.length : Int) 1 1024 w
    rw [c0] at hw
    have HW := Lib.hid hw; clear hw
    rcases h with ⟨b, off, cap, rfl, h0, hc⟩ | ⟨ao, cap, rfl, rfl⟩
    · have HZ := Lib.hid (allK_zero (hs := hs) hs.length)
      have HST := Lib.hid (fun (k : Nat) (hk : k < hs.length) (h0 : ∀ j, j < k → stepE hs j = 0) (h : ¬ stepE hs k = 0) => (show allK hs hs.length = stepE hs k from by
        have := allK_stop h0 h (hs.length - k - 1)
        rwa [show k + 1 + (hs.length - k - 1) = hs.length by omega] at this))
      rw [show allE hs = allK hs hs.length from if_pos c0]
      obtain ⟨R, hR⟩ : ∃ R, allK hs hs.length = R := ⟨_, rfl⟩
      rw [hR] at HZ HST ⊢
      clear hR c0
      have H := Lib.hid hc; clear hc
      have HLN := Lib.hid hz; clear hz
      generalize hn : hs.length = n at *
      clear hn
      go_enter Try.func22, Try.ntmps22
      go_wp2_with (go_at_call 42; (with_reducible refine HW.out.mono ?_); rintro e w1 ⟨rfl, hw⟩; replace hw := hw.symm; subst hw)
      clear HW
      go_loopw [13] (fun i wr => ∃ k : Nat, k ≤ n ∧ i = .int .i64 k ∧ (∀ j, j < k → stepE hs j = 0) ∧ Same w wr) (fun i _ => n - (intOf i).toNat)
      case atStart => exact ⟨0, Nat.zero_le _, rfl, fun j hj => absurd hj (Nat.not_lt_zero _), Same.refl _⟩
      case round =>
        obtain ⟨k, hk, rfl, hall, hS⟩ := hrel
        by_cases hlt : k < n
        · obtain ⟨ao, ca, z0, z1, z2, z3, hil⟩ := (H.out k hlt).same hS
          have hln := HLN.out k
          have hst : stepE hs k = if hopE (hs.getD k hp0) = true then if k = 0 then 0 else folS (hs.getD (k - 1) hp0) (hs.getD k hp0) else 1 := rfl
          obtain ⟨x, hx⟩ : ∃ x, hs.getD k hp0 = x := ⟨_, rfl⟩
          rw [hx] at z0 z1 z2 z3 hil hln hst
          obtain ⟨xv, xf, xu, xz⟩ := x
          simp only at z0 z1 z2 z3 hil hln
          have HX := Lib.hid hx; clear hx
          have hb4 := hS.alloc (.cells #[.int .i64 xv, .int .i64 xf, .int .i64 xu, .slice ao xz.length ca] 24)
          have hck := Check_any xv xf xu (.slice ao xz.length ca) xz (wr.alloc (.cells #[.int .i64 xv, .int .i64 xf, .int .i64 xu, .slice ao xz.length ca] 24)) (hil.same ((Same.refl _).alloc _)) hln
          by_cases hh : hopE (xv, xf, xu, xz) = true
          · rw [if_pos hh] at hst
            rw [show chkH xv xf xu xz = 0 from if_pos hh] at hck
            have HCK := Lib.hid hck; clear hck
            have HV := Lib.hid (hopB_of (show hopB xv xf xu xz = true from hh)).1
            by_cases k0 : k = 0
            · subst k0
              have HS0 := Lib.hid (show stepE hs 0 = 0 from hst)
              simp only [Nat.zero_mul, Nat.add_zero] at z0 z1 z2 z3
              have HB4 := Lib.hid hb4; clear hst hall hS hil hb4 hh hln
              generalize xz.length = m at *
              go_wp2_with (go_at_call 16; (with_reducible refine HCK.out.mono ?_); rintro e w2 ⟨rfl, hw⟩; have HW2 := Lib.hid (HB4.out.trans hw); clear hw)
              go_roundw
              case rel => exact ⟨1, by omega, by first | rfl | go_num, fun j hj => (show stepE hs j = 0 from by rw [show j = 0 by omega]; exact HS0.out), HW2.out⟩
              case measure => simp [intOf]; omega
            · obtain ⟨m, rfl⟩ : ∃ m, k = m + 1 := ⟨k - 1, by omega⟩
              obtain ⟨ap, cp, y0, y1, y2, y3, _⟩ := (H.out m (by omega)).same hS
              have hprev := hall m (by omega)
              rw [if_neg (by omega), Nat.add_sub_cancel] at hst
              obtain ⟨y, hy⟩ : ∃ y, hs.getD m hp0 = y := ⟨_, rfl⟩
              have hpv : hopE y = true := by
                unfold stepE at hprev
                rw [hy] at hprev
                by_cases q : hopE y = true
                · exact q
                · rw [if_neg q] at hprev; exact absurd hprev (by decide)
              rw [hy] at y0 y1 y2 y3 hst
              obtain ⟨yv, yf, yu, yz⟩ := y
              simp only at y0 y1 y2 y3
              have HFO := Lib.hid (fun (w1 : World) => follows_any yv yf yu ap yz.length cp xv xf xu ao xz.length ca (hopB_of (show hopB yv yf yu yz = true from hpv)).1 yz xz w1)
              have hks := (hall)
              have HSK := Lib.hid (fun (h0 : stepE hs (m + 1) = 0) (j : Nat) (hj : j < m + 1 + 1) => (show stepE hs j = 0 from by
                by_cases e : j = m + 1
                · subst e; exact h0
                · exact hks j (by omega)))
              have HFN := Lib.hid (fun (hne : ¬ stepE hs (m + 1) = 0) => HST.out (m + 1) hlt hks hne)
              have HB4 := Lib.hid hb4
              have HY := Lib.hid (fun (w1 : World) (hq : Same wr w1) => And.intro (hq.cell y0) (And.intro (hq.cell y1) (And.intro (hq.cell y2) (hq.cell y3))))
              clear hy hpv hprev hks hall hS hil hb4 hh hln y0 y1 y2 y3
              generalize folS (yv, yf, yu, yz) (xv, xf, xu, xz) = F at *
              have HSTK := Lib.hid hst; clear hst
              generalize xz.length = n1 at *
              generalize yz.length = n2 at *
              have i1 : ((m + 1 : Nat) : Int) - 1 = (m : Int) := by omega
              have i2 : (((m + 1 : Nat) : Int) == 0) = false := by simp; omega
              have i3 : ((m : Int) + 1 == 0) = false := by simp; omega
              have i4 : ((m : Int) + 1 - 1) = (m : Int) := by omega
              have i5 : (0 : Int) ≤ (m : Int) := by omega
              have i6 : (m : Int) < (n : Int) := by omega
              have i7 : m < n := by omega
              have i8 : IntKind.i64.wrap (m : Int) = (m : Int) := IntWalk.i64_in _ (by omega)
              go_wp2_with (go_at_call 16; (with_reducible refine HCK.out.mono ?_); rintro e w2 ⟨rfl, hw⟩; have HW2 := Lib.hid (HB4.out.trans hw); obtain ⟨y0, y1, y2, y3⟩ := HY.out _ (((Same.refl wr).alloc _).trans hw); have x0 := hw.cell (p := ⟨wr.heap.size, 0, none⟩) (v := .int .i64 xv) (by go_simp); have x1 := hw.cell (p := ⟨wr.heap.size, 1, none⟩) (v := .int .i64 xf) (by go_simp); have x2 := hw.cell (p := ⟨wr.heap.size, 2, none⟩) (v := .int .i64 xu) (by go_simp); have x3 := hw.cell (p := ⟨wr.heap.size, 3, none⟩) (v := .slice ao n1 ca) (by go_simp); clear hw)
              have hT : Two w w2 b (off + m * 4) wr.heap.size (.int .i64 yv) (.int .i64 yf) (.int .i64 yu) (.slice ap n2 cp) (.int .i64 xv) (.int .i64 xf) (.int .i64 xu) (.slice ao n1 ca) := ⟨y0, y1, y2, y3, x0, x1, x2, x3, HW2.out⟩
              have hTd := hT.same (Same.refl w2).drew
              unfold Two at hT hTd
              go_region_held3 (fun w' => w'.cell? ⟨b, off + m * 4, none⟩ = some (.int .i64 yv) ∧ w'.cell? ⟨b, off + m * 4 + 1, none⟩ = some (.int .i64 yf) ∧ w'.cell? ⟨b, off + m * 4 + 2, none⟩ = some (.int .i64 yu) ∧ w'.cell? ⟨b, off + m * 4 + 3, none⟩ = some (.slice ap n2 cp) ∧ w'.cell? ⟨wr.heap.size, 0, none⟩ = some (.int .i64 xv) ∧ w'.cell? ⟨wr.heap.size, 1, none⟩ = some (.int .i64 xf) ∧ w'.cell? ⟨wr.heap.size, 2, none⟩ = some (.int .i64 xu) ∧ w'.cell? ⟨wr.heap.size, 3, none⟩ = some (.slice ao n1 ca) ∧ Same w w')
                (first | exact hTd | exact Two.same (by assumption) (by assumption) | assumption)
                (first
                  | (go_at_call 43; refine (HFO.out _).mono ?_; rintro e w3 ⟨rfl, hk3⟩)
                  | fail)
              have hfin := (by assumption : _ ∧ _ ∧ _ ∧ _ ∧ _ ∧ _ ∧ _ ∧ _ ∧ Same w w3).2.2.2.2.2.2.2.2
              have HW3 := Lib.hid hfin
              clear hT hTd hk3 hfin y0 y1 y2 y3 x0 x1 x2 x3
              by_cases hF : F = 0
              · subst hF
                go_wp2
                go_roundw
                case rel => exact ⟨m + 1 + 1, by omega, by go_num, HSK.out HSTK.out, HW3.out⟩
                case measure => simp [intOf]; omega
              · have hF2 := HFN.out (by rw [HSTK.out]; exact hF)
                rw [HSTK.out] at hF2
                have HF2 := Lib.hid hF2; clear hF2
                have hF3 : (F == 0) = false := by simpa using hF
                go_wp2
                go_ret
                exact ⟨ret_i64 HF2.out.symm, HW3.out⟩
          · rw [if_neg hh] at hst
            rw [show chkH xv xf xu xz = 1 from if_neg hh] at hck
            have HCK := Lib.hid hck; clear hck
            have HF := Lib.hid ((HST.out k hlt hall (by rw [hst]; decide)).trans hst)
            have HB4 := Lib.hid hb4; clear hst hall hS hil hb4 hh hln
            generalize xz.length = m at *
            go_wp2_with (go_at_call 16; (with_reducible refine HCK.out.mono ?_); rintro e w2 ⟨rfl, hw⟩; have HW2 := Lib.hid (HB4.out.trans hw); clear hw)
            go_ret
            exact ⟨ret_i64 HF.out.symm, HW2.out⟩
        · obtain rfl : n = k := by omega
          have HF := Lib.hid (HZ.out hall)
          have HQ := Lib.hid hS; clear hall hS
          go_wp2
          go_ret
          exact ⟨ret_i64 HF.out.symm, HQ.out⟩
    · simp at q1
  · have c0' := inB_false c0
    rw [show allE hs = 1 from if_neg c0]
    have hw := within_any (hs.length : Int) 1 1024 w
    rw [c0'] at hw
    have HW := Lib.hid hw; clear hw
    obtain ⟨ao, cap, rfl⟩ := h.shape
    clear h c0 c0' hz
    generalize hs.length = n at *
    go_enter Try.func22, Try.ntmps22
    go_wp2_with (go_at_call 42; (with_reducible refine HW.out.mono ?_); rintro e w1 ⟨rfl, hw⟩; replace hw := hw.symm; subst hw)
    go_ret
    exact ⟨rfl, Same.refl _⟩
end Go.Proofs.Ytffanehmlbiemaa
