/- Run of the reference. -/
import Derived.Test.YtffcoeadpicohaaStep3T
namespace Go.Proofs.Ytffcoeadpicohaa
open Go.RowKit

set_option maxHeartbeats 6400000 in
set_option maxRecDepth 100000 in
theorem Run2_early (w : World) (v1 v2 v3 : Value) (l : List St) (zs : List Int) (xs : List Sn) (h1 : Lst w v1 l.length (ycells l)) (h2 : Lst w v2 zs.length (icells zs)) (h3 : Lst w v3 xs.length (xcells xs)) (b2 : zs.length ≤ 1000) (hno : ¬ (isTree zs ∧ l.length = zs.length ∧ xs.length ≤ 1024)) :
    Calls Try.prog 27 #[v1, v2, v3] w (RunP w l zs xs) := by
  have hd := Depths2_any w v2 zs h2 b2
  have HNO := Lib.hid (show ¬ RunOk l zs xs from fun h => hno ⟨h.1, h.2.1, h.2.2.2⟩)
  obtain ⟨a1, k1, rfl⟩ := h1.shape
  obtain ⟨a2, k2, rfl⟩ := h2.shape
  obtain ⟨a3, k3, rfl⟩ := h3.shape
  clear h1 h2 h3
  by_cases hT : isTree zs
  · have HD := Lib.hid (hd.mono (fun e w' h => dep_good hT h)); clear hd
    by_cases hl : l.length = zs.length
    · have hx : 1024 < xs.length := by
        by_cases e : 1024 < xs.length
        · exact e
        · exact absurd ⟨hT, hl, by omega⟩ hno
      clear hno hT
      rw [hl]
      clear hl
      generalize zs.length = n at *
      generalize xs.length = m at *
      go_enter Try.func27, Try.ntmps27
      go_wp2_with (go_at_call 23; (with_reducible refine HD.out.mono ?_); rintro e w1 ⟨v5, rfl, hs⟩; have HS := Lib.hid hs; clear hs)
      go_ret3
      exact RunP.bad HNO.out HS.out
    · have hne : ((l.length : Int) != (zs.length : Int)) = true := by simp; omega
      clear hno hT hl
      generalize zs.length = n at *
      generalize l.length = q at *
      generalize xs.length = m at *
      go_enter Try.func27, Try.ntmps27
      go_wp2_with (go_at_call 23; (with_reducible refine HD.out.mono ?_); rintro e w1 ⟨v5, rfl, hs⟩; have HS := Lib.hid hs; clear hs)
      go_ret3
      exact RunP.bad HNO.out HS.out
  · have HD := Lib.hid (hd.mono (fun e w' h => dep_bad hT h)); clear hd hno hT
    generalize zs.length = n at *
    generalize l.length = q at *
    generalize xs.length = m at *
    go_enter Try.func27, Try.ntmps27
    go_wp2_with (go_at_call 23; (with_reducible refine HD.out.mono ?_); rintro e w1 ⟨rfl, hs⟩; have HS := Lib.hid hs; clear hs)
    go_ret3
    exact RunP.bad HNO.out HS.out
set_option maxHeartbeats 6400000 in
set_option maxRecDepth 100000 in
theorem Run2_late (w : World) (v1 v2 v3 : Value) (l : List St) (zs : List Int) (xs : List Sn) (h1 : Lst w v1 l.length (ycells l)) (h2 : Lst w v2 zs.length (icells zs)) (h3 : Lst w v3 xs.length (xcells xs)) (hT : isTree zs) (hl : l.length = zs.length) (hx : xs.length ≤ 1024) :
    Calls Try.prog 27 #[v1, v2, v3] w (RunP w l zs xs) := by
  have ht1 := hT.1
  have ht2 := hT.2.1
  have HD := Lib.hid ((Depths2_any w v2 zs h2 (by omega)).mono (fun e w' h => dep_good hT h))
  have HCK := Lib.hid (fun (o d s c : Int) (w : World) => tCheck2_any o d s c w)
  have HPR := Lib.hid (fun (i : Nat) (h1 : 1 ≤ i) (hi : i < zs.length) => tree_parent hT i h1 hi)
  have HOK := Lib.hid (fun (hA : ∀ i : Nat, i < l.length → okYs (l.getD i st0) = true) => (show RunOk l zs xs ∧ allC l from ⟨⟨hT, hl, hA, hx⟩, fun i hi => (okY_of (hA i hi)).1⟩))
  have HNO := Lib.hid (fun (k : Nat) (hk : k < l.length) (h : okYs (l.getD k st0) = false) => (show ¬ RunOk l zs xs from fun h' => by rw [h'.2.2.1 k hk] at h; exact absurd h (by decide)))
  rcases h1 with ⟨b1, o1, k1, rfl, hc1⟩ | ⟨_, _, _, h0, _⟩
  · rcases h2 with ⟨b2, o2, k2, rfl, hc2⟩ | ⟨_, _, _, h0, _⟩
    · obtain ⟨i0, hi, hz0, hz1, hz2⟩ := info_parts Try.infoY
      have HC1 := Lib.hid hc1
      have HR := Lib.hid (fun (w1 : World) (hs : Same w w1) (i : Nat) (hi : i < l.length) => (y_at hc1 i hi).same hs); clear hc1
      have HC2 := Lib.hid (fun (i : Nat) (hi : i < zs.length) => hc2 i _ (icells_get zs i hi)); clear hc2
      have hlist : ∃ b off cap, (v3 = .slice (some ⟨b, off, none⟩) xs.length cap ∨ (∃ ao, v3 = .slice ao xs.length cap ∧ xs.length = 0)) ∧ ∀ i, i < xs.length → XAt w b (off + i * 3) (xs.getD i sn0) := by
        rcases h3 with ⟨b, off, cap, h, hc⟩ | ⟨ao, cap, h, h0, _⟩
        · exact ⟨b, off, cap, .inl h, fun i hi => x_at hc i hi⟩
        · exact ⟨0, 0, cap, .inr ⟨ao, by rw [h, h0], h0⟩, fun i hi => by omega⟩
      obtain ⟨b3, o3, k3, hcs, hX⟩ := hlist
      have HX := Lib.hid hX; clear hX
      have hv3 : ∃ ao, v3 = .slice ao xs.length k3 ∧ (0 < xs.length → ao = some ⟨b3, o3, none⟩) := by
        rcases hcs with rfl | ⟨ao, rfl, h0⟩
        · exact ⟨_, rfl, fun _ => rfl⟩
        · exact ⟨ao, rfl, fun h => by omega⟩
      clear hcs
      obtain ⟨ao, rfl, hao⟩ := hv3
      have HAO := Lib.hid hao; clear hao
      have HL := Lib.hid hl
      have hyl := ycells_length l
      rw [hl] at hyl HOK HNO HR ⊢
      have HYL := Lib.hid hyl; clear hyl hT h3
      generalize hm : xs.length = m at *
      have HM := Lib.hid hm
      generalize hn : zs.length = n at *
      have HN := Lib.hid hn
      clear hm hn hl
      have hm2 : (m : Int) ≤ 1024 := by omega
      have hn2 : (n : Int) ≤ 32 := by omega
      go_enter Try.func27, Try.ntmps27
      go_wp2_with (go_at_call 23; (with_reducible refine HD.out.mono ?_); rintro e w1 ⟨v5, rfl, hs⟩; have HS := Lib.hid hs; clear hs)
      go_loopg [11] n (fun g s11 wx => ∃ k : Nat, k + g = n ∧ s11 = .int .i64 k ∧ (∀ i : Nat, i < k → okYs (l.getD i st0) = true) ∧ Same w wx)
      case atStart => exact ⟨0, by omega, rfl, fun i hi => absurd hi (Nat.not_lt_zero _), HS.out⟩
      case round =>
        clear HS
        obtain ⟨k, hkg, rfl, hall, hs⟩ := hrel
        have HALL := Lib.hid hall; clear hall
        have HS := Lib.hid hs; clear hs
        cases gk with
        | succ g =>
          have hlt : k < n := by omega
          obtain ⟨y0, y1, y2, y3⟩ := HR.out _ HS.out k hlt
          obtain ⟨x, hx'⟩ : ∃ x, l.getD k st0 = x := ⟨_, rfl⟩
          rw [hx'] at y0 y1 y2 y3
          have hNk := HNO.out k hlt
          rw [hx'] at hNk
          have hAk : okYs x = true → ∀ i : Nat, i < k + 1 → okYs (l.getD i st0) = true := fun h i hi => by
            by_cases e : i = k
            · rw [e, hx']; exact h
            · exact HALL.out i (by omega)
          obtain ⟨x0, x1, x2, x3⟩ := x
          have h1 := fun w => HCK.out x0 x1 x2 x3 w
          rcases chkY_cases x0 x1 x2 x3 with ⟨a, e⟩ | ⟨a, e⟩ <;> rw [e] at h1
          · have HA2 := Lib.hid (hAk a)
            have H1 := Lib.hid h1; clear h1 hNk hAk hx'
            go_wp2_with (go_at_call 18; (with_reducible refine (H1.out _).mono ?_); rintro e w2 ⟨rfl, hw⟩; have HS2 := Lib.hid (HS.out.trans hw.toSame); clear hw)
            go_roundg g
            case rel => exact ⟨k + 1, by omega, by go_num, HA2.out, HS2.out⟩
            case measure => omega
          · have HBAD := Lib.hid (hNk a)
            have H1 := Lib.hid h1; clear h1 hNk hAk hx'
            go_wp2_with (go_at_call 18; (with_reducible refine (H1.out _).mono ?_); rintro e w2 ⟨rfl, hw⟩; have HS2 := Lib.hid (HS.out.trans hw.toSame); clear hw)
            go_ret3
            exact RunP.bad HBAD.out HS2.out
        | zero =>
          have hkn : k = n := by omega
          clear hkg
          subst hkn
          have HRO := Lib.hid (HOK.out HALL.out)
          clear HALL HNO HOK HCK HD
          go_wp2_with (at_builtin; refine wpList_append_own _ rfl _ _ 36 rfl w.heap.size 25 i0 (.agg #[.int .i64 0, .int .i64 0, .int .i64 0, .int .i64 0]) 4 32 Try.underlying36 hi hz0 hz1 hz2 rfl (by decide) _ _ _ rfl (World.ownsRow_made wr #[] 0 HS.out.size (Nat.zero_le _) rfl) ⟨b1, o1, none⟩ k k1 (ycells l) rfl ?qc1 ?qc2 ?qc3 ?qc4 ?qc5 ?qc6 ?_)
          case qc1 => exact HYL.out
          case qc2 => intro j u hj; rw [addr_add]; exact ((Same.refl wr).alloc _).cell (HS.out.cell (HC1.out j u hj))
          case qc3 => exact ycells_one l
          case qc4 => unfold maxLen; omega
          case qc5 => omega
          case qc6 => have := HS.out.size; simp; omega
          intro v' w3 hown hgrow hnil
          have hs3 : Same wr w3 := ⟨hgrow.os, hgrow.tape, hgrow.output, by have := hgrow.size; simp at this; omega, fun q hq => (hgrow.block q (by simp; omega) (by simp [Value.ownBlock]; omega)).trans (((Same.refl wr).alloc (.cells #[] 25)).block q hq)⟩
          have HS3 := Lib.hid (HS.out.trans hs3)
          rcases hown.2 with ⟨_, hn0⟩ | ⟨g, kg, cur, rfl, hg, _⟩
          · exact absurd ‹_› hnil
          · have hgl := (hown.lt g rfl).2
            have HG := Lib.hid (And.intro hg hgl)
            have HO := Lib.hid hown
            clear hown hgrow hnil hs3 hg hgl HC1 HS HYL HR
            go_wp2
            go_loopg [13] m (fun gh s13 wx => ∃ (j : Nat) (l' : List St), j + gh = m ∧ s13 = .int .i64 j ∧ runK k zs l xs j = .ok l' ∧ But g w3 wx ∧ wx.ownsRow w.heap.size 25 4 (.slice (some ⟨g, 0, none⟩) k kg) k (ycells l'))
            case atStart => exact ⟨0, l, by omega, rfl, rfl, But.of_same (Same.refl _), HO.out⟩
            case round =>
              clear HO
              obtain ⟨j, l', hjg, rfl, hrun, hbut, hrow⟩ := hrel
              have HRUN := Lib.hid hrun
              have hll : l'.length = k := by rw [runK_length j l' hrun]; exact HL.out
              have hsw : Same w wr := hbut.same HS3.out HG.out.1
              have hcl : allC l' := runK_clocks HRO.out.2 j l' hrun
              have HSW := Lib.hid hsw
              have HBUT := Lib.hid hbut
              clear hrun hbut
              cases gk with
              | zero =>
                have hjm : j = m := by omega
                clear hjg
                subst hjm
                have HLST := Lib.hid (Lst.of_own hrow); clear hrow hsw hcl
                have HLL := Lib.hid hll; clear hll
                go_wp2
                go_ret3
                refine ⟨HSW.out, .inr (.inr ⟨HRO.out.1, l', _, by rw [HN.out, HM.out]; exact HRUN.out, rfl, ?_⟩)⟩
                rw [HLL.out]; exact HLST.out
              | succ gh =>
                have hjm : j < m := by omega
                obtain rfl := HAO.out (by omega)
                obtain ⟨t0, t1, t2⟩ := HX.out j hjm
                have y0 := hsw.cell t0
                have y1 := hsw.cell t1
                have y2 := hsw.cell t2
                clear t0 t1 t2
                have hk1 : runK k zs l xs (j + 1) = (if nodeB k (xs.getD j sn0) = false then .error (j, 7) else if (stepS l' zs (xs.getD j sn0)).2 = 0 then .ok (l'.set (xs.getD j sn0).1.toNat (stepS l' zs (xs.getD j sn0)).1) else .error (j, (stepS l' zs (xs.getD j sn0)).2)) := by
                  conv => lhs; unfold runK
                  rw [HRUN.out]
                have HER := Lib.hid (fun (er : Int) (h : runK k zs l xs (j + 1) = .error (j, er)) => (show runK k zs l xs m = .error (j, er) from by
                  have := runK_err (m - (j + 1)) (j + 1) h
                  rw [show j + 1 + (m - (j + 1)) = m by omega] at this
                  exact this))
                obtain ⟨x, hx'⟩ : ∃ x, xs.getD j sn0 = x := ⟨_, rfl⟩
                rw [hx'] at y0 y1 y2 hk1
                clear hx'
                have hQ := step2_any wr g 0 kg b2 o2 k2 k l' zs x ht1 ht2 (fun i hi => own_y hrow hll i hi) (fun i hi => hsw.cell (HC2.out i hi)) HPR.out
                have hsame := fun (hb : nodeB k x = true) => step2_same (n := k) (l := l') (zs := zs) (x := x) hb (by
                  obtain ⟨q1, q2⟩ := inB_yes (show inB x.1 1 ((k : Int) - 1) = true from hb)
                  obtain ⟨P, hP, hPk⟩ := HPR.out x.1.toNat (by omega) (by omega)
                  rw [hP, Int.toNat_natCast]
                  exact hcl P (by omega))
                obtain ⟨x0, x1, x2⟩ := x
                simp only at y0 y1 y2
                cases hnb : nodeB k (x0, x1, x2) with
                | false =>
                  rw [if_pos hnb] at hk1
                  have HE := Lib.hid (HER.out 7 hk1)
                  rw [show step2S k l' zs (x0, x1, x2) = ((0, 0, 0, 0), 7) from if_neg (by rw [hnb]; decide)] at hQ
                  have H1 := Lib.hid hQ
                  clear hQ hsame hk1 hnb hrow hsw hll HER hcl
                  go_wp2_with (go_at_call 54; (with_reducible refine H1.out.mono ?_); rintro e w6 ⟨rfl, hw⟩; have HB6 := Lib.hid (HBUT.out.trans (But.of_same (hw.trans ((Same.refl w6).alloc (sy4 0 0 0 0))))); clear hw)
                  go_ret3
                  exact ⟨HB6.out.same HS3.out HG.out.1, .inr (.inl ⟨HRO.out.1, j, 7, by rw [HN.out, HM.out]; exact HE.out, rfl⟩)⟩
                | true =>
                  rw [if_neg (by rw [hnb]; decide)] at hk1
                  rw [hsame hnb] at hQ
                  obtain ⟨q1, q2⟩ := inB_yes (show inB x0 1 ((k : Int) - 1) = true from hnb)
                  obtain ⟨N, rfl⟩ : ∃ N : Nat, x0 = (N : Int) := ⟨x0.toNat, by omega⟩
                  have hN : N < k := by omega
                  simp only [Int.toNat_natCast] at hk1
                  clear hsame hcl hnb
                  generalize stepS l' zs ((N : Int), x1, x2) = R at *
                  obtain ⟨⟨r0, r1, r2, r3⟩, er⟩ := R
                  have H1 := Lib.hid hQ
                  have HROW := Lib.hid hrow
                  clear hQ hrow
                  by_cases he : er = 0
                  · subst he
                    simp only at hk1
                    rw [if_pos (by first | rfl | trivial)] at hk1
                    have HE := Lib.hid hk1
                    clear hk1 HER
                    go_wp2_with (go_at_call 54; (with_reducible refine H1.out.mono ?_); rintro e w6 ⟨rfl, hw⟩; have HK := Lib.hid (hw.trans ((Same.refl w6).alloc (sy4 r0 r1 r2 r3))); have HX := Lib.hid (Same.refl (w6.alloc (sy4 r0 r1 r2 r3))); clear hw; replace y0 := HK.out.cell y0; obtain ⟨d0, d1, d2, d3⟩ := cells4 HX.out; obtain ⟨e0, e1, e2, e3⟩ := own_y (own_same HROW.out HK.out) hll N hN; rw [Nat.zero_add] at e0 e1 e2 e3; have fz0 := (own_same HROW.out HK.out).frozenAt (N * 4); have fz1 := (own_same HROW.out HK.out).frozenAt (N * 4 + 1); have fz2 := (own_same HROW.out HK.out).frozenAt (N * 4 + 2); have fz3 := (own_same HROW.out HK.out).frozenAt (N * 4 + 3))
                    have hos := own_set (own_same HROW.out HK.out) hll N hN (r0, r1, r2, r3)
                    have HOS := Lib.hid hos; clear hos
                    go_region
                    go_wp2
                    go_roundg gh
                    case rel => exact ⟨j + 1, _, by omega, by go_num, HE.out, (HBUT.out.trans (But.of_same HK.out)).trans (HOS.out.2.trans (But.of_same ((Same.refl _).drewN 1))), own_same HOS.out.1 ((Same.refl _).drewN 1)⟩
                    case measure => omega
                  · simp only at hk1
                    rw [if_neg he] at hk1
                    have HE := Lib.hid (HER.out er hk1)
                    have he' : (er != 0) = true := by simpa using he
                    clear hk1 HER he hll hsw
                    go_wp2_with (go_at_call 54; (with_reducible refine H1.out.mono ?_); rintro e w6 ⟨rfl, hw⟩; have HB6 := Lib.hid (HBUT.out.trans (But.of_same (hw.trans ((Same.refl w6).alloc (sy4 r0 r1 r2 r3))))); clear hw)
                    go_ret3
                    exact ⟨HB6.out.same HS3.out HG.out.1, .inr (.inl ⟨HRO.out.1, j, er, by rw [HN.out, HM.out]; exact HE.out, rfl⟩)⟩
    · omega
  · omega
theorem Run_any (w : World) (v1 v2 v3 : Value) (l : List St) (zs : List Int) (xs : List Sn) (h1 : Lst w v1 l.length (ycells l)) (h2 : Lst w v2 zs.length (icells zs)) (h3 : Lst w v3 xs.length (xcells xs)) (b1 : l.length ≤ 1000) (b2 : zs.length ≤ 1000) (b3 : xs.length ≤ 2000) :
    Calls Try.prog 24 #[v1, v2, v3] w (RunP w l zs xs) := by
  by_cases h : RunOk l zs xs
  · exact Run_good w v1 v2 v3 l zs xs h1 h2 h3 h
  · exact Run_bad w v1 v2 v3 l zs xs h1 h2 h3 b1 b2 b3 h
theorem Run2_any (w : World) (v1 v2 v3 : Value) (l : List St) (zs : List Int) (xs : List Sn) (h1 : Lst w v1 l.length (ycells l)) (h2 : Lst w v2 zs.length (icells zs)) (h3 : Lst w v3 xs.length (xcells xs)) (b2 : zs.length ≤ 1000) :
    Calls Try.prog 27 #[v1, v2, v3] w (RunP w l zs xs) := by
  by_cases h : isTree zs ∧ l.length = zs.length ∧ xs.length ≤ 1024
  · exact Run2_late w v1 v2 v3 l zs xs h1 h2 h3 h.1 h.2.1 h.2.2
  · exact Run2_early w v1 v2 v3 l zs xs h1 h2 h3 b2 h
end Go.Proofs.Ytffcoeadpicohaa
