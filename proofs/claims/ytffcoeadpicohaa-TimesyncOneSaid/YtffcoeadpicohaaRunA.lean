/- Run of package timesync: the walk. -/
import Derived.Test.YtffcoeadpicohaaRunT
namespace Go.Proofs.Ytffcoeadpicohaa
open Go.RowKit

theorem dep_good {w w' : World} {zs : List Int} {e : Ending} (hT : isTree zs) (h : DepP w zs e w') : ∃ v3, e = .returned (.tuple #[v3, .int .i64 0]) ∧ Same w w' := by
  obtain ⟨v3, x3, rfl, hs3, h3⟩ := h
  rcases h3 with ⟨_, rfl, _⟩ | ⟨hno, _⟩
  · exact ⟨v3, rfl, hs3⟩
  · exact absurd hT hno
theorem dep_bad {w w' : World} {zs : List Int} {e : Ending} (hT : ¬ isTree zs) (h : DepP w zs e w') : e = .returned (.tuple #[.slice none 0 0, .int .i64 1]) ∧ Same w w' := by
  obtain ⟨v3, x3, rfl, hs3, h3⟩ := h
  rcases h3 with ⟨hy, _⟩ | ⟨_, rfl, rfl⟩
  · exact absurd hy hT
  · exact ⟨rfl, hs3⟩
set_option maxHeartbeats 6400000 in
set_option maxRecDepth 100000 in
theorem Run_bad (w : World) (v1 v2 v3 : Value) (l : List St) (zs : List Int) (xs : List Sn) (h1 : Lst w v1 l.length (ycells l)) (h2 : Lst w v2 zs.length (icells zs)) (h3 : Lst w v3 xs.length (xcells xs)) (b1 : l.length ≤ 1000) (b2 : zs.length ≤ 1000) (b3 : xs.length ≤ 2000) (hok : ¬ RunOk l zs xs) :
    Calls Try.prog 24 #[v1, v2, v3] w (RunP w l zs xs) := by
  have hd := Depths_any w v2 zs h2 b2
  have hva := fun (w1 : World) (hs : Same w w1) => areValid_any w1 v1 l (h1.same hs) b1
  have HNO := Lib.hid hok
  obtain ⟨a1, k1, rfl⟩ := h1.shape
  obtain ⟨a2, k2, rfl⟩ := h2.shape
  obtain ⟨a3, k3, rfl⟩ := h3.shape
  clear h1 h2 h3
  by_cases hT : isTree zs
  · have HD := Lib.hid (hd.mono (fun e w' h => dep_good hT h)); clear hd
    by_cases hl : l.length = zs.length
    · by_cases hA : allY l
      · have HVA := Lib.hid (fun (w1 : World) (hs : Same w w1) => (hva w1 hs).mono (fun e w' h => (show e = .returned (.bool true) ∧ Same w1 w' from by
          obtain ⟨B, rfl, hB, hs'⟩ := h; rw [hB.2 hA]; exact ⟨rfl, hs'⟩)))
        have hx : 1024 < xs.length := by
          by_cases e : 1024 < xs.length
          · exact e
          · exact absurd ⟨hT, hl, hA, by omega⟩ hok
        clear hva hA hok hT
        rw [hl] at HVA ⊢
        clear hl
        generalize zs.length = n at *
        generalize xs.length = m at *
        go_enter Try.func24, Try.ntmps24
        go_wp2_with (first
          | (go_at_call 21; (with_reducible refine HD.out.mono ?_); rintro e w1 ⟨v5, rfl, hs⟩; have HS := Lib.hid hs; clear hs)
          | (go_at_call 52; (with_reducible refine (HVA.out _ HS.out).mono ?_); rintro e w2 ⟨rfl, hs⟩; have HS2 := Lib.hid (HS.out.trans hs); clear hs))
        go_ret3
        exact RunP.bad HNO.out HS2.out
      · have HVA := Lib.hid (fun (w1 : World) (hs : Same w w1) => (hva w1 hs).mono (fun e w' h => (show e = .returned (.bool false) ∧ Same w1 w' from by
          obtain ⟨B, rfl, hB, hs'⟩ := h
          cases B with
          | true => exact absurd (hB.1 rfl) hA
          | false => exact ⟨rfl, hs'⟩)))
        clear hva hA hok hT
        rw [hl] at HVA ⊢
        clear hl
        generalize zs.length = n at *
        generalize xs.length = m at *
        go_enter Try.func24, Try.ntmps24
        go_wp2_with (first
          | (go_at_call 21; (with_reducible refine HD.out.mono ?_); rintro e w1 ⟨v5, rfl, hs⟩; have HS := Lib.hid hs; clear hs)
          | (go_at_call 52; (with_reducible refine (HVA.out _ HS.out).mono ?_); rintro e w2 ⟨rfl, hs⟩; have HS2 := Lib.hid (HS.out.trans hs); clear hs))
        go_ret3
        exact RunP.bad HNO.out HS2.out
    · have hne : ((l.length : Int) != (zs.length : Int)) = true := by simp; omega
      clear hva hok hT hl
      generalize zs.length = n at *
      generalize l.length = q at *
      generalize xs.length = m at *
      go_enter Try.func24, Try.ntmps24
      go_wp2_with (go_at_call 21; (with_reducible refine HD.out.mono ?_); rintro e w1 ⟨v5, rfl, hs⟩; have HS := Lib.hid hs; clear hs)
      go_ret3
      exact RunP.bad HNO.out HS.out
  · have HD := Lib.hid (hd.mono (fun e w' h => dep_bad hT h)); clear hd hva hok hT
    generalize zs.length = n at *
    generalize l.length = q at *
    generalize xs.length = m at *
    go_enter Try.func24, Try.ntmps24
    go_wp2_with (go_at_call 21; (with_reducible refine HD.out.mono ?_); rintro e w1 ⟨rfl, hs⟩; have HS := Lib.hid hs; clear hs)
    go_ret3
    exact RunP.bad HNO.out HS.out
set_option maxHeartbeats 6400000 in
set_option maxRecDepth 100000 in
theorem Run_good (w : World) (v1 v2 v3 : Value) (l : List St) (zs : List Int) (xs : List Sn) (h1 : Lst w v1 l.length (ycells l)) (h2 : Lst w v2 zs.length (icells zs)) (h3 : Lst w v3 xs.length (xcells xs)) (hok : RunOk l zs xs) :
    Calls Try.prog 24 #[v1, v2, v3] w (RunP w l zs xs) := by
  obtain ⟨hT, hl, hA, hx⟩ := id hok
  have ht1 := hT.1
  have ht2 := hT.2.1
  have HD := Lib.hid ((Depths_any w v2 zs h2 (by omega)).mono (fun e w' h => dep_good hT h))
  have HVA := Lib.hid (fun (w1 : World) (hs : Same w w1) => (areValid_any w1 v1 l (h1.same hs) (by omega)).mono (fun e w' h => (show e = .returned (.bool true) ∧ Same w1 w' from by
    obtain ⟨B, rfl, hB, hs'⟩ := h; rw [hB.2 hA]; exact ⟨rfl, hs'⟩)))
  have HOK := Lib.hid hok; clear hok
  have HPR := Lib.hid (fun (i : Nat) (h1 : 1 ≤ i) (hi : i < zs.length) => tree_parent hT i h1 hi)
  rcases h1 with ⟨b1, o1, k1, rfl, hc1⟩ | ⟨_, _, _, h0, _⟩
  · rcases h2 with ⟨b2, o2, k2, rfl, hc2⟩ | ⟨_, _, _, h0, _⟩
    · obtain ⟨i0, hi, hz0, hz1, hz2⟩ := info_parts Try.infoY
      have HC1 := Lib.hid hc1; clear hc1
      have HC2 := Lib.hid (fun (i : Nat) (hi : i < zs.length) => hc2 i _ (icells_get zs i hi)); clear hc2
      have hlist : ∃ b off cap, (v3 = .slice (some ⟨b, off, none⟩) xs.length cap ∨ (∃ ao, v3 = .slice ao xs.length cap ∧ xs.length = 0)) ∧ ∀ i, i < xs.length → XAt w b (off + i * 3) (xs.getD i sn0) := by
        rcases h3 with ⟨b, off, cap, h, hc⟩ | ⟨ao, cap, h, h0, _⟩
        · exact ⟨b, off, cap, .inl h, fun i hi => x_at hc i hi⟩
        · exact ⟨0, 0, cap, .inr ⟨ao, by rw [h, h0], h0⟩, fun i hi => by omega⟩
      obtain ⟨b3, o3, k3, hcs, hX⟩ := hlist
      have HX := Lib.hid hX; clear hX
      have hv3 : ∃ ao, v3 = .slice ao xs.length k3 ∧ (0 < xs.length → ao = some ⟨b3, o3, none⟩) := by
        rcases hcs with rfl | ⟨ao, rfl, h0⟩
        · exact ⟨_, rfl, fun _ => rfl⟩
        · exact ⟨ao, rfl, fun h => by omega⟩
      clear hcs
      obtain ⟨ao, rfl, hao⟩ := hv3
      have HAO := Lib.hid hao; clear hao
      rw [hl] at HVA ⊢
      have HL := Lib.hid hl
      have hyl := ycells_length l
      rw [hl] at hyl
      have HYL := Lib.hid hyl; clear hyl hA hT h3
      generalize hm : xs.length = m at *
      have HM := Lib.hid hm
      generalize hn : zs.length = n at *
      have HN := Lib.hid hn
      clear hm hn hl
      have hm2 : (m : Int) ≤ 1024 := by omega
      go_enter Try.func24, Try.ntmps24
      go_wp2_with (first
        | (go_at_call 21; (with_reducible refine HD.out.mono ?_); rintro e w1 ⟨v5, rfl, hs⟩; have HS := Lib.hid hs; clear hs)
        | (go_at_call 52; (with_reducible refine (HVA.out _ HS.out).mono ?_); rintro e w2 ⟨rfl, hs⟩; have HS2 := Lib.hid (HS.out.trans hs); clear hs)
        | (at_builtin; refine wpList_append_own _ rfl _ _ 36 rfl w.heap.size 25 i0 (.agg #[.int .i64 0, .int .i64 0, .int .i64 0, .int .i64 0]) 4 32 Try.underlying36 hi hz0 hz1 hz2 rfl (by decide) _ _ _ rfl (World.ownsRow_nil _ _ _ _) ⟨b1, o1, none⟩ n k1 (ycells l) rfl ?qc1 ?qc2 ?qc3 ?qc4 ?qc5 ?qc6 ?_))
      case qc1 => exact HYL.out
      case qc2 => intro j u hj; rw [addr_add]; exact HS2.out.cell (HC1.out j u hj)
      case qc3 => exact ycells_one l
      case qc4 => unfold maxLen; omega
      case qc5 => omega
      case qc6 => exact HS2.out.size
      intro v' w3 hown hgrow hnil
      have hs3 : Same w2 w3 := ⟨hgrow.os, hgrow.tape, hgrow.output, hgrow.size, fun k hk => hgrow.block k hk (by simp [Value.ownBlock])⟩
      have HS3 := Lib.hid (HS2.out.trans hs3)
      rcases hown.2 with ⟨_, hn0⟩ | ⟨g, kg, cur, rfl, hg, _⟩
      · omega
      · have hgl := (hown.lt g rfl).2
        have HO := Lib.hid (hown.alloc (.cells #[.slice (some ⟨g, 0, none⟩) n kg, .slice (some ⟨b2, o2, none⟩) n k2] 73))
        have hT0 : (w3.alloc (.cells #[.slice (some ⟨g, 0, none⟩) n kg, .slice (some ⟨b2, o2, none⟩) n k2] 73)).cell? ⟨w3.heap.size, 0, none⟩ = some (.slice (some ⟨g, 0, none⟩) n kg) := by go_simp
        have hT1 : (w3.alloc (.cells #[.slice (some ⟨g, 0, none⟩) n kg, .slice (some ⟨b2, o2, none⟩) n k2] 73)).cell? ⟨w3.heap.size, 1, none⟩ = some (.slice (some ⟨b2, o2, none⟩) n k2) := by go_simp
        have HTB := Lib.hid (And.intro hT0 hT1)
        have HG := Lib.hid (And.intro hg hgl)
        clear hown hgrow hnil hs3 hT0 hT1 hg hgl HD HVA HC1 HS HS2 HYL
        go_wp2
        go_loopg [45] m (fun gh s45 wx => ∃ (k : Nat) (l' : List St), k + gh = m ∧ s45 = .int .i64 k ∧ runK n zs l xs k = .ok l' ∧ But g (w3.alloc (.cells #[.slice (some ⟨g, 0, none⟩) n kg, .slice (some ⟨b2, o2, none⟩) n k2] 73)) wx ∧ wx.ownsRow w.heap.size 25 4 (.slice (some ⟨g, 0, none⟩) n kg) n (ycells l'))
        case atStart => exact ⟨0, l, by omega, rfl, rfl, But.of_same (Same.refl _), HO.out⟩
        case round =>
          clear HO
          obtain ⟨k, l', hkg, rfl, hrun, hbut, hrow⟩ := hrel
          have HRUN := Lib.hid hrun
          have HROW := Lib.hid hrow
          have hll : l'.length = n := by rw [runK_length k l' hrun]; exact HL.out
          have hsw : Same w wr := hbut.same (HS3.out.alloc _) HG.out.1
          have c0 := hbut.cell (p := ⟨w3.heap.size, 0, none⟩) (by have := HG.out.2; simp; omega) HTB.out.1
          have c1 := hbut.cell (p := ⟨w3.heap.size, 1, none⟩) (by have := HG.out.2; simp; omega) HTB.out.2
          have HSW := Lib.hid hsw
          have HBUT := Lib.hid hbut
          clear hrun hbut
          cases gk with
          | zero =>
            have hkm : k = m := by omega
            clear hkg
            subst hkm
            have HLST := Lib.hid (Lst.of_own hrow); clear hrow hsw
            have HLL := Lib.hid hll; clear hll
            go_wp2
            go_ret3
            refine ⟨HSW.out, .inr (.inr ⟨HOK.out, l', _, by rw [HN.out, HM.out]; exact HRUN.out, rfl, ?_⟩)⟩
            rw [HLL.out]; exact HLST.out
          | succ gh =>
            have hkm : k < m := by omega
            obtain rfl := HAO.out (by omega)
            obtain ⟨s0, s1, s2⟩ := HX.out k hkm
            have y0 := hsw.cell s0
            have y1 := hsw.cell s1
            have y2 := hsw.cell s2
            clear s0 s1 s2
            have hstep : ∀ j, runK n zs l xs (k + 1 + j) = runK n zs l xs (k + 1 + j) := fun _ => rfl
            clear hstep
            have hk1 : runK n zs l xs (k + 1) = (if nodeB n (xs.getD k sn0) = false then .error (k, 7) else if (stepS l' zs (xs.getD k sn0)).2 = 0 then .ok (l'.set (xs.getD k sn0).1.toNat (stepS l' zs (xs.getD k sn0)).1) else .error (k, (stepS l' zs (xs.getD k sn0)).2)) := by
              conv => lhs; unfold runK
              rw [HRUN.out]
            have HER := Lib.hid (fun (er : Int) (h : runK n zs l xs (k + 1) = .error (k, er)) => (show runK n zs l xs m = .error (k, er) from by
              have := runK_err (m - (k + 1)) (k + 1) h
              rw [show k + 1 + (m - (k + 1)) = m by omega] at this
              exact this))
            obtain ⟨x, hx'⟩ : ∃ x, xs.getD k sn0 = x := ⟨_, rfl⟩
            rw [hx'] at y0 y1 y2 hk1
            clear hx'
            obtain ⟨x0, x1, x2⟩ := x
            simp only at y0 y1 y2
            have hcor := trcorrect_any (wr.alloc (.cells #[.int .i64 x0, .int .i64 x1, .bool x2] 49)) w.heap.size g kg b2 o2 k2 n l' zs (x0, x1, x2) hll (by omega) (by omega) (hrow.alloc _)
              (fun i hi => ((Same.refl wr).alloc _).cell (hsw.cell (HC2.out i hi))) (fun i h1 hi => HPR.out i h1 hi)
            have HBA := Lib.hid (HBUT.out.trans (But.of_same ((Same.refl wr).alloc (.cells #[.int .i64 x0, .int .i64 x1, .bool x2] 49))))
            have e0 := ((Same.refl wr).alloc (.cells #[.int .i64 x0, .int .i64 x1, .bool x2] 49)).cell c0
            have e1 := ((Same.refl wr).alloc (.cells #[.int .i64 x0, .int .i64 x1, .bool x2] 49)).cell c1
            cases hnb : nodeB n (x0, x1, x2) with
            | false =>
              rw [if_pos hnb] at hk1
              have HE := Lib.hid (HER.out 7 hk1)
              have HQ := Lib.hid (hcor.mono (fun e w' h => (show e = .returned (.int .i64 7) ∧ But g (wr.alloc (.cells #[.int .i64 x0, .int .i64 x1, .bool x2] 49)) w' from by
                obtain ⟨hb, ⟨_, he⟩ | ⟨h2, _⟩ | ⟨h2, _⟩⟩ := h
                · exact ⟨he, hb⟩
                · rw [hnb] at h2; exact absurd h2 (by decide)
                · rw [hnb] at h2; exact absurd h2 (by decide))))
              clear hcor hk1 hnb hrow hsw hll HER
              go_wp2_with (go_at_call 53; (with_reducible refine HQ.out.mono ?_); rintro e w6 ⟨rfl, hw⟩; have HB6 := Lib.hid (HBA.out.trans hw); clear hw)
              go_ret3
              exact ⟨HB6.out.same (HS3.out.alloc _) HG.out.1, .inr (.inl ⟨HOK.out, k, 7, by rw [HN.out, HM.out]; exact HE.out, rfl⟩)⟩
            | true =>
              rw [if_neg (by rw [hnb]; decide)] at hk1
              generalize hst : stepS l' zs (x0, x1, x2) = R at *
              obtain ⟨R1, er⟩ := R
              by_cases he : er = 0
              · subst he
                simp only at hk1
                rw [if_pos (by first | rfl | trivial)] at hk1
                have HE := Lib.hid hk1
                have HQ := Lib.hid (hcor.mono (fun e w' h => (show e = .returned (.int .i64 0) ∧ But g (wr.alloc (.cells #[.int .i64 x0, .int .i64 x1, .bool x2] 49)) w' ∧ w'.ownsRow w.heap.size 25 4 (.slice (some ⟨g, 0, none⟩) n kg) n (ycells (l'.set x0.toNat R1)) from by
                  obtain ⟨hb, ⟨h2, _⟩ | ⟨_, h3, _⟩ | ⟨_, _, he, ho⟩⟩ := h
                  · rw [hnb] at h2; exact absurd h2 (by decide)
                  · rw [hst] at h3; exact absurd rfl h3
                  · rw [hst] at ho; exact ⟨he, hb, ho⟩)))
                clear hcor hk1 hnb hrow hsw hll HER hst
                go_wp2_with (go_at_call 53; (with_reducible refine HQ.out.mono ?_); rintro e w6 ⟨rfl, hw, ho⟩; have HB6 := Lib.hid (HBA.out.trans hw); have HO6 := Lib.hid ho; clear hw ho)
                go_roundg gh
                case rel => exact ⟨k + 1, _, by omega, by go_num, HE.out, HB6.out, HO6.out⟩
                case measure => omega
              · simp only at hk1
                rw [if_neg he] at hk1
                have HE := Lib.hid (HER.out er hk1)
                have he' : (er != 0) = true := by simpa using he
                have HQ := Lib.hid (hcor.mono (fun e w' h => (show e = .returned (.int .i64 er) ∧ But g (wr.alloc (.cells #[.int .i64 x0, .int .i64 x1, .bool x2] 49)) w' from by
                  obtain ⟨hb, ⟨h2, _⟩ | ⟨_, _, h3⟩ | ⟨_, h3, _⟩⟩ := h
                  · rw [hnb] at h2; exact absurd h2 (by decide)
                  · rw [hst] at h3; exact ⟨h3, hb⟩
                  · rw [hst] at h3; exact absurd h3 he)))
                clear hcor hk1 hnb hrow hsw hll HER hst he
                go_wp2_with (go_at_call 53; (with_reducible refine HQ.out.mono ?_); rintro e w6 ⟨rfl, hw⟩; have HB6 := Lib.hid (HBA.out.trans hw); clear hw)
                go_ret3
                exact ⟨HB6.out.same (HS3.out.alloc _) HG.out.1, .inr (.inl ⟨HOK.out, k, er, by rw [HN.out, HM.out]; exact HE.out, rfl⟩)⟩
    · omega
  · omega
end Go.Proofs.Ytffcoeadpicohaa
