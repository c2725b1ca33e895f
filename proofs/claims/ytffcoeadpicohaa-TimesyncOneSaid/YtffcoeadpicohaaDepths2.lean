/- Depths of the reference. -/
import Derived.Test.YtffcoeadpicohaaPigeon
namespace Go.Proofs.Ytffcoeadpicohaa
open Go.RowKit

theorem own_same {w w' : World} {base sz n : Nat} {T : TypeId} {v : Value} {cs : List Value} (h : w.ownsRow base T sz v n cs) (s : Same w w') : w'.ownsRow base T sz v n cs := by
  refine ⟨h.1, ?_⟩
  rcases h.2 with h2 | ⟨g, cap, cur, h1, h2, h3, h4⟩
  · exact .inl h2
  · exact .inr ⟨g, cap, cur, h1, h2, s.heap h3, h4⟩
theorem same_grown {w wx w8 : World} {o : Obj} {T : TypeId} {sz n : Nat} {v : Value} {cs : List Value} (hs : Same w wx) (hown : wx.ownsRow w.heap.size T sz v n cs) (hg : (wx.alloc o).grownBy w8 v.ownBlock) : Same w w8 := by
  refine Same.ofBelow ((hs.toBelow.alloc hs.size _).grown hg (by have := hs.size; simp; omega) ?_)
  intro k hk
  rcases hown.2 with ⟨hv, _⟩ | ⟨g, cap, cur, hv, hb, _⟩
  · rw [hv] at hk; simp [Value.ownBlock] at hk
  · rw [hv] at hk; simp [Value.ownBlock] at hk; omega
set_option maxHeartbeats 6400000 in
set_option maxRecDepth 100000 in
theorem Depths2_any (w : World) (v : Value) (zs : List Int) (hv : Lst w v zs.length (icells zs)) (hz : zs.length ≤ 1000) : Calls Try.prog 23 #[v] w (DepP w zs) := by
  obtain ⟨i0, hi, hz0, hz1, hz2⟩ := info_parts Try.infoI
  by_cases n1 : zs.length < 1
  · have hno : ¬ isTree zs := fun h => by have := h.1; omega
    obtain ⟨ao, cap, rfl⟩ := hv.shape
    have HN := Lib.hid hno; clear hno hv
    generalize hn : zs.length = n at *
    obtain rfl : n = 0 := by omega
    clear hn
    go_enter Try.func23, Try.ntmps23
    go_wp2
    go_ret2
    exact DepP.bad HN.out (Same.refl _)
  · by_cases n2 : 32 < zs.length
    · have hno : ¬ isTree zs := fun h => by have := h.2.1; omega
      obtain ⟨ao, cap, rfl⟩ := hv.shape
      have HN := Lib.hid hno; clear hno hv
      generalize hn : zs.length = n at *
      have n1' : (1 : Int) ≤ n := by omega
      have n2' : (32 : Int) < n := by omega
      clear hn
      go_enter Try.func23, Try.ntmps23
      go_wp2
      go_ret2
      exact DepP.bad HN.out (Same.refl _)
    · rcases hv with ⟨b, off, cap, rfl, hc⟩ | ⟨ao, cap, rfl, h0, _⟩
      · have c0 := hc 0 _ (icells_get zs 0 (by omega))
        rw [Nat.add_zero] at c0
        by_cases hz0' : zs.getD 0 0 = -1
        · rw [hz0'] at c0
          have HR := Lib.hid (fun (w1 : World) (hs : Same w w1) (a : Nat) (ha : a < zs.length) => hs.cell (hc a _ (icells_get zs a ha)))
          have HT := Lib.hid (fun (h : ∀ i : Nat, i < zs.length → (depF zs zs.length (i : Int)).isSome = true) => (show isTree zs from ⟨by omega, by omega, hz0', h⟩))
          have HSM := Lib.hid (fun (k : Nat) (hk : k < zs.length) => depF_same zs 2 k hk)
          clear hc hz
          generalize hn : zs.length = n at *
          have HNE := Lib.hid hn
          have l3 : (1 : Int) ≤ n := by omega
          have l4 : (n : Int) ≤ 32 := by omega
          clear hn hz0'
          go_enter Try.func23, Try.ntmps23
          go_wp2
          clear c0
          go_loopg [6, 5] n (fun g s6 s5 wx => ∃ k : Nat, k + g = n ∧ s6 = .int .i64 k ∧ (∀ i : Nat, i < k → (depF zs n (i : Int)).isSome = true) ∧ Same w wx ∧ wx.ownsRow w.heap.size 3 1 s5 k (icells (depths zs k)))
          case atStart => exact ⟨0, by omega, rfl, fun i hi => absurd hi (Nat.not_lt_zero _), by first | exact (Same.refl _).alloc _ | exact Same.refl _, World.ownsRow_made w #[] 0 (Nat.le_refl _) (Nat.zero_le _) rfl⟩
          case round =>
            obtain ⟨k, hkg, rfl, hall, hs, hrow⟩ := hrel
            have HALL := Lib.hid hall; clear hall
            have HW := Lib.hid (And.intro hs hrow); clear hs hrow
            cases gk with
            | zero =>
              have hkn : k = n := by omega
              clear hkg
              subst hkn
              have HF := Lib.hid (HT.out HALL.out)
              have HL := Lib.hid (Lst.of_own HW.out.2)
              clear HALL HT HR HSM
              go_wp2
              go_ret2
              refine ⟨_, _, rfl, HW.out.1, .inl ⟨HF.out, rfl, ?_⟩⟩
              rw [HNE.out]; exact HL.out
            | succ g =>
              have hlt : k < n := by omega
              go_wp2
              go_loopg [7, 8] (n + 1) (fun g2 s7 s8 wx => ∃ m a : Nat, m + g2 = n + 1 ∧ s7 = .int .i64 m ∧ s8 = .int .i64 a ∧ a < n ∧ depF zs (n + 2) (k : Int) = (depF zs (n + 2 - m) (a : Int)).map (· + m) ∧ Same wr wx)
              case atStart => exact ⟨0, k, by omega, rfl, rfl, hlt, by simp, Same.refl _⟩
              case round =>
                obtain ⟨m, a, hmg, rfl, rfl, han, hdep, hs⟩ := hrel
                have HD := Lib.hid hdep; clear hdep
                have HX := Lib.hid hs; clear hs
                obtain ⟨q, hq⟩ : ∃ q, n + 2 - m = q + 1 := ⟨n + 1 - m, by omega⟩
                have hSM := HSM.out k hlt
                have HKD := Lib.hid hSM; clear hSM
                by_cases ha : a = 0
                · subst ha
                  have hd : depF zs n (k : Int) = some m := by
                    have h1 := HKD.out
                    rw [HD.out, hq, show ((0 : Nat) : Int) = 0 from rfl, depF_zero] at h1
                    rw [← h1]; simp
                  have hd' : ∀ i : Nat, i < k + 1 → (depF zs n (i : Int)).isSome = true := fun i hi => by
                    by_cases e : i = k
                    · subst e; rw [hd]; rfl
                    · exact HALL.out i (by omega)
                  have hic : icells (depths zs (k + 1)) = icells (depths zs k) ++ [.int .i64 (m : Int)] := by
                    rw [depths_succ, HNE.out, hd]
                    unfold icells; simp
                  have HIC := Lib.hid hic; clear hic
                  have HA2 := Lib.hid hd'; clear hd' hd
                  have hmb : m ≤ n + 1 := by omega
                  go_wp2_with (at_builtin; refine wpList_append_own _ rfl _ _ 37 rfl w.heap.size 3 i0 (.int .i64 0) 1 8 Try.underlying37 hi hz0 hz1 hz2 rfl (by decide) _ _ _ rfl ((own_same HW.out.2 HX.out).alloc _) ⟨wr.heap.size, 0, none⟩ 1 1 [.int .i64 m] rfl ?qc1 ?qc2 ?qc3 ?qc4 ?qc5 ?qc6 ?_)
                  case qc1 => rfl
                  case qc2 => exact World.news_of_block (by exact heap_alloc_new wr _)
                  case qc3 => intro u hu; simp at hu; subst hu; rfl
                  case qc4 => unfold maxLen; omega
                  case qc5 => omega
                  case qc6 => have := (HW.out.1.trans HX.out).size; simp at this ⊢; omega
                  intro v' w8 hown hgrow hnil
                  have HO := Lib.hid hown
                  have HGW := Lib.hid (same_grown (HW.out.1.trans HX.out) (own_same HW.out.2 HX.out) hgrow)
                  clear hown hgrow hnil
                  go_wp2
                  go_roundg g
                  case rel => exact ⟨k + 1, by omega, by go_num, HA2.out, HGW.out, by rw [HIC.out]; exact HO.out⟩
                  case measure => omega
                · have hcell := HR.out _ (HW.out.1.trans HX.out) a han
                  have ha1 : (a == 0) = false := by simpa using ha
                  have ha2 : ¬ (a : Int) = 0 := by omega
                  have ha3 : ((a : Int) != 0) = true := by simp; omega
                  have ha4 : ((a : Int) == 0) = false := by simp; omega
                  have hstep := HD.out
                  rw [hq, depF_step ha2, show (a : Int).toNat = a from rfl] at hstep
                  have bad : (depF zs (n + 2) (k : Int)) = none → ¬ isTree zs := fun hn0 h => by
                    have h1 := h.2.2.2 k (by rw [HNE.out]; exact hlt)
                    rw [HNE.out, ← HKD.out, hn0] at h1
                    simp at h1
                  by_cases hin : 0 ≤ zs.getD a 0 ∧ zs.getD a 0 < n
                  · rw [if_pos (by rw [HNE.out]; exact hin)] at hstep
                    obtain ⟨a', ha'⟩ : ∃ a' : Nat, zs.getD a 0 = (a' : Int) := ⟨(zs.getD a 0).toNat, by omega⟩
                    rw [ha'] at hcell hstep hin
                    obtain ⟨hin1, hin2⟩ := hin
                    cases gk with
                    | zero =>
                      have hmn : m = n + 1 := by omega
                      have HNO := Lib.hid (bad (by rw [hstep, show q = 0 by omega]; simp [depF]))
                      have hmb : (n : Int) < m := by omega
                      clear bad hstep ha2 HSM HR HT HD HKD
                      go_wp2
                      go_ret2
                      exact DepP.bad HNO.out (HW.out.1.trans HX.out)
                    | succ g2 =>
                      have hmb : (m : Int) ≤ n := by omega
                      have HE := Lib.hid hstep; clear hstep bad ha2
                      go_wp2
                      go_roundg g2
                      case rel =>
                        refine ⟨m + 1, a', by omega, by go_num, rfl, by omega, ?_, HX.out⟩
                        rw [HE.out, show n + 2 - (m + 1) = q by omega, Option.map_map]
                        congr 1
                        funext x; simp only [Function.comp]; omega
                      case measure => omega
                  · rw [if_neg (by rw [HNE.out]; exact hin)] at hstep
                    have HNO := Lib.hid (bad (by rw [hstep]; rfl))
                    clear bad hstep ha2 HSM HR HT HD HKD
                    have hmb : m ≤ n + 1 := by omega
                    by_cases p1 : zs.getD a 0 < 0
                    · generalize zs.getD a 0 = c at *
                      clear hin
                      go_wp2
                      go_ret2
                      exact DepP.bad HNO.out (HW.out.1.trans HX.out)
                    · have p1' : 0 ≤ zs.getD a 0 := by omega
                      have p2' : (n : Int) ≤ zs.getD a 0 := by omega
                      clear p1 hin
                      generalize zs.getD a 0 = c at *
                      go_wp2
                      go_ret2
                      exact DepP.bad HNO.out (HW.out.1.trans HX.out)
        · have hno : ¬ isTree zs := fun h => hz0' h.2.2.1
          have hne : (zs.getD 0 0 != -1) = true := by simpa using hz0'
          generalize zs.getD 0 0 = c at *
          clear hc hz0'
          have HNO := Lib.hid hno; clear hno
          generalize hn : zs.length = n at *
          have l3 : (1 : Int) ≤ n := by omega
          have l4 : (n : Int) ≤ 32 := by omega
          clear hn
          go_enter Try.func23, Try.ntmps23
          go_wp2
          go_ret2
          exact DepP.bad HNO.out (Same.refl _)
      · omega
end Go.Proofs.Ytffcoeadpicohaa
