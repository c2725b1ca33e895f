/- Depths of package timesync: the depths of the nodes of a tree. -/
import Derived.Test.YtffcoeadpicohaaLists
import Derived.WalkMore
import Derived.Deep.LoopGhost
namespace Go.Proofs.Ytffcoeadpicohaa
open Go.RowKit

/-- How many parents lead to 0, if fewer than j. -/
def depF (zs : List Int) : Nat → Int → Option Nat
  | 0, _ => none
  | j + 1, at' => if at' = 0 then some 0 else if 0 ≤ zs.getD at'.toNat 0 ∧ zs.getD at'.toNat 0 < zs.length then (depF zs j (zs.getD at'.toNat 0)).map (· + 1) else none
theorem depF_more (zs : List Int) : ∀ (j : Nat) (a : Int) (d : Nat), depF zs j a = some d → depF zs (j + 1) a = some d ∧ d < j
  | 0, a, d, h => by simp [depF] at h
  | j + 1, a, d, h => by
    unfold depF at h
    by_cases h0 : a = 0
    · rw [if_pos h0] at h
      simp at h; subst h
      exact ⟨by unfold depF; rw [if_pos h0], by omega⟩
    · rw [if_neg h0] at h
      by_cases h1 : 0 ≤ zs.getD a.toNat 0 ∧ zs.getD a.toNat 0 < zs.length
      · rw [if_pos h1] at h
        cases hd : depF zs j (zs.getD a.toNat 0) with
        | none => rw [hd] at h; simp at h
        | some e =>
          rw [hd] at h
          simp at h; subst h
          obtain ⟨i1, i2⟩ := depF_more zs j _ e hd
          refine ⟨?_, by omega⟩
          unfold depF
          rw [if_neg h0, if_pos h1, i1]
          rfl
      · rw [if_neg h1] at h; simp at h
theorem depF_step {zs : List Int} {j : Nat} {a : Int} (h0 : ¬ a = 0) : depF zs (j + 1) a = if 0 ≤ zs.getD a.toNat 0 ∧ zs.getD a.toNat 0 < zs.length then (depF zs j (zs.getD a.toNat 0)).map (· + 1) else none := by
  show (if a = 0 then _ else _) = _
  rw [if_neg h0]
theorem depF_zero {zs : List Int} {j : Nat} : depF zs (j + 1) 0 = some 0 := by
  show (if (0 : Int) = 0 then _ else _) = _
  rw [if_pos rfl]
/-- A tree: its list begins with -1, and each node is led to 0. -/
def isTree (zs : List Int) : Prop := 1 ≤ zs.length ∧ zs.length ≤ 32 ∧ zs.getD 0 0 = -1 ∧ ∀ i : Nat, i < zs.length → (depF zs zs.length (i : Int)).isSome = true
def depths (zs : List Int) (k : Nat) : List Int := (List.range k).map fun i => (((depF zs zs.length ((i : Nat) : Int)).getD 0 : Nat) : Int)
theorem depths_length (zs : List Int) (k : Nat) : (depths zs k).length = k := by unfold depths; simp
theorem depths_succ (zs : List Int) (k : Nat) : depths zs (k + 1) = depths zs k ++ [(((depF zs zs.length ((k : Nat) : Int)).getD 0 : Nat) : Int)] := by
  unfold depths; rw [List.range_succ, List.map_append]; rfl
/-- The row while node k is followed: m steps were made. -/
def rowD (zs : List Int) (n k m : Nat) : List Int := depths zs k ++ (m : Int) :: List.replicate (n - k - 1) 0
theorem rowD_start (zs : List Int) (n k : Nat) (hk : k < n) : depths zs k ++ List.replicate (n - k) 0 = rowD zs n k 0 := by
  unfold rowD
  rw [show n - k = (n - k - 1) + 1 by omega, List.replicate_succ]
  rfl
theorem rowD_done (zs : List Int) (n k m : Nat) (hd : depF zs zs.length (k : Int) = some m) : rowD zs n k m = depths zs (k + 1) ++ List.replicate (n - (k + 1)) 0 := by
  unfold rowD
  rw [depths_succ, hd, List.append_assoc, show n - k - 1 = n - (k + 1) by omega]
  rfl
theorem rowD_length (zs : List Int) (n k m : Nat) (hk : k < n) : (rowD zs n k m).length = n := by
  unfold rowD; rw [List.length_append, depths_length]; simp; omega
theorem rowD_at (zs : List Int) (n k m : Nat) : (icells (rowD zs n k m))[k]? = some (.int .i64 m) := by
  unfold icells rowD
  rw [List.map_append, List.getElem?_append_right (by simp [depths_length])]
  simp [depths_length]
theorem rowD_set (zs : List Int) (n k m : Nat) : (icells (rowD zs n k m)).set k (.int .i64 ((m : Int) + 1)) = icells (rowD zs n k (m + 1)) := by
  unfold icells rowD
  rw [List.map_append, List.set_append_right _ _ (by simp [depths_length])]
  simp [depths_length]
theorem within_in (a n : Int) : inB a 0 (n - 1) = decide (0 ≤ a ∧ a < n) := by unfold inB; congr 1; apply propext; omega
/-- What Depths returns. -/
def DepP (w : World) (zs : List Int) (e : Ending) (w' : World) : Prop :=
  ∃ v' x, e = .returned (.tuple #[v', .int .i64 x]) ∧ Same w w' ∧ ((isTree zs ∧ x = 0 ∧ Lst w' v' zs.length (icells (depths zs zs.length))) ∨ (¬ isTree zs ∧ x = 1 ∧ v' = .slice none 0 0))
theorem DepP.bad {w w' : World} {zs : List Int} (h : ¬ isTree zs) (s : Same w w') : DepP w zs (.returned (.tuple #[.slice none 0 0, .int .i64 1])) w' := ⟨_, _, rfl, s, .inr ⟨h, rfl, rfl⟩⟩
set_option maxHeartbeats 6400000 in
set_option maxRecDepth 100000 in
theorem Depths_any (w : World) (v : Value) (zs : List Int) (hv : Lst w v zs.length (icells zs)) (hz : zs.length ≤ 1000) : Calls Try.prog 21 #[v] w (DepP w zs) := by
  have HWI := Lib.hid (fun (a b c : Int) (w : World) => twithin_any a b c w)
  obtain ⟨i0, hi, hz0, hz1, hz2⟩ := info_parts Try.infoI
  cases hlen : inB (zs.length : Int) 1 32 with
  | false =>
    have hno : ¬ isTree zs := fun h => by have := h.1; have := h.2.1; have := inB_no hlen; omega
    have h1 := fun w => HWI.out (zs.length : Int) 1 32 w
    rw [hlen] at h1
    obtain ⟨ao, cap, rfl⟩ := hv.shape
    have H1 := Lib.hid h1; clear h1 hlen hv HWI
    have HN := Lib.hid hno; clear hno
    generalize hn : zs.length = n at *
    clear hn
    go_enter Try.func21, Try.ntmps21
    go_wp2
    go_step3
    go_wp2_with (go_at_call 51; (with_reducible refine (H1.out _).mono ?_); rintro r w1 ⟨rfl, rfl⟩)
    rw [Exit.noGoto_ret]
    go_ret2
    exact DepP.bad HN.out (Same.refl _)
  | true =>
    obtain ⟨l1, l2⟩ := inB_yes hlen
    have h1 := fun w => HWI.out (zs.length : Int) 1 32 w
    rw [hlen] at h1
    rcases hv with ⟨b, off, cap, rfl, hc⟩ | ⟨ao, cap, rfl, h0, _⟩
    · have c0 := hc 0 _ (icells_get zs 0 (by omega))
      rw [Nat.add_zero] at c0
      by_cases hz0' : zs.getD 0 0 = -1
      · rw [hz0'] at c0
        have HR := Lib.hid (fun (w1 : World) (hs : Same w w1) (a : Nat) (ha : a < zs.length) => hs.cell (hc a _ (icells_get zs a ha)))
        have HT := Lib.hid (fun (h : ∀ i : Nat, i < zs.length → (depF zs zs.length (i : Int)).isSome = true) => (show isTree zs from ⟨by omega, by omega, hz0', h⟩))
        have H1 := Lib.hid h1; clear h1 hlen hc
        generalize hn : zs.length = n at *
        have HNE := Lib.hid hn
        have l3 : 1 ≤ n := by omega
        have l4 : n ≤ 32 := by omega
        clear hn hz0' hz
        go_enter Try.func21, Try.ntmps21
        go_wp2
        go_step3
        go_wp2_with (first
          | (go_at_call 51; (with_reducible refine (H1.out _).mono ?_); rintro r w1 ⟨rfl, hw⟩; replace hw := hw.symm; subst hw)
          | (at_make; refine wpList_make_full _ rfl _ _ 37 rfl w.heap.size 3 i0 (.int .i64 0) 1 Try.underlying37 hi hz0 hz1 _ _ _ _ n rfl rfl rfl rfl ?c1 ?c2 ?c3 ?_))
        case c1 => rw [hz2]; omega
        case c2 => unfold maxLen; omega
        case c3 => exact Nat.le_refl _
        intro w2 hown hgrow
        have hs2 : Same w w2 := ⟨hgrow.os, hgrow.tape, hgrow.output, hgrow.size, fun k hk => hgrow.block k hk (by simp)⟩
        have hown0 : w2.ownsRow w.heap.size 3 1 (.slice (some ⟨w.heap.size, 0, none⟩) n n) n (icells (depths zs 0 ++ List.replicate n 0)) := by
          have e : (madeCells #[Value.int .i64 0] n).toList = icells (depths zs 0 ++ List.replicate n 0) := by
            rw [toList_madeCells_one]
            unfold icells depths; simp
          rw [← e]; exact hown
        have HS := Lib.hid (And.intro hs2 hown0)
        clear hown hgrow hs2 hown0 c0 H1
        go_wp2
        go_step3
        go_wp2
        go_loopg [22] n (fun g s22 wx => ∃ k : Nat, k + g = n ∧ s22 = .int .i64 k ∧ (∀ i : Nat, i < k → (depF zs n (i : Int)).isSome = true) ∧ Same w wx ∧ wx.ownsRow w.heap.size 3 1 (.slice (some ⟨w.heap.size, 0, none⟩) n n) n (icells (depths zs k ++ List.replicate (n - k) 0)))
        case atStart => exact ⟨0, by omega, rfl, fun i hi => absurd hi (Nat.not_lt_zero _), HS.out.1, by simpa using HS.out.2⟩
        case round =>
          clear HS
          obtain ⟨k, hkg, rfl, hall, hs, hrow⟩ := hrel
          have HALL := Lib.hid hall; clear hall
          have HW := Lib.hid (And.intro hs hrow); clear hs hrow
          cases gk with
          | zero =>
            have hkn : k = n := by omega
            clear hkg
            subst hkn
            have HF := Lib.hid (HT.out HALL.out)
            have hl := HW.out.2
            rw [Nat.sub_self, List.replicate_zero, List.append_nil] at hl
            have HL := Lib.hid (Lst.of_own hl); clear hl
            clear HALL HT HR HWI
            go_wp2
            try rw [Exit.noGoto_ret]
            go_ret2
            refine ⟨_, _, rfl, HW.out.1, .inl ⟨HF.out, rfl, ?_⟩⟩
            rw [HNE.out]; exact HL.out
          | succ g =>
            have hlt : k < n := by omega
            go_wp2
            go_loopg [28, 6] n (fun g2 s28 s6 wx => ∃ m a : Nat, m + g2 = n ∧ s28 = .int .i64 m ∧ s6 = .int .i64 a ∧ a < n ∧ depF zs n (k : Int) = (depF zs (n - m) (a : Int)).map (· + m) ∧ Same w wx ∧ wx.ownsRow w.heap.size 3 1 (.slice (some ⟨w.heap.size, 0, none⟩) n n) n (icells (rowD zs n k m)))
            case atStart => exact ⟨0, k, by omega, rfl, rfl, hlt, by simp, HW.out.1, by rw [← rowD_start zs n k hlt]; exact HW.out.2⟩
            case round =>
              clear HW
              obtain ⟨m, a, hmg, rfl, rfl, han, hdep, hs, hrow⟩ := hrel
              have HD := Lib.hid hdep; clear hdep
              have HW := Lib.hid (And.intro hs hrow); clear hs hrow
              cases gk with
              | zero =>
                have hmn : m = n := by omega
                have hno : ¬ isTree zs := fun h => by
                  have := h.2.2.2 k (by rw [HNE.out]; exact hlt)
                  rw [HNE.out, HD.out, hmn, Nat.sub_self] at this
                  simp [depF] at this
                have HNO := Lib.hid hno; clear hno
                subst hmn
                go_wp2
                try rw [Exit.noGoto_ret]
                go_ret2
                exact DepP.bad HNO.out HW.out.1
              | succ g2 =>
                have hmn : m < n := by omega
                obtain ⟨q, hq⟩ : ∃ q, n - m = q + 1 := ⟨n - m - 1, by omega⟩
                by_cases ha : a = 0
                · subst ha
                  have hd : depF zs zs.length (k : Int) = some m := by
                    rw [HNE.out, HD.out, hq]
                    rw [show ((0 : Nat) : Int) = 0 from rfl, depF_zero]; simp
                  have hrow := HW.out.2
                  rw [rowD_done zs n k m hd] at hrow
                  have HR2 := Lib.hid hrow; clear hrow
                  have hd' : ∀ i : Nat, i < k + 1 → (depF zs n (i : Int)).isSome = true := fun i hi => by
                    by_cases e : i = k
                    · subst e; rw [← HNE.out, hd]; rfl
                    · exact HALL.out i (by omega)
                  have HA2 := Lib.hid hd'; clear hd' hd
                  go_wp2
                  go_roundg g
                  case rel => exact ⟨k + 1, by omega, by go_num, HA2.out, HW.out.1, HR2.out⟩
                  case measure => omega
                · have hcell := HR.out _ HW.out.1 a han
                  have ha1 : (a == 0) = false := by simpa using ha
                  have ha2 : ¬ (a : Int) = 0 := by omega
                  have hstep := HD.out
                  rw [hq, depF_step ha2, show (a : Int).toNat = a from rfl] at hstep
                  have hwi := fun w => HWI.out (zs.getD a 0) 0 ((n : Int) - 1) w
                  rw [within_in] at hwi
                  by_cases hin : 0 ≤ zs.getD a 0 ∧ zs.getD a 0 < n
                  · rw [if_pos (by rw [HNE.out]; exact hin)] at hstep
                    rw [show decide (0 ≤ zs.getD a 0 ∧ zs.getD a 0 < (n : Int)) = true by simpa using hin] at hwi
                    obtain ⟨a', ha'⟩ : ∃ a' : Nat, zs.getD a 0 = (a' : Int) := ⟨(zs.getD a 0).toNat, by omega⟩
                    rw [ha'] at hcell hwi hstep hin
                    have qc := HW.out.2.cellAt k (by omega)
                    rw [rowD_at] at qc
                    have qf := HW.out.2.frozenAt k
                    have hst := HW.out.2.stored k (.int .i64 ((m : Int) + 1))
                    rw [rowD_set] at hst
                    have HST := Lib.hid hst.1; clear hst
                    have HSS := Lib.hid (HW.out.1.setCell (p := ⟨w.heap.size, k, none⟩) (Nat.le_refl _) (.int .i64 ((m : Int) + 1)))
                    have HE := Lib.hid hstep; clear hstep
                    have H2 := Lib.hid hwi; clear hwi ha2
                    obtain ⟨hin1, hin2⟩ := hin
                    go_wp2_with (go_at_call 51; (with_reducible refine (H2.out _).mono ?_); rintro r w4 ⟨rfl, hw⟩; replace hw := hw.symm; subst hw)
                    go_roundg g2
                    case rel =>
                      refine ⟨m + 1, a', by omega, by go_num, rfl, by omega, ?_, HSS.out, HST.out⟩
                      rw [HE.out, show n - (m + 1) = q by omega, Option.map_map]
                      congr 1
                      funext x; simp only [Function.comp]; omega
                    case measure => omega
                  · rw [if_neg (by rw [HNE.out]; exact hin)] at hstep
                    rw [show decide (0 ≤ zs.getD a 0 ∧ zs.getD a 0 < (n : Int)) = false by simpa using hin] at hwi
                    have hno : ¬ isTree zs := fun h => by
                      have := h.2.2.2 k (by rw [HNE.out]; exact hlt)
                      rw [HNE.out, hstep] at this
                      simp at this
                    have HNO := Lib.hid hno; clear hno hstep hin
                    have H2 := Lib.hid hwi; clear hwi ha2
                    generalize zs.getD a 0 = c at *
                    go_wp2_with (go_at_call 51; (with_reducible refine (H2.out _).mono ?_); rintro r w4 ⟨rfl, hw⟩; replace hw := hw.symm; subst hw)
                    try rw [Exit.noGoto_ret]
                    go_ret2
                    exact DepP.bad HNO.out HW.out.1
      · have hno : ¬ isTree zs := fun h => hz0' h.2.2.1
        have hne : (zs.getD 0 0 != -1) = true := by simpa using hz0'
        generalize zs.getD 0 0 = c at *
        have H1 := Lib.hid h1; clear h1 hlen hc HWI hz0'
        have HNO := Lib.hid hno; clear hno
        generalize hn : zs.length = n at *
        have l3 : 1 ≤ n := by omega
        clear hn
        go_enter Try.func21, Try.ntmps21
        go_wp2
        go_step3
        go_wp2_with (go_at_call 51; (with_reducible refine (H1.out _).mono ?_); rintro r w1 ⟨rfl, hw⟩; replace hw := hw.symm; subst hw)
        rw [Exit.noGoto_ret]
        go_ret2
        exact DepP.bad HNO.out (Same.refl _)
    · omega
end Go.Proofs.Ytffcoeadpicohaa
