/- TimesyncDepths: for all lists of parents the law returns true: the depth of each node is one more than that of its parent, and only a list of parents that lead to 0 has depths. No condition on the input. -/
import Derived.Test.YtffcoeadpicohaaDepths
namespace Go.Proofs.Ytffcoeadpicohaa
open Go.RowKit Go.ChangeShapes Go.WideShapes Go.Deep

theorem tree_of {zs : List Int} (h1 : 1 ≤ zs.length) (h2 : zs.length ≤ 32) (h3 : zs.getD 0 0 = -1) (h4 : ∀ j : Nat, j + 1 < zs.length → 0 ≤ zs.getD (j + 1) 0 ∧ zs.getD (j + 1) 0 ≤ (j : Int)) : isTree zs := by
  refine ⟨h1, h2, h3, ?_⟩
  have key : ∀ b a : Nat, a ≤ b → a < zs.length → ∀ j, a < j → (depF zs j (a : Int)).isSome = true := by
    intro b
    induction b with
    | zero =>
      intro a ha _ j hj
      obtain rfl : a = 0 := by omega
      obtain ⟨q, rfl⟩ : ∃ q, j = q + 1 := ⟨j - 1, by omega⟩
      rw [show ((0 : Nat) : Int) = 0 from rfl, depF_zero]; rfl
    | succ b ih =>
      intro a ha hl j hj
      by_cases e : a = 0
      · subst e
        obtain ⟨q, rfl⟩ : ∃ q, j = q + 1 := ⟨j - 1, by omega⟩
        rw [show ((0 : Nat) : Int) = 0 from rfl, depF_zero]; rfl
      · obtain ⟨c, rfl⟩ : ∃ c, a = c + 1 := ⟨a - 1, by omega⟩
        obtain ⟨q, rfl⟩ : ∃ q, j = q + 1 := ⟨j - 1, by omega⟩
        obtain ⟨p1, p2⟩ := h4 c hl
        rw [depF_step (by omega), show (((c + 1 : Nat) : Int)).toNat = c + 1 from rfl, if_pos (by omega)]
        obtain ⟨p, hp⟩ : ∃ p : Nat, zs.getD (c + 1) 0 = (p : Int) := ⟨(zs.getD (c + 1) 0).toNat, by omega⟩
        rw [hp]
        have := ih p (by omega) (by omega) q (by omega)
        cases hd : depF zs q (p : Int) with
        | none => rw [hd] at this; simp at this
        | some x => rfl
  exact fun i hi => key i i (Nat.le_refl _) hi _ hi
/-- The depth of a node of a tree. -/
theorem tree_step {zs : List Int} (h : isTree zs) (j : Nat) (hj : j + 1 < zs.length) : ∃ p : Nat, zs.getD (j + 1) 0 = (p : Int) ∧ p < zs.length ∧ (depths zs zs.length).getD (j + 1) 0 = (depths zs zs.length).getD p 0 + 1 := by
  have dget : ∀ i : Nat, i < zs.length → (depths zs zs.length).getD i 0 = (((depF zs zs.length (i : Int)).getD 0 : Nat) : Int) := fun i hi => by
    unfold depths; simp [List.getD_eq_getElem?_getD, hi]
  have hs := h.2.2.2 (j + 1) hj
  obtain ⟨q, hq⟩ : ∃ q, zs.length = q + 1 := ⟨zs.length - 1, by omega⟩
  cases hd : depF zs zs.length ((j + 1 : Nat) : Int) with
  | none => rw [hd] at hs; simp at hs
  | some x =>
    have hd' := hd
    rw [hq, depF_step (by omega), show (((j + 1 : Nat) : Int)).toNat = j + 1 from rfl] at hd'
    by_cases hin : 0 ≤ zs.getD (j + 1) 0 ∧ zs.getD (j + 1) 0 < zs.length
    · rw [if_pos hin] at hd'
      obtain ⟨p, hp⟩ : ∃ p : Nat, zs.getD (j + 1) 0 = (p : Int) := ⟨(zs.getD (j + 1) 0).toNat, by omega⟩
      rw [hp] at hd' hin
      refine ⟨p, hp, by omega, ?_⟩
      cases he : depF zs q (p : Int) with
      | none => rw [he] at hd'; simp at hd'
      | some y =>
        rw [he] at hd'
        simp at hd'
        rw [dget _ hj, dget p (by omega), hd, hq, (depF_more zs q _ y he).1, ← hd']
        simp
    · rw [if_neg hin] at hd'; simp at hd'
theorem depths_zero {zs : List Int} (h : isTree zs) : (depths zs zs.length).getD 0 0 = 0 := by
  obtain ⟨q, hq⟩ : ∃ q, zs.length = q + 1 := ⟨zs.length - 1, by have := h.1; omega⟩
  unfold depths
  rw [List.getD_eq_getElem?_getD, List.getElem?_map, List.getElem?_range (by omega)]
  show (((depF zs zs.length ((0 : Nat) : Int)).getD 0 : Nat) : Int) = 0
  rw [hq, show ((0 : Nat) : Int) = 0 from rfl, depF_zero]; rfl
/-- A list of numbers, with room. -/
def LstC (w : World) (v : Value) (n : Nat) (cs : List Value) : Prop :=
  (∃ b off cap, v = .slice (some ⟨b, off, none⟩) n cap ∧ n ≤ cap ∧ ∀ j u, cs[j]? = some u → w.cell? ⟨b, off + j, none⟩ = some u) ∨ (∃ ao cap, v = .slice ao 0 cap ∧ n = 0 ∧ cs = [])
theorem LstC.lst {w : World} {v : Value} {n : Nat} {cs : List Value} (h : LstC w v n cs) : Lst w v n cs := by
  rcases h with ⟨b, off, cap, h1, _, h2⟩ | h
  · exact .inl ⟨b, off, cap, h1, h2⟩
  · exact .inr h
section
variable {H : Type} {enc : TypeId × Value → H} {W : World} {b0 : Nat} {v : Value} {d : DataW H} {p : List MemPlace} {spare : Nat → Bool} {held : Bool}
theorem ints_of {n : Nat} {v : Value} {y : DataW H × List MemPlace} (h : DataW.trod enc Try.prog W 0 spare held n 37 [v] = some y) : ∃ zs : List Int, LstC W v zs.length (icells zs) := by
  rcases open_slice Try.underlying37 h with ⟨h0, _⟩ | ⟨a, len, cap, m, n, D, Pl, hcs, _, hl, hm, hmm, _, hi⟩
  · simp at h0; exact ⟨[], .inr ⟨none, 0, h0, rfl, rfl⟩⟩
  · simp at hcs
    subst hcs
    have hlen : len ≤ m := by rw [hmm]; split <;> omega
    have hall : ∀ i, i < len → ∃ z : Int, W.cell? (a.add i) = some (.int .i64 z) := fun i hil => by
      obtain ⟨cs', hc, ht⟩ := hi i (by omega)
      rw [Try.cellsI] at hc
      obtain ⟨_, hcl, hat⟩ := World.cells?_some hc
      obtain ⟨z, rfl, _⟩ := int_cells ht
      have := hat 0 (by decide)
      rw [Nat.mul_one] at this
      exact ⟨z, by simpa [add_zero] using this⟩
    obtain ⟨zs, hfl, hfs⟩ := list_of _ len hall
    subst hfl
    by_cases he : zs = []
    · subst he; exact ⟨[], .inr ⟨_, _, rfl, rfl, rfl⟩⟩
    · have hpos : 0 < zs.length := List.length_pos_iff.2 he
      have h0 := hfs 0 _ (List.getElem?_eq_getElem hpos)
      rw [add_zero] at h0
      have hsp := spot_none h0
      obtain ⟨b, off, sp⟩ := a
      simp only at hsp
      subst hsp
      refine ⟨zs, .inl ⟨b, off, cap, rfl, hl, fun j u hj => ?_⟩⟩
      have hjl : j < zs.length := by have := (List.getElem?_eq_some_iff.1 hj).1; simpa [icells] using this
      have := hfs j _ (List.getElem?_eq_getElem hjl)
      rw [addr_add] at this
      rw [this, ← hj]
      simp [icells, List.getElem?_eq_getElem hjl]
theorem open_ints (hv : Value.okWide Try.prog W .any b0 37 v) (h : DataW.Trod enc Try.prog W 0 (fun _ => true) true 37 v d p) : ∃ zs : List Int, LstC W v zs.length (icells zs) := by
  obtain ⟨fuel, hf⟩ := h
  obtain ⟨ao, len, cap, rfl⟩ := okWide_slice Try.underlying37 hv
  exact ints_of (by simpa [Value.cells] using hf)
end
namespace timesyncDepths
theorem depths_bd (zs : List Int) (p : Nat) : 0 ≤ (depths zs zs.length).getD p 0 ∧ (depths zs zs.length).getD p 0 ≤ zs.length := by
  by_cases hp : p < zs.length
  · unfold depths
    rw [List.getD_eq_getElem?_getD, List.getElem?_map, List.getElem?_range hp]
    show 0 ≤ (((depF zs zs.length ((p : Nat) : Int)).getD 0 : Nat) : Int) ∧ (((depF zs zs.length ((p : Nat) : Int)).getD 0 : Nat) : Int) ≤ zs.length
    cases h : depF zs zs.length ((p : Nat) : Int) with
    | none => simp
    | some x =>
      have := (depF_more zs _ _ x h).2
      simp; omega
  · have : (depths zs zs.length)[p]? = none := by rw [List.getElem?_eq_none_iff, depths_length]; omega
    rw [List.getD_eq_getElem?_getD, this]; simp
theorem long (w : World) (v : Value) (zs : List Int) (hv : LstC w v zs.length (icells zs)) (hl : 40 < zs.length) : Calls Try.prog 7 #[v] w fun e w' => e = .returned (.bool true) ∧ Same w w' := by
  have HAW := Lib.hid (fun w => tawake_any w)
  obtain ⟨ao, cap, rfl⟩ := hv.lst.shape
  clear hv
  generalize zs.length = n at *
  go_enter Try.func7, Try.ntmps7
  go_wp2_with (go_at_call 10; (with_reducible refine (HAW.out _).mono ?_); rintro e w1 ⟨rfl, hw⟩; have HB := Lib.hid hw; clear hw)
  go_ret
  exact ⟨rfl, HB.out⟩
theorem good_of {w w' : World} {zs : List Int} {e : Ending} (hT : isTree zs) (h : DepP w zs e w') : ∃ v3, e = .returned (.tuple #[v3, .int .i64 0]) ∧ Same w w' ∧ Lst w' v3 zs.length (icells (depths zs zs.length)) := by
  obtain ⟨v3, x3, rfl, hs3, h3⟩ := h
  rcases h3 with ⟨_, rfl, hL⟩ | ⟨hno, _⟩
  · exact ⟨v3, rfl, hs3, hL⟩
  · exact absurd hT hno
theorem good_at {w w' : World} {zs : List Int} {e : Ending} (hT : isTree zs) (h : DepP w zs e w') : ∃ b3 o3 c3, e = .returned (.tuple #[.slice (some ⟨b3, o3, none⟩) zs.length c3, .int .i64 0]) ∧ Same w w' ∧ ∀ i, i < zs.length → w'.cell? ⟨b3, o3 + i, none⟩ = some (.int .i64 ((depths zs zs.length).getD i 0)) := by
  obtain ⟨v3, rfl, hs, hL⟩ := good_of hT h
  rcases hL with ⟨b3, o3, c3, rfl, hc⟩ | ⟨_, _, _, h0, _⟩
  · exact ⟨b3, o3, c3, rfl, hs, fun i hi => hc i _ (icells_get _ i (by rw [depths_length]; exact hi))⟩
  · have := hT.1; omega
theorem bad_of {w w' : World} {zs : List Int} {e : Ending} (hT : ¬ isTree zs) (h : DepP w zs e w') : e = .returned (.tuple #[.slice none 0 0, .int .i64 1]) ∧ Same w w' := by
  obtain ⟨v3, x3, rfl, hs3, h3⟩ := h
  rcases h3 with ⟨hy, _⟩ | ⟨_, rfl, rfl⟩
  · exact absurd hy hT
  · exact ⟨rfl, hs3⟩
theorem clone_depths (w : World) (v : Value) (zs : List Int) (hv : LstC w v zs.length (icells zs)) (hl : zs.length ≤ 40) (w1 : World) (hs : Same w w1) :
    Calls Try.prog 22 #[v] w1 fun e w' => ∃ v', e = .returned v' ∧ Same w w' ∧ ∀ w2, Same w' w2 → Calls Try.prog 21 #[v'] w2 (DepP w2 zs) := by
  refine (CloneI_any w1 v zs.length (icells zs) (hv.lst.same hs) (icells_length zs) (icells_one zs) hl).mono ?_
  rintro e w' ⟨v', rfl, hown, hw⟩
  exact ⟨v', rfl, hs.trans hw, fun w2 h2 => Depths_any w2 v' zs ((Lst.of_own hown).same h2) (by omega)⟩
set_option maxHeartbeats 6400000 in
set_option maxRecDepth 100000 in
theorem short (w : World) (v : Value) (zs : List Int) (hv : LstC w v zs.length (icells zs)) (hl : zs.length ≤ 40) : Calls Try.prog 7 #[v] w fun e w' => e = .returned (.bool true) ∧ Same w w' := by
  have HAW := Lib.hid (fun w => tawake_any w)
  have HCL := Lib.hid (fun (w1 : World) (hs : Same w w1) => clone_depths w v zs hv hl w1 hs)
  have hl' : (zs.length : Int) ≤ 40 := by omega
  by_cases hT : isTree zs
  · obtain ⟨t1, t2, t3, _⟩ := id hT
    rcases hv with ⟨b, off, cap, rfl, hcap, hc⟩ | ⟨ao, cap, rfl, h0, _⟩
    · have c0 := hc 0 _ (icells_get zs 0 (by omega))
      rw [Nat.add_zero, t3] at c0
      have C0 := Lib.hid (fun (w1 : World) (h : Same w w1) => h.cell c0)
      have HR := Lib.hid (fun (w1 : World) (hs : Same w w1) (a : Nat) (ha : a < zs.length) => hs.cell (hc a _ (icells_get zs a ha)))
      have HST := Lib.hid (fun (j : Nat) (hj : j + 1 < zs.length) => (show ∃ p : Nat, zs.getD (j + 1) 0 = (p : Int) ∧ p < zs.length ∧ (depths zs zs.length).getD (j + 1) 0 = (depths zs zs.length).getD p 0 + 1 ∧ 0 ≤ (depths zs zs.length).getD p 0 ∧ (depths zs zs.length).getD p 0 ≤ 40 from by
        obtain ⟨p, h1, h2, h3⟩ := tree_step hT j hj
        have := depths_bd zs p
        exact ⟨p, h1, h2, h3, this.1, by omega⟩))
      have hz := depths_zero hT
      have HG := Lib.hid (fun (w w' : World) (e : Ending) (h : DepP w zs e w') => good_at hT h)
      clear hT t3 hc c0
      have HDL := Lib.hid (depths_length zs zs.length)
      generalize depths zs zs.length = D at *
      generalize hn : zs.length = n at *
      have HNE := Lib.hid hn; clear hn
      have l1 : (1 : Int) ≤ n := by omega
      have n0 : ((n : Int) == 0) = false := by rw [beq_eq_false_iff_ne]; omega
      by_cases hcap1 : cap = 1
      · subst hcap1
        obtain rfl : n = 1 := by omega
        go_enter Try.func7, Try.ntmps7
        go_wp2_with (first
          | (go_at_call 10; (with_reducible refine (HAW.out _).mono ?_); rintro e w1 ⟨rfl, hw⟩; have HB := Lib.hid hw; clear hw)
          | (go_at_call 22; (with_reducible refine (HCL.out _ HB.out).mono ?_); rintro e w2 ⟨v2, rfl, hs2, hd2⟩; have HS2 := Lib.hid hs2; have HD2 := Lib.hid hd2; clear hs2 hd2)
          | (go_at_call 21; (with_reducible refine (HD2.out _ (Same.refl _)).mono ?_); rintro e w3 hd; obtain ⟨b3, o3, c3, rfl, hs3, hL⟩ := HG.out _ _ _ hd; clear hd; have HS3 := Lib.hid (HS2.out.trans hs3); have d0 := hL 0 (by omega); rw [hz, Nat.add_zero] at d0; have HL := Lib.hid hL; clear hs3 hL; have c0 := C0.out _ HS3.out))
        clear c0 d0 HCL HG HD2 HB HS2 HAW C0 HDL HL HST HR
        go_loopg [47] 0 (fun g s47 wx => s47 = .int .i64 0 ∧ wx = w3)
        case atStart => exact ⟨rfl, rfl⟩
        case round =>
          obtain ⟨rfl, rfl⟩ := hrel
          go_wp2
          go_ret
          exact ⟨rfl, HS3.out⟩
      · go_enter Try.func7, Try.ntmps7
        go_wp2_with (first
          | (go_at_call 10; (with_reducible refine (HAW.out _).mono ?_); rintro e w1 ⟨rfl, hw⟩; have HB := Lib.hid hw; clear hw)
          | (go_at_call 22; (with_reducible refine (HCL.out _ HB.out).mono ?_); rintro e w2 ⟨v2, rfl, hs2, hd2⟩; have HS2 := Lib.hid hs2; have HD2 := Lib.hid hd2; clear hs2 hd2)
          | (go_at_call 21; (with_reducible refine (HD2.out _ (Same.refl _)).mono ?_); rintro e w3 hd; obtain ⟨b3, o3, c3, rfl, hs3, hL⟩ := HG.out _ _ _ hd; clear hd; have HS3 := Lib.hid (HS2.out.trans hs3); have d0 := hL 0 (by omega); rw [hz, Nat.add_zero] at d0; have HL := Lib.hid hL; clear hs3 hL; have c0 := C0.out _ HS3.out))
        clear c0 d0 HCL HG HD2 HB HS2 HAW C0 HDL
        go_loopg [47] (n - 1) (fun g s47 wx => ∃ k : Nat, k + g = n - 1 ∧ s47 = .int .i64 k ∧ Same w3 wx)
        case atStart => exact ⟨0, by omega, rfl, Same.refl _⟩
        case round =>
          obtain ⟨k, hkg, rfl, hsx⟩ := hrel
          have HX := Lib.hid hsx; clear hsx
          cases gk with
          | zero =>
            have hkn : k = n - 1 := by omega
            clear HL HST HR
            subst hkn
            go_wp2
            go_ret
            exact ⟨rfl, HS3.out.trans HX.out⟩
          | succ g =>
            obtain ⟨p, hp1, hp2, hp3, hp4, hp5⟩ := HST.out k (by omega)
            have hcell := HR.out _ (HS3.out.trans HX.out) (k + 1) (by omega)
            rw [hp1, show off + (k + 1) = off + 1 + k by omega] at hcell
            have e1 := HX.out.cell (HL.out (k + 1) (by omega))
            have e2 := HX.out.cell (HL.out p hp2)
            rw [hp3] at e1
            generalize D.getD p 0 = x at *
            obtain ⟨P, hP⟩ : ∃ P : Int, P = (p : Int) := ⟨_, rfl⟩
            have hpp : p = P.toNat := by omega
            rw [← hP] at hcell
            rw [hpp] at e2
            have q1 : 0 ≤ P := by omega
            have q2 : P < (n : Int) := by omega
            have g1 : decide (P < 0) = false := by simp; omega
            have g2 : decide ((n : Int) ≤ P) = false := by simp; omega
            have hk1 : k < n - 1 := by omega
            clear hp1 hp3 hP hpp hp2
            go_wp2
            go_quiet (fail)
            go_wp2
            go_roundg g
            case rel => exact ⟨k + 1, by omega, by go_num, by first | exact HX.out | exact HX.out.drewN _ | exact HX.out.drew⟩
            case measure => omega
    · omega
  · have HG := Lib.hid (fun (w w' : World) (e : Ending) (h : DepP w zs e w') => bad_of hT h)
    by_cases hs1 : zs.length < 1
    · obtain ⟨ao, cap, rfl⟩ := hv.lst.shape
      clear hv hT
      generalize hn : zs.length = n at *
      obtain rfl : n = 0 := by omega
      clear hn
      go_enter Try.func7, Try.ntmps7
      go_wp2_with (first
        | (go_at_call 10; (with_reducible refine (HAW.out _).mono ?_); rintro e w1 ⟨rfl, hw⟩; have HB := Lib.hid hw; clear hw)
        | (go_at_call 22; (with_reducible refine (HCL.out _ HB.out).mono ?_); rintro e w2 ⟨v2, rfl, hs2, hd2⟩; have HS2 := Lib.hid hs2; have HD2 := Lib.hid hd2; clear hs2 hd2)
        | (go_at_call 21; (with_reducible refine (HD2.out _ (Same.refl _)).mono ?_); rintro e w3 hd; obtain ⟨rfl, hs3⟩ := HG.out _ _ _ hd; clear hd; have HS3 := Lib.hid (HS2.out.trans hs3); clear hs3))
      go_ret
      exact ⟨rfl, HS3.out⟩
    · rcases hv with ⟨b, off, cap, rfl, hcap, hc⟩ | ⟨ao, cap, rfl, h0, _⟩
      · have c0 := hc 0 _ (icells_get zs 0 (by omega))
        rw [Nat.add_zero] at c0
        have C0 := Lib.hid (fun (w1 : World) (h : Same w w1) => h.cell c0)
        have HR := Lib.hid (fun (w1 : World) (hs : Same w w1) (a : Nat) (ha : a < zs.length) => hs.cell (hc a _ (icells_get zs a ha)))
        have HNT := Lib.hid (fun (h2 : zs.length ≤ 32) (h3 : zs.getD 0 0 = -1) (h4 : ∀ j : Nat, j + 1 < zs.length → 0 ≤ zs.getD (j + 1) 0 ∧ zs.getD (j + 1) 0 ≤ (j : Int)) => hT (tree_of (by omega) h2 h3 h4))
        clear hT hc c0
        generalize hn : zs.length = n at *
        clear hn
        have l1 : (1 : Int) ≤ n := by omega
        have n0 : ((n : Int) == 0) = false := by rw [beq_eq_false_iff_ne]; omega
        by_cases hn2 : 32 < n
        · go_enter Try.func7, Try.ntmps7
          go_wp2_with (first
            | (go_at_call 10; (with_reducible refine (HAW.out _).mono ?_); rintro e w1 ⟨rfl, hw⟩; have HB := Lib.hid hw; clear hw)
            | (go_at_call 22; (with_reducible refine (HCL.out _ HB.out).mono ?_); rintro e w2 ⟨v2, rfl, hs2, hd2⟩; have HS2 := Lib.hid hs2; have HD2 := Lib.hid hd2; clear hs2 hd2)
            | (go_at_call 21; (with_reducible refine (HD2.out _ (Same.refl _)).mono ?_); rintro e w3 hd; obtain ⟨rfl, hs3⟩ := HG.out _ _ _ hd; clear hd; have HS3 := Lib.hid (HS2.out.trans hs3); have c0 := C0.out _ HS3.out; clear hs3))
          go_ret
          exact ⟨rfl, HS3.out⟩
        · have l2 : (n : Int) ≤ 32 := by omega
          by_cases hz : zs.getD 0 0 = -1
          · rw [hz] at C0
            have HNT2 := Lib.hid (HNT.out (by omega) hz)
            clear HNT hs1 hn2 hz
            by_cases hcap1 : cap = 1
            · exfalso
              exact HNT2.out (fun j hj => by omega)
            · go_enter Try.func7, Try.ntmps7
              go_wp2_with (first
                | (go_at_call 10; (with_reducible refine (HAW.out _).mono ?_); rintro e w1 ⟨rfl, hw⟩; have HB := Lib.hid hw; clear hw)
                | (go_at_call 22; (with_reducible refine (HCL.out _ HB.out).mono ?_); rintro e w2 ⟨v2, rfl, hs2, hd2⟩; have HS2 := Lib.hid hs2; have HD2 := Lib.hid hd2; clear hs2 hd2)
                | (go_at_call 21; (with_reducible refine (HD2.out _ (Same.refl _)).mono ?_); rintro e w3 hd; obtain ⟨rfl, hs3⟩ := HG.out _ _ _ hd; clear hd; have HS3 := Lib.hid (HS2.out.trans hs3); have c0 := C0.out _ HS3.out; clear hs3))
              clear c0 HCL HG HD2 HB HS2 HAW C0
              go_loopg [98] (n - 1) (fun g s98 wx => ∃ k : Nat, k + g = n - 1 ∧ s98 = .int .i64 k ∧ (∀ j : Nat, j < k → 0 ≤ zs.getD (j + 1) 0 ∧ zs.getD (j + 1) 0 ≤ (j : Int)) ∧ Same w3 wx)
              case atStart => exact ⟨0, by omega, rfl, fun j hj => absurd hj (Nat.not_lt_zero _), Same.refl _⟩
              case round =>
                obtain ⟨k, hkg, rfl, hall, hsx⟩ := hrel
                have HX := Lib.hid hsx; clear hsx
                have HALL := Lib.hid hall; clear hall
                cases gk with
                | zero =>
                  exfalso
                  exact HNT2.out (fun j hj => HALL.out j (by omega))
                | succ g =>
                  have hcell := HR.out _ (HS3.out.trans HX.out) (k + 1) (by omega)
                  rw [show off + (k + 1) = off + 1 + k by omega] at hcell
                  have hk1 : k < n - 1 := by omega
                  by_cases p1 : zs.getD (k + 1) 0 < 0
                  · clear HALL HNT2 HR
                    generalize zs.getD (k + 1) 0 = p at *
                    go_wp2
                    go_ret
                    exact ⟨rfl, HS3.out.trans HX.out⟩
                  · have p1' : 0 ≤ zs.getD (k + 1) 0 := by omega
                    clear p1
                    by_cases p2 : (k : Int) < zs.getD (k + 1) 0
                    · clear HALL HNT2 HR
                      generalize zs.getD (k + 1) 0 = p at *
                      go_wp2
                      go_ret
                      exact ⟨rfl, HS3.out.trans HX.out⟩
                    · have p2' : zs.getD (k + 1) 0 ≤ (k : Int) := by omega
                      have ha2 : ∀ j : Nat, j < k + 1 → 0 ≤ zs.getD (j + 1) 0 ∧ zs.getD (j + 1) 0 ≤ (j : Int) := fun j hj => by
                        by_cases e : j = k
                        · subst e; exact ⟨p1', p2'⟩
                        · exact HALL.out j (by omega)
                      have HA2 := Lib.hid ha2; clear ha2 HALL p2
                      generalize zs.getD (k + 1) 0 = p at *
                      go_wp2
                      go_roundg g
                      case rel => exact ⟨k + 1, by omega, by go_num, HA2.out, HX.out⟩
                      case measure => omega
          · have hne : (zs.getD 0 0 != -1) = true := by simpa using hz
            clear HR HNT
            generalize zs.getD 0 0 = c at *
            clear hz
            go_enter Try.func7, Try.ntmps7
            go_wp2_with (first
              | (go_at_call 10; (with_reducible refine (HAW.out _).mono ?_); rintro e w1 ⟨rfl, hw⟩; have HB := Lib.hid hw; clear hw)
              | (go_at_call 22; (with_reducible refine (HCL.out _ HB.out).mono ?_); rintro e w2 ⟨v2, rfl, hs2, hd2⟩; have HS2 := Lib.hid hs2; have HD2 := Lib.hid hd2; clear hs2 hd2)
              | (go_at_call 21; (with_reducible refine (HD2.out _ (Same.refl _)).mono ?_); rintro e w3 hd; obtain ⟨rfl, hs3⟩ := HG.out _ _ _ hd; clear hd; have HS3 := Lib.hid (HS2.out.trans hs3); have c0 := C0.out _ HS3.out; clear hs3))
            go_ret
            exact ⟨rfl, HS3.out⟩
      · omega
theorem walk (w : World) (v : Value) (zs : List Int) (hv : LstC w v zs.length (icells zs)) : Calls Try.prog 7 #[v] w fun e w' => e = .returned (.bool true) ∧ Same w w' := by
  by_cases h : 40 < zs.length
  · exact long w v zs hv h
  · exact short w v zs hv (by omega)
open Go.ChangeShapes Go.WideShapes Go.ChangeAt
theorem own : ownKnob Try.prog.godebug = none := by kernel_rfl

set_option maxRecDepth 100000 in
theorem lifted (os : Os) (started : os.Started) (H : Type) (enc : TypeId × Value → H) :
    ReturnsInHanded {} Try.checked os 7 .any (Rows.timesyncDepthsSpec.pre6 enc Try.prog Try.f7 Rows.timesyncDepthsRow.domain false) (Rows.timesyncDepthsSpec.post enc Try.prog Try.f7 false true false false) := by
  refine returnsInHanded_of_change (C := Try.checked) own started (by kernel_rfl) Try.func7
    (ChangeSpec.witness6 (enc := enc) (C := Try.checked) false ⟨#[], #[.slice none 0 0], []⟩ 8 (by kernel_rfl) (by kernel_rfl) (by kernel_rfl) (by kernel_rfl)) ?_
  intro W base args ds gs before hval0 hW hcnd _
  have hval : ∀ (j : Nat) t v, Try.f7.params[j]? = some t → args[j]? = some v → Value.okWide Try.prog W .any base t v := hval0
  have hW' := hW
  obtain ⟨p, q, hA0, hV, rfl, hfz, hnd⟩ := hW
  have hA : DataW.TrodAll enc Try.prog W 0 (fun _ => true) true Try.f7.params.toList args.toList ds p := hA0
  rw [Try.params7] at hA hval
  obtain ⟨v0, vs0, d0, ds0, p0, q0, hargs, rfl, rfl, h0, r0⟩ := trodAll_cons hA
  obtain ⟨rfl, rfl, rfl⟩ := trodAll_nil r0
  obtain rfl : args = #[v0] := by cases args; simp_all
  obtain ⟨rfl, rfl⟩ := trodVars_none hV
  obtain ⟨s0, hs0⟩ := open_ints (hval 0 37 v0 rfl rfl) h0
  clear hA0 hval0
  try simp only [List.append_nil] at hW'
  try simp only [List.nil_append] at hW'
  have hlt : ∀ x ∈ p0, x.block < W.heap.size := fun x hx => by
    have := hW'.lt x (by simpa using hx)
    simpa using this
  refine (walk W v0 s0 hs0).mono fun e W' ⟨he, hg⟩ => ?_
  subst he
  exact ⟨_, rfl, _, _, _, [], _, [], hW', trodAll_cons_mk (shut_bool Try.underlying4 _) trodAll_mk0, trodAll_cons_mk (Below.trod Try.laidOut (by kernel_rfl) (of_decide_eq_true (by kernel_rfl)) h0 (Same.toBelow hg) (fun x hx => hlt x (by simp [hx]))) trodAll_mk0, rfl, (Same.toBelow hg).frame _, fun h => by cases h⟩

theorem over : Rows.timesyncDepthsRow.holds Try.pinned (OpenSpec.ofChange Rows.timesyncDepthsSpec) :=
  OpenClaim.holds_of_wide 7 Try.f7 rfl rfl rfl rfl rfl rfl rfl ⟨rfl, rfl, rfl, rfl, rfl⟩ rfl rfl rfl rfl rfl (by kernel_rfl) Try.func7 (by kernel_rfl)
    (of_decide_eq_true (by kernel_rfl)) (by unfold Func.isWrapper; first | (rw [if_pos (by decide +kernel)]; kernel_rfl) | (rw [if_neg (by decide +kernel)]; exact ⟨rfl, rfl⟩))
    (fun os started H enc _ => lifted os started H enc)

theorem proved : Rows.TimesyncDepthsSaid :=
  over
end timesyncDepths
end Go.Proofs.Ytffcoeadpicohaa
