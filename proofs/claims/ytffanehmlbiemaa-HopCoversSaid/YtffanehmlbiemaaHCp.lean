/- Lists that share no memory with others. -/
import Derived.Test.YtffanehmlbiemaaHForce1
namespace Go.Proofs.Ytffanehmlbiemaa
open Go.RowKit Go.Deep

theorem Try.infoH : (Try.prog.info? 24).map (fun i => (i.zero, i.size, i.bytes)) = some (some (.agg #[.int .i64 0, .int .i64 0, .int .i64 0, .slice none 0 0]), 4, 48) := by kernel_rfl
set_option maxHeartbeats 2000000 in
set_option maxRecDepth 100000 in
theorem CloneH_row (w : World) (ad : Addr) (n cap : Nat) (cs : List Value) (hc : cs.length = n * 4) (ha : ∀ j u, cs[j]? = some u → w.cell? (ad.add j) = some u) (ho : ∀ u ∈ cs, u.oneCell' = true) (hl : n ≤ 20) :
    Calls Try.prog 41 #[.slice (some ad) n cap] w fun e w' => ∃ v', e = .returned v' ∧ w'.ownsRow w.heap.size 24 4 v' n cs ∧ Same w w' := by
  obtain ⟨i0, hi, hz0, hz1, hz2⟩ := info_parts Try.infoH
  have q22 : ∀ (w : World) (a : Option Addr) (n c n' c' : Nat), (binOp .eql 34 (.slice a n c) (.slice none n' c')).run Try.prog w = .ok (.bool a.isNone) w := fun w a n c n' c' => Lib.run_eql_slice_nil w _ _ a n c n' c' Try.underlying34
  have A := Lib.hid ha; clear ha
  have O := Lib.hid ho; clear ho
  have N := Lib.hid hc; clear hc
  go_enter Try.func41, Try.ntmps41
  go_wp2_with (at_builtin; refine wpList_append_own _ rfl _ _ 34 rfl w.heap.size 24 i0 (.agg #[.int .i64 0, .int .i64 0, .int .i64 0, .slice none 0 0]) 4 48 Try.underlying34 hi hz0 hz1 hz2 rfl (by decide) _ _ _ rfl (World.ownsRow_made w #[] 0 (Nat.le_refl _) (Nat.zero_le _) rfl) ad n cap cs rfl ?qc1 ?qc2 ?qc3 ?qc4 ?qc5 ?qc6 ?_)
  case qc1 => exact N.out
  case qc2 => intro j u hj; exact Lib.cell?_alloc_some _ (A.out j u hj)
  case qc3 => exact O.out
  case qc4 => unfold maxLen; omega
  case qc5 => omega
  case qc6 => simp
  intro v' w1 hown hgrow hnil
  go_wp2
  go_ret
  refine ⟨v', rfl, by simpa using hown, ?_⟩
  have hb : Below w.heap.size w w1 := ((Below.refl _ w).alloc (Nat.le_refl _) _).grown hgrow (by simp) (by intro k hk; simp [Value.ownBlock] at hk; omega)
  exact Same.ofBelow hb
theorem CloneH_nil (w : World) (cap : Nat) : Calls Try.prog 41 #[.slice none 0 cap] w fun e w' => e = .returned (.slice none 0 0) ∧ Same w w' := by
  have q22 : ∀ (w : World) (a : Option Addr) (n c n' c' : Nat), (binOp .eql 34 (.slice a n c) (.slice none n' c')).run Try.prog w = .ok (.bool a.isNone) w := fun w a n c n' c' => Lib.run_eql_slice_nil w _ _ a n c n' c' Try.underlying34
  go_enter Try.func41, Try.ntmps41
  go_wp2
  go_ret
  exact ⟨rfl, Same.refl _⟩
theorem cell_lt {w : World} {a : Addr} {v : Value} (h : w.cell? a = some v) : a.block < w.heap.size := by
  unfold World.cell? at h
  split at h
  · rename_i hx
    exact (Array.getElem?_eq_some_iff.1 hx).1
  · cases h
/-- A list of numbers that lies outside of a block. -/
def ILx (g : Nat) (w : World) (v : Value) (zs : List Int) : Prop :=
  (∃ b off cap, v = .slice (some ⟨b, off, none⟩) zs.length cap ∧ b ≠ g ∧ 0 < zs.length ∧ zs.length ≤ cap ∧ ∀ i, i < zs.length → w.cell? ⟨b, off + i, none⟩ = some (.int .i64 (zs.getD i 0))) ∨ (∃ ao cap, v = .slice ao 0 cap ∧ zs = [])
theorem ILx.il {g : Nat} {w : World} {v : Value} {zs : List Int} (h : ILx g w v zs) : IL w v zs := by
  rcases h with ⟨b, off, cap, h1, _, h2, h3, h4⟩ | h
  · exact .inl ⟨b, off, cap, h1, h2, h3, h4⟩
  · exact .inr h
theorem ILx.same {g : Nat} {w w' : World} {v : Value} {zs : List Int} (h : ILx g w v zs) (s : Same w w') : ILx g w' v zs := by
  rcases h with ⟨b, off, cap, h1, h2, h3, h4, h5⟩ | h
  · exact .inl ⟨b, off, cap, h1, h2, h3, h4, fun i hi => s.cell (h5 i hi)⟩
  · exact .inr h
theorem ILx.set {g o : Nat} {w : World} {v u : Value} {zs : List Int} (h : ILx g w v zs) : ILx g (w.setCell ⟨g, o, none⟩ u) v zs := by
  rcases h with ⟨b, off, cap, h1, h2, h3, h4, h5⟩ | h
  · exact .inl ⟨b, off, cap, h1, h2, h3, h4, fun i hi => by rw [World.cell?_setCell_far _ _ _ _ (fun e => h2 e.symm)]; exact h5 i hi⟩
  · exact .inr h
theorem ILx.old {g : Nat} {w : World} {v : Value} {zs : List Int} (h : IL w v zs) (hg : w.heap.size ≤ g) : ILx g w v zs := by
  rcases h with ⟨b, off, cap, h1, h2, h3, h4⟩ | h
  · refine .inl ⟨b, off, cap, h1, ?_, h2, h3, h4⟩
    have := cell_lt (h4 0 h2)
    simp at this; omega
  · exact .inr h
theorem ILx.own {g : Nat} {w : World} {base : Nat} {v : Value} {zs : List Int} (h : w.ownsRow base 3 1 v zs.length (icells zs)) (hg : g < base) : ILx g w v zs := by
  rcases h.2 with ⟨hv, hn⟩ | ⟨k, cap, cur, hv, hb, _, hc, _⟩
  · exact .inr ⟨none, 0, by rw [hv], List.length_eq_zero_iff.1 hn⟩
  · subst hv
    by_cases h0 : zs = []
    · subst h0; exact .inr ⟨_, _, rfl, rfl⟩
    · refine .inl ⟨k, 0, cap, rfl, by omega, List.length_pos_iff.2 h0, hc, fun i hi => ?_⟩
      rw [Nat.zero_add, h.cellAt i (by omega), icells_get _ i hi]
/-- An element of the copied list. -/
def HAx (w : World) (g : Nat) (i : Nat) (x : Hp) : Prop := ∃ ao cap, w.cell? ⟨g, i * 4, none⟩ = some (.int .i64 x.1) ∧ w.cell? ⟨g, i * 4 + 1, none⟩ = some (.int .i64 x.2.1) ∧ w.cell? ⟨g, i * 4 + 2, none⟩ = some (.int .i64 x.2.2.1) ∧ w.cell? ⟨g, i * 4 + 3, none⟩ = some (.slice ao x.2.2.2.length cap) ∧ ILx g w (.slice ao x.2.2.2.length cap) x.2.2.2 ∧ w.frozen? ⟨g, i * 4 + 3, none⟩ = false
theorem HAx.same {w w' : World} {g i : Nat} {x : Hp} (h : HAx w g i x) (s : Same w w') : HAx w' g i x := by
  obtain ⟨ao, cap, h0, h1, h2, h3, h4, h5⟩ := h
  exact ⟨ao, cap, s.cell h0, s.cell h1, s.cell h2, s.cell h3, h4.same s, (s.frozen h3).trans h5⟩
theorem HAx.far {w : World} {g i k : Nat} {x : Hp} {u : Value} (h : HAx w g i x) (hne : i ≠ k) : HAx (w.setCell ⟨g, k * 4 + 3, none⟩ u) g i x := by
  obtain ⟨ao, cap, h0, h1, h2, h3, h4, h5⟩ := h
  refine ⟨ao, cap, ?_, ?_, ?_, ?_, h4.set, by rw [World.frozen?_setCell]; exact h5⟩
  · exact (World.cell?_setCell_other _ _ _ _ (by intro e; injection e with _ e; omega)).trans h0
  · exact (World.cell?_setCell_other _ _ _ _ (by intro e; injection e with _ e; omega)).trans h1
  · exact (World.cell?_setCell_other _ _ _ _ (by intro e; injection e with _ e; omega)).trans h2
  · exact (World.cell?_setCell_other _ _ _ _ (by intro e; injection e with _ e; omega)).trans h3
theorem HAx.hit {w : World} {g k : Nat} {x : Hp} {ao : Option Addr} {cap : Nat} (h : HAx w g k x) (q : ILx g w (.slice ao x.2.2.2.length cap) x.2.2.2) : HAx (w.setCell ⟨g, k * 4 + 3, none⟩ (.slice ao x.2.2.2.length cap)) g k x := by
  obtain ⟨_, _, h0, h1, h2, h3, h4, h5⟩ := h
  refine ⟨ao, cap, ?_, ?_, ?_, ?_, q.set, by rw [World.frozen?_setCell]; exact h5⟩
  · exact (World.cell?_setCell_other _ _ _ _ (by intro e; injection e with _ e; omega)).trans h0
  · exact (World.cell?_setCell_other _ _ _ _ (by intro e; injection e with _ e; omega)).trans h1
  · exact (World.cell?_setCell_other _ _ _ _ (by intro e; injection e with _ e; omega)).trans h2
  · exact World.cell?_setCell_same _ _ _ h3
theorem HL.of_ax {w : World} {g cap : Nat} {hs : List Hp} (h0 : 0 < hs.length) (h : ∀ i, i < hs.length → HAx w g i (hs.getD i hp0)) : HL w (.slice (some ⟨g, 0, none⟩) hs.length cap) hs :=
  .inl ⟨g, 0, cap, rfl, h0, fun i hi => by
    obtain ⟨ao, c, q0, q1, q2, q3, q4, _⟩ := h i hi
    rw [Nat.zero_add]
    exact ⟨ao, c, q0, q1, q2, q3, q4.il⟩⟩
/-- The cells of a list, as they lie. -/
def rowOf (w : World) (b off n : Nat) : List Value := (List.range (n * 4)).map fun j => (w.cell? ⟨b, off + j, none⟩).getD (.bool false)
theorem rowOf_len (w : World) (b off n : Nat) : (rowOf w b off n).length = n * 4 := by unfold rowOf; simp
theorem rowOf_get {w : World} {b off n : Nat} {hs : List Hp} (hn : hs.length = n) (h : ∀ i, i < hs.length → HAt w b (off + i * 4) (hs.getD i hp0)) (j : Nat) (hj : j < n * 4) : ∃ u, w.cell? ⟨b, off + j, none⟩ = some u ∧ u.oneCell' = true ∧ (rowOf w b off n)[j]? = some u := by
  obtain ⟨ao, cap, q0, q1, q2, q3, _⟩ := h (j / 4) (by omega)
  have hr : ∀ u, w.cell? ⟨b, off + j, none⟩ = some u → (rowOf w b off n)[j]? = some u := fun u hu => by
    unfold rowOf
    rw [List.getElem?_map, List.getElem?_range hj]
    simp [hu]
  have hm : j % 4 = 0 ∨ j % 4 = 1 ∨ j % 4 = 2 ∨ j % 4 = 3 := by omega
  rcases hm with e | e | e | e
  · have hc := q0
    rw [show off + j / 4 * 4 = off + j by omega] at hc
    exact ⟨_, hc, rfl, hr _ hc⟩
  · have hc := q1
    rw [show off + j / 4 * 4 + 1 = off + j by omega] at hc
    exact ⟨_, hc, rfl, hr _ hc⟩
  · have hc := q2
    rw [show off + j / 4 * 4 + 2 = off + j by omega] at hc
    exact ⟨_, hc, rfl, hr _ hc⟩
  · have hc := q3
    rw [show off + j / 4 * 4 + 3 = off + j by omega] at hc
    exact ⟨_, hc, rfl, hr _ hc⟩
/-- A clone of the lists. -/
theorem CloneH_any (w : World) (b off n cap : Nat) (hs : List Hp) (hn : hs.length = n) (h0 : 0 < n) (hl : n ≤ 20) (h : ∀ i, i < n → HAt w b (off + i * 4) (hs.getD i hp0)) :
    Calls Try.prog 41 #[.slice (some ⟨b, off, none⟩) n cap] w fun e w' => ∃ g c, e = .returned (.slice (some ⟨g, 0, none⟩) n c) ∧ Same w w' ∧ w.heap.size ≤ g ∧ g < w'.heap.size ∧ ∀ i, i < n → HAx w' g i (hs.getD i hp0) := by
  subst hn
  refine (CloneH_row w ⟨b, off, none⟩ hs.length cap (rowOf w b off hs.length) (rowOf_len _ _ _ _) (fun j u hj => ?_) (fun u hu => ?_) hl).mono ?_
  · have hjl : j < hs.length * 4 := by have := (List.getElem?_eq_some_iff.1 hj).1; rw [rowOf_len] at this; exact this
    obtain ⟨x, q1, _, q3⟩ := rowOf_get rfl h j hjl
    rw [hj] at q3
    injection q3 with q3
    subst q3
    rw [addr_add]; exact q1
  · obtain ⟨j, hj⟩ := List.getElem?_of_mem hu
    have hjl : j < hs.length * 4 := by have := (List.getElem?_eq_some_iff.1 hj).1; rw [rowOf_len] at this; exact this
    obtain ⟨x, q1, q2, q3⟩ := rowOf_get rfl h j hjl
    rw [hj] at q3
    injection q3 with q3
    subst q3
    exact q2
  · rintro e w' ⟨v', rfl, hown, hsm⟩
    rcases hown.2 with ⟨_, hz⟩ | ⟨g, c, cur, rfl, hb, hg, hnc, _, hsz, htake⟩
    · omega
    refine ⟨g, c, rfl, hsm, hb, (Array.getElem?_eq_some_iff.1 hg).1, fun i hi => ?_⟩
    have hcell : ∀ j, j < hs.length * 4 → w'.cell? ⟨g, j, none⟩ = w.cell? ⟨b, off + j, none⟩ := fun j hj => by
      obtain ⟨x, q1, _, q3⟩ := rowOf_get rfl h j hj
      rw [cell_of_row w' g j cur _ _ hg, q1, ← q3, ← htake, List.getElem?_take_of_lt hj, Array.getElem?_toList]
    obtain ⟨ao, cp, q0, q1, q2, q3, q4⟩ := h i hi
    refine ⟨ao, cp, ?_, ?_, ?_, ?_, (ILx.old q4 hb).same hsm, frozen_of_row w' g _ cur _ hg⟩
    · rw [hcell _ (by omega)]; exact q0
    · rw [hcell _ (by omega)]; rw [show off + (i * 4 + 1) = off + i * 4 + 1 by omega]; exact q1
    · rw [hcell _ (by omega)]; rw [show off + (i * 4 + 2) = off + i * 4 + 2 by omega]; exact q2
    · rw [hcell _ (by omega)]; rw [show off + (i * 4 + 3) = off + i * 4 + 3 by omega]; exact q3
theorem CloneH_zero (w : World) (ao : Option Addr) (cap : Nat) : Calls Try.prog 41 #[.slice ao 0 cap] w fun e w' => (∃ a c, e = .returned (.slice a 0 c)) ∧ Same w w' := by
  cases ao with
  | none => exact (CloneH_nil w cap).mono fun e w' h => ⟨⟨_, _, h.1⟩, h.2⟩
  | some ad =>
    refine (CloneH_row w ad 0 cap [] rfl (fun j u hj => by simp at hj) (fun u hu => by simp at hu) (by omega)).mono ?_
    rintro e w' ⟨v', rfl, hown, hsm⟩
    rcases hown.2 with ⟨rfl, _⟩ | ⟨g, c, cur, rfl, _⟩
    · exact ⟨⟨_, _, rfl⟩, hsm⟩
    · exact ⟨⟨_, _, rfl⟩, hsm⟩
set_option maxHeartbeats 3200000 in
set_option maxRecDepth 100000 in
theorem cp_any (w : World) (v : Value) (hs : List Hp) (h : HL w v hs) (hl : hs.length ≤ 20) (hz : ∀ i, (hs.getD i hp0).2.2.2.length ≤ 1000) :
    Calls Try.prog 20 #[v] w fun e w' => ∃ v', e = .returned v' ∧ HL w' v' hs ∧ Same w w' := by
  rcases h with ⟨b, off, cap, rfl, h0, hc⟩ | ⟨ao, cap, rfl, rfl⟩
  · have HCL := Lib.hid (CloneH_any w b off hs.length cap hs rfl h0 hl hc)
    have HLN := Lib.hid hz; clear hz hc
    have HOX := Lib.hid (fun (w' : World) (g c : Nat) (q : ∀ i, i < hs.length → HAx w' g i (hs.getD i hp0)) => HL.of_ax (cap := c) h0 q)
    generalize hn : hs.length = n at *
    clear hn
    go_enter Try.func20, Try.ntmps20
    go_wp2_with (go_at_call 41; (with_reducible refine HCL.out.mono ?_); rintro e w1 ⟨g, c, rfl, hsm, hg0, hg1, hax⟩; have HSM := Lib.hid hsm; have HAX := Lib.hid hax; clear hsm hax)
    clear HCL
    go_loopw [4, 9] (fun _s i wr => ∃ k : Nat, k ≤ n ∧ i = .int .i64 k ∧ (∀ i, i < n → HAx wr g i (hs.getD i hp0)) ∧ Same w wr ∧ g < wr.heap.size) (fun _s i _ => n - (intOf i).toNat)
    case atStart => exact ⟨0, Nat.zero_le _, rfl, HAX.out, HSM.out, hg1⟩
    case round =>
      obtain ⟨k, hk, rfl, hall, hS, hgr⟩ := hrel
      by_cases hlt : k < n
      · obtain ⟨ao, ca, z0, z1, z2, z3, hil, hfz⟩ := hall k hlt
        have HCI := Lib.hid (CloneI_own wr (.slice ao (hs.getD k hp0).2.2.2.length ca) (hs.getD k hp0).2.2.2 hil.il (HLN.out k))
        have HALL := Lib.hid (fun (w3 : World) (q : Same wr w3) (i : Nat) (hi : i < n) => (hall i hi).same q)
        have HHK := Lib.hid (show (hs.getD k hp0).2.2.2 = (hs.getD k hp0).2.2.2 from rfl)
        obtain ⟨X, hX⟩ : ∃ X, hs.getD k hp0 = X := ⟨_, rfl⟩
        rw [hX] at z0 z1 z2 z3 HCI
        have HX := Lib.hid hX
        have HSR := Lib.hid hS
        clear hall hil hS hX HHK
        obtain ⟨xv, xf, xu, xz⟩ := X
        simp only at z0 z1 z2 z3 HCI
        go_wp2_with (go_at_call 26; (with_reducible refine HCI.out.mono ?_); rintro e w3 ⟨v3, rfl, hw, hown⟩; obtain ⟨a5, c5, he5⟩ := (IL.of_own (zs := xz) hown).shape; subst he5; have HOW := Lib.hid hown; have HW3 := Lib.hid hw; have hf3 := (hw.frozen z3).trans hfz; replace z3 := hw.cell z3; clear hw hown)
        go_roundw
        case rel =>
          refine ⟨k + 1, by omega, by go_num, fun i hi => ?_, (HSR.out.trans HW3.out).setCell (by simpa using hg0) _, by simpa using Nat.lt_of_lt_of_le hgr HW3.out.size⟩
          have hx3 : ILx g w3 (.slice a5 xz.length c5) xz := ILx.own HOW.out hgr
          by_cases e : i = k
          · subst e
            have q := HALL.out w3 HW3.out i hi
            rw [HX.out] at q ⊢
            exact HAx.hit q hx3
          · exact (HALL.out w3 HW3.out i hi).far e
        case measure => simp [intOf]; omega
      · obtain rfl : n = k := by omega
        have HQ := Lib.hid (HOX.out wr g c hall)
        have HQ2 := Lib.hid hS
        clear hall hS
        go_wp2
        go_ret
        exact ⟨_, rfl, HQ.out, HQ2.out⟩
  · have HCL := Lib.hid (CloneH_zero w ao cap)
    go_enter Try.func20, Try.ntmps20
    go_wp2_with (go_at_call 41; (with_reducible refine HCL.out.mono ?_); rintro e w1 ⟨⟨a, c, rfl⟩, hsm⟩; have HSM := Lib.hid hsm; clear hsm)
    refine wp_loop_rounds 1 ?_
    rw [rounds_succ]
    go_wp2
    go_ret
    exact ⟨_, rfl, .inr ⟨_, _, rfl, rfl⟩, HSM.out⟩
end Go.Proofs.Ytffanehmlbiemaa
