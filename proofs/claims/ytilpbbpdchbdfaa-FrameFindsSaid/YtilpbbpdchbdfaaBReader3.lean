
/- The reader's texts, and its end. -/
import Derived.Test.YtilpbbpdchbdfaaBReader2
namespace Go.Proofs.Ytilpbbpdchbdfaa.Bit
open Go.RowKit
set_option maxRecDepth 100000

def rbytes (s : ByteArray) (k n : Nat) : List Nat := (List.range n).map fun i => val (sbits s (k + 8 * i) 8)
theorem rbytes_length (s : ByteArray) (k n : Nat) : (rbytes s k n).length = n := by simp [rbytes]
theorem rbytes_succ (s : ByteArray) (k n : Nat) : rbytes s k (n + 1) = rbytes s k n ++ [val (sbits s (k + 8 * n) 8)] := by simp [rbytes, List.range_succ]
/-- The row while i bytes are in it. -/
def rrow (s : ByteArray) (k n i : Nat) : List Nat := rbytes s k i ++ List.replicate (n - i) 0
theorem rrow_set (s : ByteArray) (k n i : Nat) (h : i < n) : rrow s k n (i + 1) = (rrow s k n i).set i (val (sbits s (k + 8 * i) 8)) := by
  unfold rrow
  rw [rbytes_succ, show n - i = (n - (i + 1)) + 1 by omega, List.replicate_succ, List.set_append_right _ _ (by rw [rbytes_length]; exact Nat.le_refl _), rbytes_length, Nat.sub_self, List.set_cons_zero, List.append_assoc]
  rfl
theorem rrow_length (s : ByteArray) (k n i : Nat) (h : i ≤ n) : (rrow s k n i).length = n := by simp [rrow, rbytes_length]; omega
theorem u8s_set (l : List Nat) (i x : Nat) : u8s (l.set i x) = (u8s l).set i (.int .u8 (x : Int)) := by simp [u8s, List.map_set]
theorem u8s_get (l : List Nat) (i : Nat) (h : i < l.length) : (u8s l)[i]? = some (.int .u8 (l.getD i 0 : Int)) := by
  simp [u8s, List.getD_eq_getElem?_getD, h]

/-- A row of bytes as a string. -/
theorem conv_row {w : World} {g n cap : Nat} {l : List Nat} (h : w.ownsRow 0 5 1 (.slice (some ⟨g, 0, none⟩) n cap) n (u8s l)) :
    (convert 41 9 (.slice (some ⟨g, 0, none⟩) n cap)).run Try.prog w = .ok (.string (strB l)) w := by
  have hl : l.length = n := by have := h.1; simpa [u8s] using this
  have hc := run_convert_bytes_arg (P := Try.prog) w 41 5 Try.underlying41 Try.underlying5 g 0 n cap (l.map Int.ofNat) (by simp [hl]) (by
    intro i hi
    rw [Nat.zero_add, h.cellAt i (by omega)]
    simp [u8s, hl, hi]) 9 Try.underlying9
  rw [hc]
  congr 3
  simp [strOfNums, strB]

def JoinAt (w : World) (a : Nat) (s : ByteArray) (k n g : Nat) (i : Value) (wr : World) : Prop :=
  ∃ j : Nat, j ≤ n ∧ i = .int .i64 j ∧ wr.ownsRow 0 5 1 (.slice (some ⟨g, 0, none⟩) n n) n (u8s (rrow s k n j)) ∧ ReOk wr a s (k + 8 * j) ∧ Keeps (fun i => i = a) w wr

theorem join_any (w : World) (a : Nat) (s : ByteArray) (k n : Nat) (h : ReOk w a s k) (hk : k + 8 * n ≤ 8 * s.size) :
    Calls Try.prog 107 #[.int .i64 n, .func (Fn.func 108) #[.pointer (some ⟨a, 0, none⟩)] #[]] w fun e w' => e = .returned (.string (strB (rbytes s k n))) ∧ TakeEnd w a s k (8 * n) w' := by
  obtain ⟨i0, hi, hz0, hz1, hz2⟩ := info_parts Try.infoU8
  have hn : n ≤ 65536 := by have := h.2.1; omega
  have halt := lt_of_block h.2.2
  have H := Lib.hid h; clear h
  go_enter Try.func107, Try.ntmps107
  go_wp2_with (at_make; refine wpList_make_full _ rfl _ _ 41 rfl 0 5 i0 (.int .u8 0) 1 Try.underlying41 hi hz0 hz1 _ _ _ _ n rfl rfl rfl rfl ?c1 ?c2 ?c3 ?_)
  case c1 => rw [hz2]; omega
  case c2 => unfold maxLen; omega
  case c3 => omega
  · intro w1 hown hgrow
    have hrow : w1.ownsRow 0 5 1 (.slice (some ⟨w.heap.size, 0, none⟩) n n) n (u8s (rrow s k n 0)) := by
      have e : u8s (rrow s k n 0) = (madeCells (Value.int .u8 0).cells (n * 1)).toList := by
        show _ = (madeCells #[Value.int .u8 0] (n * 1)).toList
        rw [toList_madeCells_one]
        simp [u8s, rrow, rbytes]
      rw [e, Nat.mul_one]; exact hown
    have hks : Keeps (fun i => i = a) w w1 := (Keeps.refl _ w).grown hgrow (fun _ h => by cases h)
    have hre : ReOk w1 a s (k + 8 * 0) := ⟨H.out.1, H.out.2.1, by rw [hgrow.block a halt (by simp)]; exact H.out.2.2⟩
    have HA := Lib.hid (⟨0, Nat.zero_le _, rfl, hrow, hre, hks⟩ : JoinAt w a s k n w.heap.size (.int .i64 0) w1)
    clear hown hgrow hrow hks hre
    generalize hg : w.heap.size = g at *
    have HG := Lib.hid hg; clear hg
    go_wp2
    go_loopw [11] (fun i wr => JoinAt w a s k n g i wr) (fun i wr => n - (intOf i).toNat)
    case atStart => exact HA.out
    case round =>
      obtain ⟨j, hj, rfl, hr, hre, hks⟩ := hrel
      have hga : g ≠ a := by omega
      by_cases hlt : j < n
      · have HS := Lib.hid (rrow_set s k n j hlt)
        have hv := val_sbits_lt s (k + 8 * j) 8
        have ht := take_any wr a s (k + 8 * j) 8 hre (by omega) (by omega)
        generalize hvv : val (sbits s (k + 8 * j) 8) = v at *
        have HT := Lib.hid ht; clear ht
        have HV := Lib.hid hvv; clear hvv
        have HR := Lib.hid hr; clear hr
        have HK := Lib.hid hks; clear hks
        clear hre
        go_wp2_with (go_at_call 108; refine (HT.out).mono ?_; rintro e w2 ⟨rfl, hre2, hk2⟩; have hr2 := hk2.row HR.out (fun b hb hc => hga (by simp [Value.ownBlock] at hb; omega)); have qc := hr2.cellAt j (by omega); rw [u8s_get _ _ (by rw [rrow_length _ _ _ _ (by omega)]; exact hlt)] at qc; have qf := hr2.frozenAt j; have HR2 := Lib.hid hr2; clear hr2; have HRE2 := Lib.hid hre2; clear hre2; have HK2 := Lib.hid hk2; clear hk2)
        go_roundw
        case rel =>
          refine ⟨j + 1, by omega, by go_num, ?_, ?_, ?_⟩
          · rw [HS.out, u8s_set]
            have := (HR2.out.stored j (.int .u8 (v : Int))).1
            exact this
          · have := HRE2.out
            rw [show k + 8 * (j + 1) = k + 8 * j + 8 by omega]
            exact ⟨this.1, this.2.1, by rw [Below.heap_setCell _ _ _ _ (fun e => hga e.symm)]; exact this.2.2⟩
          · exact (HK.out.trans HK2.out (fun _ h => h) (fun _ _ h => h)).setCell (fun hlt => by have := HG.out; simp at hlt; omega) _
        case measure => simp [intOf]; omega
      · have hjn : j = n := by omega
        subst hjn
        have e : rrow s k j j = rbytes s k j := by simp [rrow]
        rw [e] at hr
        have hconv := conv_row hr
        have HRE := Lib.hid hre; clear hre
        have HK := Lib.hid hks; clear hks hr e
        go_wp2
        go_ret
        exact ⟨rfl, HRE.out, HK.out⟩
theorem join_zero (w : World) (a : Nat) :
    Calls Try.prog 107 #[.int .i64 0, .func (Fn.func 108) #[.pointer (some ⟨a, 0, none⟩)] #[]] w fun e w' => e = .returned (.string ⟨#[]⟩) ∧ WrSame w w' := by
  obtain ⟨i0, hi, hz0, hz1, hz2⟩ := info_parts Try.infoU8
  go_enter Try.func107, Try.ntmps107
  go_wp2_with (at_make; refine wpList_make_full _ rfl _ _ 41 rfl 0 5 i0 (.int .u8 0) 1 Try.underlying41 hi hz0 hz1 _ _ _ _ 0 rfl rfl rfl rfl ?c1 ?c2 ?c3 ?_)
  case c1 => rw [hz2]; omega
  case c2 => unfold maxLen; omega
  case c3 => omega
  · intro w1 hown hgrow
    have hrow : w1.ownsRow 0 5 1 (.slice (some ⟨w.heap.size, 0, none⟩) 0 0) 0 (u8s []) := by
      have e : (madeCells #[Value.int .u8 0] 0).toList = u8s [] := by rw [toList_madeCells_one]; rfl
      rw [← e]; exact hown
    have hks : Keeps (fun _ => False) w w1 := (Keeps.refl _ w).grown hgrow (fun _ h => by cases h)
    have hconv := conv_row hrow
    rw [show strB [] = ⟨#[]⟩ from rfl] at hconv
    have HK := Lib.hid hks
    clear hown hgrow hrow hks
    generalize w.heap.size = g at *
    go_wp2
    go_loop [11] (fun i => i = .int .i64 0) (fun i => 0)
    case atStart => rfl
    case round =>
      subst hrel
      go_wp2
      go_ret
      exact ⟨rfl, HK.out⟩

/-- How many bits a state leaves. -/
def rleft (s : ByteArray) (st : Nat × Int) : Nat := if st.2 = 0 then 8 * s.size - st.1 else 0
theorem rleft_any (w : World) (a : Nat) (s : ByteArray) (st : Nat × Int) (h : Re w a s st) :
    Calls Try.prog 106 #[.pointer (some ⟨a, 0, none⟩)] w fun e w' => e = .returned (.int .i64 (rleft s st)) ∧ w' = w.drew := by
  rcases h with ⟨h0, h⟩ | ⟨h0, h⟩
  · unfold rleft; rw [if_pos h0]; exact left_any w a s st.1 0 h.1 h.2.1 h.2.2
  · unfold rleft; rw [if_neg h0]; exact left_any w a ⟨#[]⟩ 0 st.2 (by omega) (Nat.zero_le _) h
theorem Re.drew {w : World} {a : Nat} {s : ByteArray} {st : Nat × Int} (h : Re w a s st) : Re w.drew a s st := h

def rtext (s : ByteArray) (most : Int) (st : Nat × Int) : (Nat × Int) × ByteArray :=
  if st.2 ≠ 0 then (st, ⟨#[]⟩) else if most < 1 ∨ 4095 < most then ((0, 1), ⟨#[]⟩) else
    let r := rnum s 1 (wid most) st
    if r.1.2 ≠ 0 then (r.1, ⟨#[]⟩) else if most < r.2 then ((0, 2), ⟨#[]⟩) else if 8 * s.size - r.1.1 < 8 * r.2 then ((0, 9), ⟨#[]⟩) else ((r.1.1 + 8 * r.2, 0), strB (rbytes s r.1.1 r.2))
theorem rnum_bad {s : ByteArray} {least wd : Int} {st : Nat × Int} (h : (rnum s least wd st).1.2 ≠ 0) : (rnum s least wd st).2 = 0 := by
  unfold rnum at h ⊢
  split
  · rfl
  · split
    · rfl
    · split
      · rfl
      · rename_i h1 h2 h3; rw [if_neg h1, if_neg h2, if_neg h3] at h; simp at h

/-- Behind the length, which could not be read. -/
theorem rtext_short (w : World) (a : Nat) (s : ByteArray) (st : Nat × Int) (h : Re w a s st) (most : Int) (h1m : 1 ≤ most) (h2m : most ≤ 4095) (hb : (rnum s 1 (wid most) st).1.2 ≠ 0) :
    Calls Try.prog 82 #[.pointer (some ⟨a, 0, none⟩), .int .i64 most] w fun e w' => e = .returned (.string ⟨#[]⟩) ∧ ReTo w a s (rnum s 1 (wid most) st).1 w' := by
  have hv := rnum_bad hb
  have hu := runsigned_any w a s st h (wid most)
  rw [hv] at hu
  generalize hr : rnum s 1 (wid most) st = r at *
  have hwc := width_any w most (by omega)
  generalize hwd : wid most = wd at *
  have HWC := Lib.hid hwc; clear hwc
  have HU := Lib.hid hu; clear hu
  have HB := Lib.hid hb; clear hb
  clear hv hr hwd h
  have hl : ∀ w1, Re w1 a s r.1 → Calls Try.prog 106 #[.pointer (some ⟨a, 0, none⟩)] w1 fun e w' => e = .returned (.int .i64 0) ∧ w' = w1.drew := by
    intro w1 h1
    have := rleft_any w1 a s r.1 h1
    unfold rleft at this
    rw [if_neg HB.out] at this
    exact this
  have HL := Lib.hid hl; clear hl
  go_enter Try.func82, Try.ntmps82
  go_wp2_with (first | (go_at_call 97; refine (HWC.out).mono ?_; rintro e w1 ⟨rfl, rfl⟩) | (go_at_call 78; refine (HU.out).mono ?_; rintro e w1 ⟨rfl, hr⟩; have HR := Lib.hid hr; clear hr) | (go_at_call 106; refine (HL.out _ HR.out.1).mono ?_; rintro e w2 ⟨rfl, rfl⟩) | (go_at_call 107; refine (join_zero _ a).mono ?_; rintro e w3 ⟨rfl, hks⟩))
  go_ret
  exact ⟨rfl, HR.out.1.drew.keep hks (fun h => h), HR.out.2.drew.trans hks (fun _ h => h) (fun _ _ h => False.elim h)⟩

theorem rtext_any (w : World) (a : Nat) (s : ByteArray) (st : Nat × Int) (h : Re w a s st) (most : Int) (hm : most ≤ 9223372036854775807) :
    Calls Try.prog 82 #[.pointer (some ⟨a, 0, none⟩), .int .i64 most] w fun e w' => e = .returned (.string (rtext s most st).2) ∧ ReTo w a s (rtext s most st).1 w' := by
  by_cases hm2 : most < 1 ∨ 4095 < most
  · by_cases h0 : st.2 = 0
    · have e : rtext s most st = ((0, 1), ⟨#[]⟩) := by unfold rtext; rw [if_neg (by simpa using h0), if_pos hm2]
      rw [e]; clear e
      have hre : ReOk w a s st.1 := by
        rcases h with ⟨_, h⟩ | ⟨h1, _⟩
        · exact h
        · exact absurd h0 h1
      have HF := Lib.hid (rfail_ok w a s st.1 1 hre)
      clear h h0 hre
      rcases hm2 with hm2 | hm2
      all_goals
        go_enter Try.func82, Try.ntmps82
        go_wp2_with (go_at_call 105; refine (HF.out).mono ?_; rintro e w' ⟨rfl, hf⟩)
        go_ret
        exact ⟨rfl, .inr ⟨by simp, hf.1⟩, hf.2⟩
    · have e : rtext s most st = (st, ⟨#[]⟩) := by unfold rtext; rw [if_pos h0]
      rw [e]; clear e
      have hre : ReBad w a st.2 := by
        rcases h with ⟨h1, _⟩ | ⟨_, h⟩
        · exact absurd h1 h0
        · exact h
      have HF := Lib.hid (rfail_bad w a st.2 1 hre (by simpa using h0))
      have HH := Lib.hid h
      clear h h0 hre
      rcases hm2 with hm2 | hm2
      all_goals
        go_enter Try.func82, Try.ntmps82
        go_wp2_with (go_at_call 105; refine (HF.out).mono ?_; rintro e w' ⟨rfl, rfl⟩)
        go_ret
        exact ⟨rfl, HH.out, Keeps.refl _ _⟩
  · have h1m : 1 ≤ most := by omega
    have h2m : most ≤ 4095 := by omega
    by_cases hb : (rnum s 1 (wid most) st).1.2 ≠ 0
    · have e : rtext s most st = ((rnum s 1 (wid most) st).1, ⟨#[]⟩) := by
        unfold rtext
        by_cases h0 : st.2 ≠ 0
        · rw [if_pos h0]; unfold rnum; rw [if_pos h0]
        · rw [if_neg h0, if_neg hm2]; simp only []; rw [if_pos hb]
      rw [e]
      exact rtext_short w a s st h most h1m h2m hb
    · have hb0 : (rnum s 1 (wid most) st).1.2 = 0 := by simpa using hb
      obtain ⟨h0, hw1, hw2, _, _⟩ := rnum_ok hb0
      have hu := runsigned_any w a s st h (wid most)
      have hvl : (rnum s 1 (wid most) st).2 < 2 ^ 12 := by
        obtain ⟨_, _, _, _, he⟩ := rnum_ok hb0
        rw [he]
        have h12 := (wid_text most h1m h2m).2.1
        have := val_sbits_lt s st.1 (wid most)
        have hp := Nat.pow_le_pow_right (show 0 < 2 by omega) h12
        simp only [Int.toNat_natCast]
        omega
      have e0 : rtext s most st = if most < (rnum s 1 (wid most) st).2 then ((0, 2), ⟨#[]⟩) else if 8 * s.size - (rnum s 1 (wid most) st).1.1 < 8 * (rnum s 1 (wid most) st).2 then ((0, 9), ⟨#[]⟩) else (((rnum s 1 (wid most) st).1.1 + 8 * (rnum s 1 (wid most) st).2, 0), strB (rbytes s (rnum s 1 (wid most) st).1.1 (rnum s 1 (wid most) st).2)) := by
        unfold rtext; rw [if_neg (by simpa using h0), if_neg hm2]; simp only []; rw [if_neg hb]
      rw [e0]; clear e0
      generalize hr : rnum s 1 (wid most) st = r at *
      have hwc := width_any w most (by omega)
      generalize hwd : wid most = wd at *
      have HWC := Lib.hid hwc; clear hwc
      have HU := Lib.hid hu; clear hu
      have HB := Lib.hid hb0
      obtain ⟨⟨k, er⟩, n⟩ := r
      simp only at hvl hb0 HU HB ⊢
      subst hb0
      have hok : ∀ w1, Re w1 a s (k, 0) → ReOk w1 a s k := by
        intro w1 h
        rcases h with ⟨_, h⟩ | ⟨h1, _⟩
        · exact h
        · exact absurd rfl h1
      have HOK := Lib.hid hok; clear hok
      clear h0 hw1 hw2 h hm2 hr hb hwd
      by_cases hc1 : most < n
      · rw [if_pos hc1]
        go_enter Try.func82, Try.ntmps82
        go_wp2_with (first | (go_at_call 97; refine (HWC.out).mono ?_; rintro e w1 ⟨rfl, rfl⟩) | (go_at_call 78; refine (HU.out).mono ?_; rintro e w1 ⟨rfl, hr⟩; have HR := Lib.hid hr; clear hr) | (go_at_call 105; refine (rfail_ok _ a s k 2 (HOK.out _ HR.out.1)).mono ?_; rintro e w' ⟨rfl, hf⟩))
        go_ret
        exact ⟨rfl, .inr ⟨by simp, hf.1⟩, HR.out.2.trans hf.2 (fun _ h => h) (fun _ _ h => h)⟩
      · rw [if_neg hc1]
        have hc1' : (n : Int) ≤ most := by omega
        clear hc1
        have hl : ∀ w1, Re w1 a s (k, 0) → Calls Try.prog 106 #[.pointer (some ⟨a, 0, none⟩)] w1 fun e w' => e = .returned (.int .i64 ((8 * s.size - k : Nat) : Int)) ∧ w' = w1.drew := fun w1 h1 => rleft_any w1 a s (k, 0) h1
        by_cases hc2 : 8 * s.size - k < 8 * n
        · rw [if_pos hc2]
          generalize 8 * s.size - k = m at *
          have HL := Lib.hid hl; clear hl
          go_enter Try.func82, Try.ntmps82
          go_wp2_with (first | (go_at_call 97; refine (HWC.out).mono ?_; rintro e w1 ⟨rfl, rfl⟩) | (go_at_call 78; refine (HU.out).mono ?_; rintro e w1 ⟨rfl, hr⟩; have HR := Lib.hid hr; clear hr) | (go_at_call 106; refine (HL.out _ HR.out.1).mono ?_; rintro e w2 ⟨rfl, rfl⟩) | (go_at_call 105; refine (rfail_ok _ a s k 9 (HOK.out _ HR.out.1.drew)).mono ?_; rintro e w' ⟨rfl, hf⟩))
          go_ret
          exact ⟨rfl, .inr ⟨by simp, hf.1⟩, HR.out.2.drew.trans hf.2 (fun _ h => h) (fun _ _ h => h)⟩
        · rw [if_neg hc2]
          have hj : ∀ w1, Re w1 a s (k, 0) → Calls Try.prog 107 #[.int .i64 n, .func (Fn.func 108) #[.pointer (some ⟨a, 0, none⟩)] #[]] w1.drew fun e w' => e = .returned (.string (strB (rbytes s k n))) ∧ TakeEnd w1.drew a s k (8 * n) w' := by
            intro w1 h1
            have h2 := HOK.out _ h1
            exact join_any w1.drew a s k n h2 (by have := h2.1; omega)
          have HJ := Lib.hid hj; clear hj
          generalize 8 * s.size - k = m at *
          have HL := Lib.hid hl; clear hl
          go_enter Try.func82, Try.ntmps82
          go_wp2_with (first | (go_at_call 97; refine (HWC.out).mono ?_; rintro e w1 ⟨rfl, rfl⟩) | (go_at_call 78; refine (HU.out).mono ?_; rintro e w1 ⟨rfl, hr⟩; have HR := Lib.hid hr; clear hr) | (go_at_call 106; refine (HL.out _ HR.out.1).mono ?_; rintro e w2 ⟨rfl, rfl⟩) | (go_at_call 107; refine (HJ.out _ HR.out.1).mono ?_; rintro e w' ⟨rfl, hf⟩))
          go_ret
          exact ⟨rfl, .inl ⟨rfl, hf.1⟩, HR.out.2.drew.trans hf.2 (fun _ h => h) (fun _ _ h => h)⟩
end Go.Proofs.Ytilpbbpdchbdfaa.Bit
