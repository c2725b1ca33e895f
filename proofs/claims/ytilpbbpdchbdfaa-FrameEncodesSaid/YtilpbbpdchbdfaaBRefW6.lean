
/- The reference writer: its bytes, no error. -/
import Derived.Test.YtilpbbpdchbdfaaBRefW5
namespace Go.Proofs.Ytilpbbpdchbdfaa.Bit
open Go.RowKit
set_option maxRecDepth 100000

/-- The row of bytes when k bits are laid. -/
def prow (bs : List Nat) (k : Nat) : List Nat := (List.range (nby bs.length)).map (byteAt (bs.take k))
theorem prow_length (bs : List Nat) (k : Nat) : (prow bs k).length = nby bs.length := by simp [prow]
theorem prow_get (bs : List Nat) (k i : Nat) (hi : i < nby bs.length) : (prow bs k)[i]? = some (byteAt (bs.take k) i) := by simp [prow, hi]
theorem prow_zero (bs : List Nat) : prow bs 0 = List.replicate (nby bs.length) 0 := by
  apply List.ext_getElem?
  intro i
  by_cases hi : i < nby bs.length
  · rw [prow_get _ _ _ hi, List.take_zero]
    simp [hi, byteAt]
  · rw [List.getElem?_eq_none (by rw [prow_length]; omega), List.getElem?_eq_none (by simp; omega)]
theorem prow_end (bs : List Nat) : prow bs bs.length = pack bs := by simp [prow, pack]
theorem take_snoc (bs : List Nat) (k : Nat) (h : k < bs.length) : bs.take (k + 1) = bs.take k ++ [bs.getD k 0] := by
  rw [List.take_succ_eq_append_getElem h]
  simp [List.getD_eq_getElem?_getD, h]
theorem take_len (bs : List Nat) (k : Nat) (h : k < bs.length) : (bs.take k).length = k := by simp; omega
theorem prow_set (bs : List Nat) (k : Nat) (h : k < bs.length) : prow bs (k + 1) = (prow bs k).set (k / 8) (byteAt (bs.take k) (k / 8) + bs.getD k 0 * 2 ^ (7 - k % 8)) := by
  have hk : k / 8 < nby bs.length := by unfold nby; omega
  apply List.ext_getElem?
  intro i
  by_cases hi : i < nby bs.length
  · rw [prow_get _ _ _ hi, take_snoc bs k h, byteAt_snoc, take_len bs k h]
    by_cases he : i = k / 8
    · subst he
      rw [List.getElem?_set_self (by rw [prow_length]; exact hk), if_pos rfl]
    · rw [List.getElem?_set_ne (fun e => he e.symm), prow_get _ _ _ hi, if_neg he, Nat.add_zero]
  · rw [List.getElem?_eq_none (by rw [prow_length]; omega), List.getElem?_eq_none (by rw [List.length_set, prow_length]; omega)]
theorem or_at (bs : List Nat) (hb : Bits bs) (k : Nat) (h : k < bs.length) :
    bits .or .u8 (byteAt (bs.take k) (k / 8) : Int) ((bs.getD k 0 : Int) * 2 ^ (7 - k % 8) % 256) = ((byteAt (bs.take k) (k / 8) + bs.getD k 0 * 2 ^ (7 - k % 8) : Nat) : Int) := by
  have hl := byteAt_low (bs.take k)
  rw [take_len bs k h] at hl
  have ho := or_bit (byteAt (bs.take k) (k / 8)) (bs.getD k 0 : Int) (k % 8) (by omega) (byteAt_lt (hb.take k) _) hl
  have hb1 := hb.getD k
  generalize byteAt (bs.take k) (k / 8) = c at *
  rcases (show bs.getD k 0 = 0 ∨ bs.getD k 0 = 1 by omega) with e | e
  · rw [e] at ho ⊢; exact ho
  · rw [e] at ho ⊢; exact ho

def BytesAt2 (w : World) (g m : Nat) (bs : List Nat) (i : Value) (wr : World) : Prop :=
  ∃ k : Nat, k ≤ bs.length ∧ i = .int .i64 k ∧ wr.ownsRow 0 5 1 (.slice (some ⟨g, 0, none⟩) m m) m (u8s (prow bs k)) ∧ Keeps (fun _ => False) w wr

set_option maxHeartbeats 1600000 in
theorem bytes2_ok (w : World) (a : Nat) (bs : List Nat) (d : Option Nat) (h : Wr2 w a (bs, 0) d) :
    Calls Try.prog 36 #[.pointer (some ⟨a, 0, none⟩)] w fun e w' => e = .returned (.tuple #[.string (strB (pack bs)), .int .i64 0]) ∧ WrSame w w' := by
  obtain ⟨i0, hi, hz0, hz1, hz2⟩ := info_parts Try.infoU8
  have hw := h
  obtain ⟨hb, hlen, v, h1, h2, h3, h4⟩ := h
  dsimp only at hb hlen h1 h2
  obtain ⟨k0, k1, f0, f1⟩ := block2_cell h1
  obtain ⟨ao, cap, rfl⟩ := row_slice h2
  have HW := Lib.hid hw
  have hpl := prow_length bs
  have hpz := prow_zero bs
  have hpe := prow_end bs
  have hps := prow_set bs
  have hlow : ((bs.length : Int) + 7) / 8 = (nby bs.length : Nat) := by unfold nby; omega
  have hm1 : nby bs.length ≤ 65536 := by unfold nby; omega
  have HN := Lib.hid (fun k (hk : k < bs.length) => (show k / 8 < nby bs.length by unfold nby; omega))
  have H1 := Lib.hid h1
  have H2 := Lib.hid h2
  generalize hm : nby bs.length = m at *
  clear h1 h2 h3 h4 hw
  go_enter Try.func36, Try.ntmps36
  go_wp2_with (at_make; refine wpList_make_full _ rfl _ _ 41 rfl 0 5 i0 (.int .u8 0) 1 Try.underlying41 hi hz0 hz1 _ _ _ _ m rfl rfl hlow hlow ?c1 ?c2 ?c3 ?_)
  case c1 => rw [hz2]; omega
  case c2 => unfold maxLen; omega
  case c3 => omega
  intro w1' hown hgrow
  have hrow : w1'.ownsRow 0 5 1 (.slice (some ⟨w.heap.size, 0, none⟩) m m) m (u8s (prow bs 0)) := by
    have e : u8s (prow bs 0) = (madeCells (Value.int .u8 0).cells (m * 1)).toList := by
      rw [hpz]
      show _ = (madeCells #[Value.int .u8 0] (m * 1)).toList
      rw [toList_madeCells_one]
      simp [u8s]
    rw [e, Nat.mul_one]; exact hown
  have hks : Keeps (fun _ => False) w w1' := (Keeps.refl _ w).grown hgrow (fun _ h => by cases h)
  have HA := Lib.hid (⟨0, Nat.zero_le _, rfl, hrow, hks⟩ : BytesAt2 w w.heap.size m bs (.int .i64 0) w1')
  have HPE := Lib.hid hpe; clear hpe
  have HPS := Lib.hid hps; clear hps
  have HPL := Lib.hid hpl; clear hpl
  clear hown hgrow hrow hks hpz hlow k0 k1 f0 f1
  have hga : a < w.heap.size := HW.out.lt
  have hbb : ∀ g', ao = some g' → g'.block < w.heap.size := fun g' hg => by
    subst hg; exact (H2.out.lt g'.block rfl).2
  have hgs : w.heap.size = w.heap.size := rfl
  generalize hgw : w.heap.size = g at *
  clear hgs
  go_wp2
  go_loopw [5] (fun i wr => BytesAt2 w g m bs i wr) (fun i wr => bs.length - (intOf i).toNat)
  case atStart => exact HA.out
  case round =>
    clear HA
    obtain ⟨k, hk, rfl, hr, hks⟩ := hrel
    obtain ⟨k0, k1, f0, f1⟩ := block2_cell (hks.at H1.out (fun h => h))
    by_cases hlt : k < bs.length
    · have hkm := HN.out k hlt
      obtain ⟨g1, rfl⟩ : ∃ g1, ao = some ⟨g1, 0, none⟩ := by
        rcases H2.out.2 with ⟨e, hn⟩ | ⟨g1, cap1, cur, e, _⟩
        · omega
        · injection e with e1 e2 e3; exact ⟨g1, e1⟩
      have hoc := (hks.row H2.out (fun _ _ h => h)).cellAt k (by omega)
      have hoe : (u8s bs)[k]? = some (.int .u8 (bs.getD k 0 : Nat)) := u8s_get bs k hlt
      rw [hoe] at hoc
      have hrc := hr.cellAt (k / 8) (by omega)
      have hrf := hr.frozenAt (k / 8)
      have hre : (u8s (prow bs k))[k / 8]? = some (.int .u8 (byteAt (bs.take k) (k / 8) : Nat)) := by
        have := prow_get bs k (k / 8) (by rw [hm]; exact hkm)
        simp [u8s, this]
      rw [hre] at hrc
      have hor := or_at bs hb k hlt
      have HPS2 := Lib.hid (HPS.out k hlt)
      have hbd := hb.getD k
      have HR := Lib.hid hr; clear hr
      have HK := Lib.hid hks; clear hks
      generalize bs.getD k 0 = x at *
      generalize byteAt (bs.take k) (k / 8) = c at *
      clear hoe hre
      go_wp2
      go_region
      all_goals
        go_wp2
        go_roundw
        case rel =>
          refine ⟨k + 1, by omega, by go_num, ?_, ?_⟩
          · rw [HPS2.out, u8s_set]
            have := (HR.out.stored (k / 8) (.int .u8 ((c : Int) + (x : Int) * 2 ^ (7 - k % 8)))).1
            rw [show (((c + x * 2 ^ (7 - k % 8) : Nat)) : Int) = (c : Int) + (x : Int) * 2 ^ (7 - k % 8) by simp]
            exact this
          · exact (HK.out.setCell (fun h => absurd h (by simp; omega)) _).drew
        case measure => simp [intOf]; omega
    · have hkn : k = bs.length := by omega
      subst hkn
      rw [HPE.out] at hr
      have hconv := conv_row hr
      have HK := Lib.hid hks; clear hks hr
      go_wp2
      go_ret2
      exact ⟨rfl, HK.out⟩
theorem bytes2_any (w : World) (a : Nat) (st : List Nat × Int) (d : Option Nat) (h : Wr2 w a st d) :
    Calls Try.prog 36 #[.pointer (some ⟨a, 0, none⟩)] w fun e w' => e = .returned (.tuple #[.string (wbytes st), .int .i64 st.2]) ∧ WrSame w w' := by
  unfold wbytes
  by_cases h0 : st.2 ≠ 0
  · rw [if_pos h0]; exact bytes2_bad w a st d h h0
  · rw [if_neg h0]
    obtain ⟨bs, er⟩ := st
    obtain rfl : er = 0 := by simpa using h0
    exact bytes2_ok w a bs d h
end Go.Proofs.Ytilpbbpdchbdfaa.Bit
