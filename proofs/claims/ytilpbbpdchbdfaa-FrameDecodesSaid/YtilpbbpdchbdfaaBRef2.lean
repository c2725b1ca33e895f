
/- The reference reader: signed numbers, texts and its end. -/
import Derived.Test.YtilpbbpdchbdfaaBRef1
namespace Go.Proofs.Ytilpbbpdchbdfaa.Bit
open Go.RowKit
set_option maxRecDepth 100000

theorem rget_bad {s : ByteArray} {wd : Nat} {st : Nat × Int} (h : (rget s wd st).1.2 ≠ 0) : (rget s wd st).2 = 0 := by
  unfold rget at h ⊢
  split
  · rfl
  · split
    · rfl
    · rename_i h1 h2; rw [if_neg h1, if_neg h2] at h; simp at h
theorem rget_val {s : ByteArray} {wd : Nat} {st : Nat × Int} : (rget s wd st).2 < 2 ^ wd := by
  have hp : 0 < 2 ^ wd := Nat.pow_pos (by omega)
  unfold rget
  split
  · exact hp
  · split
    · exact hp
    · exact val_sbits_lt _ _ _

theorem half_facts (k : Nat) (h2 : 2 ≤ k) (h63 : k ≤ 63) : ∃ P : Nat, 2 ^ (k - 1) = P ∧ wrap64 (2 ^ (k - 1)) = P ∧ 2 ^ k = 2 * P ∧ P ≤ 4611686018427387904 ∧ 1 ≤ P := by
  have hp : 0 < 2 ^ (k - 1) := Nat.pow_pos (by omega)
  have h2 : 2 ^ k = 2 * 2 ^ (k - 1) := by
    conv => lhs; rw [show k = (k - 1) + 1 by omega, Nat.pow_succ, Nat.mul_comm]
  have h3 := Nat.pow_le_pow_right (show 0 < 2 by omega) (show k - 1 ≤ 62 by omega)
  have e : ((2 : Int) ^ (k - 1)) = ((2 ^ (k - 1) : Nat) : Int) := by simp
  rw [e]
  generalize 2 ^ (k - 1) = P at *
  exact ⟨P, rfl, IntWalk.wrap64_in _ (by omega), h2, by omega, hp⟩

theorem signed2_any (w : World) (a : Nat) (s : ByteArray) (st : Nat × Int) (h : Re2 w a s st) (wd : Int) :
    Calls Try.prog 48 #[.pointer (some ⟨a, 0, none⟩), .int .i64 wd] w fun e w' => e = .returned (.int .i64 (rsig s wd st).2) ∧ ReTo2 w a s (rsig s wd st).1 w' := by
  obtain ⟨x, y, hc⟩ := h.block
  obtain ⟨k0, k1, k2, f0, f1, f2⟩ := block3_cell hc
  clear hc
  by_cases h0 : st.2 ≠ 0
  · have e : rsig s wd st = (st, 0) := by unfold rsig rnum; simp only []; rw [if_pos h0, if_pos h0]
    rw [e]
    have HG := Lib.hid (get2_bad w a s st h h0 wd)
    have HH := Lib.hid h
    have H0 := Lib.hid (show (st.2 == 0) = false by simpa using h0)
    clear h e h0
    have H0' := H0.out
    go_enter Try.func48, Try.ntmps48
    go_wp2_with (first | (go_at_call 86; refine (HG.out).mono ?_; rintro e w' ⟨rfl, rfl⟩))
    go_ret
    exact ⟨rfl, HH.out, Keeps.refl _ _⟩
  · obtain ⟨k, er⟩ := st
    obtain rfl : er = 0 := by simpa using h0
    clear h0
    by_cases hw : wd < 2 ∨ 63 < wd
    · have e : rsig s wd (k, 0) = ((0, 1), 0) := by unfold rsig rnum; simp only []; rw [if_neg (by simp), if_pos hw]; rfl
      rw [e]
      have HF := Lib.hid (fail2_any w a s (k, 0) h 1 (by decide))
      clear h e
      rcases hw with hw | hw
      all_goals
        go_enter Try.func48, Try.ntmps48
        go_wp2_with (first | (go_at_call 85; refine (HF.out).mono ?_; rintro e w1 ⟨rfl, hf⟩; obtain ⟨x2, y2, hc2⟩ := hf.1.block; obtain ⟨k0', k1', k2', f0', f1', f2'⟩ := block3_cell hc2; clear hc2; have HR := Lib.hid hf; clear hf) | (go_at_call 86; refine (get2_bad _ a s (0, 1) HR.out.1 (by decide) wd).mono ?_; rintro e w' ⟨rfl, rfl⟩))
        go_ret
        exact ⟨rfl, HR.out⟩
    · obtain ⟨n, rfl⟩ := Int.eq_ofNat_of_zero_le (show 0 ≤ wd by omega)
      have e : rnum s 2 n (k, 0) = rget s n (k, 0) := rget_rnum (least := 2) (by omega) (by omega)
      have es : rsig s n (k, 0) = ((rget s n (k, 0)).1, if (rget s n (k, 0)).1.2 ≠ 0 then 0 else sgn n (rget s n (k, 0)).2) := by
        unfold rsig; simp only [e, Int.toNat_natCast]
      rw [es]
      have hg := get2_any w a s (k, 0) h n (by omega)
      have hb := @rget_bad s n (k, 0)
      have hv := @rget_val s n (k, 0)
      generalize rget s n (k, 0) = r at *
      have hw1 : 2 ≤ (n : Int) := by omega
      have hw2 : (n : Int) ≤ 63 := by omega
      by_cases hbad : r.1.2 ≠ 0
      · rw [if_pos hbad]
        rw [hb hbad] at hg
        have HG := Lib.hid hg
        have H0 := Lib.hid (show (r.1.2 == 0) = false by simpa using hbad)
        clear hg h e es hw hb hv hbad
        have H0' := H0.out
        go_enter Try.func48, Try.ntmps48
        go_wp2_with (first | (go_at_call 86; refine (HG.out).mono ?_; rintro e w' ⟨rfl, hf⟩; obtain ⟨x2, y2, hc2⟩ := hf.1.block; obtain ⟨k0', k1', k2', f0', f1', f2'⟩ := block3_cell hc2; clear hc2; have HR := Lib.hid hf; clear hf))
        go_ret
        exact ⟨rfl, HR.out⟩
      · rw [if_neg hbad]
        have hok : r.1.2 = 0 := by simpa using hbad
        obtain ⟨⟨q, er⟩, v⟩ := r
        simp only at hok hg hv ⊢
        subst hok
        obtain ⟨P, hP, hP1, hP2, hP3, hP4⟩ := half_facts n (by omega) (by omega)
        have HG := Lib.hid hg
        have HPe := Lib.hid hP2
        rw [hP2] at hv
        unfold sgn
        rw [hP, show ((2 : Int) ^ n) = ((2 ^ n : Nat) : Int) by simp, hP2]
        clear hg h e es hw hb hbad hP hP2
        by_cases hlt : v < P
        · rw [if_pos hlt]
          go_enter Try.func48, Try.ntmps48
          go_wp2_with (first | (go_at_call 86; refine (HG.out).mono ?_; rintro e w' ⟨rfl, hf⟩; obtain ⟨x2, y2, hc2⟩ := hf.1.block; obtain ⟨k0', k1', k2', f0', f1', f2'⟩ := block3_cell hc2; clear hc2; have HR := Lib.hid hf; clear hf))
          go_ret
          exact ⟨rfl, HR.out⟩
        · rw [if_neg hlt]
          go_enter Try.func48, Try.ntmps48
          go_wp2_with (first | (go_at_call 86; refine (HG.out).mono ?_; rintro e w' ⟨rfl, hf⟩; obtain ⟨x2, y2, hc2⟩ := hf.1.block; obtain ⟨k0', k1', k2', f0', f1', f2'⟩ := block3_cell hc2; clear hc2; have HR := Lib.hid hf; clear hf))
          go_region
          all_goals go_wp2
          all_goals go_ret
          all_goals exact ⟨by go_num, HR.out.1, HR.out.2.drew⟩
theorem val_mono (s : ByteArray) (k j : Nat) : ∀ i, val (sbits s k j) ≤ val (sbits s k (j + i))
  | 0 => Nat.le_refl _
  | i + 1 => by have h1 := val_mono s k j i; have h2 := val_sbits_succ s k (j + i); rw [← Nat.add_assoc]; omega
theorem bit_val (s : ByteArray) (q : Nat) (h : q / 8 < s.size) : bits .and .i64 (wrap64 ((s[q / 8]'h).toNat : Int) / 2 ^ (7 - q % 8)) 1 = (sbit s q : Int) := by
  have e : (s[q / 8]'h).toNat / 2 ^ (7 - q % 8) % 2 = sbit s q := by
    unfold sbit
    have : s.data.toList.getD (q / 8) 0 = s[q / 8]'h := by
      rw [List.getD_eq_getElem?_getD, List.getElem?_eq_getElem (by simpa using h)]; rfl
    rw [this]
  have hb8 := (s[q / 8]'h).toNat_lt
  rw [IntWalk.wrap64_in _ (by omega), and_bit64 _ _ (by omega), e]

theorem close2_bad (w : World) (a : Nat) (s : ByteArray) (st : Nat × Int) (h : Re2 w a s st) (h0 : st.2 ≠ 0) :
    Calls Try.prog 50 #[.pointer (some ⟨a, 0, none⟩)] w fun e w' => e = .returned (.int .i64 st.2) ∧ WrSame w w' := by
  obtain ⟨x, y, hc⟩ := h.block
  obtain ⟨k0, k1, k2, f0, f1, f2⟩ := block3_cell hc
  have H0 := (show (st.2 != 0) = true by simpa using h0)
  clear h hc h0
  go_enter Try.func50, Try.ntmps50
  go_wp2
  go_ret
  exact ⟨rfl, Keeps.refl _ _⟩

def ZeroAt (w : World) (s : ByteArray) (k : Nat) (i : Value) (wr : World) : Prop :=
  ∃ j : Nat, i = .int .i64 ((k + j : Nat) : Int) ∧ val (sbits s k j) = 0 ∧ k + j ≤ 8 * s.size ∧ WrSame w wr
theorem close2_ok (w : World) (a : Nat) (s : ByteArray) (k : Nat) (h : Re2 w a s (k, 0)) :
    Calls Try.prog 50 #[.pointer (some ⟨a, 0, none⟩)] w fun e w' => e = .returned (.int .i64 (rclose s (k, 0))) ∧ WrSame w w' := by
  have hl := left2_any w a s (k, 0) h
  have hre : rleft s (k, 0) = 8 * s.size - k := by unfold rleft; rw [if_pos rfl]
  rw [hre] at hl
  rcases h with ⟨_, h1, h2, hc⟩ | ⟨h0, _⟩
  · dsimp only at h1
    obtain ⟨k0, k1, k2, f0, f1, f2⟩ := block3_cell hc
    unfold rclose
    rw [if_neg (by simp)]
    dsimp only
    by_cases hm : 8 ≤ 8 * s.size - k
    · rw [if_pos hm]
      generalize 8 * s.size - k = m at *
      have HL := Lib.hid hl
      clear hl hc hre h1 h2
      go_enter Try.func50, Try.ntmps50
      go_wp2_with (go_at_call 87; refine (HL.out).mono ?_; rintro e w1 ⟨rfl, rfl⟩)
      go_ret
      exact ⟨rfl, (Keeps.refl _ w).drew⟩
    · rw [if_neg hm]
      obtain ⟨m, hme⟩ : ∃ m, m = 8 * s.size - k := ⟨_, rfl⟩
      rw [← hme] at hl ⊢
      have hm' : m < 8 := by omega
      have hkm : k + m = 8 * s.size := by omega
      have HL := Lib.hid hl
      have HC := Lib.hid hc
      have HKM := Lib.hid hkm
      generalize hR : (if val (sbits s k m) ≠ 0 then (10 : Int) else 0) = R
      have HRR := Lib.hid hR
      clear hl hc hre hm hme hkm hR
      go_enter Try.func50, Try.ntmps50
      go_wp2_with (go_at_call 87; refine (HL.out).mono ?_; rintro e w1 ⟨rfl, rfl⟩)
      go_loopw [3] (fun i wr => ZeroAt w s k i wr) (fun i wr => 8 * s.size - (intOf i).toNat)
      case atStart => exact ⟨0, rfl, rfl, h1, (Keeps.refl _ w).drew⟩
      case round =>
        obtain ⟨j, rfl, hz, hle, hks⟩ := hrel
        clear k0 k1 k2 f0 f1 f2
        obtain ⟨k0, k1, k2, f0, f1, f2⟩ := block3_cell (hks.at HC.out (fun h => h))
        have HK := Lib.hid hks; clear hks
        have HZ := Lib.hid hz; clear hz
        have hvs := val_sbits_succ s k j
        by_cases hlt : k + j < 8 * s.size
        · have hidx : (k + j) / 8 < s.size := by omega
          have hbv := bit_val s (k + j) hidx
          have hb1 := sbit_le s (k + j)
          have hmono := val_mono s k (j + 1) (m - (j + 1))
          rw [show j + 1 + (m - (j + 1)) = m by have := HKM.out; omega] at hmono
          generalize hq : k + j = q at *
          have HQ := Lib.hid hq; clear hq
          have hidx1 : (q : Int) / 8 < s.size := by omega
          have hidx0 : 0 ≤ (q : Int) / 8 := by omega
          have hq9 : q ≤ 524288 := by omega
          have hq7 : (q : Int) % 8 ≤ 7 := by omega
          have HVS := Lib.hid hvs; clear hvs
          have HMO := Lib.hid hmono; clear hmono
          by_cases hb : sbit s q = 1
          · have hbt : (bits .and .i64 (wrap64 ((s[q / 8]'hidx).toNat : Int) / 2 ^ (7 - q % 8)) 1 == 1) = true := by rw [hbv, hb]; rfl
            have HBV := Lib.hid hbv; clear hbv
            have HB := Lib.hid hb; clear hb hb1 h1 hle
            go_wp2
            go_ret
            refine ⟨?_, HK.out⟩
            have h1 := HVS.out
            have h5 := HMO.out
            have h3 := HB.out
            have h4 := HRR.out
            rw [if_pos (by omega)] at h4
            rw [← h4]; rfl
          · have hb0 : sbit s q = 0 := by omega
            have hbt : (bits .and .i64 (wrap64 ((s[q / 8]'hidx).toNat : Int) / 2 ^ (7 - q % 8)) 1 == 1) = false := by rw [hbv, hb0]; rfl
            have HBV := Lib.hid hbv; clear hbv
            have HB := Lib.hid hb0; clear hb0 hb hb1 h1 hle
            go_wp2
            go_roundw
            case rel =>
              refine ⟨j + 1, ?_, ?_, ?_, HK.out⟩
              · have := HQ.out
                rw [← Nat.add_assoc, this]; go_num
              · have h1 := HVS.out
                have h5 := HZ.out
                have h3 := HB.out
                omega
              · have := HQ.out
                omega
            case measure => simp [intOf]; omega
        · have hjm : j = m := by have := HKM.out; omega
          subst hjm
          have hq9 : k + j ≤ 524288 := by omega
          have hqe : ((k + j : Nat) : Int) = 8 * (s.size : Int) := by have := HKM.out; omega
          have HQE := Lib.hid hqe
          generalize hq : k + j = q at *
          have hge : 8 * s.size ≤ q := by omega
          clear hvs h1 hle hlt hqe hq
          go_wp2
          go_ret
          refine ⟨?_, HK.out⟩
          have h5 := HZ.out
          have h4 := HRR.out
          rw [h5, if_neg (by simp)] at h4
          rw [← h4]; rfl
  · exact absurd rfl h0
theorem close2_any (w : World) (a : Nat) (s : ByteArray) (st : Nat × Int) (h : Re2 w a s st) :
    Calls Try.prog 50 #[.pointer (some ⟨a, 0, none⟩)] w fun e w' => e = .returned (.int .i64 (rclose s st)) ∧ WrSame w w' := by
  by_cases h0 : st.2 ≠ 0
  · have e : rclose s st = st.2 := by unfold rclose; rw [if_pos h0]
    rw [e]
    exact close2_bad w a s st h h0
  · obtain ⟨k, er⟩ := st
    obtain rfl : er = 0 := by simpa using h0
    exact close2_ok w a s k h
end Go.Proofs.Ytilpbbpdchbdfaa.Bit
