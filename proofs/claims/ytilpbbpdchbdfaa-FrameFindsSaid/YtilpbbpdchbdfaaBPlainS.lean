
/- Plain facts: what is read is written as it was. -/
import Derived.Test.YtilpbbpdchbdfaaBPlainB
import Derived.Test.YtilpbbpdchbdfaaBLWrite
namespace Go.Proofs.Ytilpbbpdchbdfaa.Bit
open Go.RowKit
set_option maxRecDepth 100000

theorem enc_val : ∀ l : List Nat, Bits l → enc l.length (val l) = l
  | [], _ => rfl
  | b :: l, h => by
    have hb := h b (by simp)
    have hl : Bits l := fun x hx => h x (by simp [hx])
    have ih := enc_val l hl
    have hv := val_lt hl
    rw [List.length_cons, val_cons, enc_cons]
    have hp : (0 : Int) < 2 ^ l.length := Int.pow_pos (by omega)
    have ec : ((2 : Int) ^ l.length) = ((2 ^ l.length : Nat) : Int) := by simp
    have e1 : enc l.length ((b * 2 ^ l.length + val l : Nat) : Int) = enc l.length (val l) := by
      apply enc_mod
      have : ((b * 2 ^ l.length + val l : Nat) : Int) = (val l : Int) + 2 ^ l.length * b := by
        rw [ec]; have := Nat.mul_comm b (2 ^ l.length); rw [this]; simp; omega
      rw [this, Int.add_mul_emod_self_left]
    have e2 : bat ((b * 2 ^ l.length + val l : Nat) : Int) l.length = b := by
      unfold bat
      have : ((b * 2 ^ l.length + val l : Nat) : Int) / 2 ^ l.length = b := by
        rw [ec]
        have h1 : (b * 2 ^ l.length + val l) / 2 ^ l.length = b := by
          rw [Nat.mul_comm, Nat.mul_add_div (Nat.pow_pos (by omega)), Nat.div_eq_of_lt hv]; omega
        have h2 : (((b * 2 ^ l.length + val l : Nat) : Int) / ((2 ^ l.length : Nat) : Int)) = (((b * 2 ^ l.length + val l) / 2 ^ l.length : Nat) : Int) := by simp
        rw [h2, h1]
      rw [this]; omega
    rw [e1, e2, ih]
theorem enc_sbits (s : ByteArray) (k n : Nat) : enc n (val (sbits s k n)) = sbits s k n := by
  have := enc_val _ (sbits_Bits s k n); rwa [sbits_length] at this

theorem sgn_range (wd v : Nat) (h1 : 1 ≤ wd) (hv : v < 2 ^ wd) : -2 ^ (wd - 1) ≤ sgn wd v ∧ sgn wd v < 2 ^ (wd - 1) ∧ enc wd (sgn wd v) = enc wd v := by
  obtain ⟨j, rfl⟩ : ∃ j, wd = j + 1 := ⟨wd - 1, by omega⟩
  have ec : ((2 : Int) ^ j) = ((2 ^ j : Nat) : Int) := by simp
  refine ⟨?_, ?_, ?_⟩
  · unfold sgn; rw [Nat.add_sub_cancel, Int.pow_succ, ec]; rw [Nat.pow_succ] at hv; split <;> omega
  · unfold sgn; rw [Nat.add_sub_cancel, Int.pow_succ, ec]; rw [Nat.pow_succ] at hv; split <;> omega
  · unfold sgn
    split
    · rfl
    · apply enc_mod
      rw [Int.sub_emod_right]

theorem textBits_rbytes (s : ByteArray) (k n : Nat) : textBits (strB (rbytes s k n)).data.toList = sbits s k (8 * n) := by
  have e : (strB (rbytes s k n)).data.toList = (rbytes s k n).map UInt8.ofNat := by simp [strB]
  rw [e]; clear e
  induction n with
  | zero => simp [rbytes, textBits, sbits]
  | succ n ih =>
    rw [rbytes_succ, List.map_append]
    unfold textBits at ih ⊢
    rw [List.flatMap_append, ih, show 8 * (n + 1) = 8 * n + 8 by omega, sbits_append]
    congr 1
    simp only [List.map_cons, List.map_nil, List.flatMap_cons, List.flatMap_nil, List.append_nil]
    have hv := val_sbits_lt s (k + 8 * n) 8
    have : (UInt8.ofNat (val (sbits s (k + 8 * n) 8))).toNat = val (sbits s (k + 8 * n) 8) := by simp; omega
    rw [this]; exact enc_sbits s (k + 8 * n) 8

/-- What is read is written: the writer holds the bits that are read. -/
theorem strict_step {s : ByteArray} {f : Fld} {k : Nat} (hs : s.size ≤ 300) (hk : k ≤ 8 * s.size) (h : (rdSt s f (k, 0)).2 = 0) :
    wrSt (rdF s f (k, 0)) (sbits s 0 k, 0) = (sbits s 0 (rdSt s f (k, 0)).1, 0) ∧ (rdSt s f (k, 0)).1 ≤ 8 * s.size := by
  have hlen : (sbits s 0 k).length = k := sbits_length s 0 k
  have hadd : ∀ n, sbits s 0 (k + n) = sbits s 0 k ++ sbits s k n := by intro n; have := sbits_append s 0 k n; rwa [Nat.zero_add] at this
  by_cases k0 : f.kind = 0
  · have e : rdSt s f (k, 0) = (rnum s 1 f.width (k, 0)).1 := by unfold rdSt; rw [if_pos k0]
    have e2 : rdF s f (k, 0) = { f with n := (rnum s 1 f.width (k, 0)).2, s := ⟨#[]⟩ } := by unfold rdF; rw [if_pos k0]
    rw [e] at h
    obtain ⟨_, hw1, hw2, hle, he⟩ := rnum_ok h
    rw [e, e2, he]
    dsimp only at hle ⊢
    have hv := val_sbits_lt s k f.width.toNat
    have ec : ((2 : Int) ^ f.width.toNat) = ((2 ^ f.width.toNat : Nat) : Int) := by simp
    refine ⟨?_, by omega⟩
    unfold wrSt
    rw [if_pos k0]
    unfold wuns
    rw [if_neg (by simp), if_neg (by dsimp only; omega), if_neg (by dsimp only; rw [ec]; omega), if_neg (by dsimp only; rw [hlen]; omega)]
    dsimp only
    rw [enc_sbits, hadd]
  by_cases k1 : f.kind = 1
  · have e : rdSt s f (k, 0) = (rsig s f.width (k, 0)).1 := by unfold rdSt; rw [if_neg k0, if_pos k1]
    have e2 : rdF s f (k, 0) = { f with n := (rsig s f.width (k, 0)).2, s := ⟨#[]⟩ } := by unfold rdF; rw [if_neg k0, if_pos k1]
    rw [e] at h
    have h' : (rnum s 2 f.width (k, 0)).1.2 = 0 := h
    obtain ⟨_, hw1, hw2, hle, he⟩ := rnum_ok h'
    have er : rsig s f.width (k, 0) = ((k + f.width.toNat, 0), sgn f.width.toNat (val (sbits s k f.width.toNat))) := by
      unfold rsig; simp only [he]; rw [if_neg (by simp)]
    rw [e, e2, er]
    dsimp only at hle ⊢
    have hv := val_sbits_lt s k f.width.toNat
    obtain ⟨g1, g2, g3⟩ := sgn_range f.width.toNat _ (by omega) hv
    refine ⟨?_, by omega⟩
    unfold wrSt
    rw [if_neg k0, if_pos k1]
    unfold wsig
    rw [if_neg (by simp), if_neg (by dsimp only; omega), if_neg (by dsimp only; omega), if_neg (by dsimp only; rw [hlen]; omega)]
    dsimp only
    rw [g3, enc_sbits, hadd]
  by_cases k2 : f.kind = 2
  · have e : rdSt s f (k, 0) = (rnum s 1 1 (k, 0)).1 := by unfold rdSt rflag; rw [if_neg k0, if_neg k1, if_pos k2]
    have e2 : rdF s f (k, 0) = { f with n := if (rflag s (k, 0)).2 then 1 else 0, s := ⟨#[]⟩, width := 0 } := by unfold rdF; rw [if_neg k0, if_neg k1, if_pos k2]
    rw [e] at h
    obtain ⟨_, hw1, hw2, hle, he⟩ := rnum_ok h
    have hv := val_sbits_lt s k 1
    have hen := enc_sbits s k 1
    have e3 : (rflag s (k, 0)).2 = (val (sbits s k 1) == 1) := by unfold rflag; rw [he]; rfl
    rw [e, e2, he, e3]
    dsimp only at hle ⊢
    have ht1 : (1 : Int).toNat = 1 := rfl
    rw [ht1] at hle ⊢
    refine ⟨?_, by omega⟩
    unfold wrSt
    dsimp only
    rw [if_neg k0, if_neg k1, if_pos k2, hadd, ← hen]
    rcases (show val (sbits s k 1) = 0 ∨ val (sbits s k 1) = 1 by omega) with hz | hz <;> rw [hz] <;> unfold wflag wuns <;> rw [if_neg (by simp), if_neg (by omega), if_neg (by decide), if_neg (by dsimp only; rw [hlen]; omega)] <;> rfl
  by_cases k3 : f.kind = 3
  · have e : rdSt s f (k, 0) = (rtext s f.width (k, 0)).1 := by unfold rdSt; rw [if_neg k0, if_neg k1, if_neg k2, if_pos k3]
    have e2 : rdF s f (k, 0) = { f with n := 0, s := (rtext s f.width (k, 0)).2 } := by unfold rdF; rw [if_neg k0, if_neg k1, if_neg k2, if_pos k3]
    rw [e] at h
    unfold rtext at h
    rw [if_neg (by simp)] at h
    by_cases hm : f.width < 1 ∨ 4095 < f.width
    · rw [if_pos hm] at h; simp at h
    rw [if_neg hm] at h
    dsimp only at h
    by_cases hb : (rnum s 1 (wid f.width) (k, 0)).1.2 ≠ 0
    · rw [if_pos hb] at h; exact absurd h hb
    rw [if_neg hb] at h
    have hb0 : (rnum s 1 (wid f.width) (k, 0)).1.2 = 0 := by simpa using hb
    obtain ⟨_, hw1, hw2, hle, he⟩ := rnum_ok hb0
    rw [Int.toNat_natCast] at hle he
    dsimp only at hle he
    have er : rtext s f.width (k, 0) = ((k + wid f.width + 8 * val (sbits s k (wid f.width)), 0), strB (rbytes s (k + wid f.width) (val (sbits s k (wid f.width))))) ∧ (val (sbits s k (wid f.width)) : Int) ≤ f.width ∧ k + wid f.width + 8 * val (sbits s k (wid f.width)) ≤ 8 * s.size := by
      rw [he] at h
      dsimp only at h
      by_cases c1 : f.width < (val (sbits s k (wid f.width)) : Int)
      · rw [if_pos c1] at h; simp at h
      rw [if_neg c1] at h
      by_cases c2 : 8 * s.size - (k + wid f.width) < 8 * val (sbits s k (wid f.width))
      · rw [if_pos c2] at h; simp at h
      refine ⟨?_, by omega, by omega⟩
      unfold rtext
      rw [if_neg (by simp), if_neg hm]
      dsimp only
      rw [if_neg hb, he]
      dsimp only
      rw [if_neg c1, if_neg c2]
    obtain ⟨er, hn1, hn2⟩ := er
    rw [e, e2, er]
    dsimp only
    refine ⟨?_, hn2⟩
    have hsz : (strB (rbytes s (k + wid f.width) (val (sbits s k (wid f.width))))).size = val (sbits s k (wid f.width)) := by rw [strB_size, rbytes_length]
    unfold wrSt
    dsimp only
    rw [if_neg k0, if_neg k1, if_neg k2, if_pos k3]
    unfold wtext
    rw [if_neg (by simp), if_neg hm, if_neg (by dsimp only; rw [hlen, hsz]; omega)]
    dsimp only
    rw [hsz, enc_sbits, textBits_rbytes, List.append_assoc, ← sbits_append, Nat.add_assoc, hadd]
  · have e : rdSt s f (k, 0) = (k, 0) := by unfold rdSt; rw [if_neg k0, if_neg k1, if_neg k2, if_neg k3]
    have e2 : rdF s f (k, 0) = f := by unfold rdF; rw [if_neg k0, if_neg k1, if_neg k2, if_neg k3]
    rw [e, e2]
    refine ⟨?_, hk⟩
    unfold wrSt; rw [if_neg k0, if_neg k1, if_neg k2, if_neg k3]

theorem val_zero : ∀ l : List Nat, val l = 0 → ∀ b ∈ l, b = 0
  | [], _, b, hb => by cases hb
  | x :: l, h, b, hb => by
    rw [val_cons] at h
    have hp : 0 < 2 ^ l.length := Nat.pow_pos (by omega)
    have hx : x * 2 ^ l.length = 0 := by omega
    rcases List.mem_cons.1 hb with rfl | hb
    · rcases Nat.mul_eq_zero.1 hx with h | h <;> omega
    · exact val_zero l (by omega) b hb

theorem byte_sum (c : Nat) (h : c < 256) : c / 128 % 2 * 128 + c / 64 % 2 * 64 + c / 32 % 2 * 32 + c / 16 % 2 * 16 + c / 8 % 2 * 8 + c / 4 % 2 * 4 + c / 2 % 2 * 2 + c / 1 % 2 = c := by omega

/-- Bytes whose last bits are 0 are those of the bits in front. -/
theorem strict_end {s : ByteArray} {k : Nat} (hk : k ≤ 8 * s.size) (h : rclose s (k, 0) = 0) : wbytes (sbits s 0 k, 0) = s := by
  unfold rclose at h
  rw [if_neg (by simp)] at h
  dsimp only at h
  by_cases h8 : 8 ≤ 8 * s.size - k
  · rw [if_pos h8] at h; simp at h
  rw [if_neg h8] at h
  by_cases hv : val (sbits s k (8 * s.size - k)) ≠ 0
  · rw [if_pos hv] at h; simp at h
  have hz := val_zero _ (by simpa using hv)
  have hget : ∀ j, j < 8 * s.size → (sbits s 0 k).getD j 0 = sbit s j := by
    intro j hj
    by_cases hjk : j < k
    · rw [List.getD_eq_getElem?_getD]; simp [sbits, hjk]
    · rw [getD_far _ _ (by rw [sbits_length]; omega)]
      have : sbit s j ∈ sbits s k (8 * s.size - k) := by
        simp only [sbits, List.mem_map, List.mem_range]
        exact ⟨j - k, by omega, by rw [show k + (j - k) = j by omega]⟩
      exact (hz _ this).symm
  have hnb : nby k = s.size := by unfold nby; omega
  unfold wbytes
  rw [if_neg (by simp)]
  dsimp only
  have hl : pack (sbits s 0 k) = s.data.toList.map UInt8.toNat := by
    apply List.ext_getElem?
    intro i
    by_cases hi : i < s.size
    · rw [pack_get _ _ (by rw [sbits_length]; omega), List.getElem?_map, List.getElem?_eq_getElem (by rw [data_len]; exact hi), Option.map_some]
      congr 1
      have hc : ∀ r, r < 8 → (sbits s 0 k).getD (8 * i + r) 0 = (s.data.toList[i]'(by rw [data_len]; exact hi)).toNat / 2 ^ (7 - r) % 2 := by
        intro r hr
        rw [hget _ (by omega)]
        unfold sbit
        rw [show (8 * i + r) / 8 = i by omega, show (8 * i + r) % 8 = r by omega, List.getD_eq_getElem?_getD, List.getElem?_eq_getElem (by rw [data_len]; exact hi)]; rfl
      have h0 := hc 0 (by omega); have h1 := hc 1 (by omega); have h2 := hc 2 (by omega); have h3 := hc 3 (by omega)
      have h4 := hc 4 (by omega); have h5 := hc 5 (by omega); have h6 := hc 6 (by omega); have h7 := hc 7 (by omega)
      have hlt := (s.data.toList[i]'(by rw [data_len]; exact hi)).toNat_lt
      generalize (s.data.toList[i]'(by rw [data_len]; exact hi)).toNat = c at *
      unfold byteAt
      rw [Nat.add_zero] at h0
      rw [h0, h1, h2, h3, h4, h5, h6, h7]
      exact byte_sum c (by omega)
    · rw [List.getElem?_eq_none (by rw [pack_length, sbits_length]; omega), List.getElem?_eq_none (by rw [List.length_map, data_len]; omega)]
  rw [hl]
  unfold strB
  rw [List.map_map]
  have : (UInt8.ofNat ∘ UInt8.toNat) = id := by funext x; simp
  rw [this, List.map_id]
end Go.Proofs.Ytilpbbpdchbdfaa.Bit
