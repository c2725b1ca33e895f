
/- Plain facts: what is written is read. -/
import Derived.Test.YtilpbbpdchbdfaaBPlainS
namespace Go.Proofs.Ytilpbbpdchbdfaa.Bit
open Go.RowKit
set_option maxRecDepth 100000

theorem wuns_ok {wd x : Int} {bs : List Nat} (h : (wuns wd x (bs, 0)).2 = 0) : 1 ≤ wd ∧ wd ≤ 63 ∧ 0 ≤ x ∧ x < 2 ^ wd.toNat ∧ wuns wd x (bs, 0) = (bs ++ enc wd.toNat x, 0) := by
  unfold wuns at h ⊢
  rw [if_neg (by simp)] at h ⊢
  by_cases h1 : wd < 1 ∨ 63 < wd
  · rw [if_pos h1] at h; simp at h
  rw [if_neg h1] at h ⊢
  by_cases h2 : x < 0 ∨ 2 ^ wd.toNat ≤ x
  · rw [if_pos h2] at h; simp at h
  rw [if_neg h2] at h ⊢
  by_cases h3 : (524288 : Int) < ((bs, (0 : Int)).1.length : Int) + wd
  · rw [if_pos h3] at h; simp at h
  rw [if_neg h3]
  exact ⟨by omega, by omega, by omega, by omega, rfl⟩
theorem wsig_ok {wd x : Int} {bs : List Nat} (h : (wsig wd x (bs, 0)).2 = 0) : 2 ≤ wd ∧ wd ≤ 63 ∧ -2 ^ (wd.toNat - 1) ≤ x ∧ x < 2 ^ (wd.toNat - 1) ∧ wsig wd x (bs, 0) = (bs ++ enc wd.toNat x, 0) := by
  unfold wsig at h ⊢
  rw [if_neg (by simp)] at h ⊢
  by_cases h1 : wd < 2 ∨ 63 < wd
  · rw [if_pos h1] at h; simp at h
  rw [if_neg h1] at h ⊢
  by_cases h2 : x < -2 ^ (wd.toNat - 1) ∨ 2 ^ (wd.toNat - 1) ≤ x
  · rw [if_pos h2] at h; simp at h
  rw [if_neg h2] at h ⊢
  by_cases h3 : (524288 : Int) < ((bs, (0 : Int)).1.length : Int) + wd
  · rw [if_pos h3] at h; simp at h
  rw [if_neg h3]
  exact ⟨by omega, by omega, by omega, by omega, rfl⟩
theorem wtext_ok {m : Int} {s : ByteArray} {bs : List Nat} (h : (wtext m s (bs, 0)).2 = 0) : 1 ≤ m ∧ m ≤ 4095 ∧ (s.size : Int) ≤ m ∧ wtext m s (bs, 0) = (bs ++ enc (wid m) s.size ++ textBits s.data.toList, 0) := by
  unfold wtext at h ⊢
  rw [if_neg (by simp)] at h ⊢
  by_cases h1 : m < 1 ∨ 4095 < m
  · rw [if_pos h1] at h; simp at h
  rw [if_neg h1] at h ⊢
  by_cases h2 : m < s.size ∨ 524288 < (bs, (0 : Int)).1.length + wid m + 8 * s.size
  · rw [if_pos h2] at h; simp at h
  rw [if_neg h2]
  exact ⟨by omega, by omega, by omega, rfl⟩
theorem wrSt_stay {f : Fld} {st : List Nat × Int} (h : st.2 ≠ 0) : wrSt f st = st := by
  unfold wrSt wflag wuns wsig wtext
  simp only [if_pos h]
  split
  · rfl
  · split
    · rfl
    · split
      · rfl
      · split <;> rfl
theorem wrSt_ok {f : Fld} {st : List Nat × Int} (h : (wrSt f st).2 = 0) : st.2 = 0 ∧ ∃ e, wrSt f st = (st.1 ++ e, 0) := by
  by_cases h0 : st.2 = 0
  · refine ⟨h0, ?_⟩
    obtain ⟨bs, er⟩ := st
    simp only at h0
    subst h0
    by_cases k0 : f.kind = 0
    · have e : wrSt f (bs, 0) = wuns f.width f.n (bs, 0) := by unfold wrSt; rw [if_pos k0]
      rw [e] at h ⊢; exact ⟨_, (wuns_ok h).2.2.2.2⟩
    by_cases k1 : f.kind = 1
    · have e : wrSt f (bs, 0) = wsig f.width f.n (bs, 0) := by unfold wrSt; rw [if_neg k0, if_pos k1]
      rw [e] at h ⊢; exact ⟨_, (wsig_ok h).2.2.2.2⟩
    by_cases k2 : f.kind = 2
    · have e : wrSt f (bs, 0) = wuns 1 (if (f.n != 0) then 1 else 0) (bs, 0) := by unfold wrSt wflag; rw [if_neg k0, if_neg k1, if_pos k2]
      rw [e] at h ⊢; exact ⟨_, (wuns_ok h).2.2.2.2⟩
    by_cases k3 : f.kind = 3
    · have e : wrSt f (bs, 0) = wtext f.width f.s (bs, 0) := by unfold wrSt; rw [if_neg k0, if_neg k1, if_neg k2, if_pos k3]
      rw [e] at h ⊢; exact ⟨_, by rw [(wtext_ok h).2.2.2, List.append_assoc]⟩
    · have e : wrSt f (bs, 0) = (bs, 0) := by unfold wrSt; rw [if_neg k0, if_neg k1, if_neg k2, if_neg k3]
      exact ⟨[], by rw [e, List.append_nil]⟩
  · rw [wrSt_stay h0] at h; exact absurd h h0

/-- All fields written, one behind the other. -/
def wfold (fs : List Fld) : List Nat × Int := fs.foldl (fun st f => wrSt f st) ([], 0)
theorem wfold_snoc (fs : List Fld) (f : Fld) : wfold (fs ++ [f]) = wrSt f (wfold fs) := by simp [wfold]
theorem wfold_take {fs : List Fld} {j : Nat} {f : Fld} (h : fs[j]? = some f) : wfold (fs.take (j + 1)) = wrSt f (wfold (fs.take j)) := by
  rw [List.take_add_one, h, Option.toList_some, wfold_snoc]
/-- What is written in front of the field j, if nothing fails. -/
theorem wfold_front (fs : List Fld) (h : (wfold fs).2 = 0) : ∀ j, ∃ r, (wfold (fs.take (fs.length - j))).2 = 0 ∧ (wfold fs).1 = (wfold (fs.take (fs.length - j))).1 ++ r
  | 0 => ⟨[], by rw [Nat.sub_zero, List.take_length]; exact h, by rw [Nat.sub_zero, List.take_length, List.append_nil]⟩
  | j + 1 => by
    obtain ⟨r, h1, h2⟩ := wfold_front fs h j
    by_cases hj : j < fs.length
    · obtain ⟨f, hf⟩ : ∃ f, fs[fs.length - (j + 1)]? = some f := ⟨_, List.getElem?_eq_getElem (by omega)⟩
      have ht := wfold_take hf
      rw [show fs.length - (j + 1) + 1 = fs.length - j by omega] at ht
      rw [ht] at h1 h2
      obtain ⟨g1, e, g2⟩ := wrSt_ok h1
      refine ⟨e ++ r, g1, ?_⟩
      rw [h2, g2, List.append_assoc]
    · rw [show fs.length - (j + 1) = fs.length - j by omega]
      exact ⟨r, h1, h2⟩
theorem wfold_at {fs : List Fld} (h : (wfold fs).2 = 0) {j : Nat} (hj : j ≤ fs.length) : ∃ r, (wfold (fs.take j)).2 = 0 ∧ (wfold fs).1 = (wfold (fs.take j)).1 ++ r := by
  have := wfold_front fs h (fs.length - j)
  rwa [show fs.length - (fs.length - j) = j by omega] at this

theorem sbits_mid {a e r : List Nat} (h : Bits (a ++ e ++ r)) : sbits (strB (pack (a ++ e ++ r))) a.length e.length = e := by
  rw [sbits_strB h _ _ (by simp), List.append_assoc, List.drop_left, List.take_left]
theorem room_mid {a e r : List Nat} : a.length + e.length ≤ 8 * (strB (pack (a ++ e ++ r))).size := by
  rw [strB_size, pack_length]; unfold nby; simp; omega
theorem rnum_mid {a e r : List Nat} {l wd : Int} (h : Bits (a ++ e ++ r)) (hl : l ≤ wd) (h63 : wd ≤ 63) (he : e.length = wd.toNat) (h0 : 0 ≤ wd) :
    rnum (strB (pack (a ++ e ++ r))) l wd (a.length, 0) = ((a.length + wd.toNat, 0), val e) := by
  have hr := @room_mid a e r
  unfold rnum
  rw [if_neg (by simp), if_neg (by omega), if_neg (by dsimp only; omega)]
  dsimp only
  rw [← he, sbits_mid h]

theorem rbytes_cons (S : ByteArray) (k n : Nat) : rbytes S k (n + 1) = val (sbits S k 8) :: rbytes S (k + 8) n := by
  unfold rbytes
  rw [List.range_succ_eq_map, List.map_cons, List.map_map]
  congr 1
  apply List.map_congr_left
  intro i _
  simp only [Function.comp]
  rw [show k + 8 * i.succ = k + 8 + 8 * i by omega]
theorem rbytes_text {S : ByteArray} : ∀ (l : List UInt8) (k : Nat), sbits S k (8 * l.length) = textBits l → rbytes S k l.length = l.map UInt8.toNat
  | [], _, _ => rfl
  | c :: l, k, h => by
    rw [List.length_cons, show 8 * (l.length + 1) = 8 + 8 * l.length by omega, sbits_append] at h
    have e : textBits (c :: l) = enc 8 c.toNat ++ textBits l := rfl
    rw [e] at h
    obtain ⟨h1, h2⟩ := List.append_inj h (by rw [sbits_length, enc_length])
    rw [List.length_cons, rbytes_cons, List.map_cons, rbytes_text l (k + 8) h2, h1]
    congr 1
    have hv := val_enc 8 (c.toNat : Int)
    have hc := c.toNat_lt
    have : ((2 : Int) ^ 8) = 256 := by decide
    rw [this] at hv
    omega

/-- The field is read as it was written. -/
def Same (f x : Fld) : Prop := (f.kind = 0 ∨ f.kind = 1 → x.n = f.n) ∧ (f.kind = 2 → x.n = if f.n = 0 then 0 else 1) ∧ (f.kind = 3 → x.s = f.s)
theorem back_step {f : Fld} {bs1 bs2 r : List Nat} (h : wrSt f (bs1, 0) = (bs2, 0)) (hb : Bits (bs2 ++ r)) :
    rdSt (strB (pack (bs2 ++ r))) f (bs1.length, 0) = (bs2.length, 0) ∧ Same f (rdF (strB (pack (bs2 ++ r))) f (bs1.length, 0)) := by
  have h2 : (wrSt f (bs1, 0)).2 = 0 := by rw [h]
  by_cases k0 : f.kind = 0
  · have e : wrSt f (bs1, 0) = wuns f.width f.n (bs1, 0) := by unfold wrSt; rw [if_pos k0]
    rw [e] at h h2
    obtain ⟨a1, a2, a3, a4, a5⟩ := wuns_ok h2
    rw [a5] at h
    obtain rfl : bs1 ++ enc f.width.toNat f.n = bs2 := by simpa using congrArg Prod.fst h
    have hr := rnum_mid (l := 1) hb a1 a2 (enc_length _ _) (by omega)
    have hv : (val (enc f.width.toNat f.n) : Int) = f.n := by rw [val_enc]; exact Int.emod_eq_of_lt a3 a4
    unfold rdSt rdF Same
    simp only [if_pos k0, hr]
    refine ⟨by simp [enc_length], fun _ => hv, fun hk => by omega, fun hk => by omega⟩
  by_cases k1 : f.kind = 1
  · have e : wrSt f (bs1, 0) = wsig f.width f.n (bs1, 0) := by unfold wrSt; rw [if_neg k0, if_pos k1]
    rw [e] at h h2
    obtain ⟨a1, a2, a3, a4, a5⟩ := wsig_ok h2
    rw [a5] at h
    obtain rfl : bs1 ++ enc f.width.toNat f.n = bs2 := by simpa using congrArg Prod.fst h
    have hr := rnum_mid (l := 2) hb a1 a2 (enc_length _ _) (by omega)
    have hv := sgn_enc f.width.toNat f.n (by omega) a3 a4
    unfold rdSt rdF rsig Same
    simp only [if_neg k0, if_pos k1, hr]
    refine ⟨by simp [enc_length], fun _ => by simpa using hv, fun hk => by omega, fun hk => by omega⟩
  by_cases k2 : f.kind = 2
  · have e : wrSt f (bs1, 0) = wuns 1 (if (f.n != 0) then 1 else 0) (bs1, 0) := by unfold wrSt wflag; rw [if_neg k0, if_neg k1, if_pos k2]
    rw [e] at h h2
    obtain ⟨a1, a2, a3, a4, a5⟩ := wuns_ok h2
    rw [a5] at h
    obtain rfl : bs1 ++ enc (1 : Int).toNat (if (f.n != 0) then 1 else 0) = bs2 := by simpa using congrArg Prod.fst h
    have hr := rnum_mid (l := 1) (wd := 1) hb (by omega) (by omega) (enc_length _ _) (by omega)
    unfold rdSt rdF rflag Same
    simp only [if_neg k0, if_neg k1, if_pos k2, hr]
    refine ⟨by simp [enc_length], fun hk => by omega, fun _ => ?_, fun hk => by omega⟩
    by_cases hn : f.n = 0
    · rw [if_pos hn, hn]; decide
    · rw [if_neg hn, if_pos (show (f.n != 0) = true by simpa using hn)]; decide
  by_cases k3 : f.kind = 3
  · have e : wrSt f (bs1, 0) = wtext f.width f.s (bs1, 0) := by unfold wrSt; rw [if_neg k0, if_neg k1, if_neg k2, if_pos k3]
    rw [e] at h h2
    obtain ⟨a1, a2, a3, a4⟩ := wtext_ok h2
    rw [a4] at h
    obtain rfl : bs1 ++ enc (wid f.width) f.s.size ++ textBits f.s.data.toList = bs2 := by simpa using congrArg Prod.fst h
    obtain ⟨g1, g2, g3⟩ := wid_text f.width a1 a2
    have hb' : Bits (bs1 ++ enc (wid f.width) f.s.size ++ (textBits f.s.data.toList ++ r)) := by simpa [List.append_assoc] using hb
    have hS : strB (pack (bs1 ++ enc (wid f.width) f.s.size ++ textBits f.s.data.toList ++ r)) = strB (pack (bs1 ++ enc (wid f.width) f.s.size ++ (textBits f.s.data.toList ++ r))) := by rw [List.append_assoc]
    have hr := rnum_mid (l := 1) (wd := wid f.width) hb' (by omega) (by omega) (by rw [enc_length, Int.toNat_natCast]) (by omega)
    have hv : val (enc (wid f.width) f.s.size) = f.s.size := by
      have := val_enc (wid f.width) (f.s.size : Int)
      rw [Int.emod_eq_of_lt (by omega) (by omega)] at this
      omega
    rw [hv, Int.toNat_natCast] at hr
    have hmid := sbits_mid (a := bs1 ++ enc (wid f.width) f.s.size) (e := textBits f.s.data.toList) (r := r) hb
    have hroom := @room_mid (bs1 ++ enc (wid f.width) f.s.size) (textBits f.s.data.toList) r
    rw [textBits_length, data_len] at hroom
    rw [List.length_append, enc_length] at hmid hroom
    have hbytes : rbytes (strB (pack (bs1 ++ enc (wid f.width) f.s.size ++ textBits f.s.data.toList ++ r))) (bs1.length + wid f.width) f.s.size = f.s.data.toList.map UInt8.toNat := by
      have := rbytes_text f.s.data.toList (bs1.length + wid f.width) (S := strB (pack (bs1 ++ enc (wid f.width) f.s.size ++ textBits f.s.data.toList ++ r))) (by rw [← textBits_length]; exact hmid)
      rwa [data_len] at this
    have hstr : strB (f.s.data.toList.map UInt8.toNat) = f.s := by
      unfold strB
      rw [List.map_map, show (UInt8.ofNat ∘ UInt8.toNat) = id by funext x; simp, List.map_id]
    have ht : rtext (strB (pack (bs1 ++ enc (wid f.width) f.s.size ++ textBits f.s.data.toList ++ r))) f.width (bs1.length, 0) = ((bs1.length + wid f.width + 8 * f.s.size, 0), f.s) := by
      unfold rtext
      rw [← hS] at hr
      rw [if_neg (by simp), if_neg (by omega)]
      simp only [hr]
      rw [if_neg (by simp), if_neg (by omega), if_neg (by omega), hbytes, hstr]
    unfold rdSt rdF Same
    simp only [if_neg k0, if_neg k1, if_neg k2, if_pos k3, ht]
    refine ⟨by simp [enc_length, textBits_length]; omega, fun hk => by omega, fun hk => by omega, fun _ => trivial⟩
  · have e : wrSt f (bs1, 0) = (bs1, 0) := by unfold wrSt; rw [if_neg k0, if_neg k1, if_neg k2, if_neg k3]
    rw [e] at h
    obtain rfl : bs1 = bs2 := by simpa using congrArg Prod.fst h
    unfold rdSt Same
    simp only [if_neg k0, if_neg k1, if_neg k2, if_neg k3]
    refine ⟨trivial, fun hk => by omega, fun hk => absurd hk k2, fun hk => absurd hk k3⟩

/-- Behind the last bit there are fewer than 8 bits, all 0. -/
theorem back_end {bs : List Nat} (h : Bits bs) : rclose (strB (pack bs)) (bs.length, 0) = 0 := by
  have hsz : (strB (pack bs)).size = nby bs.length := by rw [strB_size, pack_length]
  unfold rclose
  rw [if_neg (by simp)]
  dsimp only
  rw [if_neg (by rw [hsz]; unfold nby; omega), if_neg]
  have hz : sbits (strB (pack bs)) bs.length (8 * (strB (pack bs)).size - bs.length) = List.replicate (8 * (strB (pack bs)).size - bs.length) 0 := by
    apply List.ext_getElem?
    intro i
    by_cases hi : i < 8 * (strB (pack bs)).size - bs.length
    · simp only [sbits, List.getElem?_map, List.getElem?_range hi, Option.map_some, List.getElem?_replicate, if_pos hi]
      rw [sbit_strB h _ (by rw [hsz] at hi; omega), getD_far _ _ (by omega)]
    · rw [List.getElem?_eq_none (by rw [sbits_length]; omega), List.getElem?_eq_none (by simp; omega)]
  rw [hz]
  have : ∀ n, val (List.replicate n 0) = 0 := by
    intro n
    induction n with
    | zero => rfl
    | succ n ih => rw [List.replicate_succ, val_cons, ih]; simp
  rw [this]; simp
end Go.Proofs.Ytilpbbpdchbdfaa.Bit
