/- Parse of the reference. -/
import Derived.Test.YtjgbbafmjdapdaaDoorTextB
import Derived.Test.YtjgbbafmjdapdaaDoorForm
namespace Go.Proofs.YtjgbbafmjdapdaaDoor
open Go.RowKit

theorem suf_eq (l : List UInt8) (m : Nat) (h : m + 3 = l.length) : Lib.hasSuffix l [32, 100, 66] = (l.drop m == [32, 100, 66]) := by
  unfold Lib.hasSuffix
  rw [Bool.eq_iff_iff, List.isSuffixOf_iff_suffix, List.suffix_iff_eq_drop, beq_iff_eq, show l.length - [(32 : UInt8), 100, 66].length = m by simp; omega]
  exact eq_comm
theorem suf_short (l : List UInt8) (h : l.length < 4) : parseS l = (0, 3) := by
  unfold parseS
  rw [if_neg]
  rintro ⟨_, h2⟩
  rw [show l.length - 3 = 0 by omega, List.take_zero] at h2
  exact absurd h2 (by decide)
theorem ext_list (s : ByteArray) (m : Nat) : (s.extract m s.size).toList = s.data.toList.drop m := by
  rw [Lib.toList_data, ByteArray.data_extract]
  simp
  exact List.take_of_length_le (by rw [List.length_drop, Array.length_toList]; exact Nat.le_refl _)
/-- The bytes ahead of the place k are right. -/
structure Good (l : List UInt8) (k : Nat) : Prop where
  dig : ∀ c ∈ l.take k, dig c = true
  zero : 2 ≤ k → l.getD 0 0 ≠ 48
theorem Good.none (l : List UInt8) : Good l 0 := ⟨by simp, by omega⟩
theorem Good.next {l : List UInt8} {k : Nat} (h : Good l k) (hk : k < l.length) (hc : YtjgbbafmjdapdaaDoor.dig (l.getD k 0) = true) (h1 : k = 1 → l.getD 0 0 ≠ 48) : Good l (k + 1) := by
  refine ⟨fun c hm => ?_, fun h2 => ?_⟩
  · rw [List.take_succ_eq_append_getElem hk] at hm
    rcases List.mem_append.1 hm with hm | hm
    · exact h.dig c hm
    · simp at hm
      subst hm
      simpa [List.getD_eq_getElem?_getD, hk] using hc
  · by_cases e : k = 1
    · exact h1 e
    · exact h.zero (by omega)
theorem Good.ok {l : List UInt8} {m : Nat} (h : Good l m) (hm : m ≤ l.length) (h1 : 1 ≤ m) : numOk (l.take m) = true := by
  match l, m, h, hm, h1 with
  | [], m + 1, _, hm, _ => exact absurd hm (by simp)
  | c :: r, m + 1, h, hm, _ =>
    unfold numOk
    have hall : ((c :: r).take (m + 1)).all YtjgbbafmjdapdaaDoor.dig = true := List.all_eq_true.2 h.dig
    rw [hall]
    show (true && true && ((c :: r.take m) == [48] || (some c : Option UInt8) != some 48)) = true
    by_cases e : m = 0
    · subst e
      by_cases e2 : c = 48
      · subst e2; simp
      · simp [e2]
    · have := h.zero (by omega)
      have e2 : c ≠ 48 := this
      simp [e2]
theorem bad_dig {l : List UInt8} {k m : Nat} (hk : k < m) (hm : m ≤ l.length) (hc : dig (l.getD k 0) = false) : numOk (l.take m) = false := by
  cases hn : numOk (l.take m) with
  | false => rfl
  | true =>
    exfalso
    unfold numOk at hn
    simp only [Bool.and_eq_true] at hn
    have := List.all_eq_true.1 hn.1.2 (l.getD k 0) (by
      have hk' : k < (l.take m).length := by rw [List.length_take]; omega
      have e : l.getD k 0 = (l.take m)[k] := by simp [List.getD_eq_getElem?_getD, show k < l.length by omega]
      rw [e]; exact List.getElem_mem hk')
    rw [hc] at this
    exact absurd this (by decide)
theorem bad_zero {l : List UInt8} {m : Nat} (hk : 1 < m) (hm : m ≤ l.length) (hc : l.getD 0 0 = 48) : numOk (l.take m) = false := by
  match l, m, hk, hm, hc with
  | [c], m + 2, _, hm, _ => exact absurd hm (by simp)
  | c :: d :: r, m + 2, _, _, hc =>
    have e : c = 48 := hc
    subst e
    unfold numOk
    show (_ && _ && (((48 : UInt8) :: d :: r.take m) == [48] || (some 48 : Option UInt8) != some 48)) = false
    simp
theorem sat_next (l : List UInt8) (k : Nat) (hk : k < l.length) : sat 0 (l.take (k + 1)) = min (10 * sat 0 (l.take k) + ((l.getD k 0).toNat - 48)) 1000 := by
  rw [List.take_succ_eq_append_getElem hk]
  unfold sat
  rw [List.foldl_append]
  simp [List.getD_eq_getElem?_getD, hk]
theorem sat_le (l : List UInt8) : sat 0 l ≤ 1000 := by
  rw [sat_val l 0 0 (by decide)]; omega
theorem min_int (o c : Nat) (h : 48 ≤ c) : min (10 * (o : Int) + ((c : Int) - 48)) 1000 = ((min (10 * o + (c - 48)) 1000 : Nat) : Int) := by omega
theorem parse2_short (s : ByteArray) (hs : s.size < 4) (w : World) : Calls Tryd.prog 30 #[.string s] w fun e w' => e = .returned (.tuple #[.int .i64 (parseS s.data.toList).1, .int .i64 (parseS s.data.toList).2]) ∧ Same w w' := by
  rw [suf_short s.data.toList (by rw [Array.length_toList]; exact hs)]
  have hi : (s.size : Int) < 4 := by omega
  go_enter Tryd.func30, Tryd.ntmps30
  go_wp2
  go_ret2
  exact ⟨rfl, Same.refl w⟩
set_option maxHeartbeats 1600000 in
theorem parse2_long (s : ByteArray) (hs : s.size ≤ 1000) (m : Nat) (hm : m + 3 = s.size) (hm1 : 1 ≤ m) (w : World) : Calls Tryd.prog 30 #[.string s] w fun e w' => e = .returned (.tuple #[.int .i64 (parseS s.data.toList).1, .int .i64 (parseS s.data.toList).2]) ∧ Same w w' := by
  have hmi : (s.size : Int) - 3 = (m : Int) := by omega
  have hms : m ≤ s.size := by omega
  have h4 : (4 : Int) ≤ (s.size : Int) := by omega
  have hll : s.data.toList.length = s.size := by rw [Array.length_toList]; rfl
  have hsb := suf_eq s.data.toList m (by rw [hll]; exact hm)
  rw [← ext_list s m] at hsb
  by_cases hsuf : Lib.hasSuffix s.data.toList [32, 100, 66] = true
  · rw [hsuf] at hsb
    have hsb2 := hsb.symm
    clear hsb
    have hgood : numOk (s.data.toList.take m) = true → parseS s.data.toList = levS (sat 0 (s.data.toList.take m) : Nat) := fun h => by
      unfold parseS
      rw [hll, show s.size - 3 = m by omega, if_pos ⟨hsuf, h⟩, sat_val _ 0 0 (by decide)]
    have hbad : numOk (s.data.toList.take m) = false → parseS s.data.toList = (0, 3) := fun h => by
      unfold parseS
      rw [hll, show s.size - 3 = m by omega, if_neg (fun h2 => by rw [h] at h2; exact absurd h2.2 (by decide))]
    have hat : ∀ (k : Nat) (hk : k < s.size), s.data.toList.getD k 0 = s[k] := fun k hk => by
      rw [List.getD_eq_getElem?_getD, List.getElem?_eq_getElem (by rw [hll]; exact hk)]; rfl
    have hv := fun w1 => level2_any (sat 0 (s.data.toList.take m) : Nat) w1
    have HV := Lib.hid hv; clear hv
    have HGOOD := Lib.hid hgood; clear hgood
    have HBAD := Lib.hid hbad; clear hbad
    have HAT := Lib.hid hat; clear hat
    have HLL := Lib.hid hll; clear hll
    clear hsuf
    go_enter Tryd.func30, Tryd.ntmps30
    go_wp2
    have HSB := Lib.hid hsb2; clear hsb2
    go_loop [5, 6] (fun o i => ∃ k : Nat, k ≤ m ∧ i = .int .i64 k ∧ o = .int .i64 (sat 0 (s.data.toList.take k) : Nat) ∧ Good s.data.toList k) (fun _ i => m - (intOf i).toNat)
    case atStart => exact ⟨0, Nat.zero_le _, rfl, rfl, Good.none _⟩
    case round =>
      obtain ⟨k, hk, rfl, rfl, hg⟩ := hrel
      have HG := Lib.hid hg; clear hg
      by_cases hlt : k < m
      · have hks : k < s.size := by omega
        have h0s : 0 < s.size := by omega
        have hkl : k < s.data.toList.length := by rw [HLL.out]; exact hks
        have hnx := sat_next s.data.toList k hkl
        have hc := HAT.out k hks
        have hz := HAT.out 0 h0s
        rw [hc] at hnx
        have hle := sat_le (s.data.toList.take k)
        generalize sat 0 (s.data.toList.take k) = o at *
        have HNX := Lib.hid hnx; clear hnx
        have HC := Lib.hid hc; clear hc
        have HZ := Lib.hid hz; clear hz
        have HKL := Lib.hid hkl; clear hkl
        have hb := s[k].toNat_lt
        by_cases hd : dig s[k] = true
        · have hd' : 48 ≤ s[k].toNat ∧ s[k].toNat ≤ 57 := by
            unfold dig at hd; simpa using hd
          have g1 : (48 : Int) ≤ (s[k].toNat : Int) := by omega
          have g2 : (s[k].toNat : Int) ≤ 57 := by omega
          by_cases h10 : k = 1 ∧ s[0] = 48
          · obtain ⟨rfl, h48⟩ := h10
            have hp := HBAD.out (bad_zero hlt (by rw [HLL.out]; omega) (by rw [HZ.out, h48]))
            have HPP := Lib.hid hp; clear hp
            have g3 : ((s[0].toNat : Int) == 48) = true := by rw [h48]; rfl
            clear h48 hd hd'
            go_wp2
            go_ret2
            exact ⟨by rw [HPP.out]; rfl, Same.refl _⟩
          · have hgn := HG.out.next HKL.out (by rw [HC.out]; exact hd) (fun e => by rw [HZ.out]; exact fun e2 => h10 ⟨e, e2⟩)
            have HGN := Lib.hid hgn; clear hgn
            have hval := min_int o s[k].toNat hd'.1
            by_cases e : k = 1
            · have g3 : ((s[0].toNat : Int) == 48) = false := by
                have : s[0].toNat ≠ 48 := fun h => h10 ⟨e, UInt8.toNat_inj.1 (h.trans rfl)⟩
                simp; omega
              subst e
              have HVAL := Lib.hid hval; clear hval
              clear hd hd' h10
              go_wp2
              go_round
              case rel => exact ⟨2, by omega, rfl, by rw [HNX.out]; exact congrArg (Value.int IntKind.i64) HVAL.out, HGN.out⟩
              case measure => simp [intOf]; omega
            · have g3 : ¬ (k : Int) = 1 := by omega
              have HVAL := Lib.hid hval; clear hval
              clear hd hd' h10
              go_wp2
              go_round
              case rel => exact ⟨k + 1, by omega, by go_num, by rw [HNX.out]; exact congrArg (Value.int IntKind.i64) HVAL.out, HGN.out⟩
              case measure => simp [intOf]; omega
        · have hp := HBAD.out (bad_dig hlt (by rw [HLL.out]; omega) (by rw [HC.out]; exact (Bool.not_eq_true _).mp hd))
          have HPP := Lib.hid hp; clear hp
          have hor : ((s[k].toNat : Int) < 48) ∨ (¬ ((s[k].toNat : Int) < 48) ∧ 57 < (s[k].toNat : Int)) := by
            unfold dig at hd; simp at hd; omega
          clear hd
          rcases hor with g1 | ⟨g1, g2⟩
          all_goals
            go_wp2
            go_ret2
            exact ⟨by rw [HPP.out]; rfl, Same.refl _⟩
      · obtain rfl : k = m := by omega
        have hp := HGOOD.out (HG.out.ok (by rw [HLL.out]; omega) hm1)
        have HPP := Lib.hid hp; clear hp
        generalize levS ((sat 0 (s.data.toList.take k) : Nat) : Int) = lv at *
        have hle := sat_le (s.data.toList.take k)
        generalize sat 0 (s.data.toList.take k) = o at *
        go_wp2_with (go_at_call 13; with_reducible refine (HV.out _).mono ?_; rintro e w1 ⟨rfl, h⟩; have H := Lib.hid h; clear h)
        go_ret2
        exact ⟨by rw [HPP.out]; rfl, H.out⟩
  · have hsf : Lib.hasSuffix s.data.toList [32, 100, 66] = false := by simpa using hsuf
    rw [hsf] at hsb
    have hsb2 := hsb.symm
    have hp : parseS s.data.toList = (0, 3) := by unfold parseS; rw [if_neg (fun h => hsuf h.1)]
    rw [hp]
    clear hp hsb hsf hsuf hll
    go_enter Tryd.func30, Tryd.ntmps30
    go_wp2
    go_ret2
    exact ⟨rfl, Same.refl w⟩
theorem parse2_any (s : ByteArray) (hs : s.size ≤ 1000) (w : World) : Calls Tryd.prog 30 #[.string s] w fun e w' => e = .returned (.tuple #[.int .i64 (parseS s.data.toList).1, .int .i64 (parseS s.data.toList).2]) ∧ Same w w' := by
  by_cases h : s.size < 4
  · exact parse2_short s h w
  · exact parse2_long s hs (s.size - 3) (by omega) (by omega) w
end Go.Proofs.YtjgbbafmjdapdaaDoor
