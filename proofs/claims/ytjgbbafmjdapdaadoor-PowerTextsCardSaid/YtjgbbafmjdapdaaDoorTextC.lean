/- Parse of the program. -/
import Derived.Test.YtjgbbafmjdapdaaDoorTextA
import Derived.Test.YtjgbbafmjdapdaaDoorTextB
namespace Go.Proofs.YtjgbbafmjdapdaaDoor
open Go.RowKit

theorem trim_any (s : ByteArray) (hs : s.size ≤ 1000) (w : World) : Calls Tryd.prog 48 #[.string s, .string ⟨#[48, 49, 50, 51, 52, 53, 54, 55, 56, 57]⟩] w fun e w' => e = .returned (.string ⟨(Lib.trimS s.data.toList digs).toArray⟩) ∧ Same w w' :=
  (Any.strings_Trim_laid Tryd.lays160 (by kernel_rfl) s ⟨#[48, 49, 50, 51, 52, 53, 54, 55, 56, 57]⟩ w (by omega) (by decide) (fun j b hb => by
    have : b ∈ digs := List.mem_of_getElem? hb
    have h : ∀ b ∈ digs, b.toNat < 128 := by decide
    exact h b this)).mono fun e w' ⟨he, hw⟩ => ⟨he, Same.ofBelow hw⟩
theorem cut_any (s : ByteArray) (hs : s.size ≤ 1000) (w : World) : Calls Tryd.prog 43 #[.string s, .string ⟨#[32, 100, 66]⟩] w fun e w' => e = .returned (.tuple #[.string ⟨(Lib.trimSuffix s.data.toList [32, 100, 66]).toArray⟩, .bool (Lib.hasSuffix s.data.toList [32, 100, 66])]) ∧ w' = w :=
  Any.strings_CutSuffix Tryd.lays104 s ⟨#[32, 100, 66]⟩ w (by omega)
theorem atoi_ok (s : ByteArray) (hs : s.size ≤ 1000) (v : Int) (h : Lib.atoiAll s.data.toList = .ok v) (w : World) : Calls Tryd.prog 45 #[.string s] w fun e w' => e = .returned (.tuple #[.int .i64 v, .nilIface]) ∧ Same w w' :=
  (Tryd.strconv_Atoi_ok s (by omega) v h w).mono fun e w' ⟨he, hw⟩ => ⟨he, by
    rcases hw with rfl | ⟨t, rfl⟩
    · exact Same.refl _
    · exact ⟨rfl, rfl, rfl, by rw [Lib.bytesWorld_size]; omega, fun j hj => Lib.bytesWorld_at_old w _ t j hj⟩⟩
theorem atoi_range (s : ByteArray) (hs : s.size ≤ 1000) (h : Lib.atoiAll s.data.toList = .range) (w : World) (ht : Tb w) : Calls Tryd.prog 45 #[.string s] w fun e w' => ∃ N x, e = .returned (.tuple #[.int .i64 x, .iface 77 (.pointer (some ⟨N, 0, none⟩))]) ∧ Same w w' := by
  obtain ⟨tp, p, hv⟩ := ht.err
  exact (Tryd.strconv_Atoi_range_var s (by omega) h tp p w hv).mono fun e w' ⟨N, he, _, _, hw⟩ => ⟨N, _, he, Same.ofBelow hw⟩
theorem numOk_at (s : ByteArray) (h : 0 < s.size) (hd : ∀ c ∈ s.data.toList, dig c = true) (h48 : s.toList ≠ [48]) : numOk s.data.toList = (((s[0].toNat : Nat) : Int) != 48) := by
  rw [Lib.toList_data] at h48
  obtain ⟨⟨l⟩⟩ := s
  match l, h, hd, h48 with
  | c :: r, h, hd, h48 =>
    unfold numOk
    have hall : (c :: r).all dig = true := List.all_eq_true.2 hd
    have hne : ((c :: r) == [48]) = false := by simpa using h48
    show (!(c :: r).isEmpty && (c :: r).all dig && ((c :: r) == [48] || (c :: r).head? != some 48)) = (((c.toNat : Nat) : Int) != 48)
    rw [hall, hne]
    show (true && true && (false || ((some c : Option UInt8) != some 48))) = (((c.toNat : Nat) : Int) != 48)
    by_cases e : c = 48
    · subst e; rfl
    · have e2 : c.toNat ≠ 48 := fun h => e (UInt8.toNat_inj.1 (h.trans rfl))
      have e3 : (((c.toNat : Nat) : Int) != 48) = true := by simp; omega
      rw [e3]; simp [e]
theorem decimal_any (s : ByteArray) (hs : s.size ≤ 1000) (w : World) : Calls Tryd.prog 44 #[.string s] w fun e w' => e = .returned (.bool (numOk s.data.toList)) ∧ Same w w' := by
  have HT := Lib.hid (trim_any s hs w)
  by_cases h0 : s.toList = []
  · have hv : numOk s.data.toList = false := by rw [← Lib.toList_data, h0]; rfl
    rw [hv]
    clear hv
    go_enter Tryd.func44, Tryd.ntmps44
    go_wp2
    go_ret
    exact ⟨rfl, Same.refl w⟩
  · have hb0 : s.toList.isEmpty = false := by simpa using h0
    have hpos : 0 < s.size := by
      rcases Nat.eq_zero_or_pos s.size with h | h
      · exfalso; apply h0; rw [Lib.toList_data]
        exact List.eq_nil_of_length_eq_zero (by rw [Array.length_toList]; exact h)
      · exact h
    by_cases h1 : Lib.trimS s.data.toList digs = []
    · have hd := (trim_nil _).1 h1
      have hb1 : (Lib.trimS s.data.toList digs).isEmpty = true := by rw [h1]; rfl
      by_cases h2 : s.toList = [48]
      · have hv : numOk s.data.toList = true := by rw [← Lib.toList_data, h2]; rfl
        have hb2 : (s.toList == [48]) = true := by rw [h2]; rfl
        rw [hv]
        clear hv hd h1 h0 h2
        go_enter Tryd.func44, Tryd.ntmps44
        go_wp2_with (go_at_call 48; with_reducible refine HT.out.mono ?_; rintro e w1 ⟨rfl, h⟩; have H := Lib.hid h; clear h)
        go_ret
        exact ⟨rfl, H.out⟩
      · have hv := numOk_at s hpos hd h2
        have hb2 : (s.toList == [48]) = false := by simpa using h2
        rw [hv]
        clear hv hd h1 h0 h2
        go_enter Tryd.func44, Tryd.ntmps44
        go_wp2_with (go_at_call 48; with_reducible refine HT.out.mono ?_; rintro e w1 ⟨rfl, h⟩; have H := Lib.hid h; clear h)
        go_ret
        exact ⟨rfl, H.out⟩
    · have hb1 : (Lib.trimS s.data.toList digs).isEmpty = false := by simpa using h1
      have hv : numOk s.data.toList = false := by
        cases hn : numOk s.data.toList with
        | false => rfl
        | true =>
          exfalso; apply h1; apply (trim_nil _).2
          unfold numOk at hn
          simp only [Bool.and_eq_true] at hn
          exact List.all_eq_true.1 hn.1.2
      rw [hv]
      clear hv h1 h0
      go_enter Tryd.func44, Tryd.ntmps44
      go_wp2_with (go_at_call 48; with_reducible refine HT.out.mono ?_; rintro e w1 ⟨rfl, h⟩; have H := Lib.hid h; clear h)
      go_ret
      exact ⟨rfl, H.out⟩
theorem parse_any (s : ByteArray) (hs : s.size ≤ 1000) (w : World) (ht : Tb w) : Calls Tryd.prog 29 #[.string s] w fun e w' => e = .returned (.tuple #[.int .i64 (parseS s.data.toList).1, .int .i64 (parseS s.data.toList).2]) ∧ Same w w' := by
  have HC := Lib.hid (cut_any s hs w)
  by_cases hsuf : Lib.hasSuffix s.data.toList [32, 100, 66] = true
  · have hts : Lib.trimSuffix s.data.toList [32, 100, 66] = s.data.toList.take (s.data.toList.length - 3) := by unfold Lib.trimSuffix; rw [if_pos hsuf]; rfl
    rw [hts, hsuf] at HC
    obtain ⟨n, hn⟩ : ∃ n : ByteArray, n = ⟨(s.data.toList.take (s.data.toList.length - 3)).toArray⟩ := ⟨_, rfl⟩
    have hnl : n.data.toList = s.data.toList.take (s.data.toList.length - 3) := by rw [hn]
    have hns : n.size ≤ 1000 := by
      have : n.size = n.data.toList.length := by rw [Array.length_toList]; rfl
      rw [this, hnl, List.length_take, Array.length_toList]
      have : s.data.size = s.size := rfl
      omega
    rw [← hn] at HC
    have HD := Lib.hid (fun w1 => decimal_any n hns w1)
    by_cases hok : numOk n.data.toList = true
    · have hp : parseS s.data.toList = levS (val 0 n.data.toList : Nat) := by
        unfold parseS; rw [← hnl, if_pos ⟨hsuf, hok⟩, levS_min]
      rw [hp]
      have hd : ∀ c ∈ n.data.toList, dig c = true := by
        unfold numOk at hok
        simp only [Bool.and_eq_true] at hok
        exact List.all_eq_true.1 hok.1.2
      have hne : n.data.toList ≠ [] := by
        intro e; rw [e] at hok; exact absurd hok (by decide)
      have ha := atoi_val n.data.toList hd hne
      rw [hok] at HD
      have HL := Lib.hid (fun (w1 : World) (h : Same w w1) => level_api (val 0 n.data.toList : Nat) w1 (ht.same h).dec)
      by_cases hr : val 0 n.data.toList < 9223372036854775808
      · rw [if_pos hr] at ha
        have HA := Lib.hid (fun w1 => atoi_ok n hns _ ha w1)
        generalize levS ((val 0 n.data.toList : Nat) : Int) = lv at *
        generalize val 0 n.data.toList = v at *
        clear ha hd hne hok hp hnl hts hn hsuf ht hr
        go_enter Tryd.func29, Tryd.ntmps29
        go_wp2_with (first
          | (go_at_call 43; with_reducible refine HC.out.mono ?_; rintro e w1 ⟨rfl, rfl⟩)
          | (go_at_call 44; with_reducible refine (HD.out _).mono ?_; rintro e w2 ⟨rfl, h⟩; have H := Lib.hid h; clear h)
          | (go_at_call 45; with_reducible refine (HA.out _).mono ?_; rintro e w3 ⟨rfl, h⟩; have H3 := Lib.hid (H.out.trans h); clear h)
          | (go_at_call 12; with_reducible refine (HL.out _ (by exact H3.out)).mono ?_; rintro e w4 ⟨rfl, rfl⟩))
        go_ret2
        exact ⟨rfl, H3.out⟩
      · rw [if_neg hr] at ha
        have hl2 : levS ((val 0 n.data.toList : Nat) : Int) = (0, 2) := by unfold levS; rw [if_neg (by omega)]
        rw [hl2]
        have HA := Lib.hid (fun (w1 : World) (h : Same w w1) => atoi_range n hns ha w1 (ht.same h))
        clear ha hd hne hok hp hnl hts hn hsuf ht hr HL hl2
        go_enter Tryd.func29, Tryd.ntmps29
        go_wp2_with (first
          | (go_at_call 43; with_reducible refine HC.out.mono ?_; rintro e w1 ⟨rfl, rfl⟩)
          | (go_at_call 44; with_reducible refine (HD.out _).mono ?_; rintro e w2 ⟨rfl, h⟩; have H := Lib.hid h; clear h)
          | (go_at_call 45; with_reducible refine (HA.out _ (by exact H.out)).mono ?_; rintro e w3 ⟨N, x, rfl, h⟩; have H3 := Lib.hid (H.out.trans h); clear h))
        go_ret2
        exact ⟨rfl, H3.out⟩
    · have hok' : numOk n.data.toList = false := by simpa using hok
      have hp : parseS s.data.toList = (0, 3) := by unfold parseS; rw [← hnl, if_neg (fun h => hok h.2)]
      rw [hp]
      rw [hok'] at HD
      clear hok hok' hp hnl hts hn hsuf ht
      go_enter Tryd.func29, Tryd.ntmps29
      go_wp2_with (first
        | (go_at_call 43; with_reducible refine HC.out.mono ?_; rintro e w1 ⟨rfl, rfl⟩)
        | (go_at_call 44; with_reducible refine (HD.out _).mono ?_; rintro e w2 ⟨rfl, h⟩; have H := Lib.hid h; clear h))
      go_ret2
      exact ⟨rfl, H.out⟩
  · have hsf : Lib.hasSuffix s.data.toList [32, 100, 66] = false := by simpa using hsuf
    have hp : parseS s.data.toList = (0, 3) := by unfold parseS; rw [if_neg (fun h => hsuf h.1)]
    rw [hp]
    rw [hsf] at HC
    clear hp hsf hsuf ht
    go_enter Tryd.func29, Tryd.ntmps29
    go_wp2_with (go_at_call 43; with_reducible refine HC.out.mono ?_; rintro e w1 ⟨rfl, rfl⟩)
    go_ret2
    exact ⟨rfl, Same.refl _⟩
end Go.Proofs.YtjgbbafmjdapdaaDoor
