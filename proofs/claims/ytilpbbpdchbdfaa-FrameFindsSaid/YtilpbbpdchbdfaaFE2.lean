/- Encode, Time and Room of package frame. -/
import Derived.Test.YtilpbbpdchbdfaaFE
namespace Go.Proofs.Ytilpbbpdchbdfaa
open Go.RowKit

def encR (f : Fr) : ByteArray × Int := if okB f = true then (if (wrR f).2.2 ≠ 0 then (⟨#[]⟩, (wrR f).2.2) else (Cr.prot (wrR f).1, 0)) else (⟨#[]⟩, 1)
theorem chk_01 (f : Fr) : (okB f = true ∧ chk f = 0) ∨ (okB f = false ∧ chk f = 1) := by
  unfold chk
  cases okB f with
  | true => exact .inl ⟨rfl, rfl⟩
  | false => exact .inr ⟨rfl, rfl⟩
theorem wbytes_size (st : List Nat × Int) (h : st.2 = 0) : (Bit.wbytes st).size = (st.1.length + 7) / 8 := by
  unfold Bit.wbytes
  rw [if_neg (by simp [h]), Bit.strB_size, Bit.pack_length]; rfl
theorem wrR_cases (f : Fr) : wrR f = (⟨#[]⟩, 0, 8) ∨ ∃ S L, wrR f = (S, L, 0) ∧ S = Bit.wbytes (wst f) ∧ L = (wst f).1.length ∧ (wst f).2 = 0 ∧ L ≤ 1000 ∧ S.size = (L + 7) / 8 := by
  unfold wrR
  by_cases h : (wst f).2 ≠ 0 ∨ 1000 < (wst f).1.length
  · rw [if_pos h]; exact .inl rfl
  · rw [if_neg h]
    have h2 : (wst f).2 = 0 := by
      by_cases hx : (wst f).2 = 0
      · exact hx
      · exact absurd (Or.inl hx) h
    have h3 : ¬ 1000 < (wst f).1.length := fun x => h (Or.inr x)
    exact .inr ⟨_, _, rfl, rfl, rfl, h2, by omega, wbytes_size _ h2⟩
theorem ok_k {f : Fr} (h : okB f = true) : -9223372036854775808 ≤ f.k ∧ f.k ≤ 9223372036854775807 := by
  have := (okB_iff f).1 h
  unfold Ok at this
  omega
set_option maxRecDepth 100000 in
theorem encode_bad (k s t l q fl n e sl r ep : Int) (d : ByteArray) (hc : chk ⟨k, s, t, l, q, fl, n, e, sl, r, ep, d⟩ = 1) (w : World) : Calls Try.prog 12 #[frV ⟨k, s, t, l, q, fl, n, e, sl, r, ep, d⟩] w fun e w' => e = .returned (.tuple #[.string ⟨#[]⟩, .int .i64 1]) ∧ Same w w' := by
  have hA := fun w1 => check_any ⟨k, s, t, l, q, fl, n, e, sl, r, ep, d⟩ w1
  rw [hc] at hA
  have HA := Lib.hid hA
  clear hA hc
  have HS := Lib.hid ((Same.refl w).alloc (.cells (frC ⟨k, s, t, l, q, fl, n, e, sl, r, ep, d⟩) 23))
  have HB0 := Lib.hid (fun (w1 : World) (h : Same (w.alloc (.cells (frC ⟨k, s, t, l, q, fl, n, e, sl, r, ep, d⟩) 23)) w1) => fr_cells (fr_box h))
  go_enter Try.func12, Try.ntmps12
  go_wp2_with (go_at_call 18; (with_reducible refine (HA.out _).mono ?_); rintro E1 w1 ⟨rfl, hw⟩; obtain ⟨c0, c1, c2, c3, c4, c5, c6, c7, c8, c9, c10, c11⟩ := HB0.out _ hw; have HXw1 := Lib.hid hw; have HWw1 := Lib.hid (HS.out.trans hw); clear hw)
  go_ret2
  exact ⟨rfl, HWw1.out⟩
set_option maxRecDepth 100000 in
theorem encode_good (k s t l q fl n e sl r ep : Int) (d : ByteArray) (hc : chk ⟨k, s, t, l, q, fl, n, e, sl, r, ep, d⟩ = 0) (S : ByteArray) (L : Nat) (E : Int) (hb : -9223372036854775808 ≤ k ∧ k ≤ 9223372036854775807) (hd : d.size ≤ 9223372036854775807) (hw : wrR ⟨k, s, t, l, q, fl, n, e, sl, r, ep, d⟩ = (S, L, E)) (R : ByteArray) (hE : (E = 8 ∧ R = ⟨#[]⟩) ∨ (E = 0 ∧ S.size ≤ 1000 ∧ R = Cr.prot S)) (w : World) : Calls Try.prog 12 #[frV ⟨k, s, t, l, q, fl, n, e, sl, r, ep, d⟩] w fun e w' => e = .returned (.tuple #[.string R, .int .i64 E]) ∧ Same w w' := by
  have hA := fun w1 => check_any ⟨k, s, t, l, q, fl, n, e, sl, r, ep, d⟩ w1
  have hW := fun w1 => write_any ⟨k, s, t, l, q, fl, n, e, sl, r, ep, d⟩ hb hd w1
  rw [hc] at hA
  rw [hw] at hW
  have HA := Lib.hid hA
  have HW := Lib.hid hW
  clear hA hc hW hb hd hw
  have HS := Lib.hid ((Same.refl w).alloc (.cells (frC ⟨k, s, t, l, q, fl, n, e, sl, r, ep, d⟩) 23))
  have HB0 := Lib.hid (fun (w1 : World) (h : Same (w.alloc (.cells (frC ⟨k, s, t, l, q, fl, n, e, sl, r, ep, d⟩) 23)) w1) => fr_cells (fr_box h))
  rcases hE with ⟨rfl, rfl⟩ | ⟨rfl, hS, rfl⟩
  · go_enter Try.func12, Try.ntmps12
    go_wp2_with (first
      | (go_at_call 18; (with_reducible refine (HA.out _).mono ?_); rintro E1 w1 ⟨rfl, hw⟩; obtain ⟨c0, c1, c2, c3, c4, c5, c6, c7, c8, c9, c10, c11⟩ := HB0.out _ hw; have HXw1 := Lib.hid hw; have HWw1 := Lib.hid (HS.out.trans hw); clear hw)
      | (go_at_call 30; (with_reducible refine (HW.out _).mono ?_); rintro E1 w2 ⟨rfl, hw⟩; have hw0 := HXw1.out.trans hw; clear hw; have hw := hw0; clear hw0; obtain ⟨c0, c1, c2, c3, c4, c5, c6, c7, c8, c9, c10, c11⟩ := HB0.out _ hw; have HXw2 := Lib.hid hw; have HWw2 := Lib.hid (HS.out.trans hw); clear hw))
    go_ret2
    exact ⟨rfl, HWw2.out⟩
  · have hP := fun w1 => protect_any S hS w1
    generalize Cr.prot S = R at *
    have HP := Lib.hid hP
    clear hP hS
    go_enter Try.func12, Try.ntmps12
    go_wp2_with (first
      | (go_at_call 18; (with_reducible refine (HA.out _).mono ?_); rintro E1 w1 ⟨rfl, hw⟩; obtain ⟨c0, c1, c2, c3, c4, c5, c6, c7, c8, c9, c10, c11⟩ := HB0.out _ hw; have HXw1 := Lib.hid hw; have HWw1 := Lib.hid (HS.out.trans hw); clear hw)
      | (go_at_call 30; (with_reducible refine (HW.out _).mono ?_); rintro E1 w2 ⟨rfl, hw⟩; have hw0 := HXw1.out.trans hw; clear hw; have hw := hw0; clear hw0; obtain ⟨c0, c1, c2, c3, c4, c5, c6, c7, c8, c9, c10, c11⟩ := HB0.out _ hw; have HXw2 := Lib.hid hw; have HWw2 := Lib.hid (HS.out.trans hw); clear hw)
      | (go_at_call 29; (with_reducible refine (HP.out _).mono ?_); rintro E1 w3 ⟨rfl, hw⟩; have hw0 := HXw2.out.trans hw; clear hw; have hw := hw0; clear hw0; obtain ⟨c0, c1, c2, c3, c4, c5, c6, c7, c8, c9, c10, c11⟩ := HB0.out _ hw; have HXw3 := Lib.hid hw; have HWw3 := Lib.hid (HS.out.trans hw); clear hw))
    go_ret2
    exact ⟨rfl, HWw3.out⟩
theorem encode_any (f : Fr) (hd : f.d.size ≤ 9223372036854775807) (w : World) : Calls Try.prog 12 #[frV f] w fun e w' => e = .returned (.tuple #[.string (encR f).1, .int .i64 (encR f).2]) ∧ Same w w' := by
  unfold encR
  rcases chk_01 f with ⟨h1, h2⟩ | ⟨h1, h2⟩
  · rw [if_pos h1]
    have hb := ok_k h1
    rcases wrR_cases f with h | ⟨S, L, h, _, _, _, h5, h6⟩
    · rw [h]
      obtain ⟨k, s, t, l, q, fl, n, e, sl, r, ep, d⟩ := f
      exact encode_good k s t l q fl n e sl r ep d h2 _ _ 8 hb hd h _ (.inl ⟨rfl, rfl⟩) w
    · rw [h]
      obtain ⟨k, s, t, l, q, fl, n, e, sl, r, ep, d⟩ := f
      exact encode_good k s t l q fl n e sl r ep d h2 _ _ 0 hb hd h _ (.inr ⟨rfl, by omega, rfl⟩) w
  · rw [if_neg (by rw [h1]; decide)]
    obtain ⟨k, s, t, l, q, fl, n, e, sl, r, ep, d⟩ := f
    exact encode_bad k s t l q fl n e sl r ep d h2 w
def timR (f : Fr) : Int × Int := if (encR f).2 ≠ 0 then (0, (encR f).2) else (32 * ((if f.k = 2 then 20 else ((encR f).1.size : Int)) + 6), 0)
set_option maxRecDepth 100000 in
theorem time_core (k s t l q fl n e sl r ep : Int) (d : ByteArray) (hd : d.size ≤ 9223372036854775807) (S : ByteArray) (E : Int) (he : encR ⟨k, s, t, l, q, fl, n, e, sl, r, ep, d⟩ = (S, E)) (hS : S.size ≤ 127) (R : Int × Int) (hR : timR ⟨k, s, t, l, q, fl, n, e, sl, r, ep, d⟩ = R) (w : World) : Calls Try.prog 14 #[frV ⟨k, s, t, l, q, fl, n, e, sl, r, ep, d⟩] w fun e w' => e = .returned (.tuple #[.int .i64 R.1, .int .i64 R.2]) ∧ Same w w' := by
  have hA := fun w1 => encode_any ⟨k, s, t, l, q, fl, n, e, sl, r, ep, d⟩ hd w1
  unfold timR at hR
  rw [he] at hA hR
  dsimp only at hR
  have HA := Lib.hid hA
  clear hA he hd
  have HS := Lib.hid ((Same.refl w).alloc (.cells (frC ⟨k, s, t, l, q, fl, n, e, sl, r, ep, d⟩) 23))
  have HB0 := Lib.hid (fun (w1 : World) (h : Same (w.alloc (.cells (frC ⟨k, s, t, l, q, fl, n, e, sl, r, ep, d⟩) 23)) w1) => fr_cells (fr_box h))
  by_cases h0 : E = 0
  · subst h0
    rw [if_neg (by simp)] at hR
    by_cases h2 : k = 2
    · subst h2
      rw [if_pos rfl] at hR
      have HR := Lib.hid hR; clear hR
      go_enter Try.func14, Try.ntmps14
      go_wp2_with (go_at_call 12; (with_reducible refine (HA.out _).mono ?_); rintro E1 w1 ⟨rfl, hw⟩; obtain ⟨c0, c1, c2, c3, c4, c5, c6, c7, c8, c9, c10, c11⟩ := HB0.out _ hw; have HXw1 := Lib.hid hw; have HWw1 := Lib.hid (HS.out.trans hw); clear hw)
      go_ret2
      exact ⟨by rw [← HR.out]; rfl, HWw1.out⟩
    · rw [if_neg h2] at hR
      have h2' : (k == 2) = false := by simpa using h2
      have m1 : IntKind.i64.wrap ((S.size : Int) + 6) = (S.size : Int) + 6 := IntWalk.i64_in _ (by omega)
      have m2 : IntKind.i64.wrap (32 * ((S.size : Int) + 6)) = 32 * ((S.size : Int) + 6) := IntWalk.i64_in _ (by omega)
      have p1 : wrap64 ((S.size : Int) + 6) = (S.size : Int) + 6 := IntWalk.wrap64_in _ (by omega)
      have p2 : wrap64 (32 * ((S.size : Int) + 6)) = 32 * ((S.size : Int) + 6) := IntWalk.wrap64_in _ (by omega)
      have HR := Lib.hid hR; clear hR h2
      generalize hz : S.size = z at *
      have HZ := Lib.hid hz; clear hz
      go_enter Try.func14, Try.ntmps14
      go_wp2_with (go_at_call 12; (with_reducible refine (HA.out _).mono ?_); rintro E1 w1 ⟨rfl, hw⟩; obtain ⟨c0, c1, c2, c3, c4, c5, c6, c7, c8, c9, c10, c11⟩ := HB0.out _ hw; have HXw1 := Lib.hid hw; have HWw1 := Lib.hid (HS.out.trans hw); clear hw)
      go_ret2
      exact ⟨by rw [← HR.out]; first | rfl | (rw [← HZ.out]; rfl) | (simp [HZ.out, p1, p2]), HWw1.out⟩
  · rw [if_pos h0] at hR
    have h0' : (E != 0) = true := by simpa using h0
    have HR := Lib.hid hR; clear hR h0
    go_enter Try.func14, Try.ntmps14
    go_wp2_with (go_at_call 12; (with_reducible refine (HA.out _).mono ?_); rintro E1 w1 ⟨rfl, hw⟩; obtain ⟨c0, c1, c2, c3, c4, c5, c6, c7, c8, c9, c10, c11⟩ := HB0.out _ hw; have HXw1 := Lib.hid hw; have HWw1 := Lib.hid (HS.out.trans hw); clear hw)
    go_ret2
    exact ⟨by rw [← HR.out]; rfl, HWw1.out⟩
theorem encR_size (f : Fr) : (encR f).1.size ≤ 127 := by
  unfold encR
  by_cases h1 : okB f = true
  · rw [if_pos h1]
    rcases wrR_cases f with h | ⟨S, L, h, _, _, _, h5, h6⟩
    · rw [h]; simp [ByteArray.size]
    · rw [h, if_neg (by simp)]
      show (Cr.prot S).size ≤ 127
      rw [Cr.prot_size]; omega
  · rw [if_neg h1]; simp [ByteArray.size]
theorem time_any (f : Fr) (hd : f.d.size ≤ 9223372036854775807) (w : World) : Calls Try.prog 14 #[frV f] w fun e w' => e = .returned (.tuple #[.int .i64 (timR f).1, .int .i64 (timR f).2]) ∧ Same w w' := by
  have hz := encR_size f
  obtain ⟨k, s, t, l, q, fl, n, e, sl, r, ep, d⟩ := f
  exact time_core k s t l q fl n e sl r ep d hd _ _ rfl hz _ rfl w
def romR (f : Fr) : Int × Int := if okB f = true ∧ f.k ≠ 2 then (if (wrR f).2.2 ≠ 0 then (0, (wrR f).2.2) else ((1000 - ((wrR f).2.1 : Int)) / 8, 0)) else (0, 1)
set_option maxRecDepth 100000 in
theorem room_bad (k s t l q fl n e sl r ep : Int) (d : ByteArray) (c : Int) (hc : chk ⟨k, s, t, l, q, fl, n, e, sl, r, ep, d⟩ = c) (hx : c = 1 ∨ (c = 0 ∧ k = 2)) (w : World) : Calls Try.prog 16 #[frV ⟨k, s, t, l, q, fl, n, e, sl, r, ep, d⟩] w fun e w' => e = .returned (.tuple #[.int .i64 0, .int .i64 1]) ∧ Same w w' := by
  have hA := fun w1 => check_any ⟨k, s, t, l, q, fl, n, e, sl, r, ep, d⟩ w1
  rw [hc] at hA
  have HA := Lib.hid hA
  clear hA hc
  have HS := Lib.hid ((Same.refl w).alloc (.cells (frC ⟨k, s, t, l, q, fl, n, e, sl, r, ep, d⟩) 23))
  have HB0 := Lib.hid (fun (w1 : World) (h : Same (w.alloc (.cells (frC ⟨k, s, t, l, q, fl, n, e, sl, r, ep, d⟩) 23)) w1) => fr_cells (fr_box h))
  rcases hx with rfl | ⟨rfl, rfl⟩
  all_goals
    go_enter Try.func16, Try.ntmps16
    go_wp2_with (go_at_call 18; (with_reducible refine (HA.out _).mono ?_); rintro E1 w1 ⟨rfl, hw⟩; obtain ⟨c0, c1, c2, c3, c4, c5, c6, c7, c8, c9, c10, c11⟩ := HB0.out _ hw; have HXw1 := Lib.hid hw; have HWw1 := Lib.hid (HS.out.trans hw); clear hw)
    go_ret2
    exact ⟨rfl, HWw1.out⟩
set_option maxRecDepth 100000 in
theorem room_good (k s t l q fl n e sl r ep : Int) (d : ByteArray) (hc : chk ⟨k, s, t, l, q, fl, n, e, sl, r, ep, d⟩ = 0) (h2 : (k == 2) = false) (S : ByteArray) (L : Nat) (E : Int) (hb : -9223372036854775808 ≤ k ∧ k ≤ 9223372036854775807) (hd : d.size ≤ 9223372036854775807) (hw : wrR ⟨k, s, t, l, q, fl, n, e, sl, r, ep, d⟩ = (S, L, E)) (R : Int) (hE : (E = 8 ∧ R = 0) ∨ (E = 0 ∧ L ≤ 1000 ∧ R = (1000 - (L : Int)) / 8)) (w : World) : Calls Try.prog 16 #[frV ⟨k, s, t, l, q, fl, n, e, sl, r, ep, d⟩] w fun e w' => e = .returned (.tuple #[.int .i64 R, .int .i64 E]) ∧ Same w w' := by
  have hA := fun w1 => check_any ⟨k, s, t, l, q, fl, n, e, sl, r, ep, d⟩ w1
  have hW := fun w1 => write_any ⟨k, s, t, l, q, fl, n, e, sl, r, ep, d⟩ hb hd w1
  rw [hc] at hA
  rw [hw] at hW
  have HA := Lib.hid hA
  have HW := Lib.hid hW
  clear hA hc hW hb hd hw
  have HS := Lib.hid ((Same.refl w).alloc (.cells (frC ⟨k, s, t, l, q, fl, n, e, sl, r, ep, d⟩) 23))
  have HB0 := Lib.hid (fun (w1 : World) (h : Same (w.alloc (.cells (frC ⟨k, s, t, l, q, fl, n, e, sl, r, ep, d⟩) 23)) w1) => fr_cells (fr_box h))
  rcases hE with ⟨rfl, rfl⟩ | ⟨rfl, hL, hR⟩
  · go_enter Try.func16, Try.ntmps16
    go_wp2_with (first
      | (go_at_call 18; (with_reducible refine (HA.out _).mono ?_); rintro E1 w1 ⟨rfl, hw⟩; obtain ⟨c0, c1, c2, c3, c4, c5, c6, c7, c8, c9, c10, c11⟩ := HB0.out _ hw; have HXw1 := Lib.hid hw; have HWw1 := Lib.hid (HS.out.trans hw); clear hw)
      | (go_at_call 30; (with_reducible refine (HW.out _).mono ?_); rintro E1 w2 ⟨rfl, hw⟩; have hw0 := HXw1.out.trans hw; clear hw; have hw := hw0; clear hw0; obtain ⟨c0, c1, c2, c3, c4, c5, c6, c7, c8, c9, c10, c11⟩ := HB0.out _ hw; have HXw2 := Lib.hid hw; have HWw2 := Lib.hid (HS.out.trans hw); clear hw))
    go_ret2
    exact ⟨rfl, HWw2.out⟩
  · have q1 : (1000 - (L : Int)).tdiv 8 = R := by rw [hR]; exact Int.tdiv_eq_ediv_of_nonneg (by omega)
    have q2 : IntKind.i64.wrap (1000 - (L : Int)) = 1000 - (L : Int) := IntWalk.i64_in _ (by omega)
    have q3 : IntKind.i64.wrap R = R := IntWalk.i64_in _ (by omega)
    have HRR := Lib.hid hR
    clear hL hR
    go_enter Try.func16, Try.ntmps16
    go_wp2_with (first
      | (go_at_call 18; (with_reducible refine (HA.out _).mono ?_); rintro E1 w1 ⟨rfl, hw⟩; obtain ⟨c0, c1, c2, c3, c4, c5, c6, c7, c8, c9, c10, c11⟩ := HB0.out _ hw; have HXw1 := Lib.hid hw; have HWw1 := Lib.hid (HS.out.trans hw); clear hw)
      | (go_at_call 30; (with_reducible refine (HW.out _).mono ?_); rintro E1 w2 ⟨rfl, hw⟩; have hw0 := HXw1.out.trans hw; clear hw; have hw := hw0; clear hw0; obtain ⟨c0, c1, c2, c3, c4, c5, c6, c7, c8, c9, c10, c11⟩ := HB0.out _ hw; have HXw2 := Lib.hid hw; have HWw2 := Lib.hid (HS.out.trans hw); clear hw))
    go_ret2
    exact ⟨by first | rfl | (rw [HRR.out]; rfl), HWw2.out⟩
theorem room_any (f : Fr) (hd : f.d.size ≤ 9223372036854775807) (w : World) : Calls Try.prog 16 #[frV f] w fun e w' => e = .returned (.tuple #[.int .i64 (romR f).1, .int .i64 (romR f).2]) ∧ Same w w' := by
  unfold romR
  rcases chk_01 f with ⟨h1, h2⟩ | ⟨h1, h2⟩
  · by_cases h3 : f.k = 2
    · rw [if_neg (fun x => x.2 h3)]
      obtain ⟨k, s, t, l, q, fl, n, e, sl, r, ep, d⟩ := f
      exact room_bad k s t l q fl n e sl r ep d _ h2 (.inr ⟨rfl, h3⟩) w
    · rw [if_pos ⟨h1, h3⟩]
      have hb := ok_k h1
      rcases wrR_cases f with h | ⟨S, L, h, _, _, _, h5, h6⟩
      · rw [h]
        obtain ⟨k, s, t, l, q, fl, n, e, sl, r, ep, d⟩ := f
        exact room_good k s t l q fl n e sl r ep d h2 (by simpa using h3) _ _ 8 hb hd h _ (.inl ⟨rfl, rfl⟩) w
      · rw [h]
        obtain ⟨k, s, t, l, q, fl, n, e, sl, r, ep, d⟩ := f
        exact room_good k s t l q fl n e sl r ep d h2 (by simpa using h3) _ _ 0 hb hd h _ (.inr ⟨rfl, h5, rfl⟩) w
  · rw [if_neg (by rw [h1]; simp)]
    obtain ⟨k, s, t, l, q, fl, n, e, sl, r, ep, d⟩ := f
    exact room_bad k s t l q fl n e sl r ep d _ h2 (.inl rfl) w
end Go.Proofs.Ytilpbbpdchbdfaa
