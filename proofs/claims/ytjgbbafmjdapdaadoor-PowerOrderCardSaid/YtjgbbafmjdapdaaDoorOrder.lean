/- PowerOrder: for all ints the law returns true: more decibels are not less power, and more from 6 decibels on; a power lies between that of its decibels and that of one more. The condition: the package's table of a decade holds what the program's text lays; the card ties it. -/
import Derived.Test.YtjgbbafmjdapdaaDoorLaid
namespace Go.Proofs.YtjgbbafmjdapdaaDoor
open Go.RowKit

namespace powerOrder
theorem lev_strict : ∀ i, i < 108 → 6 ≤ i → lev i < lev (i + 1) := by decide +kernel
/-- What the second half asks: the decibels of u, the levels beside it. -/
abbrev Half (w : World) (u : Int) (d e : Int) : Prop := ∀ w1, Same w w1 → Calls Tryd.prog 14 #[.int .i64 u] w1 fun x w' => x = .returned (.tuple #[.int .i64 d, .int .i64 e]) ∧ Same w1 w'
abbrev Lv (w : World) (n x e : Int) : Prop := ∀ w1, Same w w1 → Calls Tryd.prog 12 #[.int .i64 n] w1 fun y w' => y = .returned (.tuple #[.int .i64 x, .int .i64 e]) ∧ w' = w1
theorem lv_ok {w : World} (ht : Tab w) (n : Nat) (hn : n ≤ 108) : Lv w n (lev n) 0 := fun w1 h => by
  have := level_api n w1 (ht.same h)
  rw [show levS (n : Int) = ((lev n : Int), 0) by unfold levS; rw [if_pos (by omega)]; rfl] at this; exact this
theorem lv_no {w : World} (ht : Tab w) (n : Int) (hn : n < 0 ∨ 108 < n) : Lv w n 0 2 := fun w1 h => by
  have := level_api n w1 (ht.same h)
  rw [show levS n = (0, 2) by unfold levS; rw [if_neg (by omega)]] at this; exact this
/-- The second half, in its four cases. -/
theorem halves {w : World} (ht : Tab w) (u : Int) :
    (u < 1 ∧ Half w u 0 2) ∨ (1 ≤ u ∧ 68719476736 < u ∧ Half w u 0 2) ∨
    (∃ d : Nat, d < 108 ∧ (lev d : Int) ≤ u ∧ u < (lev (d + 1) : Int) ∧ Half w u d 0 ∧ Lv w d (lev d) 0 ∧ Lv w ((d : Int) + 1) (lev (d + 1)) 0) ∨
    ((lev 108 : Int) ≤ u ∧ Half w u 108 0 ∧ Lv w 108 (lev 108) 0 ∧ Lv w 109 0 2) := by
  by_cases h : Ok u
  · have hH : Half w u (dcb u) 0 := fun w1 h1 => decibels_yes u h w1 (ht.same h1)
    have h1 := dcb_low u h.1
    have h2 := dcb_le u
    by_cases h3 : dcb u < 108
    · refine .inr (.inr (.inl ⟨dcb u, h3, h1, dcb_high u h.1 h3, hH, lv_ok ht _ h2, ?_⟩))
      have := lv_ok ht (dcb u + 1) (by omega)
      rw [show ((dcb u + 1 : Nat) : Int) = (dcb u : Int) + 1 by omega] at this; exact this
    · have e : dcb u = 108 := by omega
      rw [e] at hH h1
      exact .inr (.inr (.inr ⟨h1, hH, lv_ok ht 108 (by omega), lv_no ht 109 (by omega)⟩))
  · have hH : Half w u 0 2 := fun w1 _ => decibels_no u h w1
    by_cases h1 : u < 1
    · exact .inl ⟨h1, hH⟩
    · exact .inr (.inl ⟨by omega, by unfold Ok at h; omega, hH⟩)
set_option maxHeartbeats 3200000 in
theorem small (n : Nat) (hn : n < 6) (u : Int) (w : World) (ht : Tab w) :
    Calls Tryd.prog 6 #[.int .i64 n, .int .i64 u] w fun e w' => e = .returned (.bool true) ∧ Same w w' := by
  have HAW := Lib.hid (awake_any w ht)
  have HLV := Lib.hid (fun (m : Int) (w1 : World) (h : Same w w1) => level_api m w1 (ht.same h))
  have C1 := Lib.hid (lv_ok ht n (by omega))
  have c2 := lv_ok ht (n + 1) (by omega)
  rw [show ((n + 1 : Nat) : Int) = (n : Int) + 1 by omega] at c2
  have C2 := Lib.hid c2; clear c2
  have hm : (lev n : Int) ≤ (lev (n + 1) : Int) := by have := lev_step n (by omega); omega
  have hn6 : (n : Int) < 6 := by omega
  generalize lev n = y1 at *
  generalize lev (n + 1) = y2 at *
  rcases halves ht u with ⟨u1, dd⟩ | ⟨u1, u2, dd⟩ | ⟨d, d1, d2, d3, dd, l1, l2⟩ | ⟨d2, dd, l1, l2⟩
  · have DD := Lib.hid dd
    clear dd ht
    go_enter Tryd.func6, Tryd.ntmps6
    go_wp2_with (first
      | (go_at_call 11; with_reducible refine HAW.out.mono ?_; rintro e w1 ⟨rfl, h⟩; have H := Lib.hid h; clear h)
      | (go_at_call 12; with_reducible refine (C1.out _ H.out).mono ?_; rintro e w2 ⟨rfl, rfl⟩)
      | (go_at_call 12; with_reducible refine (C2.out _ H.out).mono ?_; rintro e w2 ⟨rfl, rfl⟩)
      | (go_at_call 14; with_reducible refine (DD.out _ H.out).mono ?_; rintro e w2 ⟨rfl, h⟩; have H' := Lib.hid (H.out.trans h); clear h H; have H := H'; clear H')
      | (go_at_call 12; with_reducible refine (HLV.out _ _ H.out).mono ?_; rintro e w2 ⟨rfl, rfl⟩))
    go_ret
    exact ⟨rfl, H.out⟩
  · have DD := Lib.hid dd
    clear dd ht
    go_enter Tryd.func6, Tryd.ntmps6
    go_wp2_with (first
      | (go_at_call 11; with_reducible refine HAW.out.mono ?_; rintro e w1 ⟨rfl, h⟩; have H := Lib.hid h; clear h)
      | (go_at_call 12; with_reducible refine (C1.out _ H.out).mono ?_; rintro e w2 ⟨rfl, rfl⟩)
      | (go_at_call 12; with_reducible refine (C2.out _ H.out).mono ?_; rintro e w2 ⟨rfl, rfl⟩)
      | (go_at_call 14; with_reducible refine (DD.out _ H.out).mono ?_; rintro e w2 ⟨rfl, h⟩; have H' := Lib.hid (H.out.trans h); clear h H; have H := H'; clear H')
      | (go_at_call 12; with_reducible refine (HLV.out _ _ H.out).mono ?_; rintro e w2 ⟨rfl, rfl⟩))
    go_ret
    exact ⟨rfl, H.out⟩
  · have DD := Lib.hid dd
    have L1 := Lib.hid l1
    have L2 := Lib.hid l2
    clear dd l1 l2 ht
    generalize lev d = z1 at *
    generalize lev (d + 1) = z2 at *
    go_enter Tryd.func6, Tryd.ntmps6
    go_wp2_with (first
      | (go_at_call 11; with_reducible refine HAW.out.mono ?_; rintro e w1 ⟨rfl, h⟩; have H := Lib.hid h; clear h)
      | (go_at_call 12; with_reducible refine (C1.out _ H.out).mono ?_; rintro e w2 ⟨rfl, rfl⟩)
      | (go_at_call 12; with_reducible refine (C2.out _ H.out).mono ?_; rintro e w2 ⟨rfl, rfl⟩)
      | (go_at_call 12; with_reducible refine (L1.out _ H.out).mono ?_; rintro e w2 ⟨rfl, rfl⟩)
      | (go_at_call 12; with_reducible refine (L2.out _ H.out).mono ?_; rintro e w2 ⟨rfl, rfl⟩)
      | (go_at_call 14; with_reducible refine (DD.out _ H.out).mono ?_; rintro e w2 ⟨rfl, h⟩; have H' := Lib.hid (H.out.trans h); clear h H; have H := H'; clear H')
      | (go_at_call 12; with_reducible refine (HLV.out _ _ H.out).mono ?_; rintro e w2 ⟨rfl, rfl⟩))
    go_ret
    exact ⟨rfl, H.out⟩
  · have DD := Lib.hid dd
    have L1 := Lib.hid l1
    have L2 := Lib.hid l2
    clear dd l1 l2 ht
    generalize lev 108 = z1 at *
    go_enter Tryd.func6, Tryd.ntmps6
    go_wp2_with (first
      | (go_at_call 11; with_reducible refine HAW.out.mono ?_; rintro e w1 ⟨rfl, h⟩; have H := Lib.hid h; clear h)
      | (go_at_call 12; with_reducible refine (C1.out _ H.out).mono ?_; rintro e w2 ⟨rfl, rfl⟩)
      | (go_at_call 12; with_reducible refine (C2.out _ H.out).mono ?_; rintro e w2 ⟨rfl, rfl⟩)
      | (go_at_call 12; with_reducible refine (L1.out _ H.out).mono ?_; rintro e w2 ⟨rfl, rfl⟩)
      | (go_at_call 12; with_reducible refine (L2.out _ H.out).mono ?_; rintro e w2 ⟨rfl, rfl⟩)
      | (go_at_call 14; with_reducible refine (DD.out _ H.out).mono ?_; rintro e w2 ⟨rfl, h⟩; have H' := Lib.hid (H.out.trans h); clear h H; have H := H'; clear H')
      | (go_at_call 12; with_reducible refine (HLV.out _ _ H.out).mono ?_; rintro e w2 ⟨rfl, rfl⟩))
    go_ret
    exact ⟨rfl, H.out⟩
set_option maxHeartbeats 3200000 in
theorem large (n : Nat) (hn : 6 ≤ n) (hn2 : n < 108) (u : Int) (w : World) (ht : Tab w) :
    Calls Tryd.prog 6 #[.int .i64 n, .int .i64 u] w fun e w' => e = .returned (.bool true) ∧ Same w w' := by
  have HAW := Lib.hid (awake_any w ht)
  have HLV := Lib.hid (fun (m : Int) (w1 : World) (h : Same w w1) => level_api m w1 (ht.same h))
  have C1 := Lib.hid (lv_ok ht n (by omega))
  have c2 := lv_ok ht (n + 1) (by omega)
  rw [show ((n + 1 : Nat) : Int) = (n : Int) + 1 by omega] at c2
  have C2 := Lib.hid c2; clear c2
  have hm : (lev n : Int) < (lev (n + 1) : Int) := by have := lev_strict n hn2 hn; omega
  have hne : ((lev n : Int) == (lev (n + 1) : Int)) = false := by rw [beq_eq_false_iff_ne]; omega
  have hn6 : 6 ≤ (n : Int) := by omega
  have hn8 : (n : Int) < 108 := by omega
  generalize lev n = y1 at *
  generalize lev (n + 1) = y2 at *
  rcases halves ht u with ⟨u1, dd⟩ | ⟨u1, u2, dd⟩ | ⟨d, d1, d2, d3, dd, l1, l2⟩ | ⟨d2, dd, l1, l2⟩
  · have DD := Lib.hid dd
    clear dd ht
    go_enter Tryd.func6, Tryd.ntmps6
    go_wp2_with (first
      | (go_at_call 11; with_reducible refine HAW.out.mono ?_; rintro e w1 ⟨rfl, h⟩; have H := Lib.hid h; clear h)
      | (go_at_call 12; with_reducible refine (C1.out _ H.out).mono ?_; rintro e w2 ⟨rfl, rfl⟩)
      | (go_at_call 12; with_reducible refine (C2.out _ H.out).mono ?_; rintro e w2 ⟨rfl, rfl⟩)
      | (go_at_call 14; with_reducible refine (DD.out _ H.out).mono ?_; rintro e w2 ⟨rfl, h⟩; have H' := Lib.hid (H.out.trans h); clear h H; have H := H'; clear H')
      | (go_at_call 12; with_reducible refine (HLV.out _ _ H.out).mono ?_; rintro e w2 ⟨rfl, rfl⟩))
    go_ret
    exact ⟨rfl, H.out⟩
  · have DD := Lib.hid dd
    clear dd ht
    go_enter Tryd.func6, Tryd.ntmps6
    go_wp2_with (first
      | (go_at_call 11; with_reducible refine HAW.out.mono ?_; rintro e w1 ⟨rfl, h⟩; have H := Lib.hid h; clear h)
      | (go_at_call 12; with_reducible refine (C1.out _ H.out).mono ?_; rintro e w2 ⟨rfl, rfl⟩)
      | (go_at_call 12; with_reducible refine (C2.out _ H.out).mono ?_; rintro e w2 ⟨rfl, rfl⟩)
      | (go_at_call 14; with_reducible refine (DD.out _ H.out).mono ?_; rintro e w2 ⟨rfl, h⟩; have H' := Lib.hid (H.out.trans h); clear h H; have H := H'; clear H')
      | (go_at_call 12; with_reducible refine (HLV.out _ _ H.out).mono ?_; rintro e w2 ⟨rfl, rfl⟩))
    go_ret
    exact ⟨rfl, H.out⟩
  · have DD := Lib.hid dd
    have L1 := Lib.hid l1
    have L2 := Lib.hid l2
    clear dd l1 l2 ht
    generalize lev d = z1 at *
    generalize lev (d + 1) = z2 at *
    go_enter Tryd.func6, Tryd.ntmps6
    go_wp2_with (first
      | (go_at_call 11; with_reducible refine HAW.out.mono ?_; rintro e w1 ⟨rfl, h⟩; have H := Lib.hid h; clear h)
      | (go_at_call 12; with_reducible refine (C1.out _ H.out).mono ?_; rintro e w2 ⟨rfl, rfl⟩)
      | (go_at_call 12; with_reducible refine (C2.out _ H.out).mono ?_; rintro e w2 ⟨rfl, rfl⟩)
      | (go_at_call 12; with_reducible refine (L1.out _ H.out).mono ?_; rintro e w2 ⟨rfl, rfl⟩)
      | (go_at_call 12; with_reducible refine (L2.out _ H.out).mono ?_; rintro e w2 ⟨rfl, rfl⟩)
      | (go_at_call 14; with_reducible refine (DD.out _ H.out).mono ?_; rintro e w2 ⟨rfl, h⟩; have H' := Lib.hid (H.out.trans h); clear h H; have H := H'; clear H')
      | (go_at_call 12; with_reducible refine (HLV.out _ _ H.out).mono ?_; rintro e w2 ⟨rfl, rfl⟩))
    go_ret
    exact ⟨rfl, H.out⟩
  · have DD := Lib.hid dd
    have L1 := Lib.hid l1
    have L2 := Lib.hid l2
    clear dd l1 l2 ht
    generalize lev 108 = z1 at *
    go_enter Tryd.func6, Tryd.ntmps6
    go_wp2_with (first
      | (go_at_call 11; with_reducible refine HAW.out.mono ?_; rintro e w1 ⟨rfl, h⟩; have H := Lib.hid h; clear h)
      | (go_at_call 12; with_reducible refine (C1.out _ H.out).mono ?_; rintro e w2 ⟨rfl, rfl⟩)
      | (go_at_call 12; with_reducible refine (C2.out _ H.out).mono ?_; rintro e w2 ⟨rfl, rfl⟩)
      | (go_at_call 12; with_reducible refine (L1.out _ H.out).mono ?_; rintro e w2 ⟨rfl, rfl⟩)
      | (go_at_call 12; with_reducible refine (L2.out _ H.out).mono ?_; rintro e w2 ⟨rfl, rfl⟩)
      | (go_at_call 14; with_reducible refine (DD.out _ H.out).mono ?_; rintro e w2 ⟨rfl, h⟩; have H' := Lib.hid (H.out.trans h); clear h H; have H := H'; clear H')
      | (go_at_call 12; with_reducible refine (HLV.out _ _ H.out).mono ?_; rintro e w2 ⟨rfl, rfl⟩))
    go_ret
    exact ⟨rfl, H.out⟩
set_option maxHeartbeats 3200000 in
theorem last (u : Int) (w : World) (ht : Tab w) :
    Calls Tryd.prog 6 #[.int .i64 108, .int .i64 u] w fun e w' => e = .returned (.bool true) ∧ Same w w' := by
  have HAW := Lib.hid (awake_any w ht)
  have HLV := Lib.hid (fun (m : Int) (w1 : World) (h : Same w w1) => level_api m w1 (ht.same h))
  have C1 := Lib.hid (show Lv w 108 (lev 108) 0 from lv_ok ht 108 (by omega))
  have C2 := Lib.hid (lv_no ht 109 (by omega))
  rcases halves ht u with ⟨u1, dd⟩ | ⟨u1, u2, dd⟩ | ⟨d, d1, d2, d3, dd, l1, l2⟩ | ⟨d2, dd, l1, l2⟩
  · have DD := Lib.hid dd
    clear dd ht
    go_enter Tryd.func6, Tryd.ntmps6
    go_wp2_with (first
      | (go_at_call 11; with_reducible refine HAW.out.mono ?_; rintro e w1 ⟨rfl, h⟩; have H := Lib.hid h; clear h)
      | (go_at_call 12; with_reducible refine (C1.out _ H.out).mono ?_; rintro e w2 ⟨rfl, rfl⟩)
      | (go_at_call 12; with_reducible refine (C2.out _ H.out).mono ?_; rintro e w2 ⟨rfl, rfl⟩)
      | (go_at_call 14; with_reducible refine (DD.out _ H.out).mono ?_; rintro e w2 ⟨rfl, h⟩; have H' := Lib.hid (H.out.trans h); clear h H; have H := H'; clear H')
      | (go_at_call 12; with_reducible refine (HLV.out _ _ H.out).mono ?_; rintro e w2 ⟨rfl, rfl⟩))
    go_ret
    exact ⟨rfl, H.out⟩
  · have DD := Lib.hid dd
    clear dd ht
    go_enter Tryd.func6, Tryd.ntmps6
    go_wp2_with (first
      | (go_at_call 11; with_reducible refine HAW.out.mono ?_; rintro e w1 ⟨rfl, h⟩; have H := Lib.hid h; clear h)
      | (go_at_call 12; with_reducible refine (C1.out _ H.out).mono ?_; rintro e w2 ⟨rfl, rfl⟩)
      | (go_at_call 12; with_reducible refine (C2.out _ H.out).mono ?_; rintro e w2 ⟨rfl, rfl⟩)
      | (go_at_call 14; with_reducible refine (DD.out _ H.out).mono ?_; rintro e w2 ⟨rfl, h⟩; have H' := Lib.hid (H.out.trans h); clear h H; have H := H'; clear H')
      | (go_at_call 12; with_reducible refine (HLV.out _ _ H.out).mono ?_; rintro e w2 ⟨rfl, rfl⟩))
    go_ret
    exact ⟨rfl, H.out⟩
  · have DD := Lib.hid dd
    have L1 := Lib.hid l1
    have L2 := Lib.hid l2
    clear dd l1 l2 ht
    generalize lev d = z1 at *
    generalize lev (d + 1) = z2 at *
    go_enter Tryd.func6, Tryd.ntmps6
    go_wp2_with (first
      | (go_at_call 11; with_reducible refine HAW.out.mono ?_; rintro e w1 ⟨rfl, h⟩; have H := Lib.hid h; clear h)
      | (go_at_call 12; with_reducible refine (C1.out _ H.out).mono ?_; rintro e w2 ⟨rfl, rfl⟩)
      | (go_at_call 12; with_reducible refine (C2.out _ H.out).mono ?_; rintro e w2 ⟨rfl, rfl⟩)
      | (go_at_call 12; with_reducible refine (L1.out _ H.out).mono ?_; rintro e w2 ⟨rfl, rfl⟩)
      | (go_at_call 12; with_reducible refine (L2.out _ H.out).mono ?_; rintro e w2 ⟨rfl, rfl⟩)
      | (go_at_call 14; with_reducible refine (DD.out _ H.out).mono ?_; rintro e w2 ⟨rfl, h⟩; have H' := Lib.hid (H.out.trans h); clear h H; have H := H'; clear H')
      | (go_at_call 12; with_reducible refine (HLV.out _ _ H.out).mono ?_; rintro e w2 ⟨rfl, rfl⟩))
    go_ret
    exact ⟨rfl, H.out⟩
  · have DD := Lib.hid dd
    have L1 := Lib.hid l1
    have L2 := Lib.hid l2
    clear dd l1 l2 ht
    generalize lev 108 = z1 at *
    go_enter Tryd.func6, Tryd.ntmps6
    go_wp2_with (first
      | (go_at_call 11; with_reducible refine HAW.out.mono ?_; rintro e w1 ⟨rfl, h⟩; have H := Lib.hid h; clear h)
      | (go_at_call 12; with_reducible refine (C1.out _ H.out).mono ?_; rintro e w2 ⟨rfl, rfl⟩)
      | (go_at_call 12; with_reducible refine (C2.out _ H.out).mono ?_; rintro e w2 ⟨rfl, rfl⟩)
      | (go_at_call 12; with_reducible refine (L1.out _ H.out).mono ?_; rintro e w2 ⟨rfl, rfl⟩)
      | (go_at_call 12; with_reducible refine (L2.out _ H.out).mono ?_; rintro e w2 ⟨rfl, rfl⟩)
      | (go_at_call 14; with_reducible refine (DD.out _ H.out).mono ?_; rintro e w2 ⟨rfl, h⟩; have H' := Lib.hid (H.out.trans h); clear h H; have H := H'; clear H')
      | (go_at_call 12; with_reducible refine (HLV.out _ _ H.out).mono ?_; rintro e w2 ⟨rfl, rfl⟩))
    go_ret
    exact ⟨rfl, H.out⟩
set_option maxHeartbeats 3200000 in
theorem outside (n : Int) (hn : n < 0 ∨ 108 < n) (u : Int) (w : World) (ht : Tab w) :
    Calls Tryd.prog 6 #[.int .i64 n, .int .i64 u] w fun e w' => e = .returned (.bool true) ∧ Same w w' := by
  have HAW := Lib.hid (awake_any w ht)
  have HLV := Lib.hid (fun (m : Int) (w1 : World) (h : Same w w1) => level_api m w1 (ht.same h))
  have C1 := Lib.hid (lv_no ht n hn)
  clear hn
  rcases halves ht u with ⟨u1, dd⟩ | ⟨u1, u2, dd⟩ | ⟨d, d1, d2, d3, dd, l1, l2⟩ | ⟨d2, dd, l1, l2⟩
  · have DD := Lib.hid dd
    clear dd ht
    go_enter Tryd.func6, Tryd.ntmps6
    go_wp2_with (first
      | (go_at_call 11; with_reducible refine HAW.out.mono ?_; rintro e w1 ⟨rfl, h⟩; have H := Lib.hid h; clear h)
      | (go_at_call 12; with_reducible refine (C1.out _ H.out).mono ?_; rintro e w2 ⟨rfl, rfl⟩)
      | (go_at_call 14; with_reducible refine (DD.out _ H.out).mono ?_; rintro e w2 ⟨rfl, h⟩; have H' := Lib.hid (H.out.trans h); clear h H; have H := H'; clear H')
      | (go_at_call 12; with_reducible refine (HLV.out _ _ H.out).mono ?_; rintro e w2 ⟨rfl, rfl⟩))
    go_ret
    exact ⟨rfl, H.out⟩
  · have DD := Lib.hid dd
    clear dd ht
    go_enter Tryd.func6, Tryd.ntmps6
    go_wp2_with (first
      | (go_at_call 11; with_reducible refine HAW.out.mono ?_; rintro e w1 ⟨rfl, h⟩; have H := Lib.hid h; clear h)
      | (go_at_call 12; with_reducible refine (C1.out _ H.out).mono ?_; rintro e w2 ⟨rfl, rfl⟩)
      | (go_at_call 14; with_reducible refine (DD.out _ H.out).mono ?_; rintro e w2 ⟨rfl, h⟩; have H' := Lib.hid (H.out.trans h); clear h H; have H := H'; clear H')
      | (go_at_call 12; with_reducible refine (HLV.out _ _ H.out).mono ?_; rintro e w2 ⟨rfl, rfl⟩))
    go_ret
    exact ⟨rfl, H.out⟩
  · have DD := Lib.hid dd
    have L1 := Lib.hid l1
    have L2 := Lib.hid l2
    clear dd l1 l2 ht
    generalize lev d = z1 at *
    generalize lev (d + 1) = z2 at *
    go_enter Tryd.func6, Tryd.ntmps6
    go_wp2_with (first
      | (go_at_call 11; with_reducible refine HAW.out.mono ?_; rintro e w1 ⟨rfl, h⟩; have H := Lib.hid h; clear h)
      | (go_at_call 12; with_reducible refine (C1.out _ H.out).mono ?_; rintro e w2 ⟨rfl, rfl⟩)
      | (go_at_call 12; with_reducible refine (L1.out _ H.out).mono ?_; rintro e w2 ⟨rfl, rfl⟩)
      | (go_at_call 12; with_reducible refine (L2.out _ H.out).mono ?_; rintro e w2 ⟨rfl, rfl⟩)
      | (go_at_call 14; with_reducible refine (DD.out _ H.out).mono ?_; rintro e w2 ⟨rfl, h⟩; have H' := Lib.hid (H.out.trans h); clear h H; have H := H'; clear H')
      | (go_at_call 12; with_reducible refine (HLV.out _ _ H.out).mono ?_; rintro e w2 ⟨rfl, rfl⟩))
    go_ret
    exact ⟨rfl, H.out⟩
  · have DD := Lib.hid dd
    have L1 := Lib.hid l1
    have L2 := Lib.hid l2
    clear dd l1 l2 ht
    generalize lev 108 = z1 at *
    go_enter Tryd.func6, Tryd.ntmps6
    go_wp2_with (first
      | (go_at_call 11; with_reducible refine HAW.out.mono ?_; rintro e w1 ⟨rfl, h⟩; have H := Lib.hid h; clear h)
      | (go_at_call 12; with_reducible refine (C1.out _ H.out).mono ?_; rintro e w2 ⟨rfl, rfl⟩)
      | (go_at_call 12; with_reducible refine (L1.out _ H.out).mono ?_; rintro e w2 ⟨rfl, rfl⟩)
      | (go_at_call 12; with_reducible refine (L2.out _ H.out).mono ?_; rintro e w2 ⟨rfl, rfl⟩)
      | (go_at_call 14; with_reducible refine (DD.out _ H.out).mono ?_; rintro e w2 ⟨rfl, h⟩; have H' := Lib.hid (H.out.trans h); clear h H; have H := H'; clear H')
      | (go_at_call 12; with_reducible refine (HLV.out _ _ H.out).mono ?_; rintro e w2 ⟨rfl, rfl⟩))
    go_ret
    exact ⟨rfl, H.out⟩
theorem walk (n : Int) (_ha : -9223372036854775808 ≤ n ∧ n ≤ 9223372036854775807) (u : Int) (_hb : -9223372036854775808 ≤ u ∧ u ≤ 9223372036854775807) (w : World) (ht : Tab w) :
    Calls Tryd.prog 6 #[.int .i64 n, .int .i64 u] w fun e w' => e = .returned (.bool true) ∧ Same w w' := by
  by_cases h : n < 0 ∨ 108 < n
  · exact outside n h u w ht
  · obtain ⟨n, rfl⟩ := Int.eq_ofNat_of_zero_le (by omega : 0 ≤ n)
    by_cases h1 : n < 6
    · exact small n h1 u w ht
    · by_cases h2 : n < 108
      · exact large n (by omega) h2 u w ht
      · obtain rfl : n = 108 := by omega
        exact last u w ht
open Go.ChangeShapes Go.WideShapes Go.ChangeAt
theorem own : ownKnob Tryd.prog.godebug = none := by kernel_rfl

set_option maxRecDepth 100000 in
theorem lifted (os : Os) (started : os.Started) (H : Type) (enc : TypeId × Value → H) :
    ReturnsInHanded {} Tryd.checked os 6 .any (fun w args => (Rows.powerOrderSpec.pre enc Tryd.prog Tryd.f6 [] false w args ∧ laidMetH Tryd.prog laidL w) ∧ sizedMet enc Tryd.prog Tryd.f6 (OpenSpec.ofChange Rows.powerOrderSpec) false w args) (Rows.powerOrderSpec.post enc Tryd.prog Tryd.f6 false true false false) := by
  refine returnsInHanded_of_change_and (C := Tryd.checked) (X := fun w _ => laidMetH Tryd.prog laidL w) (fun _ _ _ hh h => h.of_heap hh) own started (by kernel_rfl) Tryd.func6
    (ChangeSpec.witness_shaped (enc := enc) (C := Tryd.checked) (os := os) (X := fun w _ => laidMetH Tryd.prog laidL w) false (World.doorLaid Tryd.prog doorSteps os) #[.int .i64 0, .int .i64 0] 8 rfl (World.shaped_of_RefB (by kernel_rfl) (by kernel_rfl)) (by kernel_rfl) (by kernel_rfl) (by kernel_rfl) (door_met os _)) ?_
  intro W base args ds gs before hval0 hW _ _ hL _
  have hval : ∀ (j : Nat) t v, Tryd.f6.params[j]? = some t → args[j]? = some v → Value.okWide Tryd.prog W .any base t v := hval0
  have hW' := hW
  obtain ⟨p, q, hA0, hV, rfl, hfz, hnd⟩ := hW
  have hA : DataW.TrodAll enc Tryd.prog W 0 (fun _ => true) true Tryd.f6.params.toList args.toList ds p := hA0
  rw [Tryd.params6] at hA hval
  obtain ⟨v0, vs0, d0, ds0, p0, q0, hargs, rfl, rfl, h0, r0⟩ := trodAll_cons hA
  obtain ⟨v1, vs1, d1, ds1, p1, q1, rfl, rfl, rfl, h1, r1⟩ := trodAll_cons r0
  obtain ⟨rfl, rfl, rfl⟩ := trodAll_nil r1
  obtain rfl : args = #[v0, v1] := by cases args; simp_all
  obtain ⟨rfl, rfl⟩ := trodVars_none hV
  obtain ⟨a0, rfl, rfl, rfl, w0⟩ := open_int Tryd.underlying3 (hval 0 3 v0 rfl rfl) h0
  obtain ⟨a1, rfl, rfl, rfl, w1⟩ := open_int Tryd.underlying3 (hval 1 3 v1 rfl rfl) h1
  clear hA0 hval0
  try simp only [List.append_nil] at hW'
  try simp only [List.nil_append] at hW'
  have ht := of_laid hL
  refine (walk a0 (bounds_i64 w0) a1 (bounds_i64 w1) W ht).mono fun e W' ⟨he, hg⟩ => ?_
  subst he
  exact ⟨_, rfl, _, _, _, [], _, [], hW', trodAll_cons_mk (shut_bool Tryd.underlying4 _) trodAll_mk0, trodAll_cons_mk (shut_int Tryd.underlying3 w0) (trodAll_cons_mk (shut_int Tryd.underlying3 w1) trodAll_mk0), rfl, (Same.toBelow hg).frame _, fun h => by cases h⟩

theorem row : Rows.PowerOrderSaid :=
  OpenClaim.holds_of_wide 6 Tryd.f6 rfl rfl rfl rfl rfl rfl rfl ⟨rfl, rfl, rfl, rfl, rfl⟩ rfl rfl rfl rfl rfl (by kernel_rfl) Tryd.func6 (by kernel_rfl)
    (of_decide_eq_true (by kernel_rfl)) (by unfold Func.isWrapper; first | (rw [if_pos (by decide +kernel)]; kernel_rfl) | (rw [if_neg (by decide +kernel)]; exact ⟨rfl, rfl⟩))
    (fun os started H enc _ => lifted os started H enc)

theorem proved : Rows.PowerOrderCardSaid :=
  Claim7.holds_tied_plain_at .later [] [.data, .data, .data, .data] true (true, "d6ae8d60838ff313198b094a43dac2e43326492e458907477987a915bcad92b0") true
    row (fun _ h => by cases h) (by kernel_rfl) (fun _ h => by cases h) powerOrder_row_tie rfl ⟨rfl, rfl⟩ (by kernel_rfl) rfl
    (fun f fn hf hfn => by
      obtain rfl : f = 6 := Option.some.inj ((show Tryd.prog.funcNamed "hopmesh/hopmeshlaw04.PowerOrder" = some 6 by kernel_rfl).symm.trans hf) |>.symm
      obtain rfl : fn = Tryd.f6 := (Option.some.inj (Tryd.func6.symm.trans hfn)).symm
      exact ⟨by kernel_rfl, fun j t ht => by
        rw [Tryd.params6] at ht
        have hm : t ∈ [3] := by have hm0 := Array.mem_of_getElem? ht; simp at hm0 ⊢; omega
        have hall : ([3].all fun u => !Tryd.prog.wantsStandIn u) = true := by kernel_rfl
        exact (show Tryd.prog.wantsStandIn t = false by simpa using List.all_eq_true.1 hall t hm)⟩)
    (by kernel_rfl)
end powerOrder
end Go.Proofs.YtjgbbafmjdapdaaDoor
