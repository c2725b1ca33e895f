/- TimesyncOne: what is long, and Run's error. -/
import Derived.Test.YtffcoeadpicohaaOneD
import Derived.Deep.RegionHeld3
namespace Go.Proofs.Ytffcoeadpicohaa
open Go.RowKit Go.Deep

namespace timesyncOne
theorem keepO {w0 w w1 w2 : World} {a b : Value} {g : Nat} (h : w1.cell? ⟨g, 0, none⟩ = some a ∧ w1.cell? ⟨g, 1, none⟩ = some b ∧ Same w0 w1 ∧ Same w w1) (k : Same w1 w2) : w2.cell? ⟨g, 0, none⟩ = some a ∧ w2.cell? ⟨g, 1, none⟩ = some b ∧ Same w0 w2 ∧ Same w w2 := ⟨k.cell h.1, k.cell h.2.1, h.2.2.1.trans k, h.2.2.2.trans k⟩
set_option maxHeartbeats 6400000 in
set_option maxRecDepth 100000 in
theorem early (w : World) (v0 v1 v2 : Value) (l : List St) (zs : List Int) (xs : List Sn) (t : Int) (h0 : Lst w v0 l.length (ycells l)) (h1 : Lst w v1 zs.length (icells zs)) (h2 : Lst w v2 xs.length (xcells xs)) (hl : 40 < l.length ∨ (l.length ≤ 40 ∧ 40 < zs.length) ∨ (l.length ≤ 40 ∧ zs.length ≤ 40 ∧ 40 < xs.length)) :
    Calls Try.prog 6 #[.agg #[v0, v1], v2, .int .u8 t] w fun e w' => e = .returned (.bool true) ∧ Same w w' := by
  have HAW := Lib.hid (fun w => tawake_any w)
  obtain ⟨a0, k0, rfl⟩ := h0.shape
  obtain ⟨a1, k1, rfl⟩ := h1.shape
  obtain ⟨a2, k2, rfl⟩ := h2.shape
  clear h0 h1 h2
  generalize l.length = n0 at *
  generalize zs.length = n1 at *
  generalize xs.length = n2 at *
  have c0 : ((w.alloc (.cells #[.slice a0 n0 k0, .slice a1 n1 k1] 39)).cell? ⟨w.heap.size, 0, none⟩) = some (.slice a0 n0 k0) := by go_simp
  have c1 : ((w.alloc (.cells #[.slice a0 n0 k0, .slice a1 n1 k1] 39)).cell? ⟨w.heap.size, 1, none⟩) = some (.slice a1 n1 k1) := by go_simp
  have HC := Lib.hid (And.intro c0 c1); clear c0 c1
  have HS0 := Lib.hid ((Same.refl w).alloc (.cells #[.slice a0 n0 k0, .slice a1 n1 k1] 39))
  rcases hl with hl | ⟨hl, hl2⟩ | ⟨hl, hl2, hl3⟩
  all_goals
    go_enter Try.func6, Try.ntmps6
    go_wp2_with (go_at_call 10; (with_reducible refine (HAW.out _).mono ?_); rintro e w1 ⟨rfl, hw⟩; have HB := Lib.hid (HS0.out.trans hw); have d0 := hw.cell HC.out.1; have d1 := hw.cell HC.out.2; clear hw)
    go_ret
    exact ⟨rfl, HB.out⟩
set_option maxHeartbeats 6400000 in
set_option maxRecDepth 100000 in
theorem bad (w : World) (v0 v1 v2 : Value) (l : List St) (zs : List Int) (xs : List Sn) (t : Int) (h0 : Lst w v0 l.length (ycells l)) (h1 : Lst w v1 zs.length (icells zs)) (h2 : Lst w v2 xs.length (xcells xs)) (hl0 : l.length ≤ 40) (hl1 : zs.length ≤ 40) (hl2 : xs.length ≤ 40) (hbad : ¬ (runU l zs xs).2.2 = 0) :
    Calls Try.prog 6 #[.agg #[v0, v1], v2, .int .u8 t] w fun e w' => e = .returned (.bool true) ∧ Same w w' := by
  have HAW := Lib.hid (fun w => tawake_any w)
  have HCI := Lib.hid (fun (w1 : World) (hs : Same w w1) => (CloneI_any w1 v1 zs.length (icells zs) (h1.same hs) (icells_length zs) (icells_one zs) hl1).mono (fun e w' h => (show ∃ v', e = .returned v' ∧ Same w1 w' ∧ Lst w' v' zs.length (icells zs) from by obtain ⟨v', he, ho, hs'⟩ := h; exact ⟨v', he, hs', Lst.of_own ho⟩)))
  have HCY := Lib.hid (fun (w1 : World) (hs : Same w w1) => (CloneY_any w1 v0 l.length (ycells l) (h0.same hs) (ycells_length l) (ycells_one l) hl0).mono (fun e w' h => (show ∃ v', e = .returned v' ∧ Same w1 w' ∧ Lst w' v' l.length (ycells l) from by obtain ⟨v', he, ho, hs'⟩ := h; exact ⟨v', he, hs', Lst.of_own ho⟩)))
  have HCX := Lib.hid (fun (w1 : World) (hs : Same w w1) => (CloneX_any w1 v2 xs.length (xcells xs) (h2.same hs) (xcells_length xs) (xcells_one xs) hl2).mono (fun e w' h => (show ∃ v', e = .returned v' ∧ Same w1 w' ∧ Lst w' v' xs.length (xcells xs) from by obtain ⟨v', he, ho, hs'⟩ := h; exact ⟨v', he, hs', Lst.of_own ho⟩)))
  have hr := fun (w1 : World) (u0 u1 u2 : Value) (g0 : Lst w1 u0 l.length (ycells l)) (g1 : Lst w1 u1 zs.length (icells zs)) (g2 : Lst w1 u2 xs.length (xcells xs)) => (Run_any w1 u0 u1 u2 l zs xs g0 g1 g2 (by omega) (by omega) (by omega)).mono (fun e w' h => h.uni)
  obtain ⟨b1, b2, b3⟩ := runU_bad hbad
  generalize runU l zs xs = RU at *
  obtain ⟨RU, ri, re⟩ := RU
  simp only at b1 b2 b3 hbad
  subst b1
  have HR := Lib.hid hr; clear hr
  have hne : (re != 0) = true := by simpa using hbad
  clear hbad
  obtain ⟨a0, k0, rfl⟩ := h0.shape
  obtain ⟨a1, k1, rfl⟩ := h1.shape
  obtain ⟨a2, k2, rfl⟩ := h2.shape
  clear h0 h1 h2
  generalize l.length = n0 at *
  generalize zs.length = n1 at *
  generalize xs.length = n2 at *
  have c0 : ((w.alloc (.cells #[.slice a0 n0 k0, .slice a1 n1 k1] 39)).cell? ⟨w.heap.size, 0, none⟩) = some (.slice a0 n0 k0) := by go_simp
  have c1 : ((w.alloc (.cells #[.slice a0 n0 k0, .slice a1 n1 k1] 39)).cell? ⟨w.heap.size, 1, none⟩) = some (.slice a1 n1 k1) := by go_simp
  have HC := Lib.hid (And.intro c0 c1); clear c0 c1
  have HS0 := Lib.hid ((Same.refl w).alloc (.cells #[.slice a0 n0 k0, .slice a1 n1 k1] 39))
  go_enter Try.func6, Try.ntmps6
  go_wp2_with (go_at_call 10; (with_reducible refine (HAW.out _).mono ?_); rintro e w4 ⟨rfl, hw⟩; have HB4 := Lib.hid (HS0.out.trans hw); have d0 := hw.cell HC.out.1; have d1 := hw.cell HC.out.2; clear hw)
  clear HAW HC HS0
  have hr4 := (Same.refl w4).drew
  have hs4 := HB4.out.drew
  go_region_held3 (fun w' => w'.cell? ⟨w.heap.size, 0, none⟩ = some (.slice a0 n0 k0) ∧ w'.cell? ⟨w.heap.size, 1, none⟩ = some (.slice a1 n1 k1) ∧ Same w w' ∧ Same w4 w')
    (first | exact ⟨d0, d1, hs4, hr4⟩ | exact keepO (by assumption) (by assumption) | assumption)
    (first
      | (go_at_call 22; refine (HCI.out _ (by first | exact hs4 | exact (by assumption : _ ∧ _ ∧ Same w _ ∧ _).2.2.1)).mono ?_; rintro e w5 ⟨u1, rfl, hk5, hL5⟩)
      | (go_at_call 25; refine (HCY.out _ (by first | exact hs4 | exact (by assumption : _ ∧ _ ∧ Same w _ ∧ _).2.2.1)).mono ?_; rintro e w6 ⟨u0, rfl, hk6, hL6⟩)
      | (go_at_call 26; refine (HCX.out _ (by first | exact hs4 | exact (by assumption : _ ∧ _ ∧ Same w _ ∧ _).2.2.1)).mono ?_; rintro e w7 ⟨u2, rfl, hk7, hL7⟩)
      | (go_at_call 24; refine (HR.out _ _ _ _ (by first | assumption | exact hL6.same (by first | assumption | exact Same.trans (by assumption) (by assumption))) (by first | assumption | exact hL5.same (by first | assumption | exact Same.trans (by assumption) (by assumption))) (by first | assumption | exact hL7.same (by first | assumption | exact Same.trans (by assumption) (by assumption)))).mono ?_; rintro e w8 ⟨vc, rfl, hk8, hL8⟩))
  obtain ⟨e0, e1, hs8, hr8⟩ := (by assumption : w8.cell? ⟨w.heap.size, 0, none⟩ = some (.slice a0 n0 k0) ∧ w8.cell? ⟨w.heap.size, 1, none⟩ = some (.slice a1 n1 k1) ∧ Same w w8 ∧ Same w4 w8)
  have HS8 := Lib.hid hs8
  obtain ⟨ac, kc, rfl⟩ := hL8.shape
  clear hs8 hr8 hL8 hk8 hk7 hk6 hk5 hL7 hL6 hL5 d0 d1 hs4 hr4 HB4 HR HCX HCI HCY e0 e1
  go_wp2
  go_ret
  exact ⟨by first | rfl | (simp; omega), HS8.out⟩
end timesyncOne
end Go.Proofs.Ytffcoeadpicohaa
