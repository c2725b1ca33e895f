/- TimesyncOne: all corrections at once and in two parts; who is not named is as he was. -/
import Derived.Test.YtffcoeadpicohaaOneH
namespace Go.Proofs.Ytffcoeadpicohaa
open Go.RowKit Go.Deep

namespace timesyncOne
set_option maxHeartbeats 6400000 in
set_option maxRecDepth 100000 in
theorem good3 (w : World) (v0 v1 : Value) (ao : Option Addr) (c2 : Nat) (l l1 l2 : List St) (zs : List Int) (xs : List Sn) (t : Int) (K : Nat) (h0 : Lst w v0 l.length (ycells l)) (h1 : Lst w v1 zs.length (icells zs)) (h2 : xs.length = 0) (ht : 0 ≤ t ∧ t ≤ 255) (hl0 : l.length ≤ 40) (hl1 : zs.length ≤ 40) (hl2 : xs.length ≤ 40)
    (hK : Int.tmod t ((xs.length : Int) + 1) = K) (hKl : K = xs.length) (hq1 : l1.length = l.length) (hq2 : l2.length = l.length)
    (hr0 : runU l zs xs = (l2, -1, 0)) (hr1 : runU l zs (xs.take K) = (l1, -1, 0)) (hr2 : runU l1 zs (xs.drop K) = (l2, -1, 0))
    (hno : ∀ N : Nat, (∀ i, i < xs.length → ¬ (xs.getD i sn0).1 = (N : Int)) → l2.getD N st0 = l.getD N st0) :
    Calls Try.prog 6 #[.agg #[v0, v1], .slice ao 0 c2, .int .u8 t] w fun e w' => e = .returned (.bool true) ∧ Same w w' := by
  have HAW := Lib.hid (fun w => tawake_any w)
  have HCI := Lib.hid (fun (w1 : World) (hs : Same w w1) => (show Copies 22 v1 w1 zs.length (icells zs) from (CloneI_any w1 v1 zs.length (icells zs) (h1.same hs) (icells_length zs) (icells_one zs) hl1).mono (fun e w' h => by obtain ⟨v', he, ho, hs'⟩ := h; exact ⟨v', he, hs', Lst.of_own ho⟩)))
  have HCY := Lib.hid (fun (w1 : World) (hs : Same w w1) => (show Copies 25 v0 w1 l.length (ycells l) from (CloneY_any w1 v0 l.length (ycells l) (h0.same hs) (ycells_length l) (ycells_one l) hl0).mono (fun e w' h => by obtain ⟨v', he, ho, hs'⟩ := h; exact ⟨v', he, hs', Lst.of_own ho⟩)))
  have HCY1 := Lib.hid (fun (w1 : World) (v : Value) (h : Lst w1 v l.length (ycells l1)) => (show Copies 25 v w1 l.length (ycells l1) from (CloneY_any w1 v l.length (ycells l1) h (by rw [ycells_length, hq1]) (ycells_one l1) (by omega)).mono (fun e w' h => by obtain ⟨v', he, ho, hs'⟩ := h; exact ⟨v', he, hs', Lst.of_own ho⟩)))
  have hxs : xs = [] := List.length_eq_zero_iff.1 h2
  have HX2 := Lib.hid (fun (w1 : World) => (show Lst w1 (.slice ao 0 c2) xs.length (xcells xs) from .inr ⟨_, _, rfl, h2, by rw [hxs]; rfl⟩))
  have HCX := Lib.hid (fun (w1 : World) => (show Copies 26 (.slice ao 0 c2) w1 xs.length (xcells xs) from (CloneX_any w1 _ xs.length (xcells xs) (HX2.out w1) (xcells_length xs) (xcells_one xs) hl2).mono (fun e w' h => by obtain ⟨v', he, ho, hs'⟩ := h; exact ⟨v', he, hs', Lst.of_own ho⟩)))
  have k1 : (xs.take K).length = K := by rw [List.length_take]; omega
  have k2 : (xs.drop K).length = xs.length - K := by rw [List.length_drop]
  have htk : xs.take K = [] := by rw [hxs]; simp
  have HCX1 := Lib.hid (fun (w1 : World) (ad : Option Addr) (c : Nat) => (show Copies 26 (.slice ad 0 c) w1 K (xcells (xs.take K)) from (CloneX_any w1 _ K (xcells (xs.take K)) (.inr ⟨_, _, rfl, by omega, by rw [htk]; rfl⟩) (by rw [xcells_length, k1]) (xcells_one _) (by omega)).mono (fun e w' h => by obtain ⟨v', he, ho, hs'⟩ := h; exact ⟨v', he, hs', Lst.of_own ho⟩)))
  have hdr : xs.drop K = [] := by rw [hKl]; exact List.drop_length
  have HCX2 := Lib.hid (fun (w1 : World) (ad : Option Addr) (c : Nat) => (show Copies 26 (.slice ad 0 c) w1 0 (xcells (xs.drop K)) from (CloneX_any w1 _ 0 (xcells (xs.drop K)) (.inr ⟨_, _, rfl, rfl, by rw [hdr]; rfl⟩) (by rw [hdr]; rfl) (xcells_one _) (by omega)).mono (fun e w' h => by obtain ⟨v', he, ho, hs'⟩ := h; exact ⟨v', he, hs', Lst.of_own ho⟩)))
  have HR := Lib.hid (fun (w1 : World) (u0 u1 u2 : Value) (g0 : Lst w1 u0 l.length (ycells l)) (g1 : Lst w1 u1 zs.length (icells zs)) (g2 : Lst w1 u2 xs.length (xcells xs)) => (show Answers 24 #[u0, u1, u2] w1 l.length l2 from (Run_any w1 u0 u1 u2 l zs xs g0 g1 g2 (by omega) (by omega) (by omega)).mono (fun e w' h => by have := h.uni; rw [hr0] at this; rw [← hq2]; exact this)))
  have HR1 := Lib.hid (fun (w1 : World) (u0 u1 u2 : Value) (g0 : Lst w1 u0 l.length (ycells l)) (g1 : Lst w1 u1 zs.length (icells zs)) (g2 : Lst w1 u2 K (xcells (xs.take K))) => (show Answers 24 #[u0, u1, u2] w1 l.length l1 from (Run_any w1 u0 u1 u2 l zs (xs.take K) g0 g1 (by rw [k1]; exact g2) (by omega) (by omega) (by omega)).mono (fun e w' h => by have := h.uni; rw [hr1] at this; rw [← hq1]; exact this)))
  have HR2 := Lib.hid (fun (w1 : World) (u0 u1 u2 : Value) (g0 : Lst w1 u0 l.length (ycells l1)) (g1 : Lst w1 u1 zs.length (icells zs)) (g2 : Lst w1 u2 0 (xcells (xs.drop K))) => (show Answers 24 #[u0, u1, u2] w1 l.length l2 from (Run_any w1 u0 u1 u2 l1 zs (xs.drop K) (by rw [hq1]; exact g0) g1 (by rw [hdr]; rw [hdr] at g2; exact g2) (by omega) (by omega) (by omega)).mono (fun e w' h => by have := h.uni; rw [hr2] at this; rw [← hq2]; exact this)))
  have HEY := Lib.hid (fun (w1 : World) (u1 u2 : Value) (g1 : Lst w1 u1 l.length (ycells l2)) (g2 : Lst w1 u2 l.length (ycells l2)) => EqualY_any w1 u1 u2 l2 (by rw [hq2]; exact g1) (by rw [hq2]; exact g2) (by omega))
  have HNO := Lib.hid hno; clear hno
  have H0 := Lib.hid h0
  have HCB := Lib.hid (fun (w1 : World) (N : Int) (B : Nat) (c : w1.cell? ⟨B, 0, none⟩ = some (.int .i64 N)) => ContainsX_any w1 _ xs N B c (HX2.out w1) (by omega))
  obtain ⟨a0, k0, rfl⟩ := h0.shape
  obtain ⟨a1, k1', rfl⟩ := h1.shape
  clear h0 h1 hr0 hr1 hr2 k1 k2 hdr htk hxs
  generalize hn0 : l.length = n0 at *
  generalize hn1 : zs.length = n1 at *
  subst hKl
  generalize hn2 : xs.length = n2 at *
  subst h2
  have HN := Lib.hid (And.intro hn0 (And.intro hn2 (And.intro hq1 hq2))); clear hn0 hn1 hn2 hq1 hq2
  have c0 : ((w.alloc (.cells #[.slice a0 n0 k0, .slice a1 n1 k1'] 39)).cell? ⟨w.heap.size, 0, none⟩) = some (.slice a0 n0 k0) := by go_simp
  have c1 : ((w.alloc (.cells #[.slice a0 n0 k0, .slice a1 n1 k1'] 39)).cell? ⟨w.heap.size, 1, none⟩) = some (.slice a1 n1 k1') := by go_simp
  have HC := Lib.hid (And.intro c0 c1); clear c0 c1
  have HS0 := Lib.hid ((Same.refl w).alloc (.cells #[.slice a0 n0 k0, .slice a1 n1 k1'] 39))
  go_enter Try.func6, Try.ntmps6
  go_wp2_with (go_at_call 10; (with_reducible refine (HAW.out _).mono ?_); rintro e w4 ⟨rfl, hw⟩; have HB4 := Lib.hid (HS0.out.trans hw); have d0 := hw.cell HC.out.1; have d1 := hw.cell HC.out.2; clear hw)
  clear HAW HC HS0
  have hr4 := (Same.refl w4).drew
  have hs4 := HB4.out.drew
  go_region_held3 (fun w' => w'.cell? ⟨w.heap.size, 0, none⟩ = some (.slice a0 n0 k0) ∧ w'.cell? ⟨w.heap.size, 1, none⟩ = some (.slice a1 n1 k1') ∧ Same w w' ∧ Same w4 w')
    (first | exact ⟨d0, d1, hs4, hr4⟩ | exact keepO (by assumption) (by assumption) | assumption)
    (first
      | (go_at_call 22; refine (HCI.out _ (by first | exact hs4 | exact (by assumption : _ ∧ _ ∧ Same w _ ∧ _).2.2.1)).mono ?_; rintro e w5 ⟨u1, rfl, hk5, hL5⟩)
      | (go_at_call 25; refine (HCY.out _ (by first | exact hs4 | exact (by assumption : _ ∧ _ ∧ Same w _ ∧ _).2.2.1)).mono ?_; rintro e w6 ⟨u0, rfl, hk6, hL6⟩)
      | (go_at_call 26; refine (HCX.out _).mono ?_; rintro e w7 ⟨u2, rfl, hk7, hL7⟩)
      | (go_at_call 24; refine (HR.out _ _ _ _ (by first | assumption | exact hL6.same (by first | assumption | exact Same.trans (by assumption) (by assumption))) (by first | assumption | exact hL5.same (by first | assumption | exact Same.trans (by assumption) (by assumption))) (by first | assumption | exact hL7.same (by first | assumption | exact Same.trans (by assumption) (by assumption)))).mono ?_; rintro e w8 ⟨vc, rfl, hk8, hL8⟩)
      | fail)
  obtain ⟨e0, e1, hs8, hr8⟩ := (by assumption : w8.cell? ⟨w.heap.size, 0, none⟩ = some (.slice a0 n0 k0) ∧ w8.cell? ⟨w.heap.size, 1, none⟩ = some (.slice a1 n1 k1') ∧ Same w w8 ∧ Same w4 w8)
  have HS8 := Lib.hid hs8
  have HL8 := Lib.hid hL8
  obtain ⟨ac, kc, rfl⟩ := hL8.shape
  clear hr8 hL8 hk8 hk7 hk6 hk5 hL7 hL6 hL5 d0 d1 hs4 hr4 HB4 HR HCX
  go_wp2
  have hr8 := (Same.refl w8).drew
  replace hs8 := hs8.drew
  go_region_held3 (fun w' => w'.cell? ⟨w.heap.size, 0, none⟩ = some (.slice a0 n0 k0) ∧ w'.cell? ⟨w.heap.size, 1, none⟩ = some (.slice a1 n1 k1') ∧ Same w w' ∧ Same w8 w')
    (first | exact ⟨e0, e1, hs8, hr8⟩ | exact keepO (by assumption) (by assumption) | assumption)
    (first
      | (go_at_call 22; refine (HCI.out _ (by first | exact hs8 | exact (by assumption : _ ∧ _ ∧ Same w _ ∧ _).2.2.1)).mono ?_; rintro e w9 ⟨u1, rfl, hk9, hL9⟩)
      | (go_at_call 25; refine (HCY.out _ (by first | exact hs8 | exact (by assumption : _ ∧ _ ∧ Same w _ ∧ _).2.2.1)).mono ?_; rintro e w10 ⟨u0, rfl, hk10, hL10⟩)
      | (go_at_call 26; refine (HCX1.out _ _ _).mono ?_; rintro e w11 ⟨u2, rfl, hk11, hL11⟩)
      | (go_at_call 24; refine (HR1.out _ _ _ _ (by first | assumption | exact hL10.same (by first | assumption | exact Same.trans (by assumption) (by assumption))) (by first | assumption | exact hL9.same (by first | assumption | exact Same.trans (by assumption) (by assumption))) (by first | assumption | exact hL11.same (by first | assumption | exact Same.trans (by assumption) (by assumption)))).mono ?_; rintro e w12 ⟨vd, rfl, hk12, hL12⟩)
      | fail)
  obtain ⟨f0, f1, hs12, hr12⟩ := (by assumption : w12.cell? ⟨w.heap.size, 0, none⟩ = some (.slice a0 n0 k0) ∧ w12.cell? ⟨w.heap.size, 1, none⟩ = some (.slice a1 n1 k1') ∧ Same w w12 ∧ Same w8 w12)
  have HL12 := Lib.hid (HL8.out.same hr12)
  have HD12 := Lib.hid hL12
  obtain ⟨ad, kd, rfl⟩ := hL12.shape
  clear hr12 hL12 hk12 hk11 hk10 hk9 hL11 hL10 hL9 e0 e1 hs8 hr8 HR1 HCX1 HL8 HS8 HCY
  go_wp2
  have hr12 := (Same.refl w12).drew
  replace hs12 := hs12.drew
  go_region_held3 (fun w' => w'.cell? ⟨w.heap.size, 0, none⟩ = some (.slice a0 n0 k0) ∧ w'.cell? ⟨w.heap.size, 1, none⟩ = some (.slice a1 n1 k1') ∧ Same w w' ∧ Same w12 w')
    (first | exact ⟨f0, f1, hs12, hr12⟩ | exact keepO (by assumption) (by assumption) | assumption)
    (first
      | (go_at_call 22; refine (HCI.out _ (by first | exact hs12 | exact (by assumption : _ ∧ _ ∧ Same w _ ∧ _).2.2.1)).mono ?_; rintro e w13 ⟨u1, rfl, hk13, hL13⟩)
      | (go_at_call 25; refine (HCY1.out _ _ (HD12.out.same (by first | exact hr12 | exact (by assumption : _ ∧ _ ∧ Same w _ ∧ _).2.2.2))).mono ?_; rintro e w14 ⟨u0, rfl, hk14, hL14⟩)
      | (go_at_call 26; refine (HCX2.out _ _ _).mono ?_; rintro e w15 ⟨u2, rfl, hk15, hL15⟩)
      | (go_at_call 24; refine (HR2.out _ _ _ _ (by first | assumption | exact hL14.same (by first | assumption | exact Same.trans (by assumption) (by assumption))) (by first | assumption | exact hL13.same (by first | assumption | exact Same.trans (by assumption) (by assumption))) (by first | assumption | exact hL15.same (by first | assumption | exact Same.trans (by assumption) (by assumption)))).mono ?_; rintro e w16 ⟨ve, rfl, hk16, hL16⟩)
      | fail)
  obtain ⟨z0, z1, hs16, hr16⟩ := (by assumption : w16.cell? ⟨w.heap.size, 0, none⟩ = some (.slice a0 n0 k0) ∧ w16.cell? ⟨w.heap.size, 1, none⟩ = some (.slice a1 n1 k1') ∧ Same w w16 ∧ Same w12 w16)
  have HL16 := Lib.hid (HL12.out.same hr16)
  have HE16 := Lib.hid hL16
  have HS16 := Lib.hid hs16
  obtain ⟨ae, ke, rfl⟩ := hL16.shape
  clear hr16 hL16 hk16 hk15 hk14 hk13 hL15 hL14 hL13 f0 f1 hs12 hr12 HR2 HCX2 HL12 HD12 HCY1 HCI hs16
  go_wp2_with (go_at_call 35; (with_reducible refine (HEY.out _ _ _ HE16.out HL16.out).mono ?_); rintro e w17 ⟨rfl, hw⟩; have HS17 := Lib.hid (HS16.out.trans hw); have HL17 := Lib.hid (HL16.out.same hw); replace z0 := hw.cell z0; clear hw)
  clear HEY HE16 HL16 HS16 HX2 z1 hK ht
  have n0l : (n0 : Int) ≤ 40 := by omega
  go_loopw [126] (fun i wr => ∃ k : Nat, k ≤ n0 ∧ i = .int .i64 k ∧ Same w17 wr) (fun i _ => n0 - (intOf i).toNat)
  case atStart => exact ⟨0, Nat.zero_le _, rfl, Same.refl _⟩
  case round =>
    obtain ⟨k, hk, rfl, hS⟩ := hrel
    replace z0 := hS.cell z0
    have HSW := Lib.hid (HS17.out.trans hS)
    have HLR := Lib.hid (HL17.out.same hS)
    have HX := Lib.hid hS; clear hS
    by_cases hlt : k < n0
    · have hbx := HSW.out.alloc (.cells #[.int .i64 (k : Int)] 3)
      have hcb := HCB.out (wr.alloc (.cells #[.int .i64 (k : Int)] 3)) (k : Int) wr.heap.size (by go_simp)
      have HCBK := Lib.hid hcb; clear hcb
      obtain ⟨hn0, hn2, hn1, hn3⟩ := HN.out
      obtain ⟨b5, o5, c5, he5, hc5⟩ | ⟨_, _, _, hz, _⟩ := HLR.out
      · obtain ⟨b6, o6, c6, he6, hc6⟩ | ⟨_, _, _, hz, _⟩ := H0.out
        · have p5 : ac = some ⟨b5, o5, none⟩ := by injection he5
          have p6 : a0 = some ⟨b6, o6, none⟩ := by injection he6
          clear he5 he6
          subst p5 p6
          have g5 := y_at hc5 k (by omega)
          have g6 := (y_at hc6 k (by omega)).same HSW.out
          have HG := Lib.hid (fun (w1 : World) (hs : Same wr w1) => And.intro (g5.same hs) (g6.same hs)); clear g5 g6 hc5 hc6
          have HNK := Lib.hid (HNO.out k)
          clear hn0 hn1 hn3 hn2
          go_wp2_with (go_at_call 36; (with_reducible refine HCBK.out.mono ?_); rintro e w18 ⟨u, rfl, hu, hw⟩; have HU := Lib.hid hu; clear hu; have HW := Lib.hid (((Same.refl wr).alloc (.cells #[.int .i64 (k : Int)] 3)).trans hw); have q0 := HW.out.cell z0; have q1 := hw.cell (p := ⟨wr.heap.size, 0, none⟩) (v := .int .i64 (k : Int)) (by go_simp); clear hw)
          cases u with
          | true =>
            go_quiet (fail)
            go_wp2
            go_roundw
            case rel => exact ⟨k + 1, by omega, by go_num, HX.out.trans (HW.out.drewN _)⟩
            case measure => simp [intOf]; omega
          | false =>
            have e2 := HNK.out (fun i hi => HU.out rfl i (by omega))
            obtain ⟨⟨x0, x1, x2, x3⟩, ⟨y0, y1, y2, y3⟩⟩ := HG.out _ HW.out
            rw [e2] at x0 x1 x2 x3
            clear e2
            generalize l.getD k st0 = x at *
            obtain ⟨a, b, c, d⟩ := x
            go_quiet (fail)
            go_wp2
            go_roundw
            case rel => exact ⟨k + 1, by omega, by go_num, HX.out.trans (HW.out.drewN _)⟩
            case measure => simp [intOf]; omega
        · omega
      · omega
    · obtain rfl : k = n0 := by omega
      go_wp2
      go_ret
      exact ⟨rfl, HSW.out⟩
end timesyncOne
end Go.Proofs.Ytffcoeadpicohaa
