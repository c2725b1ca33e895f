/- Spread of the reference. -/
import Derived.Test.YtffcoeadpicohaaSpreadA
namespace Go.Proofs.Ytffcoeadpicohaa
open Go.RowKit

theorem keep2 {w w1 w2 : World} {b i j : Nat} {a0 a1 c0 c1 : Int} (h : w1.cell? ⟨b, i, none⟩ = some (.int .i64 a0) ∧ w1.cell? ⟨b, i + 1, none⟩ = some (.int .i64 a1) ∧ w1.cell? ⟨b, j, none⟩ = some (.int .i64 c0) ∧ w1.cell? ⟨b, j + 1, none⟩ = some (.int .i64 c1) ∧ Same w w1) (k : Same w1 w2) :
    w2.cell? ⟨b, i, none⟩ = some (.int .i64 a0) ∧ w2.cell? ⟨b, i + 1, none⟩ = some (.int .i64 a1) ∧ w2.cell? ⟨b, j, none⟩ = some (.int .i64 c0) ∧ w2.cell? ⟨b, j + 1, none⟩ = some (.int .i64 c1) ∧ Same w w2 :=
  ⟨k.cell h.1, k.cell h.2.1, k.cell h.2.2.1, k.cell h.2.2.2.1, h.2.2.2.2.trans k⟩
set_option maxHeartbeats 6400000 in
set_option maxRecDepth 100000 in
theorem Spread2_any (w : World) (v : Value) (l : List St) (t : Int) (hv : Lst w v l.length (ycells l)) (hl : l.length ≤ 1000) : Calls Try.prog 29 #[v, .int .i64 t] w (SprP w l t) := by
  have hmx : ∀ x y : Int, (if x < y then y else x) = max x y := fun x y => by omega
  have HCK := Lib.hid (fun (o d s c : Int) (w : World) => tCheck2_any o d s c w)
  have HT := Lib.hid (fun w => time2_any t w)
  by_cases hn : 32 < l.length
  · obtain ⟨ao, cap, rfl⟩ := hv.shape
    have HE := Lib.hid (show ¬ (l.length ≤ 32 ∧ allY l) from fun h => by omega)
    clear hv hmx
    generalize hnn : l.length = n at *
    have HNE := Lib.hid hnn; clear hnn
    go_enter Try.func29, Try.ntmps29
    go_wp2
    go_ret2
    exact ⟨_, _, rfl, Same.refl _, .inr (.inl ⟨by rw [HNE.out]; exact HE.out, rfl, rfl⟩)⟩
  · have hlist : ∃ b off cap, (v = .slice (some ⟨b, off, none⟩) l.length cap ∨ (∃ ao, v = .slice ao l.length cap ∧ l.length = 0)) ∧ ∀ w1, Same w w1 → ∀ i, i < l.length → YAt w1 b (off + i * 4) (l.getD i st0) := by
      rcases hv with ⟨b, off, cap, h, hc⟩ | ⟨ao, cap, h, h0, _⟩
      · exact ⟨b, off, cap, .inl h, fun w1 hs i hi => (y_at hc i hi).same hs⟩
      · exact ⟨0, 0, cap, .inr ⟨ao, by rw [h, h0], h0⟩, fun w1 hs i hi => by omega⟩
    clear hv
    obtain ⟨b, off, cap, hcs, hR⟩ := hlist
    have HR := Lib.hid hR; clear hR
    rcases hcs with rfl | ⟨ao, rfl, h0⟩
    · have HA := Lib.hid (fun (h : ∀ i : Nat, i < l.length → okYs (l.getD i st0) = true) => (show allY l from h))
      have HN := Lib.hid (fun (k : Nat) (hk : k < l.length) (h : okYs (l.getD k st0) = false) => (show ¬ (l.length ≤ 32 ∧ allY l) from fun h' => by rw [h'.2 k hk] at h; exact absurd h (by decide)))
      have HAT := Lib.hid (fun (htb : timeB t = true) (hA : allY l) (i : Nat) (hi : i < l.length) => (show (∀ w, Calls Try.prog 47 #[.agg #[.int .i64 (l.getD i st0).1, .int .i64 (l.getD i st0).2.1], .int .i64 t] w fun e w' => e = .returned (.int .i64 (shY l t i)) ∧ Grew w w') ∧ -2300000000000 ≤ shY l t i ∧ shY l t i ≤ 2300000000000 from
        ⟨fun w => at2_any _ _ t (okY_of (hA i hi)).1 (inB_yes htb).1 (inB_yes htb).2 w, shS_bd (okY_of (hA i hi)).1 (inB_yes htb).1 (inB_yes htb).2⟩))
      have HL := Lib.hid (show l.length ≤ 32 by omega)
      generalize hnn : l.length = n at *
      have HNE := Lib.hid hnn; clear hnn
      have hn' : (n : Int) ≤ 32 := by omega
      go_enter Try.func29, Try.ntmps29
      go_wp2
      go_loopg [6] n (fun g s6 wx => ∃ k : Nat, k + g = n ∧ s6 = .int .i64 k ∧ (∀ i : Nat, i < k → okYs (l.getD i st0) = true) ∧ Same w wx)
      case atStart => exact ⟨0, by omega, rfl, fun i hi => absurd hi (Nat.not_lt_zero _), Same.refl _⟩
      case round =>
        obtain ⟨k, hkg, rfl, hall, hs⟩ := hrel
        have HALL := Lib.hid hall; clear hall
        have HS := Lib.hid hs; clear hs
        cases gk with
        | succ g =>
          have hlt : k < n := by omega
          obtain ⟨y0, y1, y2, y3⟩ := HR.out _ HS.out k hlt
          obtain ⟨x, hx⟩ : ∃ x, l.getD k st0 = x := ⟨_, rfl⟩
          rw [hx] at y0 y1 y2 y3
          have hNk := HN.out k hlt
          rw [hx] at hNk
          have hAk : okYs x = true → ∀ i : Nat, i < k + 1 → okYs (l.getD i st0) = true := fun h i hi => by
            by_cases e : i = k
            · rw [e, hx]; exact h
            · exact HALL.out i (by omega)
          obtain ⟨x0, x1, x2, x3⟩ := x
          have h1 := fun w => HCK.out x0 x1 x2 x3 w
          rcases chkY_cases x0 x1 x2 x3 with ⟨a, e⟩ | ⟨a, e⟩ <;> rw [e] at h1
          · have HA2 := Lib.hid (hAk a)
            have H1 := Lib.hid h1; clear h1 hNk hAk hx hmx
            go_wp2_with (go_at_call 18; (with_reducible refine (H1.out _).mono ?_); rintro e w2 ⟨rfl, hw⟩; have HS2 := Lib.hid (HS.out.trans hw.toSame); clear hw)
            go_roundg g
            case rel => exact ⟨k + 1, by omega, by go_num, HA2.out, HS2.out⟩
            case measure => omega
          · have HNO := Lib.hid (hNk a)
            have H1 := Lib.hid h1; clear h1 hNk hAk hx hmx
            go_wp2_with (go_at_call 18; (with_reducible refine (H1.out _).mono ?_); rintro e w2 ⟨rfl, hw⟩; have HS2 := Lib.hid (HS.out.trans hw.toSame); clear hw)
            go_ret2
            exact ⟨_, _, rfl, HS2.out, .inr (.inl ⟨by have := HNO.out; rw [HNE.out]; exact this, rfl, rfl⟩)⟩
        | zero =>
          have hkn : k = n := by omega
          clear hkg
          subst hkn
          have hA := HA.out HALL.out
          have ht := HT.out
          cases htb : timeB t with
          | false =>
            rw [htb] at ht
            have HE := Lib.hid (show l.length ≤ 32 ∧ allY l ∧ timeB t = false from ⟨by rw [HNE.out]; exact HL.out, hA, htb⟩)
            have HT2 := Lib.hid ht; clear ht htb hA hmx
            go_wp2_with (go_at_call 46; (with_reducible refine (HT2.out _).mono ?_); rintro e w3 ⟨rfl, hw⟩; replace hw := hw.symm; subst hw)
            go_ret2
            exact ⟨_, _, rfl, HS.out, .inr (.inr ⟨HE.out.1, HE.out.2.1, HE.out.2.2, rfl, rfl⟩)⟩
          | true =>
            rw [htb] at ht
            have HE := Lib.hid (show l.length ≤ 32 ∧ allY l ∧ timeB t = true from ⟨by rw [HNE.out]; exact HL.out, hA, htb⟩)
            have HQ := Lib.hid (HAT.out htb hA)
            have HT2 := Lib.hid ht; clear ht htb hA HAT HA HN HCK HT HALL
            go_wp2_with (go_at_call 46; (with_reducible refine (HT2.out _).mono ?_); rintro e w3 ⟨rfl, hw⟩; replace hw := hw.symm; subst hw)
            clear HT2
            go_loopg [8, 7] k (fun g s8 s7 wx => ∃ (i : Nat) (M : Int), i + g = k ∧ s8 = .int .i64 i ∧ s7 = .int .i64 M ∧ IsMx (fun a c => c < i ∧ a < k) (shY l t) M ∧ Same w wx)
            case atStart => exact ⟨0, 0, by omega, rfl, rfl, IsMx.start (fun i j h => by omega), HS.out⟩
            case round =>
              clear HS
              obtain ⟨i, M, hig, rfl, rfl, hM, hs⟩ := hrel
              have HM := Lib.hid hM; clear hM
              have HS := Lib.hid hs; clear hs
              cases gk with
              | zero =>
                have hin : i = k := by omega
                clear hig
                subst hin
                go_wp2
                go_ret2
                refine ⟨_, _, rfl, HS.out, .inl ⟨HE.out.1, HE.out.2.1, HE.out.2.2, rfl, ?_⟩⟩
                rw [HNE.out]; exact HM.out.congr (fun a c => by constructor <;> intro h <;> omega)
              | succ g =>
                have hlt : i < k := by omega
                go_wp2
                go_loopg [9, 7] k (fun g2 s9 s7 wx => ∃ (m : Nat) (M : Int), m + g2 = k ∧ s9 = .int .i64 m ∧ s7 = .int .i64 M ∧ IsMx (fun a c => (c < i ∧ a < k) ∨ (c = i ∧ a < m)) (shY l t) M ∧ Same w wx)
                case atStart => exact ⟨0, M, by omega, rfl, rfl, HM.out.congr (fun a c => by constructor <;> intro h <;> omega), HS.out⟩
                case round =>
                  clear HM HS
                  obtain ⟨m, M, hmg, rfl, rfl, hM, hs⟩ := hrel
                  have HM := Lib.hid hM; clear hM
                  have HW := Lib.hid hs; clear hs
                  cases gk with
                  | zero =>
                    have hmn : m = k := by omega
                    clear hmg
                    subst hmn
                    go_wp2
                    go_roundg g
                    case rel => exact ⟨i + 1, M, by omega, by go_num, rfl, HM.out.congr (fun a c => by constructor <;> intro h <;> omega), HW.out⟩
                    case measure => omega
                  | succ g2 =>
                    have hlm : m < k := by omega
                    obtain ⟨y0, y1, _, _⟩ := HR.out _ HW.out i hlt
                    obtain ⟨z0, z1, _, _⟩ := HR.out _ HW.out m hlm
                    obtain ⟨ha, p1, p2⟩ := HQ.out i hlt
                    obtain ⟨hb, p3, p4⟩ := HQ.out m hlm
                    have hadd := HM.out.add (Q := fun a c => (c < i ∧ a < k) ∨ (c = i ∧ a < m + 1)) m i (fun a c => by constructor <;> intro h <;> omega)
                    have hMx := Lib.hid hadd; clear hadd
                    generalize shY l t m = s1 at *
                    generalize shY l t i = s2 at *
                    generalize (l.getD m st0).1 = d0 at *
                    generalize (l.getD m st0).2.1 = d1 at *
                    generalize (l.getD i st0).1 = e0 at *
                    generalize (l.getD i st0).2.1 = e1 at *
                    have H1 := Lib.hid ha; clear ha
                    have H2 := Lib.hid hb; clear hb
                    have hs0 := HW.out
                    have ew : IntKind.i64.wrap (s2 - s1) = s2 - s1 := IntWalk.i64_in _ (by omega)
                    go_wp2
                    go_region_held3 (fun w' => w'.cell? ⟨b, off + i * 4, none⟩ = some (.int .i64 e0) ∧ w'.cell? ⟨b, off + i * 4 + 1, none⟩ = some (.int .i64 e1) ∧ w'.cell? ⟨b, off + m * 4, none⟩ = some (.int .i64 d0) ∧ w'.cell? ⟨b, off + m * 4 + 1, none⟩ = some (.int .i64 d1) ∧ Same w w')
                      (first
                        | exact ⟨y0, y1, z0, z1, hs0.drew⟩
                        | exact keep2 ⟨y0, y1, z0, z1, hs0.drew⟩ (by assumption)
                        | exact keep2 (by assumption) (by assumption)
                        | assumption)
                      (first
                        | (go_at_call 47; (with_reducible refine (H1.out _).mono ?_); rintro e w5 ⟨rfl, hw⟩; replace hw := hw.toSame)
                        | (go_at_call 47; (with_reducible refine (H2.out _).mono ?_); rintro e w6 ⟨rfl, hw⟩; replace hw := hw.toSame)
                        | fail)
                    have hfin := (by assumption : w6.cell? ⟨b, off + i * 4, none⟩ = some (.int .i64 e0) ∧ w6.cell? ⟨b, off + i * 4 + 1, none⟩ = some (.int .i64 e1) ∧ w6.cell? ⟨b, off + m * 4, none⟩ = some (.int .i64 d0) ∧ w6.cell? ⟨b, off + m * 4 + 1, none⟩ = some (.int .i64 d1) ∧ Same w w6).2.2.2.2
                    have HF := Lib.hid hfin
                    clear hfin
                    go_wp2
                    go_roundg g2
                    case rel => exact ⟨m + 1, _, by omega, by go_num, rfl, hMx.out, HF.out⟩
                    case measure => omega
    · have hA : allY l := fun i hi => by omega
      have HE2 := Lib.hid (show IsMx (fun i j => i < l.length ∧ j < l.length) (shY l t) 0 from IsMx.start (fun i j h => by omega))
      have ht := HT.out
      cases htb : timeB t with
      | false =>
        rw [htb] at ht
        have HE := Lib.hid (show l.length ≤ 32 ∧ allY l ∧ timeB t = false from ⟨by omega, hA, htb⟩)
        have HT2 := Lib.hid ht; clear ht htb hA hmx hl hn HR HCK HT
        rw [h0]
        clear h0
        go_enter Try.func29, Try.ntmps29
        go_wp2
        go_loopg [6] 0 (fun g s6 wx => s6 = .int .i64 0 ∧ wx = w)
        case atStart => exact ⟨rfl, rfl⟩
        case round =>
          obtain ⟨rfl, rfl⟩ := hrel
          go_wp2_with (go_at_call 46; (with_reducible refine (HT2.out _).mono ?_); rintro e w3 ⟨rfl, hw⟩; replace hw := hw.symm; subst hw)
          go_ret2
          exact ⟨_, _, rfl, Same.refl _, .inr (.inr ⟨HE.out.1, HE.out.2.1, HE.out.2.2, rfl, rfl⟩)⟩
      | true =>
        rw [htb] at ht
        have HE := Lib.hid (show l.length ≤ 32 ∧ allY l ∧ timeB t = true from ⟨by omega, hA, htb⟩)
        have HT2 := Lib.hid ht; clear ht htb hA hmx hl hn HR HCK HT
        rw [h0]
        clear h0
        go_enter Try.func29, Try.ntmps29
        go_wp2
        go_loopg [6] 0 (fun g s6 wx => s6 = .int .i64 0 ∧ wx = w)
        case atStart => exact ⟨rfl, rfl⟩
        case round =>
          obtain ⟨rfl, rfl⟩ := hrel
          go_wp2_with (go_at_call 46; (with_reducible refine (HT2.out _).mono ?_); rintro e w3 ⟨rfl, hw⟩; replace hw := hw.symm; subst hw)
          go_loopg [8, 7] 0 (fun g s8 s7 wx => s8 = .int .i64 0 ∧ s7 = .int .i64 0 ∧ wx = wr)
          case atStart => exact ⟨rfl, rfl, rfl⟩
          case round =>
            obtain ⟨rfl, rfl, rfl⟩ := hrel
            go_wp2
            go_ret2
            exact ⟨_, _, rfl, Same.refl _, .inl ⟨HE.out.1, HE.out.2.1, HE.out.2.2, rfl, HE2.out⟩⟩
end Go.Proofs.Ytffcoeadpicohaa
