/- Spread of package timesync: the greatest difference of what two clocks show. -/
import Derived.Test.YtffcoeadpicohaaValid
namespace Go.Proofs.Ytffcoeadpicohaa
open Go.RowKit

/-- The greatest difference over some pairs, and 0. -/
def IsMx (P : Nat → Nat → Prop) (s : Nat → Int) (M : Int) : Prop := 0 ≤ M ∧ (∀ i j, P i j → s j - s i ≤ M) ∧ (M = 0 ∨ ∃ i j, P i j ∧ M = s j - s i)
theorem IsMx.unique {P Q : Nat → Nat → Prop} {s : Nat → Int} {M N : Int} (h : IsMx P s M) (k : IsMx Q s N) (e : ∀ i j, P i j ↔ Q i j) : M = N := by
  obtain ⟨h1, h2, h3⟩ := h
  obtain ⟨k1, k2, k3⟩ := k
  have a : M ≤ N := by
    rcases h3 with h | ⟨i, j, hp, h⟩
    · omega
    · have := k2 i j ((e i j).1 hp); omega
  have b : N ≤ M := by
    rcases k3 with h | ⟨i, j, hp, h⟩
    · omega
    · have := h2 i j ((e i j).2 hp); omega
  omega
theorem IsMx.start {P : Nat → Nat → Prop} {s : Nat → Int} (h : ∀ i j, ¬ P i j) : IsMx P s 0 := ⟨Int.le_refl _, fun i j hp => absurd hp (h i j), .inl rfl⟩
theorem IsMx.congr {P Q : Nat → Nat → Prop} {s : Nat → Int} {M : Int} (h : IsMx P s M) (e : ∀ i j, P i j ↔ Q i j) : IsMx Q s M := by
  obtain ⟨h1, h2, h3⟩ := h
  refine ⟨h1, fun i j hp => h2 i j ((e i j).2 hp), ?_⟩
  rcases h3 with h | ⟨i, j, hp, h⟩
  · exact .inl h
  · exact .inr ⟨i, j, (e i j).1 hp, h⟩
theorem IsMx.add {P Q : Nat → Nat → Prop} {s : Nat → Int} {M : Int} (h : IsMx P s M) (a b : Nat) (e : ∀ i j, Q i j ↔ P i j ∨ (i = a ∧ j = b)) : IsMx Q s (max M (s b - s a)) := by
  obtain ⟨h1, h2, h3⟩ := h
  refine ⟨by omega, fun i j hp => ?_, ?_⟩
  · rcases (e i j).1 hp with h | ⟨rfl, rfl⟩
    · have := h2 i j h; omega
    · omega
  · by_cases hm : M ≤ s b - s a
    · exact .inr ⟨a, b, (e a b).2 (.inr ⟨rfl, rfl⟩), by omega⟩
    · rcases h3 with h | ⟨i, j, hp, h⟩
      · exact .inl (by omega)
      · exact .inr ⟨i, j, (e i j).2 (.inl hp), by omega⟩
/-- What the clock of the i-th state shows. -/
def shY (l : List St) (t : Int) (i : Nat) : Int := shS (l.getD i st0).1 (l.getD i st0).2.1 t
/-- What Spread returns. -/
def SprP (w : World) (l : List St) (t : Int) (e : Ending) (w' : World) : Prop :=
  ∃ M x, e = .returned (.tuple #[.int .i64 M, .int .i64 x]) ∧ Same w w' ∧
    ((l.length ≤ 32 ∧ allY l ∧ timeB t = true ∧ x = 0 ∧ IsMx (fun i j => i < l.length ∧ j < l.length) (shY l t) M) ∨ (¬ (l.length ≤ 32 ∧ allY l) ∧ x = 1 ∧ M = 0) ∨ (l.length ≤ 32 ∧ allY l ∧ timeB t = false ∧ x = 2 ∧ M = 0))
set_option maxHeartbeats 6400000 in
set_option maxRecDepth 100000 in
theorem Spread_any (w : World) (v : Value) (l : List St) (t : Int) (hv : Lst w v l.length (ycells l)) (hl : l.length ≤ 1000) : Calls Try.prog 28 #[v, .int .i64 t] w (SprP w l t) := by
  have hmx : ∀ x y : Int, (if x < y then y else x) = max x y := fun x y => by omega
  have hva := fun (w1 : World) (hs : Same w w1) => areValid_any w1 v l (hv.same hs) hl
  have ht := fun w => twithin_any t 0 1099511627776 w
  change ∀ w, Calls Try.prog 51 #[.int .i64 t, .int .i64 0, .int .i64 1099511627776] w fun e w' => e = .returned (.bool (timeB t)) ∧ w' = w at ht
  by_cases hn : 32 < l.length
  · obtain ⟨ao, cap, rfl⟩ := hv.shape
    have HE := Lib.hid (show ¬ (l.length ≤ 32 ∧ allY l) from fun h => by omega)
    clear hv hva ht hmx
    generalize hnn : l.length = n at *
    have HNE := Lib.hid hnn; clear hnn
    go_enter Try.func28, Try.ntmps28
    go_wp2
    go_ret2
    exact ⟨_, _, rfl, Same.refl _, .inr (.inl ⟨by rw [HNE.out]; exact HE.out, rfl, rfl⟩)⟩
  · by_cases hA : allY l
    · have hva' : ∀ w1, Same w w1 → Calls Try.prog 52 #[v] w1 fun e w' => e = .returned (.bool true) ∧ Same w1 w' := fun w1 hs => by
        refine (hva w1 hs).mono ?_
        rintro e w' ⟨B, rfl, hB, hs'⟩
        rw [hB.2 hA]; exact ⟨rfl, hs'⟩
      have HVA := Lib.hid hva'; clear hva hva'
      cases htb : timeB t with
      | false =>
        rw [htb] at ht
        have HE := Lib.hid (show l.length ≤ 32 ∧ allY l ∧ timeB t = false from ⟨by omega, hA, htb⟩)
        have HT := Lib.hid ht; clear ht htb hA hmx
        obtain ⟨ao, cap, rfl⟩ := hv.shape
        clear hv
        generalize hnn : l.length = n at *
        have HNE := Lib.hid hnn; clear hnn
        go_enter Try.func28, Try.ntmps28
        go_wp2_with (first
          | (go_at_call 52; (with_reducible refine (HVA.out _ (Same.refl _)).mono ?_); rintro e w2 ⟨rfl, hw⟩; have HS := Lib.hid hw; clear hw)
          | (go_at_call 51; (with_reducible refine (HT.out _).mono ?_); rintro e w3 ⟨rfl, hw⟩; replace hw := hw.symm; subst hw))
        go_ret2
        exact ⟨_, _, rfl, HS.out, .inr (.inr ⟨by rw [HNE.out]; exact HE.out.1, HE.out.2.1, HE.out.2.2, rfl, rfl⟩)⟩
      | true =>
        rw [htb] at ht
        have HE := Lib.hid (show l.length ≤ 32 ∧ allY l ∧ timeB t = true from ⟨by omega, hA, htb⟩)
        have HAP := Lib.hid (fun (i j : Nat) (hi : i < l.length) (hj : j < l.length) (w : World) => (show Calls Try.prog 33 #[.agg #[.int .i64 (l.getD i st0).1, .int .i64 (l.getD i st0).2.1], .agg #[.int .i64 (l.getD j st0).1, .int .i64 (l.getD j st0).2.1], .int .i64 t] w fun e w' => e = .returned (.tuple #[.int .i64 (shY l t j - shY l t i), .int .i64 0]) ∧ Grew w w' from by
          have := Apart_any (l.getD i st0).1 (l.getD i st0).2.1 (l.getD j st0).1 (l.getD j st0).2.1 t w
          rw [show apS (l.getD i st0).1 (l.getD i st0).2.1 (l.getD j st0).1 (l.getD j st0).2.1 t = (shY l t j - shY l t i, 0) by
            unfold apS; rw [if_pos (okY_of (hA i hi)).1, if_pos (okY_of (hA j hj)).1, if_pos htb]; rfl] at this
          exact this))
        have HBD := Lib.hid (fun (i : Nat) (hi : i < l.length) => (show -2300000000000 ≤ shY l t i ∧ shY l t i ≤ 2300000000000 from shS_bd (okY_of (hA i hi)).1 (inB_yes htb).1 (inB_yes htb).2))
        have HT := Lib.hid ht; clear ht htb hA
        rcases hv with ⟨b, off, cap, rfl, hc⟩ | ⟨ao, cap, rfl, h0, _⟩
        · have HR := Lib.hid (fun (w1 : World) (hs : Same w w1) (i : Nat) (hi : i < l.length) => (y_at hc i hi).same hs)
          clear hc
          generalize hnn : l.length = n at *
          have HNE := Lib.hid hnn; clear hnn
          have hn' : (n : Int) ≤ 32 := by omega
          go_enter Try.func28, Try.ntmps28
          go_wp2_with (first
            | (go_at_call 52; (with_reducible refine (HVA.out _ (Same.refl _)).mono ?_); rintro e w2 ⟨rfl, hw⟩; have HS := Lib.hid hw; clear hw)
            | (go_at_call 51; (with_reducible refine (HT.out _).mono ?_); rintro e w3 ⟨rfl, hw⟩; replace hw := hw.symm; subst hw))
          clear HVA HT
          go_loopg [26, 6] n (fun g s26 s6 wx => ∃ (k : Nat) (M : Int), k + g = n ∧ s26 = .int .i64 k ∧ s6 = .int .i64 M ∧ IsMx (fun i j => i < k ∧ j < n) (shY l t) M ∧ Same w wx)
          case atStart => exact ⟨0, 0, by omega, rfl, rfl, IsMx.start (fun i j h => by omega), HS.out⟩
          case round =>
            clear HS
            obtain ⟨k, M, hkg, rfl, rfl, hM, hs⟩ := hrel
            have HM := Lib.hid hM; clear hM
            have HS := Lib.hid hs; clear hs
            cases gk with
            | zero =>
              have hkn : k = n := by omega
              clear hkg
              subst hkn
              go_wp2
              go_ret2
              refine ⟨_, _, rfl, HS.out, .inl ⟨by rw [HNE.out]; exact HE.out.1, HE.out.2.1, HE.out.2.2, rfl, ?_⟩⟩
              rw [HNE.out]; exact HM.out
            | succ g =>
              have hlt : k < n := by omega
              obtain ⟨y0, y1, y2, y3⟩ := HR.out _ HS.out k hlt
              obtain ⟨a0, ha0⟩ : ∃ a, (l.getD k st0).1 = a := ⟨_, rfl⟩
              obtain ⟨a1, ha1⟩ : ∃ a, (l.getD k st0).2.1 = a := ⟨_, rfl⟩
              rw [ha0] at y0
              rw [ha1] at y1
              have HAK := Lib.hid (fun (j : Nat) (hj : j < n) => HAP.out k j hlt hj)
              have HBK := Lib.hid (HBD.out k hlt)
              obtain ⟨a2, ha2⟩ : ∃ a, (l.getD k st0).2.2.1 = a := ⟨_, rfl⟩
              obtain ⟨a3, ha3⟩ : ∃ a, (l.getD k st0).2.2.2 = a := ⟨_, rfl⟩
              rw [ha2] at y2
              rw [ha3] at y3
              rw [ha0, ha1] at HAK
              clear ha0 ha1 ha2 ha3
              have HZ := Lib.hid (HS.out.alloc (.cells #[.int .i64 a0, .int .i64 a1, .int .i64 a2, .int .i64 a3] 25))
              have HY := Lib.hid (Same.refl (wr.alloc (.cells #[.int .i64 a0, .int .i64 a1, .int .i64 a2, .int .i64 a3] 25)))
              go_wp2
              clear y0 y1 y2 y3
              go_loopg [32, 6] n (fun g2 s32 s6 wx => ∃ (m : Nat) (M : Int), m + g2 = n ∧ s32 = .int .i64 m ∧ s6 = .int .i64 M ∧ IsMx (fun i j => (i < k ∧ j < n) ∨ (i = k ∧ j < m)) (shY l t) M ∧ Same (wr.alloc (.cells #[.int .i64 a0, .int .i64 a1, .int .i64 a2, .int .i64 a3] 25)) wx)
              case atStart => exact ⟨0, M, by omega, rfl, rfl, HM.out.congr (fun i j => by constructor <;> intro h <;> omega), HY.out⟩
              case round =>
                clear HM
                obtain ⟨m, M, hmg, rfl, rfl, hM, hs⟩ := hrel
                have HM := Lib.hid hM; clear hM
                have HW := Lib.hid hs; clear hs
                cases gk with
                | zero =>
                  have hmn : m = n := by omega
                  clear hmg
                  subst hmn
                  go_wp2
                  go_roundg g
                  case rel => exact ⟨k + 1, M, by omega, by go_num, rfl, HM.out.congr (fun i j => by constructor <;> intro h <;> omega), HZ.out.trans HW.out⟩
                  case measure => omega
                | succ g2 =>
                  have hlm : m < n := by omega
                  obtain ⟨c0, c1, c2, c3⟩ := cells4 HW.out
                  obtain ⟨y0, y1, y2, y3⟩ := HR.out _ (HZ.out.trans HW.out) m hlm
                  have hap := HAK.out m hlm
                  obtain ⟨p1, p2⟩ := HBD.out m hlm
                  obtain ⟨p3, p4⟩ := HBK.out
                  have hadd := HM.out.add (Q := fun i j => (i < k ∧ j < n) ∨ (i = k ∧ j < m + 1)) k m (fun i j => by constructor <;> intro h <;> omega)
                  have hM0 := HM.out.1
                  have hMx := Lib.hid hadd; clear hadd
                  generalize shY l t m = s1 at *
                  generalize shY l t k = s2 at *
                  generalize (l.getD m st0).1 = d0 at *
                  generalize (l.getD m st0).2.1 = d1 at *
                  generalize (l.getD m st0).2.2.1 = d2 at *
                  generalize (l.getD m st0).2.2.2 = d3 at *
                  have HQ := Lib.hid hap; clear hap
                  have e0 := ((Same.refl wr).alloc (.cells #[.int .i64 d0, .int .i64 d1, .int .i64 d2, .int .i64 d3] 25)).cell c0
                  have e1 := ((Same.refl wr).alloc (.cells #[.int .i64 d0, .int .i64 d1, .int .i64 d2, .int .i64 d3] 25)).cell c1
                  go_wp2_with (go_at_call 33; (with_reducible refine (HQ.out _).mono ?_); rintro e w5 ⟨rfl, hw⟩; have HS5 := Lib.hid (HW.out.trans (((Same.refl _).alloc _).trans hw.toSame)); clear hw)
                  go_roundg g2
                  case rel => exact ⟨m + 1, _, by omega, by go_num, rfl, hMx.out, HS5.out⟩
                  case measure => omega
        · have HE2 := Lib.hid (show IsMx (fun i j => i < l.length ∧ j < l.length) (shY l t) 0 from IsMx.start (fun i j h => by omega))
          clear HAP HBD h0 hl hn
          go_enter Try.func28, Try.ntmps28
          go_wp2_with (first
            | (go_at_call 52; (with_reducible refine (HVA.out _ (Same.refl _)).mono ?_); rintro e w2 ⟨rfl, hw⟩; have HS := Lib.hid hw; clear hw)
            | (go_at_call 51; (with_reducible refine (HT.out _).mono ?_); rintro e w3 ⟨rfl, hw⟩; replace hw := hw.symm; subst hw))
          go_loopg [26, 6] 0 (fun g s26 s6 wx => s26 = .int .i64 0 ∧ s6 = .int .i64 0 ∧ wx = w2)
          case atStart => exact ⟨rfl, rfl, rfl⟩
          case round =>
            obtain ⟨rfl, rfl, rfl⟩ := hrel
            go_wp2
            go_ret2
            exact ⟨_, _, rfl, HS.out, .inl ⟨HE.out.1, HE.out.2.1, HE.out.2.2, rfl, HE2.out⟩⟩
    · have hva' : ∀ w1, Same w w1 → Calls Try.prog 52 #[v] w1 fun e w' => e = .returned (.bool false) ∧ Same w1 w' := fun w1 hs => by
        refine (hva w1 hs).mono ?_
        rintro e w' ⟨B, rfl, hB, hs'⟩
        cases B with
        | true => exact absurd (hB.1 rfl) hA
        | false => exact ⟨rfl, hs'⟩
      have HVA := Lib.hid hva'; clear hva hva' ht hmx
      have HE := Lib.hid (show ¬ (l.length ≤ 32 ∧ allY l) from fun h => hA h.2)
      obtain ⟨ao, cap, rfl⟩ := hv.shape
      clear hv hA
      generalize hnn : l.length = n at *
      have HNE := Lib.hid hnn; clear hnn
      have hn' : (n : Int) ≤ 32 := by omega
      go_enter Try.func28, Try.ntmps28
      go_wp2_with (go_at_call 52; (with_reducible refine (HVA.out _ (Same.refl _)).mono ?_); rintro e w2 ⟨rfl, hw⟩; have HS := Lib.hid hw; clear hw)
      go_ret2
      exact ⟨_, _, rfl, HS.out, .inr (.inl ⟨by rw [HNE.out]; exact HE.out, rfl, rfl⟩)⟩
end Go.Proofs.Ytffcoeadpicohaa
