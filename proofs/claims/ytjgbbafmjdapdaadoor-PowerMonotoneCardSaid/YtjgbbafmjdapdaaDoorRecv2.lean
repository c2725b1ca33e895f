/- Received of the reference. -/
import Derived.Test.YtjgbbafmjdapdaaDoorRecv
namespace Go.Proofs.YtjgbbafmjdapdaaDoor
open Go.RowKit

theorem decide_any (s t n x : Int) (hs : Pw s) (hr : Rt t n) (hx : 0 ≤ x ∧ x ≤ 4398046511104) (w : World) : Calls Tryd.prog 40 #[.int .i64 s, .int .i64 t, .int .i64 n, .int .i64 x] w fun e w' => e = .returned (.bool (decide (t * (n + x) ≤ 1000 * s))) ∧ w' = w := by
  obtain ⟨⟨g1, g2⟩, g3, g4⟩ := hr
  obtain ⟨p1, p2⟩ := hs
  obtain ⟨k1, k2⟩ := hx
  have hb := mul_bd (a := t) (b := n + x) (m := 100000) (n := 4466765987840) (by omega) g2 (by omega) (by omega)
  obtain ⟨m1, m2⟩ := hb
  have m3 : t * (n + x) ≤ 446676598784000000 := by omega
  clear m2
  go_enter Tryd.func40, Tryd.ntmps40
  go_wp2
  go_ret
  exact ⟨rfl, rfl⟩
theorem received2_any (s t n : Int) (zs : List Int) (v : Value) (w : World) (hv : Ints w v zs) : Calls Tryd.prog 22 #[.int .i64 s, .int .i64 t, .int .i64 n, v] w fun e w' => e = .returned (.tuple #[.bool (recS s t n zs).1, .int .i64 (recS s t n zs).2]) ∧ w' = w := by
  by_cases h : Pw s
  · have HA := Lib.hid (fun w => is_yes s h w)
    by_cases h2 : Rt t n
    · rw [show recS s t n zs = _ from if_pos ⟨h, h2⟩]
      have HB := Lib.hid (fun w => right_yes t n h2 w)
      have hs := sum2_any w v zs hv
      have hk := sumS_bd zs
      by_cases h0 : (sumS zs).2 = 0
      · rw [if_pos h0]
        rw [h0] at hs
        have HD := Lib.hid (fun w => decide_any s t n (sumS zs).1 h h2 hk w)
        have HS := Lib.hid hs; clear hs h0 hv hk h h2
        generalize decide (t * (n + (sumS zs).1) ≤ 1000 * s) = r at *
        generalize (sumS zs).1 = x at *
        go_enter Tryd.func22, Tryd.ntmps22
        go_wp2_with (first | (go_at_call 36; with_reducible refine (HA.out _).mono ?_; rintro e w' ⟨rfl, rfl⟩) | (go_at_call 39; with_reducible refine (HB.out _).mono ?_; rintro e w' ⟨rfl, rfl⟩) | (go_at_call 20; with_reducible refine HS.out.mono ?_; rintro e w' ⟨rfl, rfl⟩) | (go_at_call 40; with_reducible refine (HD.out _).mono ?_; rintro e w' ⟨rfl, rfl⟩))
        go_ret2
        exact ⟨rfl, rfl⟩
      · rw [if_neg h0]
        have hne : ((sumS zs).2 != 0) = true := by simpa using h0
        have HS := Lib.hid hs; clear hs h0 hv hk
        generalize (sumS zs).1 = x at *
        generalize (sumS zs).2 = y at *
        go_enter Tryd.func22, Tryd.ntmps22
        go_wp2_with (first | (go_at_call 36; with_reducible refine (HA.out _).mono ?_; rintro e w' ⟨rfl, rfl⟩) | (go_at_call 39; with_reducible refine (HB.out _).mono ?_; rintro e w' ⟨rfl, rfl⟩) | (go_at_call 20; with_reducible refine HS.out.mono ?_; rintro e w' ⟨rfl, rfl⟩))
        go_ret2
        exact ⟨rfl, rfl⟩
    · rw [show recS s t n zs = _ from if_neg (fun h' => h2 h'.2)]
      have HB := Lib.hid (fun w => right_no t n h2 w)
      clear h h2
      go_enter Tryd.func22, Tryd.ntmps22
      go_wp2_with (first | (go_at_call 36; with_reducible refine (HA.out _).mono ?_; rintro e w' ⟨rfl, rfl⟩) | (go_at_call 39; with_reducible refine (HB.out _).mono ?_; rintro e w' ⟨rfl, rfl⟩))
      go_ret2
      exact ⟨rfl, rfl⟩
  · rw [show recS s t n zs = _ from if_neg (fun h' => h h'.1)]
    have HA := Lib.hid (fun w => is_no s h w)
    clear h
    go_enter Tryd.func22, Tryd.ntmps22
    go_wp2_with (go_at_call 36; with_reducible refine (HA.out _).mono ?_; rintro e w' ⟨rfl, rfl⟩)
    go_ret2
    exact ⟨rfl, rfl⟩
end Go.Proofs.YtjgbbafmjdapdaaDoor
