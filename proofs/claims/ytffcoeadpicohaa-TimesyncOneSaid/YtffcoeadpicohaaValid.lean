/- Whether all states are valid; the greatest difference of clocks: by package timesync. -/
import Derived.Test.YtffcoeadpicohaaDepths2
namespace Go.Proofs.Ytffcoeadpicohaa
open Go.RowKit

abbrev okYs (x : St) : Bool := okY x.1 x.2.1 x.2.2.1 x.2.2.2
/-- All states are valid. -/
def allY (l : List St) : Prop := ∀ i : Nat, i < l.length → okYs (l.getD i st0) = true
/-- The cells of one state of a list. -/
def YAt (w : World) (b off : Nat) (x : St) : Prop := w.cell? ⟨b, off, none⟩ = some (.int .i64 x.1) ∧ w.cell? ⟨b, off + 1, none⟩ = some (.int .i64 x.2.1) ∧ w.cell? ⟨b, off + 2, none⟩ = some (.int .i64 x.2.2.1) ∧ w.cell? ⟨b, off + 3, none⟩ = some (.int .i64 x.2.2.2)
theorem YAt.same {w w' : World} {b off : Nat} {x : St} (h : YAt w b off x) (s : Same w w') : YAt w' b off x := ⟨s.cell h.1, s.cell h.2.1, s.cell h.2.2.1, s.cell h.2.2.2⟩
theorem y_at {w : World} {b off : Nat} {l : List St} (hc : ∀ j u, (ycells l)[j]? = some u → w.cell? ⟨b, off + j, none⟩ = some u) (i : Nat) (hi : i < l.length) : YAt w b (off + i * 4) (l.getD i st0) := by
  obtain ⟨g0, g1, g2, g3⟩ := ycells_get l i hi
  exact ⟨hc _ _ g0, hc _ _ g1, hc _ _ g2, hc _ _ g3⟩
set_option maxHeartbeats 1600000 in
set_option maxRecDepth 100000 in
theorem areValid_any (w : World) (v : Value) (l : List St) (hv : Lst w v l.length (ycells l)) (hl : l.length ≤ 1000) : Calls Try.prog 52 #[v] w fun e w' => ∃ B : Bool, e = .returned (.bool B) ∧ (B = true ↔ allY l) ∧ Same w w' := by
  have HC := Lib.hid (fun (o d s c : Int) (w : World) => tCheck_any o d s c w)
  rcases hv with ⟨b, off, cap, rfl, hc⟩ | ⟨ao, cap, rfl, h0, _⟩
  · have HR := Lib.hid (fun (w1 : World) (hs : Same w w1) (i : Nat) (hi : i < l.length) => (y_at hc i hi).same hs)
    have HA := Lib.hid (fun (h : ∀ i : Nat, i < l.length → okYs (l.getD i st0) = true) => (show allY l from h))
    have HN := Lib.hid (fun (k : Nat) (hk : k < l.length) (h : okYs (l.getD k st0) = false) => (show ¬ allY l from fun h' => by rw [h' k hk] at h; exact absurd h (by decide)))
    clear hc
    generalize l.length = n at *
    go_enter Try.func52, Try.ntmps52
    go_wp2
    go_loopg [7] n (fun g s7 wx => ∃ k : Nat, k + g = n ∧ s7 = .int .i64 k ∧ (∀ i : Nat, i < k → okYs (l.getD i st0) = true) ∧ Same w wx)
    case atStart => exact ⟨0, by omega, rfl, fun i hi => absurd hi (Nat.not_lt_zero _), Same.refl _⟩
    case round =>
      obtain ⟨k, hkg, rfl, hall, hs⟩ := hrel
      have HALL := Lib.hid hall; clear hall
      have HS := Lib.hid hs; clear hs
      cases gk with
      | zero =>
        have hkn : k = n := by omega
        clear hkg
        subst hkn
        go_wp2
        go_ret
        exact ⟨_, rfl, ⟨fun _ => HA.out HALL.out, fun _ => rfl⟩, HS.out⟩
      | succ g =>
        have hlt : k < n := by omega
        obtain ⟨y0, y1, y2, y3⟩ := HR.out _ HS.out k hlt
        obtain ⟨x, hx⟩ : ∃ x, l.getD k st0 = x := ⟨_, rfl⟩
        rw [hx] at y0 y1 y2 y3
        have hNk := HN.out k hlt
        rw [hx] at hNk
        have hAk : okYs x = true → ∀ i : Nat, i < k + 1 → okYs (l.getD i st0) = true := fun h i hi => by
          by_cases e : i = k
          · rw [e, hx]; exact h
          · exact HALL.out i (by omega)
        obtain ⟨x0, x1, x2, x3⟩ := x
        have h1 := fun w => HC.out x0 x1 x2 x3 w
        rcases chkY_cases x0 x1 x2 x3 with ⟨a, e⟩ | ⟨a, e⟩ <;> rw [e] at h1
        · have HA2 := Lib.hid (hAk a)
          have H1 := Lib.hid h1; clear h1 hNk hAk hx
          go_wp2_with (go_at_call 17; (with_reducible refine (H1.out _).mono ?_); rintro e w2 ⟨rfl, hw⟩; have HS2 := Lib.hid (HS.out.trans (((Same.refl _).alloc _).trans hw.toSame)); clear hw)
          go_roundg g
          case rel => exact ⟨k + 1, by omega, by go_num, HA2.out, HS2.out⟩
          case measure => omega
        · have HNO := Lib.hid (hNk a)
          have H1 := Lib.hid h1; clear h1 hNk hAk hx
          go_wp2_with (go_at_call 17; (with_reducible refine (H1.out _).mono ?_); rintro e w2 ⟨rfl, hw⟩; have HS2 := Lib.hid (HS.out.trans (((Same.refl _).alloc _).trans hw.toSame)); clear hw)
          go_ret
          exact ⟨_, rfl, ⟨fun h => absurd h (by decide), fun h => absurd h HNO.out⟩, HS2.out⟩
  · have HA := Lib.hid (show allY l from fun i hi => by omega)
    go_enter Try.func52, Try.ntmps52
    go_wp2
    go_loopg [7] 0 (fun g s7 wx => s7 = .int .i64 0 ∧ wx = w)
    case atStart => exact ⟨rfl, rfl⟩
    case round =>
      obtain ⟨rfl, rfl⟩ := hrel
      go_wp2
      go_ret
      exact ⟨_, rfl, ⟨fun _ => HA.out, fun _ => rfl⟩, Same.refl _⟩
end Go.Proofs.Ytffcoeadpicohaa
