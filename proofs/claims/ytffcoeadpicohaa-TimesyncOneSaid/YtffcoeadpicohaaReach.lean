
/- When a clock reaches something. -/
import Derived.Test.YtffcoeadpicohaaCalls2
import Derived.Test.YtffcoeadpicohaaShelf
namespace Go.Proofs.Ytffcoeadpicohaa
open Go.RowKit Go.Lib Go.Sort

theorem dialOfC_any (o d t : Int) (h : okC o d = true) (h1 : 0 ≤ t) (h2 : t ≤ 1099511627776) (B : Nat) (w : World) (c0 : w.cell? ⟨B, 0, none⟩ = some (.int .i64 o)) (c1 : w.cell? ⟨B, 1, none⟩ = some (.int .i64 d)) :
    Calls Try.prog 73 (#[.int .i64 t] ++ #[.pointer (some ⟨B, 0, none⟩)]) w fun e w' => e = .returned (.int .i64 (shS o d t)) ∧ Grew w w' := by
  have H2 := Lib.hid (fun w => show_any o d t h h1 h2 w)
  clear h h1 h2
  generalize shS o d t = s at *
  go_enter Try.func73, Try.ntmps73
  go_wp2_with (go_at_call 57; (with_reducible refine (H2.out _).mono ?_); rintro e w2 ⟨rfl, hw⟩; have HX := Lib.hid hw; clear hw)
  go_ret
  exact ⟨rfl, HX.out⟩
theorem keepR {w w1 w2 : World} {D X : Nat} {u v : Value} (h : w1.cell? ⟨D, 0, none⟩ = some u ∧ w1.cell? ⟨X, 0, none⟩ = some v ∧ Grew w w1) (k : Grew w1 w2) : w2.cell? ⟨D, 0, none⟩ = some u ∧ w2.cell? ⟨X, 0, none⟩ = some v ∧ Grew w w2 :=
  ⟨k.cell h.1, k.cell h.2.1, h.2.2.trans k⟩
theorem reachC_any (o d x t : Int) (h : okC o d = true) (h1 : 0 ≤ t) (h2 : t ≤ 1099511627776) (B D X : Nat) (w : World) (c0 : w.cell? ⟨B, 0, none⟩ = some (.int .i64 o)) (c1 : w.cell? ⟨B, 1, none⟩ = some (.int .i64 d))
    (cd : w.cell? ⟨D, 0, none⟩ = some (.func (.func 73) #[] #[.pointer (some ⟨B, 0, none⟩)])) (cx : w.cell? ⟨X, 0, none⟩ = some (.int .i64 x)) :
    Calls Try.prog 75 (#[.int .i64 t] ++ #[.pointer (some ⟨D, 0, none⟩), .pointer (some ⟨X, 0, none⟩)]) w fun e w' => e = .returned (.bool (decide (x ≤ shS o d t))) ∧ Grew w w' := by
  have h3 : ∀ w1, Grew w w1 → Calls Try.prog 73 #[.int .i64 t, .pointer (some ⟨B, 0, none⟩)] w1 fun e w' => e = .returned (.int .i64 (shS o d t)) ∧ Grew w1 w' := fun w1 k => dialOfC_any o d t h h1 h2 B w1 (k.cell c0) (k.cell c1)
  have H2 := Lib.hid h3; clear h3
  clear h h1 h2
  generalize shS o d t = s at *
  go_enter Try.func75, Try.ntmps75
  go_wp2
  have k2 : Grew w w := Grew.refl w
  go_region_held3 (fun w' => w'.cell? ⟨D, 0, none⟩ = some (.func (.func 73) #[] #[.pointer (some ⟨B, 0, none⟩)]) ∧ w'.cell? ⟨X, 0, none⟩ = some (.int .i64 x) ∧ Grew w w')
    (first | exact ⟨cd, cx, k2.drew⟩ | exact keepR ⟨cd, cx, k2.drew⟩ (by assumption) | exact keepR (by assumption) (by assumption) | assumption)
    ((go_at_call 73; (with_reducible refine (H2.out _ (k2.drew)).mono ?_); rintro e w2 ⟨rfl, hw2⟩))
  have hfin := (by assumption : World.cell? w2 ⟨D, 0, none⟩ = some (.func (.func 73) #[] #[.pointer (some ⟨B, 0, none⟩)]) ∧ World.cell? w2 ⟨X, 0, none⟩ = some (.int .i64 x) ∧ Grew w w2).2.2
  have HF := Lib.hid hfin
  clear hfin
  go_wp2
  go_ret
  exact ⟨rfl, HF.out⟩
end Go.Proofs.Ytffcoeadpicohaa
