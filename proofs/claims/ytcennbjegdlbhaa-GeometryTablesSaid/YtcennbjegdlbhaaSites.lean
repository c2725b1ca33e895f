/- Package geometry: what a site holds; its checks. -/
import Derived.Test.YtcennbjegdlbhaaCalls2
namespace Go.Proofs.Ytcennbjegdlbhaa
open Go.RowKit

structure Pt where
  x : Int
  y : Int
structure Wl where
  a1 : Int
  a2 : Int
  b1 : Int
  b2 : Int
  f : Int
/-- A slice that reads as a list of ints. -/
def Ints (w : World) (v : Value) (zs : List Int) : Prop :=
  (∃ b off cap, v = .slice (some ⟨b, off, none⟩) zs.length cap ∧ 0 < zs.length ∧ ∀ i, i < zs.length → w.cell? ⟨b, off + i, none⟩ = some (.int .i64 (zs.getD i 0))) ∨ (∃ ao cap, v = .slice ao 0 cap ∧ zs = [])
theorem Ints.same {w w' : World} {v : Value} {zs : List Int} (h : Ints w v zs) (s : Same w w') : Ints w' v zs := by
  rcases h with ⟨b, off, cap, h1, h2, h3⟩ | h
  · exact .inl ⟨b, off, cap, h1, h2, fun i hi => s.cell (h3 i hi)⟩
  · exact .inr h
/-- A slice that reads as a list of points. -/
def Pts (w : World) (v : Value) (ps : List Pt) : Prop :=
  (∃ b off cap, v = .slice (some ⟨b, off, none⟩) ps.length cap ∧ 0 < ps.length ∧ ∀ i, i < ps.length → w.cell? ⟨b, off + i * 2, none⟩ = some (.int .i64 (ps.getD i ⟨0, 0⟩).x) ∧ w.cell? ⟨b, off + i * 2 + 1, none⟩ = some (.int .i64 (ps.getD i ⟨0, 0⟩).y)) ∨ (∃ ao cap, v = .slice ao 0 cap ∧ ps = [])
theorem Pts.same {w w' : World} {v : Value} {ps : List Pt} (h : Pts w v ps) (s : Same w w') : Pts w' v ps := by
  rcases h with ⟨b, off, cap, h1, h2, h3⟩ | h
  · exact .inl ⟨b, off, cap, h1, h2, fun i hi => ⟨s.cell (h3 i hi).1, s.cell (h3 i hi).2⟩⟩
  · exact .inr h
/-- A slice that reads as a list of walls. -/
def Wls (w : World) (v : Value) (ws : List Wl) : Prop :=
  (∃ b off cap, v = .slice (some ⟨b, off, none⟩) ws.length cap ∧ 0 < ws.length ∧ ∀ i, i < ws.length → w.cell? ⟨b, off + i * 5, none⟩ = some (.int .i64 (ws.getD i ⟨0, 0, 0, 0, 0⟩).a1) ∧ w.cell? ⟨b, off + i * 5 + 1, none⟩ = some (.int .i64 (ws.getD i ⟨0, 0, 0, 0, 0⟩).a2) ∧ w.cell? ⟨b, off + i * 5 + 2, none⟩ = some (.int .i64 (ws.getD i ⟨0, 0, 0, 0, 0⟩).b1) ∧ w.cell? ⟨b, off + i * 5 + 3, none⟩ = some (.int .i64 (ws.getD i ⟨0, 0, 0, 0, 0⟩).b2) ∧ w.cell? ⟨b, off + i * 5 + 4, none⟩ = some (.int .i64 (ws.getD i ⟨0, 0, 0, 0, 0⟩).f)) ∨ (∃ ao cap, v = .slice ao 0 cap ∧ ws = [])
theorem Wls.same {w w' : World} {v : Value} {ws : List Wl} (h : Wls w v ws) (s : Same w w') : Wls w' v ws := by
  rcases h with ⟨b, off, cap, h1, h2, h3⟩ | h
  · exact .inl ⟨b, off, cap, h1, h2, fun i hi => by obtain ⟨g1, g2, g3, g4, g5⟩ := h3 i hi; exact ⟨s.cell g1, s.cell g2, s.cell g3, s.cell g4, s.cell g5⟩⟩
  · exact .inr h
theorem Ints.shape {w : World} {v : Value} {zs : List Int} (h : Ints w v zs) : ∃ ao cap, v = .slice ao zs.length cap := by
  rcases h with ⟨b, off, cap, rfl, _⟩ | ⟨ao, cap, rfl, rfl⟩
  · exact ⟨_, _, rfl⟩
  · exact ⟨_, _, rfl⟩
theorem Pts.shape {w : World} {v : Value} {zs : List Pt} (h : Pts w v zs) : ∃ ao cap, v = .slice ao zs.length cap := by
  rcases h with ⟨b, off, cap, rfl, _⟩ | ⟨ao, cap, rfl, rfl⟩
  · exact ⟨_, _, rfl⟩
  · exact ⟨_, _, rfl⟩
theorem Wls.shape {w : World} {v : Value} {zs : List Wl} (h : Wls w v zs) : ∃ ao cap, v = .slice ao zs.length cap := by
  rcases h with ⟨b, off, cap, rfl, _⟩ | ⟨ao, cap, rfl, rfl⟩
  · exact ⟨_, _, rfl⟩
  · exact ⟨_, _, rfl⟩

theorem square_any (a1 a2 b1 b2 : Int) (ha1 : Co a1) (ha2 : Co a2) (hb1 : Co b1) (hb2 : Co b2) (w : World) :
    Calls Try.prog 13 #[.agg #[.int .i64 a1, .int .i64 a2], .agg #[.int .i64 b1, .int .i64 b2]] w fun e w' => e = .returned (.int .i64 ((b1 - a1) * (b1 - a1) + (b2 - a2) * (b2 - a2))) ∧ Same w w' := by
  obtain ⟨p1, p2⟩ := prod_bd (x := b1 - a1) (y := b1 - a1) (by unfold Co at *; omega) (by unfold Co at *; omega) (by unfold Co at *; omega) (by unfold Co at *; omega)
  obtain ⟨q1, q2⟩ := prod_bd (x := b2 - a2) (y := b2 - a2) (by unfold Co at *; omega) (by unfold Co at *; omega) (by unfold Co at *; omega) (by unfold Co at *; omega)
  unfold Co at *
  obtain ⟨x1, x2⟩ := ha1; obtain ⟨x3, x4⟩ := ha2; obtain ⟨x5, x6⟩ := hb1; obtain ⟨x7, x8⟩ := hb2
  go_enter Try.func13, Try.ntmps13
  go_wp2
  go_quiet (fail)
  go_wp2
  go_ret
  exact ⟨rfl, by repeat' (first | exact Same.refl _ | apply Same.alloc | apply Same.drew | apply Same.drewN)⟩

def ptB (x y : Int) : Bool := decide (0 ≤ x ∧ x ≤ 10000) && decide (0 ≤ y ∧ y ≤ 10000)
theorem isPoint_any (x y : Int) (w : World) : Calls Try.prog 45 #[.agg #[.int .i64 x, .int .i64 y]] w fun e w' => e = .returned (.bool (ptB x y)) ∧ Same w w' := by
  have h1 := fun w => within_any x 0 10000 w
  have h2 := fun w => within_any y 0 10000 w
  unfold ptB
  generalize decide (0 ≤ x ∧ x ≤ 10000) = u at *
  generalize decide (0 ≤ y ∧ y ≤ 10000) = v at *
  have H1 := Lib.hid h1; have H2 := Lib.hid h2
  clear h1 h2
  go_enter Try.func45, Try.ntmps45
  go_wp2_with (first
    | (go_at_call 46; (with_reducible refine (H1.out _).mono ?_); rintro e w' ⟨rfl, rfl⟩)
    | (go_at_call 46; (with_reducible refine (H2.out _).mono ?_); rintro e w' ⟨rfl, rfl⟩))
  all_goals go_ret
  all_goals exact ⟨ret_bool (by simp [*]), by repeat' (first | exact Same.refl _ | apply Same.alloc)⟩
def rcB (e n t : Int) : Bool := (decide (e = 2) || decide (e = 4)) && (decide (1000 ≤ t ∧ t ≤ 100000) && decide (1 ≤ n ∧ n ≤ 68719476736))
theorem hasReceivers_any (v1 v2 v3 : Value) (ao1 ao2 ao3 : Option Addr) (l1 l2 l3 c1 c2 c3 : Nat) (h1 : v1 = .slice ao1 l1 c1) (h2 : v2 = .slice ao2 l2 c2) (h3 : v3 = .slice ao3 l3 c3) (e n t : Int) (w : World) :
    Calls Try.prog 55 #[.agg #[v1, v2, v3, .int .i64 e, .int .i64 n, .int .i64 t]] w fun e' w' => e' = .returned (.bool (rcB e n t)) ∧ Same w w' := by
  subst h1 h2 h3
  have h1 := fun w => within_any t 1000 100000 w
  have h2 := fun w => within_any n 1 68719476736 w
  unfold rcB
  generalize decide (1000 ≤ t ∧ t ≤ 100000) = u at *
  generalize decide (1 ≤ n ∧ n ≤ 68719476736) = v at *
  have H1 := Lib.hid h1; have H2 := Lib.hid h2
  clear h1 h2
  go_enter Try.func55, Try.ntmps55
  go_wp2_with (first
    | (go_at_call 46; (with_reducible refine (H1.out _).mono ?_); rintro e w' ⟨rfl, rfl⟩)
    | (go_at_call 46; (with_reducible refine (H2.out _).mono ?_); rintro e w' ⟨rfl, rfl⟩))
  all_goals go_ret
  all_goals exact ⟨ret_bool (by simp [*]), by repeat' (first | exact Same.refl _ | apply Same.alloc)⟩
end Go.Proofs.Ytcennbjegdlbhaa
