/- The reference's Check of a site. -/
import Derived.Test.YtcennbjegdlbhaaCheck2
namespace Go.Proofs.Ytcennbjegdlbhaa
open Go.RowKit

theorem is_at (n : Int) (u : Bool) (hu : pwB n = u) (w : World) : Calls Try.prog 49 #[.int .i64 n] w fun e w' => e = .returned (.bool u) ∧ w' = w := by
  subst hu
  by_cases h1 : 0 ≤ n
  · have e : pwB n = decide (n ≤ 68719476736) := by unfold pwB; simp [h1]
    rw [e]
    go_enter Try.func49, Try.ntmps49
    go_wp2
    go_ret
    exact ⟨rfl, rfl⟩
  · have e : pwB n = false := by unfold pwB; simp [h1]
    rw [e]
    go_enter Try.func49, Try.ntmps49
    go_wp2
    go_ret
    exact ⟨rfl, rfl⟩
theorem point2_any (x y : Int) (w : World) : Calls Try.prog 48 #[.agg #[.int .i64 x, .int .i64 y]] w fun e w' => e = .returned (.bool (ptB x y)) ∧ Same w w' := by
  have hcase : (x < 0 ∧ ptB x y = false) ∨ (0 ≤ x ∧ 10000 < x ∧ ptB x y = false) ∨ (0 ≤ x ∧ x ≤ 10000 ∧ y < 0 ∧ ptB x y = false) ∨ (0 ≤ x ∧ x ≤ 10000 ∧ 0 ≤ y ∧ decide (y ≤ 10000) = ptB x y) := by
    unfold ptB
    by_cases g1 : 0 ≤ x <;> by_cases g2 : x ≤ 10000 <;> by_cases g3 : 0 ≤ y <;> simp [g1, g2, g3] <;> omega
  generalize ptB x y = u at *
  rcases hcase with ⟨h1, rfl⟩ | ⟨h1, h2, rfl⟩ | ⟨h1, h2, h3, rfl⟩ | ⟨h1, h2, h3, h4⟩
  · go_enter Try.func48, Try.ntmps48
    go_wp2
    go_ret
    exact ⟨rfl, by repeat' (first | exact Same.refl _ | apply Same.alloc)⟩
  · go_enter Try.func48, Try.ntmps48
    go_wp2
    go_ret
    exact ⟨rfl, by repeat' (first | exact Same.refl _ | apply Same.alloc)⟩
  · go_enter Try.func48, Try.ntmps48
    go_wp2
    go_ret
    exact ⟨rfl, by repeat' (first | exact Same.refl _ | apply Same.alloc)⟩
  · have H4 := Lib.hid h4; clear h4
    go_enter Try.func48, Try.ntmps48
    go_wp2
    go_ret
    exact ⟨ret_bool H4.out, by repeat' (first | exact Same.refl _ | apply Same.alloc)⟩
theorem point2_at (x y : Int) (u : Bool) (h : ptB x y = u) (w : World) : Calls Try.prog 48 #[.agg #[.int .i64 x, .int .i64 y]] w fun e w' => e = .returned (.bool u) ∧ Same w w' := h ▸ point2_any x y w
def rtB (t n : Int) : Bool := decide (1000 ≤ t ∧ t ≤ 100000) && decide (1 ≤ n ∧ n ≤ 68719476736)
theorem right_any (t n : Int) (w : World) : Calls Try.prog 56 #[.int .i64 t, .int .i64 n] w fun e w' => e = .returned (.bool (rtB t n)) ∧ w' = w := by
  have hc : (t < 1000 ∧ rtB t n = false) ∨ (1000 ≤ t ∧ 100000 < t ∧ rtB t n = false) ∨ (1000 ≤ t ∧ t ≤ 100000 ∧ n < 1 ∧ rtB t n = false) ∨ (1000 ≤ t ∧ t ≤ 100000 ∧ 1 ≤ n ∧ decide (n ≤ 68719476736) = rtB t n) := by
    unfold rtB
    by_cases g1 : 1000 ≤ t <;> by_cases g2 : t ≤ 100000 <;> by_cases g3 : 1 ≤ n <;> simp [g1, g2, g3] <;> omega
  generalize rtB t n = u at *
  rcases hc with ⟨h1, rfl⟩ | ⟨h1, h2, rfl⟩ | ⟨h1, h2, h3, rfl⟩ | ⟨h1, h2, h3, h4⟩
  · go_enter Try.func56, Try.ntmps56
    go_wp2
    go_ret
    exact ⟨rfl, rfl⟩
  · go_enter Try.func56, Try.ntmps56
    go_wp2
    go_ret
    exact ⟨rfl, rfl⟩
  · go_enter Try.func56, Try.ntmps56
    go_wp2
    go_ret
    exact ⟨rfl, rfl⟩
  · have H4 := Lib.hid h4; clear h4
    go_enter Try.func56, Try.ntmps56
    go_wp2
    go_ret
    exact ⟨ret_bool H4.out, rfl⟩
theorem right_at (t n : Int) (u : Bool) (h : rtB t n = u) (w : World) : Calls Try.prog 56 #[.int .i64 t, .int .i64 n] w fun e w' => e = .returned (.bool u) ∧ w' = w := h ▸ right_any t n w
/-- What the reference asks ahead of its loops. -/
def headP (s : Site) : Prop := 2 ≤ s.ps.length ∧ s.ps.length ≤ 32 ∧ s.zs.length = s.ps.length ∧ s.ws.length ≤ 32 ∧ (s.e = 2 ∨ s.e = 4) ∧ rtB s.t s.n = true
theorem head_of {s : Site} (h : siteB s = true) : headP s := by
  unfold siteB nodesB wallsB rcB at h
  simp only [Bool.and_eq_true, Bool.or_eq_true, decide_eq_true_eq] at h
  obtain ⟨⟨⟨⟨h1, h2⟩, h3⟩, h4⟩, ⟨h5, h6⟩, h7, h8, h9⟩ := h
  exact ⟨h1, h2, h3, h5, h7, by unfold rtB; simp only [Bool.and_eq_true, decide_eq_true_eq]; exact ⟨h8, h9⟩⟩
theorem site_eq {s : Site} (h : headP s) : siteB s = (decide (∀ i, i < s.ps.length → nodeB s.ps s.zs i = true) && decide (∀ i, i < s.ws.length → wlB (s.ws.getD i ⟨0, 0, 0, 0, 0⟩) = true)) := by
  obtain ⟨h1, h2, h3, h4, h5, h6⟩ := h
  unfold rtB at h6
  simp only [Bool.and_eq_true, decide_eq_true_eq] at h6
  have e1 : rcB s.e s.n s.t = true := by unfold rcB; simp only [Bool.and_eq_true, Bool.or_eq_true, decide_eq_true_eq]; exact ⟨h5, h6⟩
  unfold siteB nodesB wallsB
  rw [e1, decide_eq_true (show 2 ≤ s.ps.length ∧ s.ps.length ≤ 32 from ⟨h1, h2⟩), decide_eq_true h3, decide_eq_true h4]
  simp
set_option maxHeartbeats 3200000 in
theorem check2_bad (w : World) (v : Value) (s : Site) (h : SiteAt w v s) (hb : ¬ headP s) : Calls Try.prog 25 #[v] w fun e w' => e = .returned (.int .i64 1) ∧ Same w w' := by
  obtain ⟨v1, v2, v3, rfl, h1, h2, h3⟩ := h.read
  obtain ⟨ao1, cap1, rfl⟩ := h1.shape
  obtain ⟨ao2, cap2, rfl⟩ := h2.shape
  obtain ⟨ao3, cap3, rfl⟩ := h3.shape
  clear h1 h2 h3 h
  obtain ⟨u, hu⟩ : ∃ u, rtB s.t s.n = u := ⟨_, rfl⟩
  have HR := Lib.hid (fun w => right_at s.t s.n u hu w)
  have hcase : (s.ps.length < 2) ∨ (2 ≤ s.ps.length ∧ 32 < s.ps.length) ∨ (2 ≤ s.ps.length ∧ s.ps.length ≤ 32 ∧ s.zs.length ≠ s.ps.length) ∨ (2 ≤ s.ps.length ∧ s.ps.length ≤ 32 ∧ s.zs.length = s.ps.length ∧ 32 < s.ws.length) ∨ (2 ≤ s.ps.length ∧ s.ps.length ≤ 32 ∧ s.zs.length = s.ps.length ∧ s.ws.length ≤ 32 ∧ s.e ≠ 2 ∧ s.e ≠ 4) ∨ (2 ≤ s.ps.length ∧ s.ps.length ≤ 32 ∧ s.zs.length = s.ps.length ∧ s.ws.length ≤ 32 ∧ s.e = 2 ∧ u = false) ∨ (2 ≤ s.ps.length ∧ s.ps.length ≤ 32 ∧ s.zs.length = s.ps.length ∧ s.ws.length ≤ 32 ∧ s.e = 4 ∧ u = false) := by
    unfold headP at hb
    rw [hu] at hb
    cases u <;> simp at hb ⊢ <;> omega
  clear hb hu
  generalize s.ps.length = a at *
  generalize s.zs.length = b at *
  generalize s.ws.length = c at *
  generalize s.e = e at *
  generalize s.n = n at *
  generalize s.t = t at *
  rcases hcase with g1 | ⟨g1, g2⟩ | ⟨g1, g2, g3⟩ | ⟨g1, g2, g3, g4⟩ | ⟨g1, g2, g3, g4, g5, g6⟩ | ⟨g1, g2, g3, g4, rfl, rfl⟩ | ⟨g1, g2, g3, g4, rfl, rfl⟩
  · have i1 : (a : Int) < 2 := by omega
    go_enter Try.func25, Try.ntmps25
    go_wp2
    go_ret
    exact ⟨rfl, by repeat' (first | exact Same.refl _ | apply Same.alloc)⟩
  · have i1 : 2 ≤ (a : Int) := by omega
    have i2 : 32 < (a : Int) := by omega
    go_enter Try.func25, Try.ntmps25
    go_wp2
    go_ret
    exact ⟨rfl, by repeat' (first | exact Same.refl _ | apply Same.alloc)⟩
  · have i1 : 2 ≤ (a : Int) := by omega
    have i2 : (a : Int) ≤ 32 := by omega
    have i3 : ((b : Int) != (a : Int)) = true := by simp; omega
    go_enter Try.func25, Try.ntmps25
    go_wp2
    go_ret
    exact ⟨rfl, by repeat' (first | exact Same.refl _ | apply Same.alloc)⟩
  · subst g3
    have i1 : 2 ≤ (b : Int) := by omega
    have i2 : (b : Int) ≤ 32 := by omega
    have i3 : 32 < (c : Int) := by omega
    go_enter Try.func25, Try.ntmps25
    go_wp2
    go_ret
    exact ⟨rfl, by repeat' (first | exact Same.refl _ | apply Same.alloc)⟩
  all_goals
    subst g3
    have i1 : 2 ≤ (b : Int) := by omega
    have i2 : (b : Int) ≤ 32 := by omega
    have i3 : (c : Int) ≤ 32 := by omega
    try have i4 : (e != 2) = true := by simpa using g5
    try have i5 : (e != 4) = true := by simpa using g6
    go_enter Try.func25, Try.ntmps25
    go_wp2_with (go_at_call 56; (with_reducible refine (HR.out _).mono ?_); rintro e w' ⟨rfl, rfl⟩)
    go_ret
    exact ⟨rfl, by repeat' (first | exact Same.refl _ | apply Same.alloc)⟩
end Go.Proofs.Ytcennbjegdlbhaa
