/- The reference's Few; powers without walls. -/
import Derived.Test.YtcennbjegdlbhaaAwake
import Derived.Test.YtcennbjegdlbhaaArgs
namespace Go.Proofs.Ytcennbjegdlbhaa
open Go.RowKit

def fewB (s : Site) : Bool := decide (s.ps.length ≤ 40) && (decide (s.zs.length ≤ 40) && decide (s.ws.length ≤ 40))
theorem few_any (w : World) (v : Value) (s : Site) (h : SiteAt w v s) : Calls Try.prog 17 #[v] w fun e w' => e = .returned (.bool (fewB s)) ∧ Same w w' := by
  obtain ⟨v1, v2, v3, rfl, h1, h2, h3⟩ := h.read
  obtain ⟨ao1, cap1, rfl⟩ := h1.shape
  obtain ⟨ao2, cap2, rfl⟩ := h2.shape
  obtain ⟨ao3, cap3, rfl⟩ := h3.shape
  clear h1 h2 h3 h
  have hcase : (40 < s.ps.length ∧ fewB s = false) ∨ (s.ps.length ≤ 40 ∧ 40 < s.zs.length ∧ fewB s = false) ∨ (s.ps.length ≤ 40 ∧ s.zs.length ≤ 40 ∧ 40 < s.ws.length ∧ fewB s = false) ∨ (s.ps.length ≤ 40 ∧ s.zs.length ≤ 40 ∧ s.ws.length ≤ 40 ∧ fewB s = true) := by
    unfold fewB
    by_cases g1 : s.ps.length ≤ 40 <;> by_cases g2 : s.zs.length ≤ 40 <;> by_cases g3 : s.ws.length ≤ 40 <;> simp [g1, g2, g3] <;> omega
  generalize fewB s = u at *
  rcases hcase with ⟨g1, rfl⟩ | ⟨g1, g2, rfl⟩ | ⟨g1, g2, g3, rfl⟩ | ⟨g1, g2, g3, rfl⟩
  · have i1 : 40 < (s.ps.length : Int) := by omega
    go_enter Try.func17, Try.ntmps17
    go_wp2
    go_ret
    exact ⟨rfl, by repeat' (first | exact Same.refl _ | apply Same.alloc)⟩
  · have i1 : (s.ps.length : Int) ≤ 40 := by omega
    have i2 : 40 < (s.zs.length : Int) := by omega
    go_enter Try.func17, Try.ntmps17
    go_wp2
    go_ret
    exact ⟨rfl, by repeat' (first | exact Same.refl _ | apply Same.alloc)⟩
  · have i1 : (s.ps.length : Int) ≤ 40 := by omega
    have i2 : (s.zs.length : Int) ≤ 40 := by omega
    have i3 : decide ((s.ws.length : Int) ≤ 40) = false := decide_eq_false (by omega)
    go_enter Try.func17, Try.ntmps17
    go_wp2
    go_ret
    exact ⟨rfl, by repeat' (first | exact Same.refl _ | apply Same.alloc)⟩
  · have i1 : (s.ps.length : Int) ≤ 40 := by omega
    have i2 : (s.zs.length : Int) ≤ 40 := by omega
    have i3 : (s.ws.length : Int) ≤ 40 := by omega
    go_enter Try.func17, Try.ntmps17
    go_wp2
    go_ret
    exact ⟨rfl, by repeat' (first | exact Same.refl _ | apply Same.alloc)⟩

theorem div_mono {x y m k : Int} (hy : 0 ≤ y) (h : y ≤ x) (hm : 0 < m) (hk : m ≤ k) : y / k ≤ x / m := by
  have h0 : 0 ≤ y / k := Int.ediv_nonneg hy (by omega)
  rw [Int.le_ediv_iff_mul_le hm]
  have h1 : y / k * m ≤ y / k * k := Int.mul_le_mul_of_nonneg_left hk h0
  have h2 : y / k * k ≤ y := Int.ediv_mul_le _ (by omega)
  omega
theorem base_mono {e x y m k : Int} (hy : 0 ≤ y) (h : y ≤ x) (hm : 0 < m) (hk : m ≤ k) : baseS e y k ≤ baseS e x m := by
  unfold baseS
  have h1 := div_mono (x := x * 100) (y := y * 100) (by omega) (by omega) hm hk
  split
  · have h0 : 0 ≤ y * 100 / k := Int.ediv_nonneg (by omega) (by omega)
    exact div_mono (by omega) (by omega) hm hk
  · exact h1
theorem base_bd {e x m : Int} (hx : 0 ≤ x) (hm : 100 ≤ m) : 0 ≤ baseS e x m ∧ baseS e x m ≤ x := by
  unfold baseS
  have h0 : 0 ≤ x * 100 / m := Int.ediv_nonneg (by omega) (by omega)
  have h1 : x * 100 / m ≤ x := by
    have := div_mono (x := x * 100) (y := x * 100) (m := 100) (k := m) (by omega) (by omega) (by decide) hm
    omega
  split
  · refine ⟨Int.ediv_nonneg (by omega) (by omega), ?_⟩
    have := div_mono (x := x * 100 / m * 100) (y := x * 100 / m * 100) (m := 100) (k := m) (by omega) (by omega) (by decide) hm
    omega
  · exact ⟨h0, h1⟩
end Go.Proofs.Ytcennbjegdlbhaa
