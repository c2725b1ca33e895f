/- A copy of a slice, from which one element is deleted. -/
import Derived.Test.YtjgbbafmjdapdaaDoorReceives
import Derived.Test.YtjgbbafmjdapdaaDoorCapture
namespace Go.Proofs.YtjgbbafmjdapdaaDoor
open Go.RowKit

/-- A copy of the call's own of a slice that is not empty, made in the world w0. -/
def Own (w0 w : World) (v : Value) (zs : List Int) : Prop :=
  ∃ g cap cur, v = .slice (some ⟨g, 0, none⟩) zs.length cap ∧ w0.heap.size ≤ g ∧ w.heap[g]? = some (.cells cur 3 (0, 0)) ∧ zs.length ≤ cap ∧ cap ≤ 9223372036854775807 ∧ (∀ i, i < zs.length → w.cell? ⟨g, 0 + i, none⟩ = some (.int .i64 (zs.getD i 0))) ∧ Same w0 w
theorem clone_own (w : World) (v : Value) (zs : List Int) (hv : Ints w v zs) (hl : zs.length ≤ 1000) (h0 : 0 < zs.length) : Calls Tryd.prog 19 #[v] w fun e w' => ∃ v', e = .returned v' ∧ Own w w' v' zs ∧ Same w w' := by
  rcases hv with ⟨b, off, cap, rfl, _, hc⟩ | ⟨ao, cap, rfl, rfl⟩
  · refine (Tryd.slices_Clone_int b off zs.length cap zs w (Nat.le_refl _) (by omega) hc).mono ?_
    rintro e w' ⟨v', he, ho, _, hb⟩
    rw [List.take_of_length_le (Nat.le_refl _)] at ho
    rcases ho.2 with ⟨_, hnil⟩ | ⟨g, cap', cur, hv', hg, hgg, hn, hcm, _, _⟩
    · have : zs.length = 0 := by simpa using hnil
      omega
    · refine ⟨v', he, ⟨g, cap', cur, hv', hg, hgg, hn, by unfold maxLen at hcm; omega, fun i hi => ?_, Same.ofBelow hb⟩, Same.ofBelow hb⟩
      subst hv'
      rw [Nat.zero_add, ho.cellAt i (by simpa using hi)]
      simp [List.getD, List.getElem?_eq_getElem hi]
  · simp at h0
/-- A list without one element. -/
def without (zs : List Int) (k : Nat) : List Int := zs.take k ++ zs.drop (k + 1)
theorem without_length (zs : List Int) (k : Nat) (hk : k < zs.length) : (without zs k).length = zs.length - 1 := by unfold without; simp; omega
theorem Same.setCells {w0 : World} (g : Nat) (hg : w0.heap.size ≤ g) : ∀ (vs : List Value) (o : Nat) (w : World), Same w0 w → Same w0 (w.setCells g o vs)
  | [], _, _, h => h
  | v :: vs, o, _, h => Same.setCells g hg vs (o + 1) _ (h.setCell (p := ⟨g, o, none⟩) hg v)
theorem delete_any (w0 w : World) (v : Value) (zs : List Int) (k : Nat) (ho : Own w0 w v zs) (hk : k < zs.length) : Calls Tryd.prog 31 #[v, .int .i64 k, .int .i64 ((k : Int) + 1)] w fun e w' => ∃ v', e = .returned v' ∧ Ints w' v' (without zs k) ∧ Same w0 w' := by
  obtain ⟨g, cap, cur, rfl, hg, hgg, hn, hcm, hc, hs⟩ := ho
  have h := Tryd.slices_Delete_int_cells g 0 zs.length cap k (k + 1) zs w (Nat.le_refl _) hn hcm (by omega) (by omega) hc (fun j hj => frozen_of_row w g _ cur 3 hgg)
  rw [show ((k + 1 : Nat) : Int) = (k : Int) + 1 by omega] at h
  refine h.mono ?_
  rintro e w' ⟨he, q, rfl⟩
  have hlist : (zs.take zs.length).take k ++ (zs.take zs.length).drop (k + 1) ++ List.replicate (k + 1 - k) 0 = without zs k ++ [0] := by
    rw [List.take_of_length_le (Nat.le_refl _), show k + 1 - k = 1 by omega]; rfl
  rw [hlist]
  have hw := without_length zs k hk
  refine ⟨_, he, ?_, Same.setCells g hg _ _ _ (hs.drewN q)⟩
  rw [show zs.length - (k + 1 - k) = (without zs k).length by omega]
  by_cases h1 : (without zs k).length = 0
  · rw [h1]
    exact .inr ⟨_, cap, rfl, List.length_eq_zero_iff.1 h1⟩
  · refine .inl ⟨g, 0, cap, rfl, by omega, fun i hi => ?_⟩
    have hin := World.cell?_setCells_in g ((without zs k ++ [0]).map (Value.int .i64)) 0 (w.drewN q) (fun j hj => by
      have hj' : j < zs.length := by simp at hj; omega
      have := (Same.refl w).drewN q |>.cell (hc j hj')
      rw [this]; rfl) i (by simp; omega)
    rw [hin]
    simp [hi, List.getD_eq_getElem?_getD]

theorem pw_without {zs : List Int} {k : Nat} (h : ∀ z ∈ zs, Pw z) : ∀ z ∈ without zs k, Pw z := by
  intro z hz
  unfold without at hz
  rcases List.mem_append.1 hz with h1 | h1
  · exact h z (List.mem_of_mem_take h1)
  · exact h z (List.mem_of_mem_drop h1)
theorem sum_without {zs : List Int} {k : Nat} (h : ∀ z ∈ zs, Pw z) (hk : k < zs.length) : (without zs k).sum ≤ zs.sum := by
  have h1 : zs = zs.take k ++ zs.getD k 0 :: zs.drop (k + 1) := by
    conv => lhs; rw [← List.take_append_drop k zs, List.drop_eq_getElem_cons hk]
    rw [List.getD_eq_getElem?_getD, List.getElem?_eq_getElem hk]; rfl
  have hz := (h _ (at_mem zs k hk)).1
  unfold without
  conv => rhs; rw [h1]
  simp only [List.sum_append, List.sum_cons]
  omega
end Go.Proofs.YtjgbbafmjdapdaaDoor
