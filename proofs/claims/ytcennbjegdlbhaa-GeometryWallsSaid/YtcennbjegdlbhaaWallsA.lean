/- Walls copied and appended: the cells of a list of walls, slices.Clone of them. -/
import Derived.Test.YtcennbjegdlbhaaFew
import Derived.OwnWalk
import Derived.Deep.AppendLies
import Derived.Laws.OwnMore
import Derived.Lib.SliceRun
namespace Go.Proofs.Ytcennbjegdlbhaa
open Go.RowKit

def wcells (ws : List Wl) : List Value := ws.flatMap fun v => [.int .i64 v.a1, .int .i64 v.a2, .int .i64 v.b1, .int .i64 v.b2, .int .i64 v.f]
theorem wcells_length (ws : List Wl) : (wcells ws).length = ws.length * 5 := by
  unfold wcells
  induction ws with
  | nil => rfl
  | cons v ws ih => rw [List.flatMap_cons, List.length_append, ih]; simp; omega
theorem wcells_append (ws : List Wl) (v : Wl) : wcells (ws ++ [v]) = wcells ws ++ [.int .i64 v.a1, .int .i64 v.a2, .int .i64 v.b1, .int .i64 v.b2, .int .i64 v.f] := by
  unfold wcells; rw [List.flatMap_append]; simp
theorem wcells_get : ∀ (ws : List Wl) (i : Nat), i < ws.length → (wcells ws)[i * 5]? = some (.int .i64 (ws.getD i ⟨0, 0, 0, 0, 0⟩).a1) ∧ (wcells ws)[i * 5 + 1]? = some (.int .i64 (ws.getD i ⟨0, 0, 0, 0, 0⟩).a2) ∧ (wcells ws)[i * 5 + 2]? = some (.int .i64 (ws.getD i ⟨0, 0, 0, 0, 0⟩).b1) ∧ (wcells ws)[i * 5 + 3]? = some (.int .i64 (ws.getD i ⟨0, 0, 0, 0, 0⟩).b2) ∧ (wcells ws)[i * 5 + 4]? = some (.int .i64 (ws.getD i ⟨0, 0, 0, 0, 0⟩).f)
  | [], i, h => by simp at h
  | v :: ws, 0, _ => ⟨rfl, rfl, rfl, rfl, rfl⟩
  | v :: ws, i + 1, h => by
    have ih := wcells_get ws i (by simpa using h)
    have e : wcells (v :: ws) = [.int .i64 v.a1, .int .i64 v.a2, .int .i64 v.b1, .int .i64 v.b2, .int .i64 v.f] ++ wcells ws := rfl
    have q : ∀ k, (wcells (v :: ws))[(i + 1) * 5 + k]? = (wcells ws)[i * 5 + k]? := fun k => by
      rw [e, List.getElem?_append_right (by simp; omega)]
      congr 1; simp; omega
    have g : (v :: ws).getD (i + 1) ⟨0, 0, 0, 0, 0⟩ = ws.getD i ⟨0, 0, 0, 0, 0⟩ := rfl
    rw [g]
    exact ⟨(q 0).trans ih.1, (q 1).trans ih.2.1, (q 2).trans ih.2.2.1, (q 3).trans ih.2.2.2.1, (q 4).trans ih.2.2.2.2⟩
/-- The cells of walls as they lie. -/
theorem wcells_at {w : World} {b off : Nat} {ws : List Wl} (hc : ∀ i, i < ws.length → w.cell? ⟨b, off + i * 5, none⟩ = some (.int .i64 (ws.getD i ⟨0, 0, 0, 0, 0⟩).a1) ∧ w.cell? ⟨b, off + i * 5 + 1, none⟩ = some (.int .i64 (ws.getD i ⟨0, 0, 0, 0, 0⟩).a2) ∧ w.cell? ⟨b, off + i * 5 + 2, none⟩ = some (.int .i64 (ws.getD i ⟨0, 0, 0, 0, 0⟩).b1) ∧ w.cell? ⟨b, off + i * 5 + 3, none⟩ = some (.int .i64 (ws.getD i ⟨0, 0, 0, 0, 0⟩).b2) ∧ w.cell? ⟨b, off + i * 5 + 4, none⟩ = some (.int .i64 (ws.getD i ⟨0, 0, 0, 0, 0⟩).f)) :
    ∀ j u, (wcells ws)[j]? = some u → w.cell? ⟨b, off + j, none⟩ = some u := by
  intro j u hj
  have hl : j < ws.length * 5 := by rw [← wcells_length]; exact (List.getElem?_eq_some_iff.1 hj).1
  obtain ⟨g0, g1, g2, g3, g4⟩ := wcells_get ws (j / 5) (by omega)
  obtain ⟨h0, h1, h2, h3, h4⟩ := hc (j / 5) (by omega)
  have hr : j % 5 = 0 ∨ j % 5 = 1 ∨ j % 5 = 2 ∨ j % 5 = 3 ∨ j % 5 = 4 := by omega
  rcases hr with r | r | r | r | r
  · rw [show j / 5 * 5 = j by omega] at g0 h0; rw [← hj, g0]; rw [show off + j / 5 * 5 = off + j by omega] at *; exact h0
  · rw [show j / 5 * 5 + 1 = j by omega] at g1; rw [← hj, g1]; rw [show off + j / 5 * 5 + 1 = off + j by omega] at h1; exact h1
  · rw [show j / 5 * 5 + 2 = j by omega] at g2; rw [← hj, g2]; rw [show off + j / 5 * 5 + 2 = off + j by omega] at h2; exact h2
  · rw [show j / 5 * 5 + 3 = j by omega] at g3; rw [← hj, g3]; rw [show off + j / 5 * 5 + 3 = off + j by omega] at h3; exact h3
  · rw [show j / 5 * 5 + 4 = j by omega] at g4; rw [← hj, g4]; rw [show off + j / 5 * 5 + 4 = off + j by omega] at h4; exact h4
/-- A row of the call's own that holds walls reads as them. -/
theorem wls_own {w : World} {base g n cap : Nat} {ws : List Wl} (hn : n = ws.length) (h : w.ownsRow base 25 5 (.slice (some ⟨g, 0, none⟩) n cap) n (wcells ws)) : Wls w (.slice (some ⟨g, 0, none⟩) n cap) ws := by
  subst hn
  by_cases h0 : ws = []
  · subst h0; exact .inr ⟨_, _, rfl, rfl⟩
  · refine .inl ⟨g, 0, cap, rfl, List.length_pos_iff.2 h0, fun i hi => ?_⟩
    obtain ⟨g0, g1, g2, g3, g4⟩ := wcells_get ws i hi
    have q := fun j hj => h.cellAt j hj
    simp only [Nat.zero_add]
    exact ⟨(q _ (by omega)).trans g0, (q _ (by omega)).trans g1, (q _ (by omega)).trans g2, (q _ (by omega)).trans g3, (q _ (by omega)).trans g4⟩
theorem Try.infoW : (Try.prog.info? 25).map (fun i => (i.zero, i.size, i.bytes)) = some (some (.agg #[.int .i64 0, .int .i64 0, .int .i64 0, .int .i64 0, .int .i64 0]), 5, 40) := by kernel_rfl
set_option maxHeartbeats 2000000 in
set_option maxRecDepth 100000 in
theorem cloneW_any (w : World) (v : Value) (ws : List Wl) (hv : Wls w v ws) (hl : ws.length ≤ 40) :
    Calls Try.prog 35 #[v] w fun e w' => ∃ v', e = .returned v' ∧ w'.ownsRow w.heap.size 25 5 v' ws.length (wcells ws) ∧ Same w w' := by
  obtain ⟨i0, hi, hz0, hz1, hz2⟩ := info_parts Try.infoW
  have q22 : ∀ (w : World) (a : Option Addr) (n c n' c' : Nat), (binOp .eql 32 (.slice a n c) (.slice none n' c')).run Try.prog w = .ok (.bool a.isNone) w := fun w a n c n' c' => Lib.run_eql_slice_nil w _ _ a n c n' c' Try.underlying32
  have hshape : (∃ ad cap, v = .slice (some ad) ws.length cap ∧ ∀ j u, (wcells ws)[j]? = some u → w.cell? (ad.add j) = some u) ∨ (∃ cap, v = .slice none 0 cap ∧ ws = []) := by
    rcases hv with ⟨b, off, cap, rfl, h0, hc⟩ | ⟨ao, cap, rfl, rfl⟩
    · refine .inl ⟨_, _, rfl, fun j u hj => ?_⟩
      rw [addr_add]; exact wcells_at hc j u hj
    · cases ao with
      | none => exact .inr ⟨_, rfl, rfl⟩
      | some ad => exact .inl ⟨_, _, rfl, fun j u hj => by simp [wcells] at hj⟩
  clear hv
  rcases hshape with ⟨ad, cap, rfl, hc⟩ | ⟨cap, rfl, rfl⟩
  · have A := Lib.hid hc; clear hc
    generalize hn : ws.length = n at *
    have N := Lib.hid hn; clear hn
    go_enter Try.func35, Try.ntmps35
    go_wp2_with (at_builtin; refine wpList_append_own _ rfl _ _ 32 rfl w.heap.size 25 i0 (.agg #[.int .i64 0, .int .i64 0, .int .i64 0, .int .i64 0, .int .i64 0]) 5 40 Try.underlying32 hi hz0 hz1 hz2 rfl (by decide) _ _ _ rfl (World.ownsRow_made w #[] 0 (Nat.le_refl _) (Nat.zero_le _) rfl) ad n cap (wcells ws) rfl ?qc1 ?qc2 ?qc3 ?qc4 ?qc5 ?qc6 ?_)
    case qc1 => rw [wcells_length, N.out]
    case qc2 => intro j u hj; exact Lib.cell?_alloc_some _ (A.out j u hj)
    case qc3 => intro u hu; simp only [wcells, List.mem_flatMap] at hu; obtain ⟨x, _, hx⟩ := hu; simp at hx; rcases hx with rfl | rfl | rfl | rfl | rfl <;> rfl
    case qc4 => unfold maxLen; omega
    case qc5 => omega
    case qc6 => simp
    intro v' w1 hown hgrow hnil
    go_wp2
    go_ret
    refine ⟨v', rfl, by simpa using hown, ?_⟩
    have hb : Below w.heap.size w w1 := ((Below.refl _ w).alloc (Nat.le_refl _) _).grown hgrow (by simp) (by intro k hk; simp [Value.ownBlock] at hk; omega)
    exact Same.ofBelow hb
  · go_enter Try.func35, Try.ntmps35
    go_wp2
    go_ret
    exact ⟨_, rfl, World.ownsRow_nil _ _ _ _, Same.refl _⟩
end Go.Proofs.Ytcennbjegdlbhaa
