/- Lists in memory: numbers, states and steps; slices.Clone of them. -/
import Derived.Test.YtffcoeadpicohaaTArgs
import Derived.OwnWalk
import Derived.Deep.AppendLies
import Derived.Laws.OwnMore
import Derived.Lib.SliceRun
namespace Go.Proofs.Ytffcoeadpicohaa
open Go.RowKit

abbrev Sn := Int × Int × Bool
def icells (l : List Int) : List Value := l.map fun x => .int .i64 x
def ycells (l : List St) : List Value := l.flatMap fun x => [.int .i64 x.1, .int .i64 x.2.1, .int .i64 x.2.2.1, .int .i64 x.2.2.2]
def xcells (l : List Sn) : List Value := l.flatMap fun x => [.int .i64 x.1, .int .i64 x.2.1, .bool x.2.2]
abbrev st0 : St := (0, 0, 0, 0)
abbrev sn0 : Sn := (0, 0, false)
theorem icells_length (l : List Int) : (icells l).length = l.length * 1 := by unfold icells; simp
theorem ycells_length (l : List St) : (ycells l).length = l.length * 4 := by
  unfold ycells
  induction l with
  | nil => rfl
  | cons v ws ih => rw [List.flatMap_cons, List.length_append, ih]; simp; omega
theorem xcells_length (l : List Sn) : (xcells l).length = l.length * 3 := by
  unfold xcells
  induction l with
  | nil => rfl
  | cons v ws ih => rw [List.flatMap_cons, List.length_append, ih]; simp; omega
theorem icells_get (l : List Int) (i : Nat) (h : i < l.length) : (icells l)[i]? = some (.int .i64 (l.getD i 0)) := by
  unfold icells; simp [List.getD_eq_getElem?_getD, List.getElem?_eq_getElem h]
theorem ycells_get : ∀ (l : List St) (i : Nat), i < l.length → (ycells l)[i * 4]? = some (.int .i64 (l.getD i st0).1) ∧ (ycells l)[i * 4 + 1]? = some (.int .i64 (l.getD i st0).2.1) ∧ (ycells l)[i * 4 + 2]? = some (.int .i64 (l.getD i st0).2.2.1) ∧ (ycells l)[i * 4 + 3]? = some (.int .i64 (l.getD i st0).2.2.2)
  | [], i, h => by simp at h
  | v :: ws, 0, _ => ⟨rfl, rfl, rfl, rfl⟩
  | v :: ws, i + 1, h => by
    have ih := ycells_get ws i (by simpa using h)
    have e : ycells (v :: ws) = [.int .i64 v.1, .int .i64 v.2.1, .int .i64 v.2.2.1, .int .i64 v.2.2.2] ++ ycells ws := rfl
    have q : ∀ k, (ycells (v :: ws))[(i + 1) * 4 + k]? = (ycells ws)[i * 4 + k]? := fun k => by
      rw [e, List.getElem?_append_right (by simp; omega)]
      congr 1; simp; omega
    have g : (v :: ws).getD (i + 1) st0 = ws.getD i st0 := rfl
    rw [g]
    exact ⟨(q 0).trans ih.1, (q 1).trans ih.2.1, (q 2).trans ih.2.2.1, (q 3).trans ih.2.2.2⟩
theorem xcells_get : ∀ (l : List Sn) (i : Nat), i < l.length → (xcells l)[i * 3]? = some (.int .i64 (l.getD i sn0).1) ∧ (xcells l)[i * 3 + 1]? = some (.int .i64 (l.getD i sn0).2.1) ∧ (xcells l)[i * 3 + 2]? = some (.bool (l.getD i sn0).2.2)
  | [], i, h => by simp at h
  | v :: ws, 0, _ => ⟨rfl, rfl, rfl⟩
  | v :: ws, i + 1, h => by
    have ih := xcells_get ws i (by simpa using h)
    have e : xcells (v :: ws) = [.int .i64 v.1, .int .i64 v.2.1, .bool v.2.2] ++ xcells ws := rfl
    have q : ∀ k, (xcells (v :: ws))[(i + 1) * 3 + k]? = (xcells ws)[i * 3 + k]? := fun k => by
      rw [e, List.getElem?_append_right (by simp; omega)]
      congr 1; simp; omega
    have g : (v :: ws).getD (i + 1) sn0 = ws.getD i sn0 := rfl
    rw [g]
    exact ⟨(q 0).trans ih.1, (q 1).trans ih.2.1, (q 2).trans ih.2.2⟩
/-- A slice of n elements whose cells are these. -/
def Lst (w : World) (v : Value) (n : Nat) (cs : List Value) : Prop :=
  (∃ b off cap, v = .slice (some ⟨b, off, none⟩) n cap ∧ ∀ j u, cs[j]? = some u → w.cell? ⟨b, off + j, none⟩ = some u) ∨ (∃ ao cap, v = .slice ao 0 cap ∧ n = 0 ∧ cs = [])
theorem Lst.same {w w' : World} {v : Value} {n : Nat} {cs : List Value} (h : Lst w v n cs) (s : Same w w') : Lst w' v n cs := by
  rcases h with ⟨b, off, cap, h1, h2⟩ | h
  · exact .inl ⟨b, off, cap, h1, fun j u hj => s.cell (h2 j u hj)⟩
  · exact .inr h
theorem Lst.shape {w : World} {v : Value} {n : Nat} {cs : List Value} (h : Lst w v n cs) : ∃ ao cap, v = .slice ao n cap := by
  rcases h with ⟨b, off, cap, rfl, _⟩ | ⟨ao, cap, rfl, rfl, _⟩
  · exact ⟨_, _, rfl⟩
  · exact ⟨_, _, rfl⟩
theorem Lst.of_own {w : World} {base sz n : Nat} {T : TypeId} {v : Value} {cs : List Value} (h : w.ownsRow base T sz v n cs) : Lst w v n cs := by
  have h1 := h.1
  rcases h.2 with ⟨hv, hnil⟩ | ⟨g, cap, cur, hv, _⟩
  · subst hv
    subst hnil
    exact .inr ⟨_, _, rfl, rfl, List.length_eq_zero_iff.1 (by omega)⟩
  · subst hv
    refine .inl ⟨g, 0, cap, rfl, fun j u hj => ?_⟩
    have hl : j < cs.length := (List.getElem?_eq_some_iff.1 hj).1
    rw [Nat.zero_add, h.cellAt j (by omega)]; exact hj
theorem Try.infoI : (Try.prog.info? 3).map (fun i => (i.zero, i.size, i.bytes)) = some (some (.int .i64 0), 1, 8) := by kernel_rfl
theorem Try.infoY : (Try.prog.info? 25).map (fun i => (i.zero, i.size, i.bytes)) = some (some (.agg #[.int .i64 0, .int .i64 0, .int .i64 0, .int .i64 0]), 4, 32) := by kernel_rfl
theorem Try.infoX : (Try.prog.info? 49).map (fun i => (i.zero, i.size, i.bytes)) = some (some (.agg #[.int .i64 0, .int .i64 0, .bool false]), 3, 24) := by kernel_rfl
theorem icells_one (l : List Int) : ∀ u ∈ icells l, u.oneCell' = true := by
  intro u hu; simp only [icells, List.mem_map] at hu; obtain ⟨x, _, rfl⟩ := hu; rfl
theorem ycells_one (l : List St) : ∀ u ∈ ycells l, u.oneCell' = true := by
  intro u hu; simp only [ycells, List.mem_flatMap] at hu; obtain ⟨x, _, hx⟩ := hu; simp at hx; rcases hx with rfl | rfl | rfl | rfl <;> rfl
theorem xcells_one (l : List Sn) : ∀ u ∈ xcells l, u.oneCell' = true := by
  intro u hu; simp only [xcells, List.mem_flatMap] at hu; obtain ⟨x, _, hx⟩ := hu; simp at hx; rcases hx with rfl | rfl | rfl <;> rfl
set_option maxHeartbeats 2000000 in
set_option maxRecDepth 100000 in
theorem CloneI_any (w : World) (v : Value) (n : Nat) (cs : List Value) (hv : Lst w v n cs) (hc : cs.length = n * 1) (ho : ∀ u ∈ cs, u.oneCell' = true) (hl : n ≤ 40) :
    Calls Try.prog 22 #[v] w fun e w' => ∃ v', e = .returned v' ∧ w'.ownsRow w.heap.size 3 1 v' n cs ∧ Same w w' := by
  obtain ⟨i0, hi, hz0, hz1, hz2⟩ := info_parts Try.infoI
  have q22 : ∀ (w : World) (a : Option Addr) (n c n' c' : Nat), (binOp .eql 37 (.slice a n c) (.slice none n' c')).run Try.prog w = .ok (.bool a.isNone) w := fun w a n c n' c' => Lib.run_eql_slice_nil w _ _ a n c n' c' Try.underlying37
  have hshape : (∃ ad cap, v = .slice (some ad) n cap ∧ ∀ j u, cs[j]? = some u → w.cell? (ad.add j) = some u) ∨ (∃ cap, v = .slice none 0 cap ∧ n = 0 ∧ cs = []) := by
    rcases hv with ⟨b, off, cap, rfl, h0⟩ | ⟨ao, cap, rfl, rfl, rfl⟩
    · exact .inl ⟨_, _, rfl, fun j u hj => by rw [addr_add]; exact h0 j u hj⟩
    · cases ao with
      | none => exact .inr ⟨_, rfl, rfl, rfl⟩
      | some ad => exact .inl ⟨_, _, rfl, fun j u hj => by simp at hj⟩
  clear hv
  rcases hshape with ⟨ad, cap, rfl, ha⟩ | ⟨cap, rfl, rfl, rfl⟩
  · have A := Lib.hid ha; clear ha
    have O := Lib.hid ho; clear ho
    have N := Lib.hid hc; clear hc
    go_enter Try.func22, Try.ntmps22
    go_wp2_with (at_builtin; refine wpList_append_own _ rfl _ _ 37 rfl w.heap.size 3 i0 (.int .i64 0) 1 8 Try.underlying37 hi hz0 hz1 hz2 rfl (by decide) _ _ _ rfl (World.ownsRow_made w #[] 0 (Nat.le_refl _) (Nat.zero_le _) rfl) ad n cap cs rfl ?qc1 ?qc2 ?qc3 ?qc4 ?qc5 ?qc6 ?_)
    case qc1 => exact N.out
    case qc2 => intro j u hj; exact Lib.cell?_alloc_some _ (A.out j u hj)
    case qc3 => exact O.out
    case qc4 => unfold maxLen; omega
    case qc5 => omega
    case qc6 => simp
    intro v' w1 hown hgrow hnil
    go_wp2
    go_ret
    refine ⟨v', rfl, by simpa using hown, ?_⟩
    have hb : Below w.heap.size w w1 := ((Below.refl _ w).alloc (Nat.le_refl _) _).grown hgrow (by simp) (by intro k hk; simp [Value.ownBlock] at hk; omega)
    exact Same.ofBelow hb
  · go_enter Try.func22, Try.ntmps22
    go_wp2
    go_ret
    exact ⟨_, rfl, World.ownsRow_nil _ _ _ _, Same.refl _⟩
set_option maxHeartbeats 2000000 in
set_option maxRecDepth 100000 in
theorem CloneY_any (w : World) (v : Value) (n : Nat) (cs : List Value) (hv : Lst w v n cs) (hc : cs.length = n * 4) (ho : ∀ u ∈ cs, u.oneCell' = true) (hl : n ≤ 40) :
    Calls Try.prog 25 #[v] w fun e w' => ∃ v', e = .returned v' ∧ w'.ownsRow w.heap.size 25 4 v' n cs ∧ Same w w' := by
  obtain ⟨i0, hi, hz0, hz1, hz2⟩ := info_parts Try.infoY
  have q22 : ∀ (w : World) (a : Option Addr) (n c n' c' : Nat), (binOp .eql 36 (.slice a n c) (.slice none n' c')).run Try.prog w = .ok (.bool a.isNone) w := fun w a n c n' c' => Lib.run_eql_slice_nil w _ _ a n c n' c' Try.underlying36
  have hshape : (∃ ad cap, v = .slice (some ad) n cap ∧ ∀ j u, cs[j]? = some u → w.cell? (ad.add j) = some u) ∨ (∃ cap, v = .slice none 0 cap ∧ n = 0 ∧ cs = []) := by
    rcases hv with ⟨b, off, cap, rfl, h0⟩ | ⟨ao, cap, rfl, rfl, rfl⟩
    · exact .inl ⟨_, _, rfl, fun j u hj => by rw [addr_add]; exact h0 j u hj⟩
    · cases ao with
      | none => exact .inr ⟨_, rfl, rfl, rfl⟩
      | some ad => exact .inl ⟨_, _, rfl, fun j u hj => by simp at hj⟩
  clear hv
  rcases hshape with ⟨ad, cap, rfl, ha⟩ | ⟨cap, rfl, rfl, rfl⟩
  · have A := Lib.hid ha; clear ha
    have O := Lib.hid ho; clear ho
    have N := Lib.hid hc; clear hc
    go_enter Try.func25, Try.ntmps25
    go_wp2_with (at_builtin; refine wpList_append_own _ rfl _ _ 36 rfl w.heap.size 25 i0 (.agg #[.int .i64 0, .int .i64 0, .int .i64 0, .int .i64 0]) 4 32 Try.underlying36 hi hz0 hz1 hz2 rfl (by decide) _ _ _ rfl (World.ownsRow_made w #[] 0 (Nat.le_refl _) (Nat.zero_le _) rfl) ad n cap cs rfl ?qc1 ?qc2 ?qc3 ?qc4 ?qc5 ?qc6 ?_)
    case qc1 => exact N.out
    case qc2 => intro j u hj; exact Lib.cell?_alloc_some _ (A.out j u hj)
    case qc3 => exact O.out
    case qc4 => unfold maxLen; omega
    case qc5 => omega
    case qc6 => simp
    intro v' w1 hown hgrow hnil
    go_wp2
    go_ret
    refine ⟨v', rfl, by simpa using hown, ?_⟩
    have hb : Below w.heap.size w w1 := ((Below.refl _ w).alloc (Nat.le_refl _) _).grown hgrow (by simp) (by intro k hk; simp [Value.ownBlock] at hk; omega)
    exact Same.ofBelow hb
  · go_enter Try.func25, Try.ntmps25
    go_wp2
    go_ret
    exact ⟨_, rfl, World.ownsRow_nil _ _ _ _, Same.refl _⟩
set_option maxHeartbeats 2000000 in
set_option maxRecDepth 100000 in
theorem CloneX_any (w : World) (v : Value) (n : Nat) (cs : List Value) (hv : Lst w v n cs) (hc : cs.length = n * 3) (ho : ∀ u ∈ cs, u.oneCell' = true) (hl : n ≤ 40) :
    Calls Try.prog 26 #[v] w fun e w' => ∃ v', e = .returned v' ∧ w'.ownsRow w.heap.size 49 3 v' n cs ∧ Same w w' := by
  obtain ⟨i0, hi, hz0, hz1, hz2⟩ := info_parts Try.infoX
  have q22 : ∀ (w : World) (a : Option Addr) (n c n' c' : Nat), (binOp .eql 40 (.slice a n c) (.slice none n' c')).run Try.prog w = .ok (.bool a.isNone) w := fun w a n c n' c' => Lib.run_eql_slice_nil w _ _ a n c n' c' Try.underlying40
  have hshape : (∃ ad cap, v = .slice (some ad) n cap ∧ ∀ j u, cs[j]? = some u → w.cell? (ad.add j) = some u) ∨ (∃ cap, v = .slice none 0 cap ∧ n = 0 ∧ cs = []) := by
    rcases hv with ⟨b, off, cap, rfl, h0⟩ | ⟨ao, cap, rfl, rfl, rfl⟩
    · exact .inl ⟨_, _, rfl, fun j u hj => by rw [addr_add]; exact h0 j u hj⟩
    · cases ao with
      | none => exact .inr ⟨_, rfl, rfl, rfl⟩
      | some ad => exact .inl ⟨_, _, rfl, fun j u hj => by simp at hj⟩
  clear hv
  rcases hshape with ⟨ad, cap, rfl, ha⟩ | ⟨cap, rfl, rfl, rfl⟩
  · have A := Lib.hid ha; clear ha
    have O := Lib.hid ho; clear ho
    have N := Lib.hid hc; clear hc
    go_enter Try.func26, Try.ntmps26
    go_wp2_with (at_builtin; refine wpList_append_own _ rfl _ _ 40 rfl w.heap.size 49 i0 (.agg #[.int .i64 0, .int .i64 0, .bool false]) 3 24 Try.underlying40 hi hz0 hz1 hz2 rfl (by decide) _ _ _ rfl (World.ownsRow_made w #[] 0 (Nat.le_refl _) (Nat.zero_le _) rfl) ad n cap cs rfl ?qc1 ?qc2 ?qc3 ?qc4 ?qc5 ?qc6 ?_)
    case qc1 => exact N.out
    case qc2 => intro j u hj; exact Lib.cell?_alloc_some _ (A.out j u hj)
    case qc3 => exact O.out
    case qc4 => unfold maxLen; omega
    case qc5 => omega
    case qc6 => simp
    intro v' w1 hown hgrow hnil
    go_wp2
    go_ret
    refine ⟨v', rfl, by simpa using hown, ?_⟩
    have hb : Below w.heap.size w w1 := ((Below.refl _ w).alloc (Nat.le_refl _) _).grown hgrow (by simp) (by intro k hk; simp [Value.ownBlock] at hk; omega)
    exact Same.ofBelow hb
  · go_enter Try.func26, Try.ntmps26
    go_wp2
    go_ret
    exact ⟨_, rfl, World.ownsRow_nil _ _ _ _, Same.refl _⟩
end Go.Proofs.Ytffcoeadpicohaa
