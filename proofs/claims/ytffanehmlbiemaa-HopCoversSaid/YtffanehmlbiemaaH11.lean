/- slices.Clone; the channels that stay. -/
import Derived.Test.YtffanehmlbiemaaH10
import Derived.Deep.AppendLies
import Derived.Lib.SliceRun
namespace Go.Proofs.Ytffanehmlbiemaa
open Go.RowKit

def icells (l : List Int) : List Value := l.map fun x => .int .i64 x
theorem icells_length (l : List Int) : (icells l).length = l.length * 1 := by unfold icells; simp
theorem icells_get (l : List Int) (i : Nat) (h : i < l.length) : (icells l)[i]? = some (.int .i64 (l.getD i 0)) := by
  unfold icells; simp [List.getD_eq_getElem?_getD, List.getElem?_eq_getElem h]
theorem icells_one (l : List Int) : ∀ u ∈ icells l, u.oneCell' = true := by
  intro u hu; simp only [icells, List.mem_map] at hu; obtain ⟨x, _, rfl⟩ := hu; rfl
theorem Try.infoI : (Try.prog.info? 3).map (fun i => (i.zero, i.size, i.bytes)) = some (some (.int .i64 0), 1, 8) := by kernel_rfl
theorem IL.of_own {w : World} {base : Nat} {v : Value} {zs : List Int} (h : w.ownsRow base 3 1 v zs.length (icells zs)) : IL w v zs := by
  rcases h.2 with ⟨hv, hn⟩ | ⟨g, cap, cur, hv, _, _, hc, _⟩
  · exact .inr ⟨none, 0, by rw [hv], List.length_eq_zero_iff.1 hn⟩
  · subst hv
    by_cases h0 : zs = []
    · subst h0; exact .inr ⟨_, _, rfl, rfl⟩
    · refine .inl ⟨g, 0, cap, rfl, List.length_pos_iff.2 h0, hc, fun i hi => ?_⟩
      rw [Nat.zero_add, h.cellAt i (by omega), icells_get _ i hi]
theorem Same.heap {w w' : World} (s : Same w w') {g : Nat} {o : Obj} (h : w.heap[g]? = some o) : w'.heap[g]? = some o :=
  (s.block g (Array.getElem?_eq_some_iff.1 h).1).trans h
theorem own_same {w w' : World} {base sz n : Nat} {T : TypeId} {v : Value} {cs : List Value} (h : w.ownsRow base T sz v n cs) (s : Same w w') : w'.ownsRow base T sz v n cs := by
  refine ⟨h.1, ?_⟩
  rcases h.2 with h2 | ⟨g, cap, cur, h1, h2, h3, h4⟩
  · exact .inl h2
  · exact .inr ⟨g, cap, cur, h1, h2, s.heap h3, h4⟩
theorem same_grown {w wx w8 : World} {o : Obj} {T : TypeId} {sz n : Nat} {v : Value} {cs : List Value} (hs : Same w wx) (hown : wx.ownsRow w.heap.size T sz v n cs) (hg : (wx.alloc o).grownBy w8 v.ownBlock) : Same w w8 := by
  refine Same.ofBelow ((hs.toBelow.alloc hs.size _).grown hg (by have := hs.size; simp; omega) ?_)
  intro k hk
  rcases hown.2 with ⟨hv, _⟩ | ⟨g, cap, cur, hv, hb, _⟩
  · rw [hv] at hk; simp [Value.ownBlock] at hk
  · rw [hv] at hk; simp [Value.ownBlock] at hk; omega
set_option maxHeartbeats 2000000 in
set_option maxRecDepth 100000 in
theorem CloneI_any (w : World) (v : Value) (zs : List Int) (hv : IL w v zs) (hl : zs.length ≤ 1000) :
    Calls Try.prog 26 #[v] w fun e w' => ∃ v', e = .returned v' ∧ Same w w' ∧ IL w' v' zs := by
  obtain ⟨i0, hi, hz0, hz1, hz2⟩ := info_parts Try.infoI
  have q22 : ∀ (w : World) (a : Option Addr) (n c n' c' : Nat), (binOp .eql 22 (.slice a n c) (.slice none n' c')).run Try.prog w = .ok (.bool a.isNone) w := fun w a n c n' c' => Lib.run_eql_slice_nil w _ _ a n c n' c' Try.underlying22
  have hshape : (∃ ad cap, v = .slice (some ad) zs.length cap ∧ ∀ j u, (icells zs)[j]? = some u → w.cell? (ad.add j) = some u) ∨ (∃ cap, v = .slice none 0 cap ∧ zs = []) := by
    rcases hv with ⟨b, off, cap, rfl, _, _, h0⟩ | ⟨ao, cap, rfl, rfl⟩
    · refine .inl ⟨_, _, rfl, fun j u hj => ?_⟩
      have hjl : j < zs.length := by have := (List.getElem?_eq_some_iff.1 hj).1; rw [icells_length] at this; omega
      rw [icells_get _ j hjl] at hj
      injection hj with hj
      subst hj
      have : (⟨b, off, none⟩ : Addr).add j = ⟨b, off + j, none⟩ := by
        unfold Addr.add; split
        · rename_i hz; rw [hz]; rfl
        · rfl
      rw [this]; exact h0 j hjl
    · cases ao with
      | none => exact .inr ⟨_, rfl, rfl⟩
      | some ad => exact .inl ⟨_, _, rfl, fun j u hj => by simp [icells] at hj⟩
  clear hv
  rcases hshape with ⟨ad, cap, rfl, ha⟩ | ⟨cap, rfl, rfl⟩
  · have A := Lib.hid ha; clear ha
    go_enter Try.func26, Try.ntmps26
    go_wp2_with (at_builtin; refine wpList_append_own _ rfl _ _ 22 rfl w.heap.size 3 i0 (.int .i64 0) 1 8 Try.underlying22 hi hz0 hz1 hz2 rfl (by decide) _ _ _ rfl (World.ownsRow_made w #[] 0 (Nat.le_refl _) (Nat.zero_le _) rfl) ad zs.length cap (icells zs) rfl ?qc1 ?qc2 ?qc3 ?qc4 ?qc5 ?qc6 ?_)
    case qc1 => exact icells_length zs
    case qc2 => intro j u hj; exact Lib.cell?_alloc_some _ (A.out j u hj)
    case qc3 => exact icells_one zs
    case qc4 => unfold maxLen; omega
    case qc5 => omega
    case qc6 => simp
    intro v' w1 hown hgrow hnil
    go_wp2
    go_ret
    refine ⟨v', rfl, ?_, IL.of_own (by simpa using hown)⟩
    have hb : Below w.heap.size w w1 := ((Below.refl _ w).alloc (Nat.le_refl _) _).grown hgrow (by simp) (by intro k hk; simp [Value.ownBlock] at hk; omega)
    exact Same.ofBelow hb
  · go_enter Try.func26, Try.ntmps26
    go_wp2
    go_ret
    exact ⟨_, rfl, Same.refl _, .inr ⟨_, _, rfl, rfl⟩⟩
/-- The channels that stay. -/
def outL (ch bl kept : List Int) : List Int := ch.filter fun c => !hasB bl c || hasB kept c
def withoutS (ch bl : List Int) (least : Int) : List Int × Int :=
  if (chsB ch && blackB bl) = true then if inB least 1 (ch.length : Int) = true then (outL ch bl (keptK ch bl (goodN ch bl) least bl.length), 0) else ([], 2) else ([], 1)
theorem outL_snoc (l bl kept : List Int) (x : Int) : outL (l ++ [x]) bl kept = outL l bl kept ++ (if (!hasB bl x || hasB kept x) = true then [x] else []) := by
  unfold outL
  rw [List.filter_append]
  congr 1
  simp [List.filter_cons]
theorem outL_le (l bl kept : List Int) : (outL l bl kept).length ≤ l.length := List.length_filter_le _ _
theorem blackB_of {bl : List Int} (h : blackB bl = true) : bl.length ≤ 64 ∧ ∀ k, k < bl.length → 0 ≤ bl.getD k 0 ∧ bl.getD k 0 ≤ 15 := by
  unfold blackB at h
  rw [Bool.and_eq_true, decide_eq_true_eq, List.all_eq_true] at h
  exact ⟨h.1, fun k hk => inB_yes (h.2 _ (getD_mem bl k hk))⟩
theorem chsB_ch {ch : List Int} (h : chsB ch = true) (k : Nat) (hk : k < ch.length) : 0 ≤ ch.getD k 0 ∧ ch.getD k 0 ≤ 15 :=
  (chOk_of hk (diffB_at (chsB_of h).2.2 k hk)).1
/-- What Without and its reference return. -/
def WithP (w : World) (ch bl : List Int) (least : Int) (e : Ending) (w' : World) : Prop :=
  ∃ v, e = .returned (.tuple #[v, .int .i64 (withoutS ch bl least).2]) ∧ Same w w' ∧ IL w' v (withoutS ch bl least).1
end Go.Proofs.Ytffanehmlbiemaa
