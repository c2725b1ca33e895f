/- Run of package timesync: corrections, one after the other. -/
import Derived.Test.YtffcoeadpicohaaCorrectT
namespace Go.Proofs.Ytffcoeadpicohaa
open Go.RowKit

/-- The states behind the first k corrections, or the first one that fails. -/
def runK (n : Nat) (zs : List Int) (l : List St) (xs : List Sn) : Nat → Except (Nat × Int) (List St)
  | 0 => .ok l
  | k + 1 => match runK n zs l xs k with
    | .error e => .error e
    | .ok l' => if nodeB n (xs.getD k sn0) = false then .error (k, 7) else if (stepS l' zs (xs.getD k sn0)).2 = 0 then .ok (l'.set (xs.getD k sn0).1.toNat (stepS l' zs (xs.getD k sn0)).1) else .error (k, (stepS l' zs (xs.getD k sn0)).2)
theorem runK_length {n : Nat} {zs : List Int} {l : List St} {xs : List Sn} : ∀ (k : Nat) (l' : List St), runK n zs l xs k = .ok l' → l'.length = l.length
  | 0, l', h => by simp [runK] at h; rw [← h]
  | k + 1, l', h => by
    unfold runK at h
    cases hk : runK n zs l xs k with
    | error e => rw [hk] at h; simp at h
    | ok l2 =>
      rw [hk] at h
      simp only at h
      have := runK_length k l2 hk
      split at h
      · simp at h
      · split at h
        · simp at h; rw [← h, List.length_set]; exact this
        · simp at h
theorem runK_err {n : Nat} {zs : List Int} {l : List St} {xs : List Sn} {i : Nat} {er : Int} : ∀ (j k : Nat), runK n zs l xs k = .error (i, er) → runK n zs l xs (k + j) = .error (i, er)
  | 0, k, h => h
  | j + 1, k, h => by
    have := runK_err j k h
    show runK n zs l xs (k + j + 1) = _
    unfold runK
    rw [this]
def RunOk (l : List St) (zs : List Int) (xs : List Sn) : Prop := isTree zs ∧ l.length = zs.length ∧ allY l ∧ xs.length ≤ 1024
/-- What Run returns. -/
def RunP (w : World) (l : List St) (zs : List Int) (xs : List Sn) (e : Ending) (w' : World) : Prop :=
  Same w w' ∧ ((¬ RunOk l zs xs ∧ e = .returned (.tuple #[.slice none 0 0, .int .i64 (-1), .int .i64 1])) ∨
    (RunOk l zs xs ∧ ∃ (i : Nat) (er : Int), runK zs.length zs l xs xs.length = .error (i, er) ∧ e = .returned (.tuple #[.slice none 0 0, .int .i64 i, .int .i64 er])) ∨
    (RunOk l zs xs ∧ ∃ l' v', runK zs.length zs l xs xs.length = .ok l' ∧ e = .returned (.tuple #[v', .int .i64 (-1), .int .i64 0]) ∧ Lst w' v' l'.length (ycells l')))
theorem RunP.bad {w w' : World} {l : List St} {zs : List Int} {xs : List Sn} (h : ¬ RunOk l zs xs) (s : Same w w') : RunP w l zs xs (.returned (.tuple #[.slice none 0 0, .int .i64 (-1), .int .i64 1])) w' := ⟨s, .inl ⟨h, rfl⟩⟩
/-- The cells of one step of a list. -/
def XAt (w : World) (b off : Nat) (x : Sn) : Prop := w.cell? ⟨b, off, none⟩ = some (.int .i64 x.1) ∧ w.cell? ⟨b, off + 1, none⟩ = some (.int .i64 x.2.1) ∧ w.cell? ⟨b, off + 2, none⟩ = some (.bool x.2.2)
theorem x_at {w : World} {b off : Nat} {l : List Sn} (hc : ∀ j u, (xcells l)[j]? = some u → w.cell? ⟨b, off + j, none⟩ = some u) (i : Nat) (hi : i < l.length) : XAt w b (off + i * 3) (l.getD i sn0) := by
  obtain ⟨g0, g1, g2⟩ := xcells_get l i hi
  exact ⟨hc _ _ g0, hc _ _ g1, hc _ _ g2⟩
theorem But.cell {g : Nat} {w w1 : World} (h : But g w w1) {p : Addr} {v : Value} (hp : p.block ≠ g) (hc : w.cell? p = some v) : w1.cell? p = some v := by
  have hb := h.block p.block (World.block_lt_of_cell? w p hc) (fun e => hp (Option.some.inj e))
  unfold World.cell? at hc ⊢
  rw [hb]; exact hc
/-- A row that is new: what was there is as it was. -/
theorem But.same {g : Nat} {w w1 w2 : World} (hs : Same w w1) (hg : w.heap.size ≤ g) (h : But g w1 w2) : Same w w2 :=
  ⟨h.os.trans hs.os, h.tape.trans hs.tape, h.output.trans hs.output, Nat.le_trans hs.size h.size, fun k hk => (h.block k (Nat.lt_of_lt_of_le hk hs.size) (fun e => by have := Option.some.inj e; omega)).trans (hs.block k hk)⟩
theorem tree_parent {zs : List Int} (h : isTree zs) (i : Nat) (h1 : 1 ≤ i) (hi : i < zs.length) : ∃ P : Nat, zs.getD i 0 = (P : Int) ∧ P < zs.length := by
  obtain ⟨j, rfl⟩ : ∃ j, i = j + 1 := ⟨i - 1, by omega⟩
  obtain ⟨p, h1, h2, _⟩ := tree_step h j hi
  exact ⟨p, h1, h2⟩
end Go.Proofs.Ytffcoeadpicohaa
