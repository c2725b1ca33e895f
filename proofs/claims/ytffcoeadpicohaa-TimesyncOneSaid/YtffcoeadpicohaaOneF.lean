/- TimesyncOne: two parts of a list of corrections. -/
import Derived.Test.YtffcoeadpicohaaOneE
namespace Go.Proofs.Ytffcoeadpicohaa
open Go.RowKit Go.Deep

theorem flatMap_take_len {α β : Type} (f : α → List β) (n : Nat) (hf : ∀ x, (f x).length = n) : ∀ (l : List α) (k : Nat), (l.take k).flatMap f = (l.flatMap f).take (k * n)
  | [], k => by simp
  | a :: l, 0 => by simp
  | a :: l, k + 1 => by
    rw [List.take_succ_cons, List.flatMap_cons, List.flatMap_cons, flatMap_take_len f n hf l k, List.take_append, hf a]
    have h1 : (f a).take ((k + 1) * n) = f a := List.take_of_length_le (by rw [hf a, Nat.add_mul, Nat.one_mul]; omega)
    rw [h1]
    congr 2
    rw [Nat.add_mul, Nat.one_mul]; omega
theorem flatMap_drop_len {α β : Type} (f : α → List β) (n : Nat) (hf : ∀ x, (f x).length = n) : ∀ (l : List α) (k : Nat), (l.drop k).flatMap f = (l.flatMap f).drop (k * n)
  | [], k => by simp
  | a :: l, 0 => by simp
  | a :: l, k + 1 => by
    rw [List.drop_succ_cons, List.flatMap_cons, flatMap_drop_len f n hf l k, List.drop_append, hf a]
    have h1 : (f a).drop ((k + 1) * n) = [] := List.drop_of_length_le (by rw [hf a, Nat.add_mul, Nat.one_mul]; omega)
    rw [h1, List.nil_append]
    congr 1
    rw [Nat.add_mul, Nat.one_mul]; omega
theorem xcells_take (xs : List Sn) (k : Nat) : xcells (xs.take k) = (xcells xs).take (k * 3) := flatMap_take_len _ 3 (fun _ => rfl) xs k
theorem xcells_drop (xs : List Sn) (k : Nat) : xcells (xs.drop k) = (xcells xs).drop (k * 3) := flatMap_drop_len _ 3 (fun _ => rfl) xs k
theorem cut_first {w : World} {b off : Nat} {xs : List Sn} (h : ∀ j u, (xcells xs)[j]? = some u → w.cell? ⟨b, off + j, none⟩ = some u) {k : Nat} (c : Nat) : Lst w (.slice (some ⟨b, off, none⟩) k c) k (xcells (xs.take k)) := by
  refine .inl ⟨b, off, c, rfl, fun j u hj => ?_⟩
  rw [xcells_take] at hj
  have hl := (List.getElem?_eq_some_iff.1 hj).1
  rw [List.length_take] at hl
  rw [List.getElem?_take_of_lt (by omega)] at hj
  exact h j u hj
theorem cut_last {w : World} {b off : Nat} {xs : List Sn} (h : ∀ j u, (xcells xs)[j]? = some u → w.cell? ⟨b, off + j, none⟩ = some u) {k : Nat} (m c : Nat) : Lst w (.slice (some ⟨b, off + k * 3, none⟩) m c) m (xcells (xs.drop k)) := by
  refine .inl ⟨b, off + k * 3, c, rfl, fun j u hj => ?_⟩
  rw [xcells_drop, List.getElem?_drop] at hj
  have := h _ u hj
  rw [Nat.add_assoc]; exact this
theorem rem_of (t : Int) (n : Nat) (h0 : 0 ≤ t) : Int.tmod t ((n : Int) + 1) = ((t.toNat % (n + 1) : Nat) : Int) := by
  obtain ⟨m, rfl⟩ : ∃ m : Nat, t = m := ⟨t.toNat, by omega⟩
  rw [show ((n : Int) + 1) = ((n + 1 : Nat) : Int) by omega, Int.toNat_natCast]
  exact (Int.ofNat_tmod m (n + 1)).symm
end Go.Proofs.Ytffcoeadpicohaa
