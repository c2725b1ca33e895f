/- The iterator that goes round once. -/
import Derived.Test.YtffanehmlbiemaaH5
import Derived.RangeFuncNested
import Derived.RangeFuncBound
import Derived.RangeFuncCalls
import Derived.RangeFuncLeaves
import Derived.Shelf.Abstract
import Derived.Shelf.RegionOpen
import Derived.OwnWalkIn
import Derived.TacticsInMore
import Derived.LoopNIn
import Derived.LoopIn
namespace Go.Proofs.Ytffanehmlbiemaa
open Go.RowKit Go.Shelf
attribute [local go_sem] Oper.semAt_some

def upto {α : Type} (f : Nat → α) (k : Nat) : List α := (List.range k).map f
theorem upto_succ {α : Type} (f : Nat → α) (k : Nat) : upto f (k + 1) = upto f k ++ [f k] := by simp [upto, List.range_succ]
theorem upto_length {α : Type} (f : Nat → α) (k : Nat) : (upto f k).length = k := by simp [upto]
theorem upto_mem {α : Type} {f : Nat → α} {k : Nat} {x : α} : x ∈ upto f k ↔ ∃ j, j < k ∧ f j = x := by simp [upto]
/-- The iterator is made: two boxes, and a function value over them. -/
theorem round_any (ao : Option Addr) (n cap : Nat) (p : Int) (w : World) : Calls Try.prog 36 #[.slice ao n cap, .int .i64 p] w fun e w' =>
    e = .returned (.func (.func 51) #[] #[.pointer (some ⟨w.heap.size, 0, none⟩), .pointer (some ⟨w.heap.size + 1, 0, none⟩)]) ∧ w' = (w.alloc (.cells #[.slice ao n cap] 22)).alloc (.cells #[.int .i64 p] 3) := by
  go_enter Try.func36, Try.ntmps36
  go_wp2
  go_ret
  exact ⟨rfl, rfl⟩
set_option maxRecDepth 100000 in
set_option maxHeartbeats 2000000 in
theorem round1_in (n : Nat) (hn : 1 ≤ n) (l n₀ sB pB b off len cap : Nat) (p : Int) (g : Nat → Int) (hp0 : 0 ≤ p) (hp1 : p ≤ 109951164) (hlen : len ≤ 1000) (hsB : sB < n₀) (hpB : pB < n₀) (hb : b < n₀) (J Jx : List (Int × Int) → World → Prop)
    (hY : ∀ pre x W, J pre W → pre.length < len → YieldAt Fence.wide (n - 1) Try.prog l #[.int .i64 x.1, .int .i64 x.2] W fun e W' =>
      (e = .returned (.bool true) ∧ J (pre ++ [x]) W' ∧ Below n₀ W W') ∨ (e = .returned (.bool false) ∧ Jx (pre ++ [x]) W'))
    (W : World) (hs : W.cell? ⟨sB, 0, none⟩ = some (.slice (some ⟨b, off, none⟩) len cap)) (hp : W.cell? ⟨pB, 0, none⟩ = some (.int .i64 p))
    (hJ : AbidesFrom W.heap.size J) (hc : ∀ k : Nat, k < len → W.cell? ⟨b, off + ((p + (k : Int)) % (len : Int)).toNat, none⟩ = some (.int .i64 (g k))) (h0 : J [] W) :
    CallsIn Fence.wide n Try.prog 51 #[.func (.yield l) #[] #[], .pointer (some ⟨sB, 0, none⟩), .pointer (some ⟨pB, 0, none⟩)] W fun e W' => (∃ v, e = .returned v) ∧
      ((∃ ys, ys = upto (fun j => ((j : Int), g j)) len ∧ J ys W') ∨ (∃ pre, (∃ k, k ≤ len ∧ pre = upto (fun j => ((j : Int), g j)) k) ∧ Jx pre W')) := by
  refine callsIn_of_wp Try.func51 rfl trivial ?_ rfl
  simp only [Try.ntmps51, List.size_toArray, List.length_cons, List.length_nil, Nat.reduceAdd, Nat.reduceSub, Array.replicate_succ, Array.replicate_zero, List.push_toArray, List.append_toArray, List.nil_append, List.cons_append]
  gi_wp2
  gi_loopw [7] (fun i wr => ∃ k : Nat, k ≤ len ∧ i = .int .i64 k ∧ J (upto (fun j => ((j : Int), g j)) k) wr ∧ Below n₀ W wr)
    (fun i _ => len - (intOf i).toNat)
  case atStart => exact ⟨0, Nat.zero_le _, rfl, h0, Below.refl _ _⟩
  case round =>
    obtain ⟨k, hk, rfl, hJs, hnx⟩ := hrel
    by_cases hlt : k < len
    · have s1 := (hnx.cell (p := ⟨sB, 0, none⟩) hsB).trans hs
      have p1 := (hnx.cell (p := ⟨pB, 0, none⟩) hpB).trans hp
      have c1 := (hnx.cell (p := ⟨b, off + ((p + (k : Int)) % (len : Int)).toNat, none⟩) hb).trans (hc k hlt)
      have q1 : 0 ≤ (p + (k : Int)) % (len : Int) := Int.emod_nonneg _ (by omega)
      have q2 : (p + (k : Int)) % (len : Int) < (len : Int) := Int.emod_lt_of_pos _ (by omega)
      have l0 : (len : Int) ≤ 1000 := by omega
      have HNX := Lib.hid hnx; clear hnx
      have HC := Lib.hid hc; clear hc
      have hJd : J (upto (fun j => ((j : Int), g j)) k) wr.drew := hJ _ _ _ none hJs (Same.refl wr).drew.grown (fun r e => by cases e)
      obtain ⟨fn, tmps, assign, body, hy, hR⟩ := hY _ ((k : Int), g k) wr.drew hJd (by rw [upto_length]; exact hlt)
      dsimp only at hy
      gi_wp2
      have hR' := hR.mono (fun e W' h => (show ∃ u : Bool, e = .returned (.bool u) ∧ ((u = true ∧ J (upto (fun j => ((j : Int), g j)) (k + 1)) W' ∧ Below n₀ wr.drew W') ∨ (u = false ∧ Jx (upto (fun j => ((j : Int), g j)) (k + 1)) W')) from by
        rw [upto_succ]
        rcases h with ⟨h1, h2, h3⟩ | ⟨h1, h2⟩
        · exact ⟨true, h1, .inl ⟨rfl, h2, h3⟩⟩
        · exact ⟨false, h1, .inr ⟨rfl, h2⟩⟩))
      clear hR
      gi_region_with (refine hR'.mono ?_; rintro e W3 ⟨u, rfl, hq⟩)
      all_goals
        rcases hq with ⟨rfl, hJ3, hk3⟩ | ⟨rfl, hJx3⟩
        · gi_wp2
          go_roundw
          case rel => exact ⟨k + 1, by omega, by go_num, hJ3, HNX.out.trans ((Below.refl n₀ wr).drew.trans hk3)⟩
          case measure => simp [intOf]; omega
        · gi_wp2
          refine bodyPost_ret (results_none rfl _ _ _) rfl ?_
          exact ⟨⟨_, rfl⟩, .inr ⟨_, ⟨k + 1, by omega, rfl⟩, hJx3⟩⟩
    · obtain rfl : k = len := by omega
      gi_wp2
      go_end0
      exact ⟨⟨_, rfl⟩, .inl ⟨_, rfl, hJs⟩⟩
end Go.Proofs.Ytffanehmlbiemaa
