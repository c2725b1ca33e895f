/- Package geometry: the walls that a path crosses: the iterator; Scale of package power. -/
import Derived.Test.YtcennbjegdlbhaaCheck2
import Derived.RangeFuncNested
import Derived.RangeFuncBound
import Derived.RangeFuncCalls
import Derived.RangeFuncLeaves
import Derived.Shelf.Abstract
import Derived.Shelf.RegionOpen
import Derived.OwnWalkIn
import Derived.TacticsInMore
import Derived.LoopNIn
import Derived.LoopIn
namespace Go.Proofs.Ytcennbjegdlbhaa
open Go.RowKit Go.Shelf
attribute [local go_sem] Oper.semAt_some

def Pw (n : Int) : Prop := 0 ≤ n ∧ n ≤ 68719476736
instance (n : Int) : Decidable (Pw n) := by unfold Pw; infer_instance
theorem pwithin_yes (n l m : Int) (h1 : l ≤ n) (h2 : n ≤ m) (w : World) : Calls Try.prog 65 #[.int .i64 n, .int .i64 l, .int .i64 m] w fun e w' => e = .returned (.bool true) ∧ w' = w := by
  go_enter Try.func65, Try.ntmps65
  go_wp2
  go_ret
  exact ⟨rfl, rfl⟩
theorem pwithin_no (n l m : Int) (h : n < l ∨ m < n) (w : World) : Calls Try.prog 65 #[.int .i64 n, .int .i64 l, .int .i64 m] w fun e w' => e = .returned (.bool false) ∧ w' = w := by
  by_cases h1 : n < l
  · clear h
    go_enter Try.func65, Try.ntmps65
    go_wp2
    go_ret
    exact ⟨rfl, rfl⟩
  · have h2 : m < n := by omega
    have h3 : l ≤ n := by omega
    have hd : decide (n ≤ m) = false := by simp; omega
    clear h h1
    go_enter Try.func65, Try.ntmps65
    go_wp2
    go_ret
    exact ⟨rfl, rfl⟩

/-- Scale. -/
def scaleS (p f : Int) : Int × Int := if Pw p ∧ (0 ≤ f ∧ f ≤ 1000) then (p * f / 1000, 0) else (0, 2)
theorem mul_bd {a b m n : Int} (h1 : 0 ≤ a) (h2 : a ≤ m) (h3 : 0 ≤ b) (h4 : b ≤ n) : 0 ≤ a * b ∧ a * b ≤ m * n :=
  ⟨Int.mul_nonneg h1 h3, Int.mul_le_mul h2 h4 h3 (by omega)⟩
theorem scale_any (p f : Int) (w : World) : Calls Try.prog 64 #[.int .i64 p, .int .i64 f] w fun e w' => e = .returned (.tuple #[.int .i64 (scaleS p f).1, .int .i64 (scaleS p f).2]) ∧ w' = w := by
  by_cases h : Pw p
  · by_cases h2 : 0 ≤ f ∧ f ≤ 1000
    · have hs : scaleS p f = (p * f / 1000, 0) := if_pos ⟨h, h2⟩
      have hb := mul_bd h.1 h.2 h2.1 h2.2
      rw [hs]
      have HA := Lib.hid (fun w => pwithin_yes p 0 68719476736 h.1 h.2 w)
      have HB := Lib.hid (fun w => pwithin_yes f 0 1000 h2.1 h2.2 w)
      clear hs h h2
      obtain ⟨h1, h2⟩ := hb
      have h3 : p * f ≤ 68719476736000 := by omega
      clear h2
      go_enter Try.func64, Try.ntmps64
      go_wp2_with (first | (go_at_call 65; with_reducible refine (HA.out _).mono ?_; rintro e w' ⟨rfl, rfl⟩) | (go_at_call 65; with_reducible refine (HB.out _).mono ?_; rintro e w' ⟨rfl, rfl⟩))
      go_ret2
      exact ⟨rfl, rfl⟩
    · have hs : scaleS p f = (0, 2) := if_neg (fun h' => h2 h'.2)
      rw [hs]
      have HA := Lib.hid (fun w => pwithin_yes p 0 68719476736 h.1 h.2 w)
      have HB := Lib.hid (fun w => pwithin_no f 0 1000 (by omega) w)
      clear hs h h2
      go_enter Try.func64, Try.ntmps64
      go_wp2_with (first | (go_at_call 65; with_reducible refine (HA.out _).mono ?_; rintro e w' ⟨rfl, rfl⟩) | (go_at_call 65; with_reducible refine (HB.out _).mono ?_; rintro e w' ⟨rfl, rfl⟩))
      go_ret2
      exact ⟨rfl, rfl⟩
  · have hs : scaleS p f = (0, 2) := if_neg (fun h' => h h'.1)
    rw [hs]
    have HA := Lib.hid (fun w => pwithin_no p 0 68719476736 (by unfold Pw at h; omega) w)
    clear hs h
    go_enter Try.func64, Try.ntmps64
    go_wp2_with (go_at_call 65; with_reducible refine (HA.out _).mono ?_; rintro e w' ⟨rfl, rfl⟩)
    go_ret2
    exact ⟨rfl, rfl⟩

/-- The iterator is made: three boxes, and a function value over them. -/
theorem crossed_any (v1 v2 v3 : Value) (ao1 ao2 ao3 : Option Addr) (l1 l2 l3 c1 c2 c3 : Nat) (h1 : v1 = .slice ao1 l1 c1) (h2 : v2 = .slice ao2 l2 c2) (h3 : v3 = .slice ao3 l3 c3) (e n t f1 f2 t1 t2 : Int) (w : World) :
    Calls Try.prog 63 #[.agg #[v1, v2, v3, .int .i64 e, .int .i64 n, .int .i64 t], .agg #[.int .i64 f1, .int .i64 f2], .agg #[.int .i64 t1, .int .i64 t2]] w fun e' w' =>
      e' = .returned (.func (.func 70) #[] #[.pointer (some ⟨w.heap.size, 0, none⟩), .pointer (some ⟨w.heap.size + 1, 0, none⟩), .pointer (some ⟨w.heap.size + 1 + 1, 0, none⟩)]) ∧ w' = ((boxS w v1 v2 v3 e n t).alloc (.cells #[.int .i64 f1, .int .i64 f2] 23)).alloc (.cells #[.int .i64 t1, .int .i64 t2] 23) := by
  subst h1 h2 h3
  go_enter Try.func63, Try.ntmps63
  go_wp2
  go_ret
  exact ⟨rfl, rfl⟩

/-- The walls that the path crosses, in their order. -/
def crossedL (f1 f2 t1 t2 : Int) (ws : List Wl) : List Wl := ws.filter fun v => crB f1 f2 t1 t2 v.a1 v.a2 v.b1 v.b2
theorem crossed_take (f1 f2 t1 t2 : Int) (ws : List Wl) (k : Nat) (hk : k < ws.length) :
    crossedL f1 f2 t1 t2 (ws.take (k + 1)) = crossedL f1 f2 t1 t2 (ws.take k) ++ (if crB f1 f2 t1 t2 (ws.getD k ⟨0, 0, 0, 0, 0⟩).a1 (ws.getD k ⟨0, 0, 0, 0, 0⟩).a2 (ws.getD k ⟨0, 0, 0, 0, 0⟩).b1 (ws.getD k ⟨0, 0, 0, 0, 0⟩).b2 then [ws.getD k ⟨0, 0, 0, 0, 0⟩] else []) := by
  unfold crossedL
  rw [List.take_succ_eq_append_getElem hk, List.filter_append]
  simp only [List.getD_eq_getElem?_getD, List.getElem?_eq_getElem hk, Option.getD_some]
  congr 1
  simp [List.filter_cons]
theorem crossed_prefix (f1 f2 t1 t2 : Int) (ws : List Wl) (k : Nat) : crossedL f1 f2 t1 t2 (ws.take k) <+: crossedL f1 f2 t1 t2 ws := by
  unfold crossedL
  refine ⟨(ws.drop k).filter fun v => crB f1 f2 t1 t2 v.a1 v.a2 v.b1 v.b2, ?_⟩
  rw [← List.filter_append, List.take_append_drop]
theorem crossed_length (f1 f2 t1 t2 : Int) (ws : List Wl) (k : Nat) : (crossedL f1 f2 t1 t2 (ws.take k)).length ≤ k := by
  unfold crossedL
  exact Nat.le_trans (List.length_filter_le _ _) (by simp; omega)
/-- All blocks below n₀ but one lie as they lay. -/
structure But (n₀ pb : Nat) (A B : World) : Prop where
  block : ∀ k, k < n₀ → k ≠ pb → B.heap[k]? = A.heap[k]?
  size : A.heap.size ≤ B.heap.size
theorem But.refl (n₀ pb : Nat) (A : World) : But n₀ pb A A := ⟨fun _ _ _ => rfl, Nat.le_refl _⟩
theorem But.trans {n₀ pb : Nat} {A B C : World} (h : But n₀ pb A B) (k : But n₀ pb B C) : But n₀ pb A C := ⟨fun i hi hp => (k.block i hi hp).trans (h.block i hi hp), Nat.le_trans h.size k.size⟩
theorem But.cell {n₀ pb : Nat} {A B : World} (h : But n₀ pb A B) {p : Addr} {v : Value} (hp : p.block < n₀) (hne : p.block ≠ pb) (hc : A.cell? p = some v) : B.cell? p = some v := by
  unfold World.cell? at hc ⊢
  rw [h.block p.block hp hne]; exact hc
theorem But.ofSame {n₀ pb : Nat} {A B : World} (h : Same A B) (hn : n₀ ≤ A.heap.size) : But n₀ pb A B := ⟨fun k hk _ => h.block k (Nat.lt_of_lt_of_le hk hn), h.size⟩
theorem Same.grown {A B : World} (h : Same A B) : A.grownBy B none := ⟨h.os, h.tape, h.output, h.size, fun k hk _ => h.block k hk⟩
abbrev wlV (v : Wl) : Value := .agg #[.int .i64 v.a1, .int .i64 v.a2, .int .i64 v.b1, .int .i64 v.b2, .int .i64 v.f]

set_option maxRecDepth 100000 in
set_option maxHeartbeats 2000000 in
theorem crossed1_in (n : Nat) (hn : 1 ≤ n) (l n₀ pb sB fB tB b off cap : Nat) (f1 f2 t1 t2 : Int) (hf1 : Co f1) (hf2 : Co f2) (ht1 : Co t1) (ht2 : Co t2) (ws : List Wl) (hws : ∀ i, i < ws.length → wlB (ws.getD i ⟨0, 0, 0, 0, 0⟩) = true)
    (hl32 : ws.length ≤ 32) (hfB : fB < n₀ ∧ fB ≠ pb) (htB : tB < n₀ ∧ tB ≠ pb) (hb : b < n₀ ∧ b ≠ pb) (J Jx : List Wl → World → Prop)
    (hY : ∀ pre x W, J pre W → pre.length < ws.length → YieldAt Fence.wide (n - 1) Try.prog l #[wlV x] W fun e W' =>
      (e = .returned (.bool true) ∧ J (pre ++ [x]) W' ∧ But n₀ pb W W') ∨ (e = .returned (.bool false) ∧ Jx (pre ++ [x]) W'))
    (W : World) (hn₀ : n₀ ≤ W.heap.size) (hJ : AbidesFrom W.heap.size J)
    (hs : W.cell? ⟨sB, 2, none⟩ = some (.slice (some ⟨b, off, none⟩) ws.length cap))
    (hf1c : W.cell? ⟨fB, 0, none⟩ = some (.int .i64 f1)) (hf2c : W.cell? ⟨fB, 1, none⟩ = some (.int .i64 f2)) (ht1c : W.cell? ⟨tB, 0, none⟩ = some (.int .i64 t1)) (ht2c : W.cell? ⟨tB, 1, none⟩ = some (.int .i64 t2))
    (hc : ∀ i, i < ws.length → W.cell? ⟨b, off + i * 5, none⟩ = some (.int .i64 (ws.getD i ⟨0, 0, 0, 0, 0⟩).a1) ∧ W.cell? ⟨b, off + i * 5 + 1, none⟩ = some (.int .i64 (ws.getD i ⟨0, 0, 0, 0, 0⟩).a2) ∧ W.cell? ⟨b, off + i * 5 + 2, none⟩ = some (.int .i64 (ws.getD i ⟨0, 0, 0, 0, 0⟩).b1) ∧ W.cell? ⟨b, off + i * 5 + 3, none⟩ = some (.int .i64 (ws.getD i ⟨0, 0, 0, 0, 0⟩).b2) ∧ W.cell? ⟨b, off + i * 5 + 4, none⟩ = some (.int .i64 (ws.getD i ⟨0, 0, 0, 0, 0⟩).f))
    (h0 : J [] W) :
    CallsIn Fence.wide n Try.prog 70 #[.func (.yield l) #[] #[], .pointer (some ⟨sB, 0, none⟩), .pointer (some ⟨fB, 0, none⟩), .pointer (some ⟨tB, 0, none⟩)] W fun e W' => (∃ v, e = .returned v) ∧
      ((∃ ys, ys = crossedL f1 f2 t1 t2 ws ∧ J ys W') ∨ (∃ pre, pre <+: crossedL f1 f2 t1 t2 ws ∧ Jx pre W')) := by
  have hl' : (ws.length : Int) ≤ 32 := by omega
  have HC := Lib.hid hc; clear hc
  have HY := Lib.hid hY; clear hY
  have HWS := Lib.hid hws; clear hws
  have HF := Lib.hid (And.intro hf1c (And.intro hf2c (And.intro ht1c ht2c)))
  clear hf1c hf2c ht1c ht2c
  have HCR := Lib.hid (fun a1 a2 b1 b2 f h1 h2 h3 h4 w => crosses_any f1 f2 t1 t2 a1 a2 b1 b2 f hf1 hf2 ht1 ht2 h1 h2 h3 h4 w)
  clear hf1 hf2 ht1 ht2
  have HSZ := Lib.hid hn₀; clear hn₀
  have HJ := Lib.hid hJ; clear hJ
  refine callsIn_of_wp Try.func70 rfl trivial ?_ rfl
  simp only [Try.ntmps70, List.size_toArray, List.length_cons, List.length_nil, Nat.reduceAdd, Nat.reduceSub, Array.replicate_succ, Array.replicate_zero, List.push_toArray, List.append_toArray, List.nil_append, List.cons_append]
  gi_wp2
  gi_loopw [10] (fun i wr => ∃ k : Nat, k ≤ ws.length ∧ i = .int .i64 k ∧ J (crossedL f1 f2 t1 t2 (ws.take k)) wr ∧ But n₀ pb W wr ∧ W.heap.size ≤ wr.heap.size)
    (fun i _ => ws.length - (intOf i).toNat)
  case atStart => exact ⟨0, Nat.zero_le _, rfl, h0, But.refl _ _ _, Nat.le_refl _⟩
  case round =>
    obtain ⟨k, hk, rfl, hJs, hnx, hsz⟩ := hrel
    by_cases hlt : k < ws.length
    · obtain ⟨g1, g2, g3, g4, g5⟩ := HC.out k hlt
      replace g1 := hnx.cell hb.1 hb.2 g1; replace g2 := hnx.cell hb.1 hb.2 g2; replace g3 := hnx.cell hb.1 hb.2 g3; replace g4 := hnx.cell hb.1 hb.2 g4; replace g5 := hnx.cell hb.1 hb.2 g5
      have hwl := HWS.out k hlt
      have htk := crossed_take f1 f2 t1 t2 ws k hlt
      have hln : (crossedL f1 f2 t1 t2 (ws.take k)).length < ws.length := Nat.lt_of_le_of_lt (crossed_length f1 f2 t1 t2 ws k) hlt
      have hpx := crossed_prefix f1 f2 t1 t2 ws (k + 1)
      obtain ⟨vv, hvv⟩ : ∃ vv, vv = ws.getD k ⟨0, 0, 0, 0, 0⟩ := ⟨_, rfl⟩
      rw [← hvv] at g1 g2 g3 g4 g5 hwl htk
      clear hvv
      obtain ⟨a1, a2, b1, b2, f⟩ := vv
      dsimp only at g1 g2 g3 g4 g5 htk
      have hco : Co a1 ∧ Co a2 ∧ Co b1 ∧ Co b2 := by
        unfold wlB ptB at hwl
        simp only [Bool.and_eq_true, decide_eq_true_eq] at hwl
        unfold Co; omega
      have hcr := HCR.out a1 a2 b1 b2 f hco.1 hco.2.1 hco.2.2.1 hco.2.2.2
      clear hwl hco
      have HF1 := HF.out
      have q1 := hnx.cell hfB.1 hfB.2 HF1.1
      have q2 := hnx.cell hfB.1 hfB.2 HF1.2.1
      have q3 := hnx.cell htB.1 htB.2 HF1.2.2.1
      have q4 := hnx.cell htB.1 htB.2 HF1.2.2.2
      clear HF1
      have HTK := Lib.hid htk; clear htk
      have HLN := Lib.hid hln; clear hln
      have HPX := Lib.hid hpx; clear hpx
      have HNX := Lib.hid hnx; clear hnx
      have HZ := Lib.hid hsz; clear hsz
      have hat := fun (w1 : World) (h : Same (boxW wr a1 a2 b1 b2 f) w1) => (show w1.cell? ⟨fB, 0, none⟩ = some (.int .i64 f1) ∧ w1.cell? ⟨fB, 1, none⟩ = some (.int .i64 f2) ∧ w1.cell? ⟨tB, 0, none⟩ = some (.int .i64 t1) ∧ w1.cell? ⟨tB, 1, none⟩ = some (.int .i64 t2) ∧ w1.cell? ⟨wr.heap.size, 0, none⟩ = some (.int .i64 a1) ∧ w1.cell? ⟨wr.heap.size, 1, none⟩ = some (.int .i64 a2) ∧ w1.cell? ⟨wr.heap.size, 2, none⟩ = some (.int .i64 b1) ∧ w1.cell? ⟨wr.heap.size, 3, none⟩ = some (.int .i64 b2) ∧ w1.cell? ⟨wr.heap.size, 4, none⟩ = some (.int .i64 f) ∧ Same wr w1 from by
        obtain ⟨k0, k1, k2, k3, k4, hs⟩ := boxW_at h
        exact ⟨hs.cell q1, hs.cell q2, hs.cell q3, hs.cell q4, k0, k1, k2, k3, k4, hs⟩)
      obtain ⟨r1, r2, r3, r4, _⟩ := hat _ (Same.refl _)
      dsimp only [boxW] at r1 r2 r3 r4
      have HAT := Lib.hid hat; clear hat
      have HJS := Lib.hid hJs; clear hJs
      obtain ⟨u, hu⟩ : ∃ u, crB f1 f2 t1 t2 a1 a2 b1 b2 = u := ⟨_, rfl⟩
      rw [hu] at hcr
      have HCC := Lib.hid hcr; clear hcr
      have HU := Lib.hid hu; clear hu
      cases u
      · gi_wp2_with (refine ⟨trivial, ?_⟩; gi_at_call 15; refine (callsIn_wide.2 (HCC.out _)).mono ?_; rintro e w1 ⟨rfl, hw⟩; obtain ⟨z1, z2, z3, z4, k0, k1, k2, k3, k4, hs⟩ := HAT.out _ hw; have HS := Lib.hid hs; clear hw hs)
        refine ⟨fun _ h => (by cases h), ?_⟩
        gi_wp2
        go_roundw
        case rel =>
          have hs := HS.out
          refine ⟨k + 1, by omega, by go_num, ?_, HNX.out.trans (But.ofSame hs (Nat.le_trans HSZ.out HZ.out)), Nat.le_trans HZ.out hs.size⟩
          rw [HTK.out, HU.out]
          simp only [Bool.false_eq_true, if_false, List.append_nil]
          exact HJ.out _ _ _ none HJS.out hs.grown (fun r e => by cases e)
        case measure => simp [intOf]; omega
      · gi_wp2_with (refine ⟨trivial, ?_⟩; gi_at_call 15; refine (callsIn_wide.2 (HCC.out _)).mono ?_; rintro e w1 ⟨rfl, hw⟩; obtain ⟨z1, z2, z3, z4, k0, k1, k2, k3, k4, hs⟩ := HAT.out _ hw; have HS := Lib.hid hs; clear hw; obtain ⟨fn, tmps, assign, body, hy, hR⟩ := HY.out _ ⟨a1, a2, b1, b2, f⟩ _ (HJ.out _ _ _ none HJS.out hs.grown (fun r e => by cases e)) HLN.out; clear hs; dsimp only [wlV] at hy)
        refine hR.mono ?_
        rintro e W3 (⟨rfl, hJ3, hk3⟩ | ⟨rfl, hJx3⟩)
        · gi_wp2
          go_roundw
          case rel =>
            have hs := HS.out
            refine ⟨k + 1, by omega, by go_num, ?_, (HNX.out.trans (But.ofSame hs (Nat.le_trans HSZ.out HZ.out))).trans hk3, ?_⟩
            · rw [HTK.out, HU.out]; exact hJ3
            · exact Nat.le_trans (Nat.le_trans HZ.out hs.size) hk3.size
          case measure => simp [intOf]; omega
        · gi_wp2
          refine bodyPost_ret (results_none rfl _ _ _) rfl ?_
          refine ⟨⟨_, rfl⟩, .inr ⟨_, ?_, hJx3⟩⟩
          have := HPX.out
          rw [HTK.out, HU.out] at this
          exact this
    · obtain rfl : k = ws.length := by omega
      gi_wp2
      go_end0
      exact ⟨⟨_, rfl⟩, .inl ⟨_, by rw [List.take_of_length_le (Nat.le_refl _)], hJs⟩⟩
end Go.Proofs.Ytcennbjegdlbhaa
