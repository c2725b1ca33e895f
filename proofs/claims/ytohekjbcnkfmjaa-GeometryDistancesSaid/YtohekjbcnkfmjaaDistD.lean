/- GeometryDistances: the walk, the further point nearer. -/
import Derived.Test.YtohekjbcnkfmjaaDistA
namespace Go.Proofs.Ytohekjbcnkfmjaa
open Go.RowKit

namespace geometryDistances
set_option maxHeartbeats 12800000 in
set_option maxRecDepth 100000 in
theorem mainD (w : World) (v1 v2 v3 : Value) (ao1 ao2 ao3 : Option Addr) (l1 l2 l3 cap1 cap2 cap3 : Nat) (e1 : v1 = .slice ao1 l1 cap1) (e2 : v2 = .slice ao2 l2 cap2) (e3 : v3 = .slice ao3 l3 cap3) (e n t f1 f2 t1 t2 pw qa qb g1 g2 m : Int)
    (p pe q qe r re Q1 Q2 : Int)
    (hfew : ∀ w1, Same w w1 → Calls Try.prog 17 #[.agg #[v1, v2, v3, .int .i64 e, .int .i64 n, .int .i64 t]] w1 fun e w' => e = .returned (.bool true) ∧ Same w1 w')
    (h1 : ∀ w1, Same w w1 → Calls Try.prog 18 #[.agg #[v1, v2, .slice none 0 0, .int .i64 e, .int .i64 n, .int .i64 t], .agg #[.int .i64 f1, .int .i64 f2], .int .i64 pw, .agg #[.int .i64 t1, .int .i64 t2]] w1 fun e w' => e = .returned (.tuple #[.int .i64 p, .int .i64 pe]) ∧ Same w1 w')
    (h2 : ∀ w1, Same w w1 → Calls Try.prog 18 #[.agg #[v1, v2, .slice none 0 0, .int .i64 e, .int .i64 n, .int .i64 t], .agg #[.int .i64 f1, .int .i64 f2], .int .i64 pw, .agg #[.int .i64 g1, .int .i64 g2]] w1 fun e w' => e = .returned (.tuple #[.int .i64 q, .int .i64 qe]) ∧ Same w1 w')
    (h3 : ∀ w1, Same w w1 → Calls Try.prog 18 #[.agg #[v1, v2, .slice none 0 0, .int .i64 e, .int .i64 n, .int .i64 t], .agg #[.int .i64 f1, .int .i64 f2], .int .i64 m, .agg #[.int .i64 t1, .int .i64 t2]] w1 fun e w' => e = .returned (.tuple #[.int .i64 r, .int .i64 re]) ∧ Same w1 w')
    (hs1 : pe = 0 → qe = 0 → ∀ w1, Calls Try.prog 13 #[.agg #[.int .i64 f1, .int .i64 f2], .agg #[.int .i64 t1, .int .i64 t2]] w1 fun e w' => e = .returned (.int .i64 Q1) ∧ Same w1 w')
    (hs2 : pe = 0 → qe = 0 → ∀ w1, Calls Try.prog 13 #[.agg #[.int .i64 f1, .int .i64 f2], .agg #[.int .i64 g1, .int .i64 g2]] w1 fun e w' => e = .returned (.int .i64 Q2) ∧ Same w1 w')
    (hp : pe = 0) (hq : qe = 0) (hQ : Q2 < Q1) (hfin : pe ≠ 0 ∨ re ≠ 0 ∨ m < pw ∨ p ≤ r) :
    Calls Try.prog 9 #[.agg #[v1, v2, v3, .int .i64 e, .int .i64 n, .int .i64 t], .agg #[.int .i64 f1, .int .i64 f2, .int .i64 t1, .int .i64 t2, .int .i64 pw, .int .i64 qa, .int .i64 qb], .agg #[.int .i64 g1, .int .i64 g2, .int .i64 m]] w fun e w' => e = .returned (.bool true) ∧ Same w w' := by
  have HAW := Lib.hid (awake_any (bx w v1 v2 v3 e n t f1 f2 t1 t2 pw qa qb g1 g2 m))
  have HAT := Lib.hid (fun (w1 : World) (h : Same (bx w v1 v2 v3 e n t f1 f2 t1 t2 pw qa qb g1 g2 m) w1) => bx_at h)
  have HST := Lib.hid (fun (w1 w3 : World) (h : Same (bx w v1 v2 v3 e n t f1 f2 t1 t2 pw qa qb g1 g2 m) w1) (hw : Same ((w1.alloc (.cells #[.int .i64 g1, .int .i64 g2] 23)).drew) w3) => startD h hw)
  subst e1 e2 e3
  have HFEW := Lib.hid hfew; clear hfew
  have H1 := Lib.hid h1; clear h1
  have H2 := Lib.hid h2; clear h2
  have H3 := Lib.hid h3; clear h3
  have HS1 := Lib.hid hs1; clear hs1
  have HS2 := Lib.hid hs2; clear hs2
  have HFIN := Lib.hid hfin; clear hfin
  subst hp hq
  have SQ1 := Lib.hid (HS1.out rfl rfl)
  have SQ2 := Lib.hid (HS2.out rfl rfl)
  have i5 : decide (Q1 ≤ Q2) = false := decide_eq_false (by omega)
  go_enter Try.func9, Try.ntmps9
  go_wp2_with (go_at_call 11; (with_reducible refine HAW.out.mono ?_); rintro e w1 ⟨rfl, hw⟩; have hb := Lib.hid hw; obtain ⟨k0, k1, k2, k3, k4, k5, k6, k7, k8, k9, k10, k11, k12, k13, hs⟩ := HAT.out _ hw; have HS := Lib.hid hs; clear hw hs; have y0 := fun x y => cell_under (o := .cells #[x, y] 23) k0; have y1 := fun x y => cell_under (o := .cells #[x, y] 23) k1; have y2 := fun x y => cell_under (o := .cells #[x, y] 23) k2; have y3 := fun x y => cell_under (o := .cells #[x, y] 23) k3; have y4 := fun x y => cell_under (o := .cells #[x, y] 23) k4; have y5 := fun x y => cell_under (o := .cells #[x, y] 23) k5; have y11 := fun x y => cell_under (o := .cells #[x, y] 23) k11; have y12 := fun x y => cell_under (o := .cells #[x, y] 23) k12; have y13 := fun x y => cell_under (o := .cells #[x, y] 23) k13)
  go_region
  go_wp2_with (first
    | (go_at_call 17; (with_reducible refine (HFEW.out _ ((HS.out.alloc _).drew)).mono ?_); rintro e w3 ⟨rfl, hw⟩; obtain ⟨c2, cf, hf⟩ := HST.out _ _ hb.out hw; have HF := Lib.hid hf; clear hf hw k0 k1 k2 k3 k4 k5 k6 k7 k8 k9 k10 k11 k12 k13 y0 y1 y2 y3 y4 y5 y11 y12 y13; obtain ⟨q0, q1, q2, q3, q4, q5, q6, q7, q8, q9, q10, q11, q12, hs⟩ := HF.out; clear hs)
    | (go_at_call 18; (with_reducible refine (H1.out _ HF.out.2.2.2.2.2.2.2.2.2.2.2.2.2).mono ?_); rintro e w4 ⟨rfl, hw⟩; have h' := Lib.hid (keepD HF.out hw); clear HF hw q0 q1 q2 q3 q4 q5 q6 q7 q8 q9 q10 q11 q12; have HF := h'; clear h'; obtain ⟨q0, q1, q2, q3, q4, q5, q6, q7, q8, q9, q10, q11, q12, hs⟩ := HF.out; clear hs)
    | (go_at_call 18; (with_reducible refine (H2.out _ HF.out.2.2.2.2.2.2.2.2.2.2.2.2.2).mono ?_); rintro e w4 ⟨rfl, hw⟩; have h' := Lib.hid (keepD HF.out hw); clear HF hw q0 q1 q2 q3 q4 q5 q6 q7 q8 q9 q10 q11 q12; have HF := h'; clear h'; obtain ⟨q0, q1, q2, q3, q4, q5, q6, q7, q8, q9, q10, q11, q12, hs⟩ := HF.out; clear hs))
  clear q0 q1 q2 q3 q4 q5 q6 q7 q8 q9 q10 q11 q12
  refine wp_region_noPanic ?_
  refine wp_region_held_drew (S := (fun w' => FD w w1.heap.size (.slice ao1 l1 cap1) (.slice ao2 l2 cap2) (.slice none 0 0) e n t f1 f2 t1 t2 pw g1 g2 w')) (by kernel_rfl) ?_ (fun hHeld => ?_)
  · exact keepD HF.out ((Same.refl _).drew)
  refine wpAnyH_take (i := 0) (oi := { dst := some 46, op := Op.move (Operand.tmp 10), type := 38, pos := "law.go:163", after := #[], guard := none }) (v := ?_) rfl (by kernel_rfl) (by kernel_rfl) (by kernel_rfl) (fun _ _ _ h => h) (Or.inl ⟨by rfl, ?_⟩) (by assumption) ?_
  rotate_left
  · intro w' hSw; (try dsimp only at hSw); go_simp; try with_reducible rfl
  try simp only [Act.put, List.setIfInBounds_toArray, List.set_cons_zero, List.set_cons_succ]
  refine wpAnyH_take (i := 1) (oi := { dst := some 47, op := Op.binOp BinOp.eql 38 (Operand.tmp 46) (Operand.const (Value.int IntKind.i64 0)) 38, type := 4, pos := "law.go:163", after := #[{ on := 0, ground := Ground.data }], guard := none }) (v := ?_) rfl (by kernel_rfl) (by kernel_rfl) (by kernel_rfl) (fun _ _ _ h => h) (Or.inl ⟨by rfl, ?_⟩) (by assumption) ?_
  rotate_left
  · intro w' hSw; (try dsimp only at hSw); go_simp; try with_reducible rfl
  try simp only [Act.put, List.setIfInBounds_toArray, List.set_cons_zero, List.set_cons_succ]
  refine wpAnyH_take (i := 2) (oi := { dst := some 48, op := Op.move (Operand.tmp 47), type := 4, pos := "law.go:163", after := #[{ on := 1, ground := Ground.data }], guard := none }) (v := ?_) rfl (by kernel_rfl) (by kernel_rfl) (by kernel_rfl) (fun _ _ _ h => h) (Or.inl ⟨by rfl, ?_⟩) (by assumption) ?_
  rotate_left
  · intro w' hSw; (try dsimp only at hSw); go_simp; try with_reducible rfl
  try simp only [Act.put, List.setIfInBounds_toArray, List.set_cons_zero, List.set_cons_succ]
  refine wpAnyH_take (i := 3) (oi := { dst := some 49, op := Op.move (Operand.tmp 12), type := 38, pos := "law.go:163", after := #[{ on := 2, ground := Ground.guard }], guard := some (2, true) }) (v := ?_) rfl (by kernel_rfl) (by kernel_rfl) (by kernel_rfl) (fun _ _ _ h => h) (Or.inl ⟨by rfl, ?_⟩) (by assumption) ?_
  rotate_left
  · intro w' hSw; (try dsimp only at hSw); go_simp; try with_reducible rfl
  try simp only [Act.put, List.setIfInBounds_toArray, List.set_cons_zero, List.set_cons_succ]
  refine wpAnyH_take (i := 4) (oi := { dst := some 50, op := Op.binOp BinOp.eql 38 (Operand.tmp 49) (Operand.const (Value.int IntKind.i64 0)) 38, type := 4, pos := "law.go:163", after := #[{ on := 3, ground := Ground.data }, { on := 2, ground := Ground.guard }], guard := some (2, true) }) (v := ?_) rfl (by kernel_rfl) (by kernel_rfl) (by kernel_rfl) (fun _ _ _ h => h) (Or.inl ⟨by rfl, ?_⟩) (by assumption) ?_
  rotate_left
  · intro w' hSw; (try dsimp only at hSw); go_simp; try with_reducible rfl
  try simp only [Act.put, List.setIfInBounds_toArray, List.set_cons_zero, List.set_cons_succ]
  refine wpAnyH_take (i := 5) (oi := { dst := some 51, op := Op.pick (Operand.tmp 48) (Operand.tmp 50) (Operand.const (Value.bool false)), type := 4, pos := "law.go:163", after := #[{ on := 2, ground := Ground.data }, { on := 4, ground := Ground.data }], guard := none }) (v := ?_) rfl (by kernel_rfl) (by kernel_rfl) (by kernel_rfl) (fun _ _ _ h => h) (Or.inl ⟨by rfl, ?_⟩) (by assumption) ?_
  rotate_left
  · intro w' hSw; (try dsimp only at hSw); go_simp; try with_reducible rfl
  try simp only [Act.put, List.setIfInBounds_toArray, List.set_cons_zero, List.set_cons_succ]
  refine wpAnyH_take (i := 6) (oi := { dst := some 52, op := Op.move (Operand.tmp 51), type := 4, pos := "law.go:163", after := #[{ on := 5, ground := Ground.data }, { on := 2, ground := Ground.chain }], guard := none }) (v := ?_) rfl (by kernel_rfl) (by kernel_rfl) (by kernel_rfl) (fun _ _ _ h => h) (Or.inl ⟨by rfl, ?_⟩) (by assumption) ?_
  rotate_left
  · intro w' hSw; (try dsimp only at hSw); go_simp; try with_reducible rfl
  try simp only [Act.put, List.setIfInBounds_toArray, List.set_cons_zero, List.set_cons_succ]
  refine wpAnyH_take (i := 7) (oi := { dst := some 53, op := Op.fieldAddr 36 (Operand.tmp 4) 0, type := 0, pos := "law.go:163", after := #[{ on := 6, ground := Ground.guard }], guard := some (6, true) }) (v := ?_) rfl (by kernel_rfl) (by kernel_rfl) (by kernel_rfl) (fun _ _ _ h => h) (Or.inl ⟨by rfl, ?_⟩) (by assumption) ?_
  rotate_left
  · intro w' hSw; (try dsimp only at hSw); go_simp; try with_reducible rfl
  try simp only [Act.put, List.setIfInBounds_toArray, List.set_cons_zero, List.set_cons_succ]
  refine wpAnyH_take (i := 8) (oi := { dst := some 54, op := Op.load 23 (Operand.tmp 53), type := 23, pos := "law.go:163", after := #[{ on := 7, ground := Ground.data }, { on := 6, ground := Ground.guard }], guard := some (6, true) }) (v := ?_) rfl (by kernel_rfl) (by kernel_rfl) (by kernel_rfl) (fun _ _ _ h => h) (Or.inl ⟨by rfl, ?_⟩) (by assumption) ?_
  rotate_left
  · intro w' hSw; (try dsimp only at hSw); go_simp; try with_reducible rfl
  try simp only [Act.put, List.setIfInBounds_toArray, List.set_cons_zero, List.set_cons_succ]
  refine wpAnyH_take (i := 9) (oi := { dst := some 55, op := Op.fieldAddr 36 (Operand.tmp 4) 1, type := 0, pos := "law.go:163", after := #[{ on := 6, ground := Ground.guard }], guard := some (6, true) }) (v := ?_) rfl (by kernel_rfl) (by kernel_rfl) (by kernel_rfl) (fun _ _ _ h => h) (Or.inl ⟨by rfl, ?_⟩) (by assumption) ?_
  rotate_left
  · intro w' hSw; (try dsimp only at hSw); go_simp; try with_reducible rfl
  try simp only [Act.put, List.setIfInBounds_toArray, List.set_cons_zero, List.set_cons_succ]
  refine wpAnyH_take (i := 10) (oi := { dst := some 56, op := Op.load 23 (Operand.tmp 55), type := 23, pos := "law.go:163", after := #[{ on := 9, ground := Ground.data }, { on := 6, ground := Ground.guard }], guard := some (6, true) }) (v := ?_) rfl (by kernel_rfl) (by kernel_rfl) (by kernel_rfl) (fun _ _ _ h => h) (Or.inl ⟨by rfl, ?_⟩) (by assumption) ?_
  rotate_left
  · intro w' hSw; (try dsimp only at hSw); go_simp; try with_reducible rfl
  try simp only [Act.put, List.setIfInBounds_toArray, List.set_cons_zero, List.set_cons_succ]
  refine wpAnyH_take (i := 12) (oi := { dst := some 58, op := Op.fieldAddr 36 (Operand.tmp 4) 0, type := 0, pos := "law.go:163", after := #[{ on := 6, ground := Ground.guard }], guard := some (6, true) }) (v := ?_) rfl (by kernel_rfl) (by kernel_rfl) (by kernel_rfl) (fun _ _ _ h => h) (Or.inl ⟨by rfl, ?_⟩) (by assumption) ?_
  rotate_left
  · intro w' hSw; (try dsimp only at hSw); go_simp; try with_reducible rfl
  try simp only [Act.put, List.setIfInBounds_toArray, List.set_cons_zero, List.set_cons_succ]
  refine wpAnyH_take (i := 13) (oi := { dst := some 59, op := Op.load 23 (Operand.tmp 58), type := 23, pos := "law.go:163", after := #[{ on := 12, ground := Ground.data }, { on := 6, ground := Ground.guard }], guard := some (6, true) }) (v := ?_) rfl (by kernel_rfl) (by kernel_rfl) (by kernel_rfl) (fun _ _ _ h => h) (Or.inl ⟨by rfl, ?_⟩) (by assumption) ?_
  rotate_left
  · intro w' hSw; (try dsimp only at hSw); go_simp; try with_reducible rfl
  try simp only [Act.put, List.setIfInBounds_toArray, List.set_cons_zero, List.set_cons_succ]
  refine wpAnyH_take (i := 14) (oi := { dst := some 60, op := Op.load 23 (Operand.tmp 7), type := 23, pos := "law.go:163", after := #[{ on := 6, ground := Ground.guard }], guard := some (6, true) }) (v := ?_) rfl (by kernel_rfl) (by kernel_rfl) (by kernel_rfl) (fun _ _ _ h => h) (Or.inl ⟨by rfl, ?_⟩) (by assumption) ?_
  rotate_left
  · intro w' hSw; (try dsimp only at hSw); go_simp; try with_reducible rfl
  try simp only [Act.put, List.setIfInBounds_toArray, List.set_cons_zero, List.set_cons_succ]
  refine wpAnyH_ready (rs := [11]) (by kernel_rfl) (by simp) ?_
  refine AllReadyH.cons (o := { dst := some 57, op := Op.call { callee := Callee.value (Operand.func 13), args := #[Operand.tmp 54, Operand.tmp 56], argTypes := #[23, 23] }, type := 3, pos := "law.go:163", after := #[{ on := 8, ground := Ground.data }, { on := 10, ground := Ground.data }, { on := 6, ground := Ground.chain }, { on := 6, ground := Ground.guard }], guard := some (6, true) }) rfl (fun K hK => ?_) AllReadyH.nil
  go_simp
  (with_reducible refine (SQ1.out _).mono ?_)
  rintro e w5 ⟨rfl, hw5⟩
  go_simp
  refine hK.out _ _ ?_ (fun hHeld => ?_)
  · exact keepD (by assumption) (by assumption)
  try simp only [Act.put, List.setIfInBounds_toArray, List.set_cons_zero, List.set_cons_succ]
  clear hK K
  refine wpAnyH_ready (rs := [15]) (by kernel_rfl) (by simp) ?_
  refine AllReadyH.cons (o := { dst := some 61, op := Op.call { callee := Callee.value (Operand.func 13), args := #[Operand.tmp 59, Operand.tmp 60], argTypes := #[23, 23] }, type := 3, pos := "law.go:163", after := #[{ on := 13, ground := Ground.data }, { on := 14, ground := Ground.data }, { on := 11, ground := Ground.chain }, { on := 6, ground := Ground.guard }], guard := some (6, true) }) rfl (fun K hK => ?_) AllReadyH.nil
  go_simp
  (with_reducible refine (SQ2.out _).mono ?_)
  rintro e w6 ⟨rfl, hw5⟩
  go_simp
  refine hK.out _ _ ?_ (fun hHeld => ?_)
  · exact keepD (by assumption) (by assumption)
  try simp only [Act.put, List.setIfInBounds_toArray, List.set_cons_zero, List.set_cons_succ]
  clear hK K
  refine wpAnyH_take (i := 16) (oi := { dst := some 62, op := Op.binOp BinOp.leq 3 (Operand.tmp 57) (Operand.tmp 61) 3, type := 4, pos := "law.go:163", after := #[{ on := 11, ground := Ground.data }, { on := 15, ground := Ground.data }, { on := 6, ground := Ground.guard }], guard := some (6, true) }) (v := ?_) rfl (by kernel_rfl) (by kernel_rfl) (by kernel_rfl) (fun _ _ _ h => h) (Or.inl ⟨by rfl, ?_⟩) (by assumption) ?_
  rotate_left
  · intro w' hSw; (try dsimp only at hSw); go_simp; try with_reducible rfl
  try simp only [Act.put, List.setIfInBounds_toArray, List.set_cons_zero, List.set_cons_succ]
  refine wpAnyH_take (i := 17) (oi := { dst := some 63, op := Op.pick (Operand.tmp 52) (Operand.tmp 62) (Operand.const (Value.bool false)), type := 4, pos := "law.go:163", after := #[{ on := 6, ground := Ground.data }, { on := 16, ground := Ground.data }], guard := none }) (v := ?_) rfl (by kernel_rfl) (by kernel_rfl) (by kernel_rfl) (fun _ _ _ h => h) (Or.inl ⟨by rfl, ?_⟩) (by assumption) ?_
  rotate_left
  · intro w' hSw; (try dsimp only at hSw); go_simp; try with_reducible rfl
  try simp only [Act.put, List.setIfInBounds_toArray, List.set_cons_zero, List.set_cons_succ]
  refine wpAnyH_take (i := 18) (oi := { dst := some 64, op := Op.move (Operand.tmp 63), type := 4, pos := "law.go:163", after := #[{ on := 17, ground := Ground.data }, { on := 15, ground := Ground.chain }], guard := none }) (v := ?_) rfl (by kernel_rfl) (by kernel_rfl) (by kernel_rfl) (fun _ _ _ h => h) (Or.inl ⟨by rfl, ?_⟩) (by assumption) ?_
  rotate_left
  · intro w' hSw; (try dsimp only at hSw); go_simp; try with_reducible rfl
  try simp only [Act.put, List.setIfInBounds_toArray, List.set_cons_zero, List.set_cons_succ]
  refine wpAnyH_take (i := 19) (oi := { dst := some 65, op := Op.move (Operand.tmp 9), type := 3, pos := "law.go:163", after := #[{ on := 18, ground := Ground.guard }], guard := some (18, true) }) (v := undef) rfl (by kernel_rfl) (by kernel_rfl) (by kernel_rfl) (fun _ _ _ h => h) (Or.inr ⟨by rfl, rfl⟩) (by assumption) ?_
  try simp only [Act.put, List.setIfInBounds_toArray, List.set_cons_zero, List.set_cons_succ]
  refine wpAnyH_take (i := 20) (oi := { dst := some 66, op := Op.move (Operand.tmp 11), type := 3, pos := "law.go:163", after := #[{ on := 18, ground := Ground.guard }], guard := some (18, true) }) (v := undef) rfl (by kernel_rfl) (by kernel_rfl) (by kernel_rfl) (fun _ _ _ h => h) (Or.inr ⟨by rfl, rfl⟩) (by assumption) ?_
  try simp only [Act.put, List.setIfInBounds_toArray, List.set_cons_zero, List.set_cons_succ]
  refine wpAnyH_take (i := 21) (oi := { dst := some 67, op := Op.binOp BinOp.lss 3 (Operand.tmp 65) (Operand.tmp 66) 3, type := 4, pos := "law.go:163", after := #[{ on := 19, ground := Ground.data }, { on := 20, ground := Ground.data }, { on := 18, ground := Ground.guard }], guard := some (18, true) }) (v := undef) rfl (by kernel_rfl) (by kernel_rfl) (by kernel_rfl) (fun _ _ _ h => h) (Or.inr ⟨by rfl, rfl⟩) (by assumption) ?_
  try simp only [Act.put, List.setIfInBounds_toArray, List.set_cons_zero, List.set_cons_succ]
  refine wpAnyH_take (i := 22) (oi := { dst := some 68, op := Op.pick (Operand.tmp 64) (Operand.tmp 67) (Operand.const (Value.bool false)), type := 4, pos := "law.go:163", after := #[{ on := 18, ground := Ground.data }, { on := 21, ground := Ground.data }], guard := none }) (v := ?_) rfl (by kernel_rfl) (by kernel_rfl) (by kernel_rfl) (fun _ _ _ h => h) (Or.inl ⟨by rfl, ?_⟩) (by assumption) ?_
  rotate_left
  · intro w' hSw; (try dsimp only at hSw); go_simp; try with_reducible rfl
  try simp only [Act.put, List.setIfInBounds_toArray, List.set_cons_zero, List.set_cons_succ]
  refine wpAnyH_done (by kernel_rfl) ?_ _
  refine NoPanic.normal ?_
  all_goals
    have HF2 := Lib.hid (by assumption : FD w w1.heap.size (.slice ao1 l1 cap1) (.slice ao2 l2 cap2) (.slice none 0 0) e n t f1 f2 t1 t2 pw g1 g2 w6)
    clear HF
    have HF := HF2
    clear HF2
    obtain ⟨q0, q1, q2, q3, q4, q5, q6, q7, q8, q9, q10, q11, q12, hs⟩ := HF.out
    clear hs
    go_wp2_with (go_at_call 18; (with_reducible refine (H3.out _ HF.out.2.2.2.2.2.2.2.2.2.2.2.2.2).mono ?_); rintro e w7 ⟨rfl, hw⟩; have h' := Lib.hid (keepD HF.out hw); clear HF hw q0 q1 q2 q3 q4 q5 q6 q7 q8 q9 q10 q11 q12; have HF := h'; clear h'; obtain ⟨q0, q1, q2, q3, q4, q5, q6, q7, q8, q9, q10, q11, q12, hs⟩ := HF.out; clear hs)
  all_goals go_ret
  all_goals first
    | exact ⟨rfl, HF.out.2.2.2.2.2.2.2.2.2.2.2.2.2⟩
    | exact ⟨ret_bool (by rcases HFIN.out with h | h | h | h <;> simp_all), HF.out.2.2.2.2.2.2.2.2.2.2.2.2.2⟩
end geometryDistances
end Go.Proofs.Ytohekjbcnkfmjaa
