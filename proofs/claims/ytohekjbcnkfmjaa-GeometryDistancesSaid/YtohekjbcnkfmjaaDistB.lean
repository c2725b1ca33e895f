/- GeometryDistances: the walk, an error. -/
import Derived.Test.YtohekjbcnkfmjaaDistA
namespace Go.Proofs.Ytohekjbcnkfmjaa
open Go.RowKit

namespace geometryDistances
set_option maxHeartbeats 12800000 in
set_option maxRecDepth 100000 in
theorem mainA (w : World) (v1 v2 v3 : Value) (ao1 ao2 ao3 : Option Addr) (l1 l2 l3 cap1 cap2 cap3 : Nat) (e1 : v1 = .slice ao1 l1 cap1) (e2 : v2 = .slice ao2 l2 cap2) (e3 : v3 = .slice ao3 l3 cap3) (e n t f1 f2 t1 t2 pw qa qb g1 g2 m : Int)
    (p pe q qe r re Q1 Q2 : Int)
    (hfew : ∀ w1, Same w w1 → Calls Try.prog 17 #[.agg #[v1, v2, v3, .int .i64 e, .int .i64 n, .int .i64 t]] w1 fun e w' => e = .returned (.bool true) ∧ Same w1 w')
    (h1 : ∀ w1, Same w w1 → Calls Try.prog 18 #[.agg #[v1, v2, .slice none 0 0, .int .i64 e, .int .i64 n, .int .i64 t], .agg #[.int .i64 f1, .int .i64 f2], .int .i64 pw, .agg #[.int .i64 t1, .int .i64 t2]] w1 fun e w' => e = .returned (.tuple #[.int .i64 p, .int .i64 pe]) ∧ Same w1 w')
    (h2 : ∀ w1, Same w w1 → Calls Try.prog 18 #[.agg #[v1, v2, .slice none 0 0, .int .i64 e, .int .i64 n, .int .i64 t], .agg #[.int .i64 f1, .int .i64 f2], .int .i64 pw, .agg #[.int .i64 g1, .int .i64 g2]] w1 fun e w' => e = .returned (.tuple #[.int .i64 q, .int .i64 qe]) ∧ Same w1 w')
    (h3 : ∀ w1, Same w w1 → Calls Try.prog 18 #[.agg #[v1, v2, .slice none 0 0, .int .i64 e, .int .i64 n, .int .i64 t], .agg #[.int .i64 f1, .int .i64 f2], .int .i64 m, .agg #[.int .i64 t1, .int .i64 t2]] w1 fun e w' => e = .returned (.tuple #[.int .i64 r, .int .i64 re]) ∧ Same w1 w')
    (hs1 : pe = 0 → qe = 0 → ∀ w1, Calls Try.prog 13 #[.agg #[.int .i64 f1, .int .i64 f2], .agg #[.int .i64 t1, .int .i64 t2]] w1 fun e w' => e = .returned (.int .i64 Q1) ∧ Same w1 w')
    (hs2 : pe = 0 → qe = 0 → ∀ w1, Calls Try.prog 13 #[.agg #[.int .i64 f1, .int .i64 f2], .agg #[.int .i64 g1, .int .i64 g2]] w1 fun e w' => e = .returned (.int .i64 Q2) ∧ Same w1 w')
    (hp : pe ≠ 0) (hfin : pe ≠ 0 ∨ re ≠ 0 ∨ m < pw ∨ p ≤ r) :
    Calls Try.prog 9 #[.agg #[v1, v2, v3, .int .i64 e, .int .i64 n, .int .i64 t], .agg #[.int .i64 f1, .int .i64 f2, .int .i64 t1, .int .i64 t2, .int .i64 pw, .int .i64 qa, .int .i64 qb], .agg #[.int .i64 g1, .int .i64 g2, .int .i64 m]] w fun e w' => e = .returned (.bool true) ∧ Same w w' := by
  have HAW := Lib.hid (awake_any (bx w v1 v2 v3 e n t f1 f2 t1 t2 pw qa qb g1 g2 m))
  have HAT := Lib.hid (fun (w1 : World) (h : Same (bx w v1 v2 v3 e n t f1 f2 t1 t2 pw qa qb g1 g2 m) w1) => bx_at h)
  have HST := Lib.hid (fun (w1 w3 : World) (h : Same (bx w v1 v2 v3 e n t f1 f2 t1 t2 pw qa qb g1 g2 m) w1) (hw : Same ((w1.alloc (.cells #[.int .i64 g1, .int .i64 g2] 23)).drew) w3) => startD h hw)
  subst e1 e2 e3
  have HFEW := Lib.hid hfew; clear hfew
  have H1 := Lib.hid h1; clear h1
  have H2 := Lib.hid h2; clear h2
  have H3 := Lib.hid h3; clear h3
  have HS1 := Lib.hid hs1; clear hs1
  have HS2 := Lib.hid hs2; clear hs2
  have HFIN := Lib.hid hfin; clear hfin
  have i1 : (pe == 0) = false := by simpa using hp
  have i2 : (pe != 0) = true := by simpa using hp
  clear hp
  go_enter Try.func9, Try.ntmps9
  go_wp2_with (go_at_call 11; (with_reducible refine HAW.out.mono ?_); rintro e w1 ⟨rfl, hw⟩; have hb := Lib.hid hw; obtain ⟨k0, k1, k2, k3, k4, k5, k6, k7, k8, k9, k10, k11, k12, k13, hs⟩ := HAT.out _ hw; have HS := Lib.hid hs; clear hw hs; have y0 := fun x y => cell_under (o := .cells #[x, y] 23) k0; have y1 := fun x y => cell_under (o := .cells #[x, y] 23) k1; have y2 := fun x y => cell_under (o := .cells #[x, y] 23) k2; have y3 := fun x y => cell_under (o := .cells #[x, y] 23) k3; have y4 := fun x y => cell_under (o := .cells #[x, y] 23) k4; have y5 := fun x y => cell_under (o := .cells #[x, y] 23) k5; have y11 := fun x y => cell_under (o := .cells #[x, y] 23) k11; have y12 := fun x y => cell_under (o := .cells #[x, y] 23) k12; have y13 := fun x y => cell_under (o := .cells #[x, y] 23) k13)
  go_region
  go_wp2_with (first
    | (go_at_call 17; (with_reducible refine (HFEW.out _ ((HS.out.alloc _).drew)).mono ?_); rintro e w3 ⟨rfl, hw⟩; obtain ⟨c2, cf, hf⟩ := HST.out _ _ hb.out hw; have HF := Lib.hid hf; clear hf hw k0 k1 k2 k3 k4 k5 k6 k7 k8 k9 k10 k11 k12 k13 y0 y1 y2 y3 y4 y5 y11 y12 y13; obtain ⟨q0, q1, q2, q3, q4, q5, q6, q7, q8, q9, q10, q11, q12, hs⟩ := HF.out; clear hs)
    | (go_at_call 18; (with_reducible refine (H1.out _ HF.out.2.2.2.2.2.2.2.2.2.2.2.2.2).mono ?_); rintro e w4 ⟨rfl, hw⟩; have h' := Lib.hid (keepD HF.out hw); clear HF hw q0 q1 q2 q3 q4 q5 q6 q7 q8 q9 q10 q11 q12; have HF := h'; clear h'; obtain ⟨q0, q1, q2, q3, q4, q5, q6, q7, q8, q9, q10, q11, q12, hs⟩ := HF.out; clear hs)
    | (go_at_call 18; (with_reducible refine (H2.out _ HF.out.2.2.2.2.2.2.2.2.2.2.2.2.2).mono ?_); rintro e w4 ⟨rfl, hw⟩; have h' := Lib.hid (keepD HF.out hw); clear HF hw q0 q1 q2 q3 q4 q5 q6 q7 q8 q9 q10 q11 q12; have HF := h'; clear h'; obtain ⟨q0, q1, q2, q3, q4, q5, q6, q7, q8, q9, q10, q11, q12, hs⟩ := HF.out; clear hs))
  go_quiet (fail)
  go_wp2_with (go_at_call 18; (with_reducible refine (H3.out _ (Same.drewN HF.out.2.2.2.2.2.2.2.2.2.2.2.2.2 _)).mono ?_); rintro e w5 ⟨rfl, hw⟩; have h' := Lib.hid (keepD HF.out (Same.trans ((Same.refl _).drewN _) hw)); clear HF hw q0 q1 q2 q3 q4 q5 q6 q7 q8 q9 q10 q11 q12; have HF := h'; clear h'; obtain ⟨q0, q1, q2, q3, q4, q5, q6, q7, q8, q9, q10, q11, q12, hs⟩ := HF.out; clear hs)
  all_goals go_ret
  all_goals first
    | exact ⟨rfl, HF.out.2.2.2.2.2.2.2.2.2.2.2.2.2⟩
    | exact ⟨ret_bool (by rcases HFIN.out with h | h | h | h <;> simp_all), HF.out.2.2.2.2.2.2.2.2.2.2.2.2.2⟩
set_option maxHeartbeats 12800000 in
set_option maxRecDepth 100000 in
theorem mainB (w : World) (v1 v2 v3 : Value) (ao1 ao2 ao3 : Option Addr) (l1 l2 l3 cap1 cap2 cap3 : Nat) (e1 : v1 = .slice ao1 l1 cap1) (e2 : v2 = .slice ao2 l2 cap2) (e3 : v3 = .slice ao3 l3 cap3) (e n t f1 f2 t1 t2 pw qa qb g1 g2 m : Int)
    (p pe q qe r re Q1 Q2 : Int)
    (hfew : ∀ w1, Same w w1 → Calls Try.prog 17 #[.agg #[v1, v2, v3, .int .i64 e, .int .i64 n, .int .i64 t]] w1 fun e w' => e = .returned (.bool true) ∧ Same w1 w')
    (h1 : ∀ w1, Same w w1 → Calls Try.prog 18 #[.agg #[v1, v2, .slice none 0 0, .int .i64 e, .int .i64 n, .int .i64 t], .agg #[.int .i64 f1, .int .i64 f2], .int .i64 pw, .agg #[.int .i64 t1, .int .i64 t2]] w1 fun e w' => e = .returned (.tuple #[.int .i64 p, .int .i64 pe]) ∧ Same w1 w')
    (h2 : ∀ w1, Same w w1 → Calls Try.prog 18 #[.agg #[v1, v2, .slice none 0 0, .int .i64 e, .int .i64 n, .int .i64 t], .agg #[.int .i64 f1, .int .i64 f2], .int .i64 pw, .agg #[.int .i64 g1, .int .i64 g2]] w1 fun e w' => e = .returned (.tuple #[.int .i64 q, .int .i64 qe]) ∧ Same w1 w')
    (h3 : ∀ w1, Same w w1 → Calls Try.prog 18 #[.agg #[v1, v2, .slice none 0 0, .int .i64 e, .int .i64 n, .int .i64 t], .agg #[.int .i64 f1, .int .i64 f2], .int .i64 m, .agg #[.int .i64 t1, .int .i64 t2]] w1 fun e w' => e = .returned (.tuple #[.int .i64 r, .int .i64 re]) ∧ Same w1 w')
    (hs1 : pe = 0 → qe = 0 → ∀ w1, Calls Try.prog 13 #[.agg #[.int .i64 f1, .int .i64 f2], .agg #[.int .i64 t1, .int .i64 t2]] w1 fun e w' => e = .returned (.int .i64 Q1) ∧ Same w1 w')
    (hs2 : pe = 0 → qe = 0 → ∀ w1, Calls Try.prog 13 #[.agg #[.int .i64 f1, .int .i64 f2], .agg #[.int .i64 g1, .int .i64 g2]] w1 fun e w' => e = .returned (.int .i64 Q2) ∧ Same w1 w')
    (hp : pe = 0) (hq : qe ≠ 0) (hfin : pe ≠ 0 ∨ re ≠ 0 ∨ m < pw ∨ p ≤ r) :
    Calls Try.prog 9 #[.agg #[v1, v2, v3, .int .i64 e, .int .i64 n, .int .i64 t], .agg #[.int .i64 f1, .int .i64 f2, .int .i64 t1, .int .i64 t2, .int .i64 pw, .int .i64 qa, .int .i64 qb], .agg #[.int .i64 g1, .int .i64 g2, .int .i64 m]] w fun e w' => e = .returned (.bool true) ∧ Same w w' := by
  have HAW := Lib.hid (awake_any (bx w v1 v2 v3 e n t f1 f2 t1 t2 pw qa qb g1 g2 m))
  have HAT := Lib.hid (fun (w1 : World) (h : Same (bx w v1 v2 v3 e n t f1 f2 t1 t2 pw qa qb g1 g2 m) w1) => bx_at h)
  have HST := Lib.hid (fun (w1 w3 : World) (h : Same (bx w v1 v2 v3 e n t f1 f2 t1 t2 pw qa qb g1 g2 m) w1) (hw : Same ((w1.alloc (.cells #[.int .i64 g1, .int .i64 g2] 23)).drew) w3) => startD h hw)
  subst e1 e2 e3
  have HFEW := Lib.hid hfew; clear hfew
  have H1 := Lib.hid h1; clear h1
  have H2 := Lib.hid h2; clear h2
  have H3 := Lib.hid h3; clear h3
  have HS1 := Lib.hid hs1; clear hs1
  have HS2 := Lib.hid hs2; clear hs2
  have HFIN := Lib.hid hfin; clear hfin
  subst hp
  have i3 : (qe == 0) = false := by simpa using hq
  clear hq
  go_enter Try.func9, Try.ntmps9
  go_wp2_with (go_at_call 11; (with_reducible refine HAW.out.mono ?_); rintro e w1 ⟨rfl, hw⟩; have hb := Lib.hid hw; obtain ⟨k0, k1, k2, k3, k4, k5, k6, k7, k8, k9, k10, k11, k12, k13, hs⟩ := HAT.out _ hw; have HS := Lib.hid hs; clear hw hs; have y0 := fun x y => cell_under (o := .cells #[x, y] 23) k0; have y1 := fun x y => cell_under (o := .cells #[x, y] 23) k1; have y2 := fun x y => cell_under (o := .cells #[x, y] 23) k2; have y3 := fun x y => cell_under (o := .cells #[x, y] 23) k3; have y4 := fun x y => cell_under (o := .cells #[x, y] 23) k4; have y5 := fun x y => cell_under (o := .cells #[x, y] 23) k5; have y11 := fun x y => cell_under (o := .cells #[x, y] 23) k11; have y12 := fun x y => cell_under (o := .cells #[x, y] 23) k12; have y13 := fun x y => cell_under (o := .cells #[x, y] 23) k13)
  go_region
  go_wp2_with (first
    | (go_at_call 17; (with_reducible refine (HFEW.out _ ((HS.out.alloc _).drew)).mono ?_); rintro e w3 ⟨rfl, hw⟩; obtain ⟨c2, cf, hf⟩ := HST.out _ _ hb.out hw; have HF := Lib.hid hf; clear hf hw k0 k1 k2 k3 k4 k5 k6 k7 k8 k9 k10 k11 k12 k13 y0 y1 y2 y3 y4 y5 y11 y12 y13; obtain ⟨q0, q1, q2, q3, q4, q5, q6, q7, q8, q9, q10, q11, q12, hs⟩ := HF.out; clear hs)
    | (go_at_call 18; (with_reducible refine (H1.out _ HF.out.2.2.2.2.2.2.2.2.2.2.2.2.2).mono ?_); rintro e w4 ⟨rfl, hw⟩; have h' := Lib.hid (keepD HF.out hw); clear HF hw q0 q1 q2 q3 q4 q5 q6 q7 q8 q9 q10 q11 q12; have HF := h'; clear h'; obtain ⟨q0, q1, q2, q3, q4, q5, q6, q7, q8, q9, q10, q11, q12, hs⟩ := HF.out; clear hs)
    | (go_at_call 18; (with_reducible refine (H2.out _ HF.out.2.2.2.2.2.2.2.2.2.2.2.2.2).mono ?_); rintro e w4 ⟨rfl, hw⟩; have h' := Lib.hid (keepD HF.out hw); clear HF hw q0 q1 q2 q3 q4 q5 q6 q7 q8 q9 q10 q11 q12; have HF := h'; clear h'; obtain ⟨q0, q1, q2, q3, q4, q5, q6, q7, q8, q9, q10, q11, q12, hs⟩ := HF.out; clear hs))
  go_quiet (fail)
  go_wp2_with (go_at_call 18; (with_reducible refine (H3.out _ (Same.drewN HF.out.2.2.2.2.2.2.2.2.2.2.2.2.2 _)).mono ?_); rintro e w5 ⟨rfl, hw⟩; have h' := Lib.hid (keepD HF.out (Same.trans ((Same.refl _).drewN _) hw)); clear HF hw q0 q1 q2 q3 q4 q5 q6 q7 q8 q9 q10 q11 q12; have HF := h'; clear h'; obtain ⟨q0, q1, q2, q3, q4, q5, q6, q7, q8, q9, q10, q11, q12, hs⟩ := HF.out; clear hs)
  all_goals go_ret
  all_goals first
    | exact ⟨rfl, HF.out.2.2.2.2.2.2.2.2.2.2.2.2.2⟩
    | exact ⟨ret_bool (by rcases HFIN.out with h | h | h | h <;> simp_all), HF.out.2.2.2.2.2.2.2.2.2.2.2.2.2⟩
end geometryDistances
end Go.Proofs.Ytohekjbcnkfmjaa
