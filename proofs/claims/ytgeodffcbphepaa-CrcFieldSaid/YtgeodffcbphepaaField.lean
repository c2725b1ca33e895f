/- CrcField: for all residues and exponents the law returns true: products do not depend on order and grouping, distribute over sums, and powers of x multiply. No condition on the input. -/
import Derived.Test.YtgeodffcbphepaaOpen
namespace Go.Proofs.Ytgeodffcbphepaa
open Go.RowKit
open Crc

/-- A box of three cells, made ahead of what keeps all that was there. -/
theorem box3 {w w1 : World} {x y z : Value} {T : TypeId} (h : Same (w.alloc (.cells #[x, y, z] T)) w1) :
    w1.cell? ⟨w.heap.size, 0, none⟩ = some x ∧ w1.cell? ⟨w.heap.size, 1, none⟩ = some y ∧ w1.cell? ⟨w.heap.size, 2, none⟩ = some z ∧ Same w w1 := by
  have hb := h.block w.heap.size (by simp)
  rw [heap_alloc_new] at hb
  exact ⟨by rw [cell_of_row _ _ _ _ _ _ hb]; rfl, by rw [cell_of_row _ _ _ _ _ _ hb]; rfl, by rw [cell_of_row _ _ _ _ _ _ hb]; rfl, ((Same.refl w).alloc _).trans h⟩

namespace crcField
theorem mul {a b : Nat} (ha : a < 65536) (hb : b < 65536) (c : Nat) (h : M a b = c) (w : World) : Calls Try.prog 18 #[.int .u16 (a : Int), .int .u16 (b : Int)] w fun e w' => e = .returned (.int .u16 (c : Nat)) ∧ Same w w' := by
  subst h; exact (multiply_any a b ha hb w).mono fun e w' ⟨he, hw⟩ => ⟨he, Same.ofDrewN hw⟩
theorem pw (i : Nat) (hi : i ≤ 2000000000) (w : World) : Calls Try.prog 20 #[.int .i64 (i : Int)] w fun e w' => e = .returned (.int .u16 (X i : Nat)) ∧ Same w w' := by
  have h := power_any i (by omega) w
  have e : powr (i : Int) = X i := by unfold powr; rw [if_neg (by omega)]; rfl
  rw [e] at h
  exact h.mono fun e w' ⟨he, hw⟩ => ⟨he, Same.ofDrewN hw⟩

set_option maxHeartbeats 1600000 in
theorem walk (x y z : Int) (hx : 0 ≤ x ∧ x ≤ 65535) (hy : 0 ≤ y ∧ y ≤ 65535) (hz : 0 ≤ z ∧ z ≤ 65535) (m : Int) (_hm : -9223372036854775808 ≤ m ∧ m ≤ 9223372036854775807) (n : Int) (_hn : -9223372036854775808 ≤ n ∧ n ≤ 9223372036854775807) (w : World) :
    Calls Try.prog 5 #[.agg #[.int .u16 x, .int .u16 y, .int .u16 z], .int .i64 m, .int .i64 n] w fun e w' => e = .returned (.bool true) ∧ Same w w' := by
  obtain ⟨a, rfl⟩ := Int.eq_ofNat_of_zero_le hx.1
  obtain ⟨b, rfl⟩ := Int.eq_ofNat_of_zero_le hy.1
  obtain ⟨c, rfl⟩ := Int.eq_ofNat_of_zero_le hz.1
  have ha : a < 65536 := by omega
  have hb : b < 65536 := by omega
  have hc : c < 65536 := by omega
  have hxx : ∀ p q : Nat, p < 65536 → q < 65536 → bits .xor .u16 (p : Int) (q : Int) = ((p ^^^ q : Nat) : Int) := bits_xor_u16
  have c1 := fun w => mul ha hb _ rfl w
  have c2 := fun w => mul hb ha _ (M_comm hb ha) w
  have c3 := fun w => mul (M_lt ha b) hc _ rfl w
  have c4 := fun w => mul hb hc _ rfl w
  have c5 := fun w => mul ha (M_lt hb c) _ (M_assoc ha c).symm w
  have c6 : ∀ w, Calls Try.prog 18 #[.int .u16 (a : Int), .int .u16 (bits .xor .u16 (b : Int) (c : Int))] w fun e w' => e = .returned (.int .u16 (bits .xor .u16 ((M a b : Nat) : Int) ((M a c : Nat) : Int))) ∧ Same w w' := fun w => by
    rw [hxx b c hb hc, hxx _ _ (M_lt ha b) (M_lt ha c)]
    exact mul ha (xor_lt hb hc) _ (M_xor_right a b c) w
  have c7 := fun w => mul ha hc _ rfl w
  have c8 : ∀ w, Calls Try.prog 18 #[.int .u16 (a : Int), .int .u16 1] w fun e w' => e = .returned (.int .u16 (a : Nat)) ∧ Same w w' := fun w => mul ha (b := 1) (by decide) _ (M_one_right a) w
  have C1 := Lib.hid c1; clear c1
  have C2 := Lib.hid c2; clear c2
  have C3 := Lib.hid c3; clear c3
  have C4 := Lib.hid c4; clear c4
  have C5 := Lib.hid c5; clear c5
  have C6 := Lib.hid c6; clear c6
  have C7 := Lib.hid c7; clear c7
  have C8 := Lib.hid c8; clear c8
  clear hxx ha hb hc hx hy hz
  by_cases hin : 0 ≤ m ∧ 0 ≤ n ∧ m ≤ 1000000000 ∧ n ≤ 1000000000
  · obtain ⟨i1, i2, i3, i4⟩ := hin
    obtain ⟨m, rfl⟩ := Int.eq_ofNat_of_zero_le i1
    obtain ⟨n, rfl⟩ := Int.eq_ofNat_of_zero_le i2
    have d1 := fun w => pw m (by omega) w
    have d2 := fun w => pw n (by omega) w
    have d3 : ∀ w, Calls Try.prog 20 #[.int .i64 ((m : Int) + (n : Int))] w fun e w' => e = .returned (.int .u16 (X (m + n) : Nat)) ∧ Same w w' := fun w => pw (m + n) (by omega) w
    have d4 := fun w => mul (X_lt m) (X_lt n) _ (X_add m n) w
    have D1 := Lib.hid d1; clear d1
    have D2 := Lib.hid d2; clear d2
    have D3 := Lib.hid d3; clear d3
    have D4 := Lib.hid d4; clear d4
    clear _hm _hn
    go_enter Try.func5, Try.ntmps5
    go_wp2_with (go_at_call 11; refine (awake_any _).mono ?_; rintro e w1 ⟨rfl, h⟩; obtain ⟨k0, k1, k2, hs⟩ := box3 h; have H := Lib.hid hs; clear h hs)
    go_quiet (fail)
    clear k0 k1 k2
    have H' := Lib.hid (H.out.drewN nq); clear H; have H := H'; clear H'
    generalize World.drewN w1 nq = w2 at H ⊢
    go_wp2_with (first
      | (go_at_call 18; with_reducible refine (C1.out _).mono ?_; rintro e w3 ⟨rfl, h⟩; have H' := Lib.hid (H.out.trans h); clear h H; have H := H'; clear H')
      | (go_at_call 18; with_reducible refine (C2.out _).mono ?_; rintro e w3 ⟨rfl, h⟩; have H' := Lib.hid (H.out.trans h); clear h H; have H := H'; clear H')
      | (go_at_call 18; with_reducible refine (C3.out _).mono ?_; rintro e w3 ⟨rfl, h⟩; have H' := Lib.hid (H.out.trans h); clear h H; have H := H'; clear H')
      | (go_at_call 18; with_reducible refine (C4.out _).mono ?_; rintro e w3 ⟨rfl, h⟩; have H' := Lib.hid (H.out.trans h); clear h H; have H := H'; clear H')
      | (go_at_call 18; with_reducible refine (C5.out _).mono ?_; rintro e w3 ⟨rfl, h⟩; have H' := Lib.hid (H.out.trans h); clear h H; have H := H'; clear H')
      | (go_at_call 18; with_reducible refine (C6.out _).mono ?_; rintro e w3 ⟨rfl, h⟩; have H' := Lib.hid (H.out.trans h); clear h H; have H := H'; clear H')
      | (go_at_call 18; with_reducible refine (C7.out _).mono ?_; rintro e w3 ⟨rfl, h⟩; have H' := Lib.hid (H.out.trans h); clear h H; have H := H'; clear H')
      | (go_at_call 18; with_reducible refine (C8.out _).mono ?_; rintro e w3 ⟨rfl, h⟩; have H' := Lib.hid (H.out.trans h); clear h H; have H := H'; clear H')
      | (go_at_call 20; with_reducible refine (D1.out _).mono ?_; rintro e w3 ⟨rfl, h⟩; have H' := Lib.hid (H.out.trans h); clear h H; have H := H'; clear H')
      | (go_at_call 20; with_reducible refine (D2.out _).mono ?_; rintro e w3 ⟨rfl, h⟩; have H' := Lib.hid (H.out.trans h); clear h H; have H := H'; clear H')
      | (go_at_call 20; with_reducible refine (D3.out _).mono ?_; rintro e w3 ⟨rfl, h⟩; have H' := Lib.hid (H.out.trans h); clear h H; have H := H'; clear H')
      | (go_at_call 18; with_reducible refine (D4.out _).mono ?_; rintro e w3 ⟨rfl, h⟩; have H' := Lib.hid (H.out.trans h); clear h H; have H := H'; clear H'))
    go_ret
    exact ⟨rfl, H.out⟩
  · have hcs : m < 0 ∨ (0 ≤ m ∧ n < 0) ∨ (0 ≤ m ∧ 0 ≤ n ∧ 1000000000 < m) ∨ (0 ≤ m ∧ 0 ≤ n ∧ m ≤ 1000000000 ∧ 1000000000 < n) := by omega
    clear hin _hm _hn
    rcases hcs with g1 | ⟨g1, g2⟩ | ⟨g1, g2, g3⟩ | ⟨g1, g2, g3, g4⟩
    all_goals
      go_enter Try.func5, Try.ntmps5
      go_wp2_with (go_at_call 11; refine (awake_any _).mono ?_; rintro e w1 ⟨rfl, h⟩; obtain ⟨k0, k1, k2, hs⟩ := box3 h; have H := Lib.hid hs; clear h hs)
      go_quiet (fail)
      clear k0 k1 k2
      have H' := Lib.hid (H.out.drewN nq); clear H; have H := H'; clear H'
      generalize World.drewN w1 nq = w2 at H ⊢
      go_wp2_with (first
      | (go_at_call 18; with_reducible refine (C1.out _).mono ?_; rintro e w3 ⟨rfl, h⟩; have H' := Lib.hid (H.out.trans h); clear h H; have H := H'; clear H')
      | (go_at_call 18; with_reducible refine (C2.out _).mono ?_; rintro e w3 ⟨rfl, h⟩; have H' := Lib.hid (H.out.trans h); clear h H; have H := H'; clear H')
      | (go_at_call 18; with_reducible refine (C3.out _).mono ?_; rintro e w3 ⟨rfl, h⟩; have H' := Lib.hid (H.out.trans h); clear h H; have H := H'; clear H')
      | (go_at_call 18; with_reducible refine (C4.out _).mono ?_; rintro e w3 ⟨rfl, h⟩; have H' := Lib.hid (H.out.trans h); clear h H; have H := H'; clear H')
      | (go_at_call 18; with_reducible refine (C5.out _).mono ?_; rintro e w3 ⟨rfl, h⟩; have H' := Lib.hid (H.out.trans h); clear h H; have H := H'; clear H')
      | (go_at_call 18; with_reducible refine (C6.out _).mono ?_; rintro e w3 ⟨rfl, h⟩; have H' := Lib.hid (H.out.trans h); clear h H; have H := H'; clear H')
      | (go_at_call 18; with_reducible refine (C7.out _).mono ?_; rintro e w3 ⟨rfl, h⟩; have H' := Lib.hid (H.out.trans h); clear h H; have H := H'; clear H')
      | (go_at_call 18; with_reducible refine (C8.out _).mono ?_; rintro e w3 ⟨rfl, h⟩; have H' := Lib.hid (H.out.trans h); clear h H; have H := H'; clear H'))
      go_ret
      exact ⟨rfl, H.out⟩
open Go.ChangeShapes Go.WideShapes Go.ChangeAt
theorem own : ownKnob Try.prog.godebug = none := by kernel_rfl

set_option maxRecDepth 100000 in
theorem lifted (os : Os) (started : os.Started) (H : Type) (enc : TypeId × Value → H) :
    ReturnsInHanded {} Try.checked os 5 .any (Rows.crcFieldSpec.pre6 enc Try.prog Try.f5 Rows.crcFieldRow.domain false) (Rows.crcFieldSpec.post enc Try.prog Try.f5 false true false false) := by
  refine returnsInHanded_of_change (C := Try.checked) own started (by kernel_rfl) Try.func5
    (ChangeSpec.witness6 (enc := enc) (C := Try.checked) false ⟨#[], #[.agg #[.int .u16 0, .int .u16 0, .int .u16 0], .int .i64 0, .int .i64 0], []⟩ 8 (by kernel_rfl) (by kernel_rfl) (by kernel_rfl) (by kernel_rfl)) ?_
  intro W base args ds gs before hval0 hW hcnd _
  have hval : ∀ (j : Nat) t v, Try.f5.params[j]? = some t → args[j]? = some v → Value.okWide Try.prog W .any base t v := hval0
  have hW' := hW
  obtain ⟨p, q, hA0, hV, rfl, hfz, hnd⟩ := hW
  have hA : DataW.TrodAll enc Try.prog W 0 (fun _ => true) true Try.f5.params.toList args.toList ds p := hA0
  rw [Try.params5] at hA hval
  obtain ⟨v0, vs0, d0, ds0, p0, q0, hargs, rfl, rfl, h0, r0⟩ := trodAll_cons hA
  obtain ⟨v1, vs1, d1, ds1, p1, q1, rfl, rfl, rfl, h1, r1⟩ := trodAll_cons r0
  obtain ⟨v2, vs2, d2, ds2, p2, q2, rfl, rfl, rfl, h2, r2⟩ := trodAll_cons r1
  obtain ⟨rfl, rfl, rfl⟩ := trodAll_nil r2
  obtain rfl : args = #[v0, v1, v2] := by cases args; simp_all
  obtain ⟨rfl, rfl⟩ := trodVars_none hV
  obtain ⟨x0, y0, z0, rfl, bx0, be0, bz0⟩ := open_u16s (hval 0 33 v0 rfl rfl) h0
  obtain ⟨a1, rfl, rfl, rfl, w1⟩ := open_int Try.underlying3 (hval 1 3 v1 rfl rfl) h1
  obtain ⟨a2, rfl, rfl, rfl, w2⟩ := open_int Try.underlying3 (hval 2 3 v2 rfl rfl) h2
  clear hA0 hval0
  try simp only [List.append_nil] at hW'
  try simp only [List.nil_append] at hW'
  have hlt : ∀ x ∈ p0, x.block < W.heap.size := fun x hx => by
    have := hW'.lt x (by simpa using hx)
    simpa using this
  refine (walk x0 y0 z0 bx0 be0 bz0 a1 (bounds_i64 w1) a2 (bounds_i64 w2) W).mono fun e W' ⟨he, hg⟩ => ?_
  subst he
  exact ⟨_, rfl, _, _, _, [], _, [], hW', trodAll_cons_mk (shut_bool Try.underlying4 _) trodAll_mk0, trodAll_cons_mk (Below.trod Try.laidOut (by kernel_rfl) (of_decide_eq_true (by kernel_rfl)) h0 (Same.toBelow hg) (fun x hx => hlt x (by simp [hx]))) (trodAll_cons_mk (shut_int Try.underlying3 w1) (trodAll_cons_mk (shut_int Try.underlying3 w2) trodAll_mk0)), rfl, (Same.toBelow hg).frame _, fun h => by cases h⟩

theorem over : Rows.crcFieldRow.holds Try.pinned (OpenSpec.ofChange Rows.crcFieldSpec) :=
  OpenClaim.holds_of_wide 5 Try.f5 rfl rfl rfl rfl rfl rfl rfl ⟨rfl, rfl, rfl, rfl, rfl⟩ rfl rfl rfl rfl rfl (by kernel_rfl) Try.func5 (by kernel_rfl)
    (of_decide_eq_true (by kernel_rfl)) (by unfold Func.isWrapper; first | (rw [if_pos (by decide +kernel)]; kernel_rfl) | (rw [if_neg (by decide +kernel)]; exact ⟨rfl, rfl⟩))
    (fun os started H enc _ => lifted os started H enc)

theorem proved : Rows.CrcFieldSaid :=
  over
end crcField
end Go.Proofs.Ytgeodffcbphepaa
