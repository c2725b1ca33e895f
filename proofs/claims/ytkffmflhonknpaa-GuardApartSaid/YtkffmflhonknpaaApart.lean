/- GuardApart: for all clocks and slots the law returns true: if two clocks differ by at most GuardTime when a frame of the next slot is sent, it is sent behind the end of the slot by the other clock. No condition on the input. -/
import Derived.Test.YtkffmflhonknpaaGLaw
namespace Go.Proofs.Ytkffmflhonknpaa
open Go.RowKit

namespace guardApart
theorem early (o d o' d' n m T e X f : Int) (hm : wrap64 (n + 1) = m) (h : (e != 0) = true ∨ (e = 0 ∧ (f != 0) = true) ∨ (e = 0 ∧ f = 0 ∧ X = 0)) (w : World)
    (HE : ∀ w, Calls Try.prog 22 #[.agg #[.int .i64 o, .int .i64 d], .int .i64 n] w fun r w' => r = .returned (.tuple #[.int .i64 T, .int .i64 e]) ∧ Grew w w')
    (HS : CSend o' d' m X f) :
    Calls Try.prog 9 #[.agg #[.int .i64 o, .int .i64 d], .agg #[.int .i64 o', .int .i64 d'], .int .i64 n] w fun e w' => e = .returned (.bool true) ∧ Same w w' := by
  have HAW := Lib.hid (fun w => gawake_any w)
  have H1 := Lib.hid HE; clear HE
  have H2 := Lib.hid HS; clear HS
  rcases h with h | ⟨rfl, h⟩ | ⟨rfl, rfl, rfl⟩
  all_goals
    go_enter Try.func9, Try.ntmps9
    go_wp2_with (first
      | (go_at_call 11; (with_reducible refine (HAW.out _).mono ?_); rintro e w1 ⟨rfl, hw⟩; have HB := Lib.hid ((Bz.new w o d o' d' 31 31).keep hw); clear hw; obtain ⟨k0, k1, k2, k3, k4⟩ := HB.out)
      | (go_at_call 22; (with_reducible refine (H1.out _).mono ?_); rintro e w2 ⟨rfl, hw⟩; have HC := Lib.hid (HB.out.keep hw.toSame); clear hw HB k0 k1 k2 k3 k4; obtain ⟨k0, k1, k2, k3, k4⟩ := HC.out)
      | (go_at_call 33; (with_reducible refine (H2.out _).mono ?_); rintro e w3 ⟨rfl, hw⟩; have HD := Lib.hid (HC.out.keep hw.toSame); clear hw HC k0 k1 k2 k3 k4))
    go_ret
    exact ⟨rfl, HD.out.2.2.2.2⟩
theorem late (o d o' d' n T X N F s g h : Int) (n1 : 0 ≤ n) (n2 : n ≤ 109951162) (hX : 0 < X) (hh : (g != 0) = true ∨ (g = 0 ∧ (h != 0) = true) ∨ (g = 0 ∧ h = 0 ∧ (1100 < s ∨ (s ≤ 1100 ∧ (n * 10000 < F ∨ (F ≤ n * 10000 ∧ T < X)))))) (w : World)
    (HE : ∀ w, Calls Try.prog 22 #[.agg #[.int .i64 o, .int .i64 d], .int .i64 n] w fun r w' => r = .returned (.tuple #[.int .i64 T, .int .i64 0]) ∧ Grew w w')
    (HS : CSend o' d' (n + 1) X 0) (HF : CShow o d 0 F g)
    (HA : ∀ w, Calls Try.prog 29 #[.agg #[.int .i64 o, .int .i64 d], .agg #[.int .i64 o', .int .i64 d'], .int .i64 X] w fun r w' => r = .returned (.tuple #[.int .i64 N, .int .i64 h]) ∧ Grew w w')
    (HZ : ∀ w, Calls Try.prog 31 #[.int .i64 N] w fun e w' => e = .returned (.int .i64 s) ∧ w' = w) :
    Calls Try.prog 9 #[.agg #[.int .i64 o, .int .i64 d], .agg #[.int .i64 o', .int .i64 d'], .int .i64 n] w fun e w' => e = .returned (.bool true) ∧ Same w w' := by
  have HAW := Lib.hid (fun w => gawake_any w)
  have H1 := Lib.hid HE; clear HE
  have H2 := Lib.hid HS; clear HS
  have H3 := Lib.hid HF; clear HF
  have H4 := Lib.hid HA; clear HA
  have H5 := Lib.hid HZ; clear HZ
  rcases hh with h1 | ⟨rfl, h1⟩ | ⟨rfl, rfl, h1 | ⟨h1, h2 | ⟨h2, h3⟩⟩⟩
  all_goals
    go_enter Try.func9, Try.ntmps9
    go_wp2_with (first
      | (go_at_call 11; (with_reducible refine (HAW.out _).mono ?_); rintro e w1 ⟨rfl, hw⟩; have HB := Lib.hid ((Bz.new w o d o' d' 31 31).keep hw); clear hw; obtain ⟨k0, k1, k2, k3, k4⟩ := HB.out)
      | (go_at_call 22; (with_reducible refine (H1.out _).mono ?_); rintro e w2 ⟨rfl, hw⟩; have HC := Lib.hid (HB.out.keep hw.toSame); clear hw HB k0 k1 k2 k3 k4; obtain ⟨k0, k1, k2, k3, k4⟩ := HC.out)
      | (go_at_call 33; (with_reducible refine (H2.out _).mono ?_); rintro e w3 ⟨rfl, hw⟩; have HD := Lib.hid (HC.out.keep hw.toSame); clear hw HC k0 k1 k2 k3 k4; obtain ⟨k0, k1, k2, k3, k4⟩ := HD.out)
      | (go_at_call 32; (with_reducible refine (H3.out _).mono ?_); rintro e w4 ⟨rfl, hw⟩; have HE := Lib.hid (HD.out.keep hw.toSame); clear hw HD k0 k1 k2 k3 k4; obtain ⟨k0, k1, k2, k3, k4⟩ := HE.out)
      | (go_at_call 29; (with_reducible refine (H4.out _).mono ?_); rintro e w5 ⟨rfl, hw⟩; have HF := Lib.hid (HE.out.keep hw.toSame); clear hw HE k0 k1 k2 k3 k4)
      | (go_at_call 31; (with_reducible refine (H5.out _).mono ?_); rintro e w6 ⟨rfl, rfl⟩))
    go_ret
    exact ⟨rfl, HF.out.2.2.2.2⟩
theorem drift_up {o d t k : Int} (h : okC o d = true) (hk : 0 ≤ k) : shS o d (t + k) ≤ shS o d t + k + (k * 100000 / 1000000000 + 1) := by
  obtain ⟨_, d1, d2⟩ := okC_of h
  unfold shS
  rw [Int.add_mul]
  have a : k * d ≤ k * 100000 := Int.mul_le_mul_of_nonneg_left d2 hk
  generalize t * d = p
  generalize k * d = q at *
  omega
theorem apart {o d o' d' n : Int} {r r' : Nat} (ok1 : okC o d = true) (h1 : IsR o d (n * 10000 + 2120) r) (h2 : IsR o' d' ((n + 1) * 10000 + 2120) r') (hr : (r : Int) + 6088 ≤ 1099511627776) (hr' : r' ≤ 1099511627776) (hF : shS o d 0 ≤ n * 10000)
    (hN : shS o' d' r' - shS o d r' ≤ 1100) : (r : Int) + 6088 < r' := by
  have a2 : ¬ shS o' d' r' < (n + 1) * 10000 + 2120 := fun e => by have := (h2.2 r' (by omega)).2 e; omega
  have z : 0 < r := by
    by_cases z : r = 0
    · subst z
      have : ¬ shS o d ((0 : Nat) : Int) < n * 10000 + 2120 := fun e => by have := (h1.2 0 (by decide)).2 e; omega
      exact absurd (show shS o d 0 < n * 10000 + 2120 by omega) this
    · omega
  have b := (h1.2 (r - 1) (by omega)).1 (by omega)
  have c := drift_up (t := ((r - 1 : Nat) : Int)) (k := 6089) ok1 (by decide)
  by_cases e : (r : Int) + 6088 < r'
  · exact e
  · have m := sh_mono ok1 (a := (r' : Int)) (b := ((r - 1 : Nat) : Int) + 6089) (by omega)
    omega
theorem walk (o d o' d' : Int) (n : Int) (hn : -9223372036854775808 ≤ n ∧ n ≤ 9223372036854775807) (w : World) :
    Calls Try.prog 9 #[.agg #[.int .i64 o, .int .i64 d], .agg #[.int .i64 o', .int .i64 d'], .int .i64 n] w fun e w' => e = .returned (.bool true) ∧ Same w w' := by
  obtain ⟨m, hm⟩ : ∃ m, wrap64 (n + 1) = m := ⟨_, rfl⟩
  obtain ⟨r1, hr1⟩ := reached o d n 2120
  obtain ⟨r2, hr2⟩ := reached o' d' m 2120
  have s1 : CSend o d n (inS o d n r1).1 (inS o d n r1).2 := fun w => Send_any o d n r1 hr1 w
  have s2 : CSend o' d' m (inS o' d' m r2).1 (inS o' d' m r2).2 := fun w => Send_any o' d' m r2 hr2 w
  obtain ⟨b1, b2, _⟩ := inS_bd o d n r1
  have he := fun w => End_of s1 ⟨b1, b2⟩ w
  rcases en_cases (inS o d n r1).1 (inS o d n r1).2 with ⟨_, _, hs⟩ | ⟨e1, hb, hs⟩ | ⟨e1, hs⟩
  · rw [hs] at he
    exact early o d o' d' n m 0 15 _ _ hm (.inl rfl) w he s2
  · rw [hs] at he
    by_cases f1 : (inS o' d' m r2).2 = 0
    · by_cases x1 : (inS o' d' m r2).1 = 0
      · exact early o d o' d' n m _ 0 _ _ hm (.inr (.inr ⟨rfl, f1, x1⟩)) w he s2
      · obtain ⟨ok1, sl⟩ := in_ok e1
        obtain ⟨ok2, sl2⟩ := in_ok f1
        obtain ⟨n1, n2⟩ := slB_of sl
        have hm' : m = n + 1 := by rw [← hm]; exact IntWalk.wrap64_in _ (by omega)
        have R1 := hr1 ok1 sl
        have R2 := hr2 ok2 sl2
        have i1 : inS o d n r1 = rchP r1 := by unfold inS; rw [if_pos ok1, if_pos sl]
        have i2 : inS o' d' m r2 = rchP r2 := by unfold inS; rw [if_pos ok2, if_pos sl2]
        have l1 : r1 ≤ 1099511627776 := by
          rw [i1] at e1; unfold rchP at e1
          by_cases k : r1 ≤ 1099511627776
          · exact k
          · rw [if_neg k] at e1; exact absurd e1 (by decide)
        have l2 : r2 ≤ 1099511627776 := by
          rw [i2] at f1; unfold rchP at f1
          by_cases k : r2 ≤ 1099511627776
          · exact k
          · rw [if_neg k] at f1; exact absurd f1 (by decide)
        rw [show rchP r1 = ((r1 : Int), 0) from if_pos l1] at i1
        rw [show rchP r2 = ((r2 : Int), 0) from if_pos l2] at i2
        rw [i1] at he hb
        rw [i2] at s2 x1
        simp only at he hb s2 x1
        have hT : timeB (r2 : Int) = true := by simp [timeB, inB]; omega
        have ha := fun w => Apart_any o d o' d' r2 w
        rw [show apS o d o' d' r2 = (shS o' d' r2 - shS o d r2, 0) by unfold apS; rw [if_pos ok1, if_pos ok2, if_pos hT]] at ha
        have hf := fun w => Show_any o d 0 w
        rw [show showS o d 0 = (shS o d 0, 0) by unfold showS; rw [if_pos ok1, if_pos (by decide)]] at hf
        have q1 := shS_bd (t := (r2 : Int)) ok1 (by omega) (by omega)
        have q2 := shS_bd (t := (r2 : Int)) ok2 (by omega) (by omega)
        rw [hm'] at s2
        refine late o d o' d' n ((r1 : Int) + 6088) r2 (shS o' d' r2 - shS o d r2) (shS o d 0) (szS (shS o' d' r2 - shS o d r2)) 0 0 n1 n2 (by omega) (.inr (.inr ⟨rfl, rfl, ?_⟩)) w he s2 hf ha (fun w => lsize_any _ (by omega) (by omega) w)
        by_cases z : szS (shS o' d' r2 - shS o d r2) ≤ 1100
        · refine .inr ⟨z, ?_⟩
          by_cases zf : n * 10000 < shS o d 0
          · exact .inl zf
          · refine .inr ⟨by omega, ?_⟩
            have : shS o' d' r2 - shS o d r2 ≤ 1100 := by unfold szS at z; omega
            rw [hm'] at R2
            exact apart ok1 R1 R2 (by omega) l2 (by omega) this
        · exact .inl (by omega)
    · exact early o d o' d' n m _ 0 _ _ hm (.inr (.inl ⟨rfl, by simpa using f1⟩)) w he s2
  · rw [hs] at he
    exact early o d o' d' n m 0 _ _ _ hm (.inl e1) w he s2
open Go.ChangeShapes Go.WideShapes Go.ChangeAt
theorem own : ownKnob Try.prog.godebug = none := by kernel_rfl

set_option maxRecDepth 100000 in
theorem lifted (os : Os) (started : os.Started) (H : Type) (enc : TypeId × Value → H) :
    ReturnsInHanded {} Try.checked os 9 .any (Rows.guardApartSpec.pre6 enc Try.prog Try.f9 Rows.guardApartRow.domain false) (Rows.guardApartSpec.post enc Try.prog Try.f9 false true false false) := by
  refine returnsInHanded_of_change (C := Try.checked) own started (by kernel_rfl) Try.func9
    (ChangeSpec.witness6 (enc := enc) (C := Try.checked) false ⟨#[], #[.agg #[.int .i64 0, .int .i64 0], .agg #[.int .i64 0, .int .i64 0], .int .i64 0], []⟩ 8 (by kernel_rfl) (by kernel_rfl) (by kernel_rfl) (by kernel_rfl)) ?_
  intro W base args ds gs before hval0 hW hcnd _
  have hval : ∀ (j : Nat) t v, Try.f9.params[j]? = some t → args[j]? = some v → Value.okWide Try.prog W .any base t v := hval0
  have hW' := hW
  obtain ⟨p, q, hA0, hV, rfl, hfz, hnd⟩ := hW
  have hA : DataW.TrodAll enc Try.prog W 0 (fun _ => true) true Try.f9.params.toList args.toList ds p := hA0
  rw [Try.params9] at hA hval
  obtain ⟨v0, vs0, d0, ds0, p0, q0, hargs, rfl, rfl, h0, r0⟩ := trodAll_cons hA
  obtain ⟨v1, vs1, d1, ds1, p1, q1, rfl, rfl, rfl, h1, r1⟩ := trodAll_cons r0
  obtain ⟨v2, vs2, d2, ds2, p2, q2, rfl, rfl, rfl, h2, r2⟩ := trodAll_cons r1
  obtain ⟨rfl, rfl, rfl⟩ := trodAll_nil r2
  obtain rfl : args = #[v0, v1, v2] := by cases args; simp_all
  obtain ⟨rfl, rfl⟩ := trodVars_none hV
  obtain ⟨x0, y0, rfl, bx0, be0⟩ := open_clock (hval 0 31 v0 rfl rfl) h0
  obtain ⟨x1, y1, rfl, bx1, be1⟩ := open_clock (hval 1 31 v1 rfl rfl) h1
  obtain ⟨a2, rfl, rfl, rfl, w2⟩ := open_int Try.underlying3 (hval 2 3 v2 rfl rfl) h2
  clear hA0 hval0
  try simp only [List.append_nil] at hW'
  try simp only [List.nil_append] at hW'
  have hlt : ∀ x ∈ p0 ++ p1, x.block < W.heap.size := fun x hx => by
    have := hW'.lt x (by simpa using hx)
    simpa using this
  refine (walk x0 y0 x1 y1 a2 (bounds_i64 w2) W).mono fun e W' ⟨he, hg⟩ => ?_
  subst he
  exact ⟨_, rfl, _, _, _, [], _, [], hW', trodAll_cons_mk (shut_bool Try.underlying4 _) trodAll_mk0, trodAll_cons_mk (Below.trod Try.laidOut (by kernel_rfl) (of_decide_eq_true (by kernel_rfl)) h0 (Same.toBelow hg) (fun x hx => hlt x (by simp [hx]))) (trodAll_cons_mk (Below.trod Try.laidOut (by kernel_rfl) (of_decide_eq_true (by kernel_rfl)) h1 (Same.toBelow hg) (fun x hx => hlt x (by simp [hx]))) (trodAll_cons_mk (shut_int Try.underlying3 w2) trodAll_mk0)), rfl, (Same.toBelow hg).frame _, fun h => by cases h⟩

theorem over : Rows.guardApartRow.holds Try.pinned (OpenSpec.ofChange Rows.guardApartSpec) :=
  OpenClaim.holds_of_wide 9 Try.f9 rfl rfl rfl rfl rfl rfl rfl ⟨rfl, rfl, rfl, rfl, rfl⟩ rfl rfl rfl rfl rfl (by kernel_rfl) Try.func9 (by kernel_rfl)
    (of_decide_eq_true (by kernel_rfl)) (by unfold Func.isWrapper; first | (rw [if_pos (by decide +kernel)]; kernel_rfl) | (rw [if_neg (by decide +kernel)]; exact ⟨rfl, rfl⟩))
    (fun os started H enc _ => lifted os started H enc)

theorem proved : Rows.GuardApartSaid :=
  over
end guardApart
end Go.Proofs.Ytkffmflhonknpaa
