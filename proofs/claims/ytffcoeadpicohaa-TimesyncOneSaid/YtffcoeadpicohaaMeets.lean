/- TimesyncMeets: for all states and slots the law returns true: when a node has been corrected, its clock and that of its time parent differ by at most 1 at the time at which the frame was sent; its drift is as before. No condition on the input. -/
import Derived.Test.YtffcoeadpicohaaMeetsA
namespace Go.Proofs.Ytffcoeadpicohaa
open Go.RowKit

namespace timesyncMeets
theorem in_ok {o d n : Int} {r : Nat} (h : (inS o d n r).2 = 0) : okC o d = true ∧ slB n = true := by
  rcases in_cases o d n r with ⟨a, b, _⟩ | ⟨_, _, hs⟩ | ⟨_, hs⟩
  · exact ⟨a, b⟩
  · rw [hs] at h; exact absurd h (by decide)
  · rw [hs] at h; exact absurd h (by decide)
theorem reached (o d n k : Int) : ∃ r, okC o d = true → slB n = true → IsR o d (n * 10000 + k) r := by
  by_cases h : okC o d = true
  · exact ⟨_, fun _ _ => isR_cnt h _⟩
  · exact ⟨0, fun a => absurd a h⟩
def szS (n : Int) : Int := max n (-n)
theorem tsize_any (n : Int) (h1 : -9000000000000 ≤ n) (h2 : n ≤ 9000000000000) (w : World) : Calls Try.prog 34 #[.int .i64 n] w fun e w' => e = .returned (.int .i64 (szS n)) ∧ w' = w := by
  have hmx : ∀ x y : Int, (if x < y then y else x) = max x y := fun x y => by omega
  have hs : max n (-n) = szS n := rfl
  go_enter Try.func34, Try.ntmps34
  go_wp2
  go_ret
  exact ⟨rfl, rfl⟩
/-- The frame of a clock: sent behind the time 0, it shows the sending time, or one more. -/
theorem sent {o d n : Int} {r : Nat} (h : (inS o d n r).2 = 0) (hr : okC o d = true → slB n = true → IsR o d (n * 10000 + 2120) r) (h0 : 0 < (inS o d n r).1) :
    okC o d = true ∧ slB n = true ∧ (0 ≤ (inS o d n r).1 ∧ (inS o d n r).1 ≤ 1099511627776) ∧ n * 10000 + 2120 ≤ shS o d (inS o d n r).1 ∧ shS o d (inS o d n r).1 ≤ n * 10000 + 2121 := by
  obtain ⟨a, b⟩ := in_ok h
  have R := hr a b
  have i1 : inS o d n r = rchP r := by unfold inS; rw [if_pos a, if_pos b]
  have l1 : r ≤ 1099511627776 := by
    rw [i1] at h; unfold rchP at h
    by_cases k : r ≤ 1099511627776
    · exact k
    · rw [if_neg k] at h; exact absurd h (by decide)
  rw [show rchP r = ((r : Int), 0) from if_pos l1] at i1
  rw [i1] at h0 ⊢
  simp only at h0 ⊢
  have z : 0 < r := by omega
  have x : ¬ shS o d r < n * 10000 + 2120 := fun e => by have := (R.2 r (by omega)).2 e; omega
  have y := (R.2 (r - 1) (by omega)).1 (by omega)
  have c := (sh_step a ((r - 1 : Nat) : Int)).2
  rw [show ((r - 1 : Nat) : Int) + 1 = (r : Int) by omega] at c
  exact ⟨a, b, ⟨by omega, by omega⟩, by omega, by omega⟩
theorem sh_add (o d k t : Int) : shS (o + k) d t = shS o d t + k := by unfold shS; omega
theorem adj_of {o d k : Int} (h : (adjS o d k).2.2 = 0) : okC (o + k) d = true ∧ adjS o d k = (o + k, d, 0) := by
  unfold adjS at h ⊢
  cases hb : adjB o d k with
  | false => rw [hb, if_neg (by decide)] at h; exact absurd h (by decide)
  | true =>
    refine ⟨?_, rfl⟩
    unfold adjB at hb
    rw [Bool.and_eq_true] at hb
    obtain ⟨i1, i2⟩ := inB_yes hb.2
    obtain ⟨_, j1, j2⟩ := okC_of hb.1
    have u1 : inB (o + k) (-1099511627776) 1099511627776 = true := by simp only [inB, decide_eq_true_eq]; omega
    have u2 : inB d (-100000) 100000 = true := by simp only [inB, decide_eq_true_eq]; omega
    unfold okC; rw [u1, u2]; rfl
theorem adj_err (o d k : Int) : (adjS o d k).2.2 = 0 ∨ (adjS o d k).2.2 = 1 := by
  unfold adjS; split <;> simp
theorem ap_bd (o d o' d' t : Int) : -9000000000000 ≤ (apS o d o' d' t).1 ∧ (apS o d o' d' t).1 ≤ 9000000000000 := by
  rcases ap_cases o d o' d' t with ⟨x, y, z, hp⟩ | ⟨_, _, _, hp⟩ | ⟨_, _, hp⟩ | ⟨_, hp⟩ <;> rw [hp]
  · have := shS_bd (t := t) x (inB_yes z).1 (inB_yes z).2
    have := shS_bd (t := t) y (inB_yes z).1 (inB_yes z).2
    simp only; omega
  all_goals exact ⟨by decide, by decide⟩
theorem time_of {t : Int} (h : 0 ≤ t ∧ t ≤ 1099511627776) : timeB t = true := by simp [timeB, inB]; omega
theorem me_ok {o d n t : Int} (a : okC o d = true) (b : slB n = true) (h : 0 ≤ t ∧ t ≤ 1099511627776) : meS o d n t = (shS o d t - (n * 10000 + 2120), 0) := by
  unfold meS
  rw [if_pos a, if_pos (show sltB n = true from b), if_pos (time_of h)]
theorem ap_ok {o d o' d' t : Int} (a : okC o d = true) (b : okC o' d' = true) (h : 0 ≤ t ∧ t ≤ 1099511627776) : apS o d o' d' t = (shS o' d' t - shS o d t, 0) := by
  unfold apS; rw [if_pos a, if_pos b, if_pos (time_of h)]
/-- A correction: refused, or the clock is adjusted by k. -/
theorem co_two (o d s c n k : Int) : ((coS o d s c n k).2 = 5 ∨ (coS o d s c n k).2 = 15 ∨ (coS o d s c n k).2 = 13 ∨ (coS o d s c n k).2 = 1) ∨ (c ≠ 4096 ∧ okC (o + k) d = true ∧ coS o d s c n k = ((o + k, d, n, c + 1), 0)) := by
  rcases co_cases o d s c n k with ⟨_, hs⟩ | ⟨_, _, hs⟩ | ⟨_, _, _, hs⟩ | ⟨_, _, x3, x4, hs⟩ | ⟨_, _, x3, x4, hs⟩
  · rw [hs]; exact .inl (.inl rfl)
  · rw [hs]; exact .inl (.inr (.inl rfl))
  · rw [hs]; exact .inl (.inr (.inr (.inl rfl)))
  · obtain ⟨y1, y2⟩ := adj_of x4
    rw [hs, y2]; exact .inr ⟨x3, y1, rfl⟩
  · rw [hs]
    rcases adj_err o d k with h | h
    · rw [h] at x4; exact absurd x4 (by decide)
    · exact .inl (.inr (.inr (.inr h)))
theorem first_half {o d s c o' d' n : Int} {r1 : Nat} (x1 : okY o d s c = true) (cb : 0 ≤ c ∧ c ≤ 4096) (hr1 : okC o' d' = true → slB n = true → IsR o' d' (n * 10000 + 2120) r1) :
    half1 (inS o' d' n r1).1 (inS o' d' n r1).2 ((heS o d s c n (inS o' d' n r1).1).1.1, (heS o d s c n (inS o' d' n r1).1).1.2.1, (heS o d s c n (inS o' d' n r1).1).1.2.2.1, (heS o d s c n (inS o' d' n r1).1).1.2.2.2) (heS o d s c n (inS o' d' n r1).1).2
      (apS (heS o d s c n (inS o' d' n r1).1).1.1 (heS o d s c n (inS o' d' n r1).1).1.2.1 o' d' (inS o' d' n r1).1).2 (szS (apS (heS o d s c n (inS o' d' n r1).1).1.1 (heS o d s c n (inS o' d' n r1).1).1.2.1 o' d' (inS o' d' n r1).1).1) n c d := by
  unfold half1
  by_cases e0 : (inS o' d' n r1).2 = 0
  · obtain ⟨b1, b2, _⟩ := inS_bd o' d' n r1
    by_cases t0 : (inS o' d' n r1).1 = 0
    · exact .inr (.inl ⟨e0, t0⟩)
    · obtain ⟨ok2, sl, ht, h1, h2⟩ := sent e0 hr1 (by omega)
      have ok1 := (okY_of x1).1
      rcases he_cases o d s c n (inS o' d' n r1).1 with ⟨_, _, hs⟩ | ⟨_, x3, hs⟩ | ⟨x3, _⟩
      · rw [hs, me_ok ok1 sl ht]
        simp only
        rcases co_two o d s c n (-(shS o d (inS o' d' n r1).1 - (n * 10000 + 2120))) with h | ⟨y1, y2, y3⟩
        · exact .inr (.inr (.inl ⟨e0, by omega, h⟩))
        · rw [y3]
          simp only
          rw [ap_ok y2 ok2 ht, sh_add]
          refine .inr (.inr (.inr ⟨e0, by omega, by first | trivial | rfl, by first | trivial | rfl, ?_, by simp, by simp, by simp, cb.1, by omega⟩))
          unfold szS; simp only; omega
      · rw [me_ok ok1 sl ht] at x3; exact absurd x3 (by simp)
      · rw [x1] at x3; exact absurd x3 (by decide)
  · exact .inl (by simpa using e0)
theorem second_half {o d s c o' d' n : Int} {r2 : Nat} (x1 : okY o d s c = true) (ok2 : okC o' d' = true) (cb : 0 ≤ c ∧ c ≤ 4096) (hr2 : okC o d = true → slB n = true → IsR o d (n * 10000 + 2120) r2) :
    half2 (inS o d n r2).1 (inS o d n r2).2 (meS o' d' n (inS o d n r2).1).2 ((acS o d s c n (meS o' d' n (inS o d n r2).1).1).1.1, (acS o d s c n (meS o' d' n (inS o d n r2).1).1).1.2.1, (acS o d s c n (meS o' d' n (inS o d n r2).1).1).1.2.2.1, (acS o d s c n (meS o' d' n (inS o d n r2).1).1).1.2.2.2) (acS o d s c n (meS o' d' n (inS o d n r2).1).1).2
      (apS (acS o d s c n (meS o' d' n (inS o d n r2).1).1).1.1 (acS o d s c n (meS o' d' n (inS o d n r2).1).1).1.2.1 o' d' (inS o d n r2).1).2 (szS (apS (acS o d s c n (meS o' d' n (inS o d n r2).1).1).1.1 (acS o d s c n (meS o' d' n (inS o d n r2).1).1).1.2.1 o' d' (inS o d n r2).1).1) n c := by
  unfold half2
  by_cases e0 : (inS o d n r2).2 = 0
  · obtain ⟨b1, b2, _⟩ := inS_bd o d n r2
    by_cases t0 : (inS o d n r2).1 = 0
    · exact .inr (.inl ⟨e0, t0⟩)
    · obtain ⟨ok1, sl, ht, h1, h2⟩ := sent e0 hr2 (by omega)
      rw [me_ok ok2 sl ht]
      simp only
      rcases ac_cases o d s c n (shS o' d' (inS o d n r2).1 - (n * 10000 + 2120)) with ⟨_, _, hs⟩ | ⟨_, x3, _⟩ | ⟨x3, _⟩
      · rw [hs]
        rcases co_two o d s c n (shS o' d' (inS o d n r2).1 - (n * 10000 + 2120)) with h | ⟨y1, y2, y3⟩
        · refine .inr (.inr (.inl ⟨e0, by omega, trivial, ?_⟩))
          rcases h with h | h | h | h <;> rw [h] <;> rfl
        · rw [y3]
          simp only
          rw [ap_ok y2 ok2 ht, sh_add]
          refine .inr (.inr (.inr ⟨e0, by omega, by first | trivial | rfl, by first | trivial | rfl, by first | trivial | rfl, ?_, by simp, by simp, cb.1, by omega⟩))
          unfold szS; simp only; omega
      · rw [show sltB n = true from sl] at x3; exact absurd x3 (by decide)
      · rw [x1] at x3; exact absurd x3 (by decide)
  · exact .inl (by simpa using e0)
theorem walk (o d s c : Int) (_ : i64 o) (_ : i64 d) (_ : i64 s) (_ : i64 c) (o' d' s' c' : Int) (_ : i64 o') (_ : i64 d') (_ : i64 s') (_ : i64 c') (n : Int) (_hn : -9223372036854775808 ≤ n ∧ n ≤ 9223372036854775807) (w : World) :
    Calls Try.prog 5 #[.agg #[.int .i64 o, .int .i64 d, .int .i64 s, .int .i64 c], .agg #[.int .i64 o', .int .i64 d', .int .i64 s', .int .i64 c'], .int .i64 n] w fun e w' => e = .returned (.bool true) ∧ Same w w' := by
  have hc := fun w => tCheck_any o d s c w
  have hp := fun w => tCheck_any o' d' s' c' w
  rcases chkY_cases o d s c with ⟨x1, x2⟩ | ⟨_, x2⟩
  · rcases chkY_cases o' d' s' c' with ⟨y1, y2⟩ | ⟨_, y2⟩
    · rw [x2] at hc
      rw [y2] at hp
      obtain ⟨ok1, ok1'⟩ := okY_of x1
      obtain ⟨ok2, _⟩ := okY_of y1
      obtain ⟨r1, hr1⟩ := reached o' d' n 2120
      obtain ⟨r2, hr2⟩ := reached o d n 2120
      have sd1 : CSend o' d' n (inS o' d' n r1).1 (inS o' d' n r1).2 := fun w => Send_any o' d' n r1 hr1 w
      have sd2 : CSend o d n (inS o d n r2).1 (inS o d n r2).2 := fun w => Send_any o d n r2 hr2 w
      have cb : 0 ≤ c ∧ c ≤ 4096 := by omega
      have hh := fun w => Hear_any o d s c n (inS o' d' n r1).1 w
      have hm := fun w => Measure_any o' d' n (inS o d n r2).1 w
      have hk := fun w => Acked_any o d s c n (meS o' d' n (inS o d n r2).1).1 w
      have ha := fun w => Apart_any (heS o d s c n (inS o' d' n r1).1).1.1 (heS o d s c n (inS o' d' n r1).1).1.2.1 o' d' (inS o' d' n r1).1 w
      have ha' := fun w => Apart_any (acS o d s c n (meS o' d' n (inS o d n r2).1).1).1.1 (acS o d s c n (meS o' d' n (inS o d n r2).1).1).1.2.1 o' d' (inS o d n r2).1 w
      exact good o d s c o' d' s' c' n _ _ _ _ _ _ _ _ _ _ _ _ _ _ _ _ _ _ _ _ _ _ (first_half x1 cb hr1) (second_half x1 ok2 cb hr2) w hc hp sd1 hh ha (fun _ w => tsize_any _ (ap_bd _ _ _ _ _).1 (ap_bd _ _ _ _ _).2 w) sd2 hm hk ha' (fun _ w => tsize_any _ (ap_bd _ _ _ _ _).1 (ap_bd _ _ _ _ _).2 w)
    · rw [x2] at hc
      rw [y2] at hp
      exact bad o d s c o' d' s' c' n 0 1 (.inr ⟨rfl, rfl⟩) w hc hp
  · rw [x2] at hc
    exact bad o d s c o' d' s' c' n 1 _ (.inl rfl) w hc hp
open Go.ChangeShapes Go.WideShapes Go.ChangeAt
theorem own : ownKnob Try.prog.godebug = none := by kernel_rfl

set_option maxRecDepth 100000 in
theorem lifted (os : Os) (started : os.Started) (H : Type) (enc : TypeId × Value → H) :
    ReturnsInHanded {} Try.checked os 5 .any (Rows.timesyncMeetsSpec.pre6 enc Try.prog Try.f5 Rows.timesyncMeetsRow.domain false) (Rows.timesyncMeetsSpec.post enc Try.prog Try.f5 false true false false) := by
  refine returnsInHanded_of_change (C := Try.checked) own started (by kernel_rfl) Try.func5
    (ChangeSpec.witness6 (enc := enc) (C := Try.checked) false ⟨#[], #[.agg #[.int .i64 0, .int .i64 0, .int .i64 0, .int .i64 0], .agg #[.int .i64 0, .int .i64 0, .int .i64 0, .int .i64 0], .int .i64 0], []⟩ 8 (by kernel_rfl) (by kernel_rfl) (by kernel_rfl) (by kernel_rfl)) ?_
  intro W base args ds gs before hval0 hW hcnd _
  have hval : ∀ (j : Nat) t v, Try.f5.params[j]? = some t → args[j]? = some v → Value.okWide Try.prog W .any base t v := hval0
  have hW' := hW
  obtain ⟨p, q, hA0, hV, rfl, hfz, hnd⟩ := hW
  have hA : DataW.TrodAll enc Try.prog W 0 (fun _ => true) true Try.f5.params.toList args.toList ds p := hA0
  rw [Try.params5] at hA hval
  obtain ⟨v0, vs0, d0, ds0, p0, q0, hargs, rfl, rfl, h0, r0⟩ := trodAll_cons hA
  obtain ⟨v1, vs1, d1, ds1, p1, q1, rfl, rfl, rfl, h1, r1⟩ := trodAll_cons r0
  obtain ⟨v2, vs2, d2, ds2, p2, q2, rfl, rfl, rfl, h2, r2⟩ := trodAll_cons r1
  obtain ⟨rfl, rfl, rfl⟩ := trodAll_nil r2
  obtain rfl : args = #[v0, v1, v2] := by cases args; simp_all
  obtain ⟨rfl, rfl⟩ := trodVars_none hV
  obtain ⟨x0, y0, z0, u0, rfl, bx0, be0, bz0, bu0⟩ := open_synced (hval 0 25 v0 rfl rfl) h0
  obtain ⟨x1, y1, z1, u1, rfl, bx1, be1, bz1, bu1⟩ := open_synced (hval 1 25 v1 rfl rfl) h1
  obtain ⟨a2, rfl, rfl, rfl, w2⟩ := open_int Try.underlying3 (hval 2 3 v2 rfl rfl) h2
  clear hA0 hval0
  try simp only [List.append_nil] at hW'
  try simp only [List.nil_append] at hW'
  have hlt : ∀ x ∈ p0 ++ p1, x.block < W.heap.size := fun x hx => by
    have := hW'.lt x (by simpa using hx)
    simpa using this
  refine (walk x0 y0 z0 u0 bx0 be0 bz0 bu0 x1 y1 z1 u1 bx1 be1 bz1 bu1 a2 (bounds_i64 w2) W).mono fun e W' ⟨he, hg⟩ => ?_
  subst he
  exact ⟨_, rfl, _, _, _, [], _, [], hW', trodAll_cons_mk (shut_bool Try.underlying4 _) trodAll_mk0, trodAll_cons_mk (Below.trod Try.laidOut (by kernel_rfl) (of_decide_eq_true (by kernel_rfl)) h0 (Same.toBelow hg) (fun x hx => hlt x (by simp [hx]))) (trodAll_cons_mk (Below.trod Try.laidOut (by kernel_rfl) (of_decide_eq_true (by kernel_rfl)) h1 (Same.toBelow hg) (fun x hx => hlt x (by simp [hx]))) (trodAll_cons_mk (shut_int Try.underlying3 w2) trodAll_mk0)), rfl, (Same.toBelow hg).frame _, fun h => by cases h⟩

theorem over : Rows.timesyncMeetsRow.holds Try.pinned (OpenSpec.ofChange Rows.timesyncMeetsSpec) :=
  OpenClaim.holds_of_wide 5 Try.f5 rfl rfl rfl rfl rfl rfl rfl ⟨rfl, rfl, rfl, rfl, rfl⟩ rfl rfl rfl rfl rfl (by kernel_rfl) Try.func5 (by kernel_rfl)
    (of_decide_eq_true (by kernel_rfl)) (by unfold Func.isWrapper; first | (rw [if_pos (by decide +kernel)]; kernel_rfl) | (rw [if_neg (by decide +kernel)]; exact ⟨rfl, rfl⟩))
    (fun os started H enc _ => lifted os started H enc)

theorem proved : Rows.TimesyncMeetsSaid :=
  over
end timesyncMeets
end Go.Proofs.Ytffcoeadpicohaa
