/- TimesyncKeeps: for all states and slots the law returns true: a state is synchronized in the slot of its last correction and the keep slots behind it, and in no other one. No condition on the input. -/
import Derived.Test.YtffcoeadpicohaaTArgs
namespace Go.Proofs.Ytffcoeadpicohaa
open Go.RowKit

/-- A law's state in its box. -/
def Cy (w : World) (o d s c : Int) (w' : World) : Prop := w'.cell? ⟨w.heap.size, 0, none⟩ = some (.int .i64 o) ∧ w'.cell? ⟨w.heap.size, 1, none⟩ = some (.int .i64 d) ∧ w'.cell? ⟨w.heap.size, 2, none⟩ = some (.int .i64 s) ∧ w'.cell? ⟨w.heap.size, 3, none⟩ = some (.int .i64 c) ∧ Same w w'
theorem Cy.keep {w w1 w2 : World} {o d s c : Int} (h : Cy w o d s c w1) (k : Same w1 w2) : Cy w o d s c w2 := ⟨k.cell h.1, k.cell h.2.1, k.cell h.2.2.1, k.cell h.2.2.2.1, h.2.2.2.2.trans k⟩
theorem Cy.new (w : World) (o d s c : Int) (t : TypeId) : Cy w o d s c (w.alloc (.cells #[.int .i64 o, .int .i64 d, .int .i64 s, .int .i64 c] t)) := ⟨by go_simp, by go_simp, by go_simp, by go_simp, (Same.refl w).alloc _⟩
namespace timesyncKeeps
theorem taken (o d s c n k e : Int) (B : Bool) (hn : -9223372036854775808 ≤ n ∧ n ≤ 9223372036854775807)
    (h : ((e != 0) = true ∧ B = false) ∨ (e = 0 ∧ s = -1 ∧ B = false) ∨ (e = 0 ∧ (0 ≤ s ∧ s ≤ 109951162) ∧ k < 0 ∧ B = false) ∨ (e = 0 ∧ (0 ≤ s ∧ s ≤ 109951162) ∧ 0 ≤ k ∧ n < s ∧ B = false) ∨ (e = 0 ∧ (0 ≤ s ∧ s ≤ 109951162) ∧ 1000000 < k ∧ s ≤ n) ∨ (e = 0 ∧ (0 ≤ s ∧ s ≤ 109951162) ∧ (0 ≤ k ∧ k ≤ 1000000) ∧ s ≤ n ∧ 1099511627776 < n) ∨ (e = 0 ∧ (0 ≤ s ∧ s ≤ 109951162) ∧ (0 ≤ k ∧ k ≤ 1000000) ∧ s ≤ n ∧ n ≤ 1099511627776 ∧ n ≤ s + k ∧ B = true) ∨ (e = 0 ∧ (0 ≤ s ∧ s ≤ 109951162) ∧ (0 ≤ k ∧ k ≤ 1000000) ∧ s ≤ n ∧ n ≤ 1099511627776 ∧ s + k < n ∧ B = false)) (w : World)
    (HS : ∀ w, Calls Try.prog 19 #[.agg #[.int .i64 o, .int .i64 d, .int .i64 s, .int .i64 c], .int .i64 n, .int .i64 k] w fun e w' => e = .returned (.bool B) ∧ Grew w w')
    (HC : ∀ w, Calls Try.prog 17 #[.agg #[.int .i64 o, .int .i64 d, .int .i64 s, .int .i64 c]] w fun r w' => r = .returned (.int .i64 e) ∧ Grew w w') :
    Calls Try.prog 9 #[.agg #[.int .i64 o, .int .i64 d, .int .i64 s, .int .i64 c], .int .i64 n, .int .i64 k] w fun e w' => e = .returned (.bool true) ∧ Same w w' := by
  have HAW := Lib.hid (fun w => tawake_any w)
  have H1 := Lib.hid HS; clear HS
  have H2 := Lib.hid HC; clear HC
  obtain ⟨hn1, hn2⟩ := hn
  rcases h with ⟨g1, rfl⟩ | ⟨rfl, rfl, rfl⟩ | ⟨rfl, ⟨g1, g2⟩, g3, rfl⟩ | ⟨rfl, ⟨g1, g2⟩, g3, g4, rfl⟩ | ⟨rfl, ⟨g1, g2⟩, g3, g4⟩ | ⟨rfl, ⟨g1, g2⟩, ⟨g3, g4⟩, g5, g6⟩ | ⟨rfl, ⟨g1, g2⟩, ⟨g3, g4⟩, g5, g6, g7, rfl⟩ | ⟨rfl, ⟨g1, g2⟩, ⟨g3, g4⟩, g5, g6, g7, rfl⟩
  all_goals
    go_enter Try.func9, Try.ntmps9
    go_wp2_with (first
      | (go_at_call 10; (with_reducible refine (HAW.out _).mono ?_); rintro e w1 ⟨rfl, hw⟩; have HB := Lib.hid ((Cy.new w _ _ _ _ 25).keep hw); clear hw; obtain ⟨k0, k1, k2, k3, k4⟩ := HB.out)
      | (go_at_call 19; (with_reducible refine (H1.out _).mono ?_); rintro e w2 ⟨rfl, hw⟩; have HC := Lib.hid (HB.out.keep hw.toSame); clear hw HB k0 k1 k2 k3 k4; obtain ⟨k0, k1, k2, k3, k4⟩ := HC.out)
      | (go_at_call 17; (with_reducible refine (H2.out _).mono ?_); rintro e w3 ⟨rfl, hw⟩; have HD := Lib.hid (HC.out.keep hw.toSame); clear hw HC k0 k1 k2 k3 k4; obtain ⟨k0, k1, k2, k3, k4⟩ := HD.out))
    go_ret
    first
      | exact ⟨rfl, HD.out.2.2.2.2⟩
      | exact ⟨by simp; omega, HD.out.2.2.2.2⟩
theorem walk (o d s c : Int) (_ : i64 o) (_ : i64 d) (_ : i64 s) (_ : i64 c) (n : Int) (hn : -9223372036854775808 ≤ n ∧ n ≤ 9223372036854775807) (k : Int) (_hk : -9223372036854775808 ≤ k ∧ k ≤ 9223372036854775807) (w : World) :
    Calls Try.prog 9 #[.agg #[.int .i64 o, .int .i64 d, .int .i64 s, .int .i64 c], .int .i64 n, .int .i64 k] w fun e w' => e = .returned (.bool true) ∧ Same w w' := by
  refine taken o d s c n k (chkY o d s c) (syS o d s c n k) hn ?_ w (fun w => Synchronized_any o d s c n k hn.2 w) (fun w => tCheck_any o d s c w)
  rcases sy_cases o d s c n k with ⟨x1, hs⟩ | ⟨x1, rfl, rfl, hs⟩ | ⟨x1, x2, x3, x5, hs⟩ | ⟨x1, x2, x3, x5, hs⟩ <;> rw [hs]
  · rw [show chkY o d s c = 1 from if_neg (by rw [x1]; decide)]
    exact .inl ⟨rfl, rfl⟩
  · rw [show chkY o d (-1) 0 = 0 from if_pos x1]
    exact .inr (.inl ⟨rfl, rfl, rfl⟩)
  · rw [show chkY o d s c = 0 from if_pos x1]
    by_cases k1 : k < 0
    · exact .inr (.inr (.inl ⟨rfl, x3, k1, rfl⟩))
    · exact .inr (.inr (.inr (.inl ⟨rfl, x3, by omega, x5, rfl⟩)))
  · rw [show chkY o d s c = 0 from if_pos x1]
    by_cases k1 : k < 0
    · refine .inr (.inr (.inl ⟨rfl, x3, k1, ?_⟩))
      have : ¬ n - s ≤ k := by omega
      simp [this]
    · by_cases k2 : 1000000 < k
      · exact .inr (.inr (.inr (.inr (.inl ⟨rfl, x3, k2, x5⟩))))
      · by_cases k3 : 1099511627776 < n
        · exact .inr (.inr (.inr (.inr (.inr (.inl ⟨rfl, x3, ⟨by omega, by omega⟩, x5, k3⟩)))))
        · by_cases k4 : n ≤ s + k
          · refine .inr (.inr (.inr (.inr (.inr (.inr (.inl ⟨rfl, x3, ⟨by omega, by omega⟩, x5, by omega, k4, ?_⟩))))))
            have : n - s ≤ k := by omega
            simp [this]
          · refine .inr (.inr (.inr (.inr (.inr (.inr (.inr ⟨rfl, x3, ⟨by omega, by omega⟩, x5, by omega, by omega, ?_⟩))))))
            have : ¬ n - s ≤ k := by omega
            simp [this]
open Go.ChangeShapes Go.WideShapes Go.ChangeAt
theorem own : ownKnob Try.prog.godebug = none := by kernel_rfl

set_option maxRecDepth 100000 in
theorem lifted (os : Os) (started : os.Started) (H : Type) (enc : TypeId × Value → H) :
    ReturnsInHanded {} Try.checked os 9 .any (Rows.timesyncKeepsSpec.pre6 enc Try.prog Try.f9 Rows.timesyncKeepsRow.domain false) (Rows.timesyncKeepsSpec.post enc Try.prog Try.f9 false true false false) := by
  refine returnsInHanded_of_change (C := Try.checked) own started (by kernel_rfl) Try.func9
    (ChangeSpec.witness6 (enc := enc) (C := Try.checked) false ⟨#[], #[.agg #[.int .i64 0, .int .i64 0, .int .i64 0, .int .i64 0], .int .i64 0, .int .i64 0], []⟩ 8 (by kernel_rfl) (by kernel_rfl) (by kernel_rfl) (by kernel_rfl)) ?_
  intro W base args ds gs before hval0 hW hcnd _
  have hval : ∀ (j : Nat) t v, Try.f9.params[j]? = some t → args[j]? = some v → Value.okWide Try.prog W .any base t v := hval0
  have hW' := hW
  obtain ⟨p, q, hA0, hV, rfl, hfz, hnd⟩ := hW
  have hA : DataW.TrodAll enc Try.prog W 0 (fun _ => true) true Try.f9.params.toList args.toList ds p := hA0
  rw [Try.params9] at hA hval
  obtain ⟨v0, vs0, d0, ds0, p0, q0, hargs, rfl, rfl, h0, r0⟩ := trodAll_cons hA
  obtain ⟨v1, vs1, d1, ds1, p1, q1, rfl, rfl, rfl, h1, r1⟩ := trodAll_cons r0
  obtain ⟨v2, vs2, d2, ds2, p2, q2, rfl, rfl, rfl, h2, r2⟩ := trodAll_cons r1
  obtain ⟨rfl, rfl, rfl⟩ := trodAll_nil r2
  obtain rfl : args = #[v0, v1, v2] := by cases args; simp_all
  obtain ⟨rfl, rfl⟩ := trodVars_none hV
  obtain ⟨x0, y0, z0, u0, rfl, bx0, be0, bz0, bu0⟩ := open_synced (hval 0 25 v0 rfl rfl) h0
  obtain ⟨a1, rfl, rfl, rfl, w1⟩ := open_int Try.underlying3 (hval 1 3 v1 rfl rfl) h1
  obtain ⟨a2, rfl, rfl, rfl, w2⟩ := open_int Try.underlying3 (hval 2 3 v2 rfl rfl) h2
  clear hA0 hval0
  try simp only [List.append_nil] at hW'
  try simp only [List.nil_append] at hW'
  have hlt : ∀ x ∈ p0, x.block < W.heap.size := fun x hx => by
    have := hW'.lt x (by simpa using hx)
    simpa using this
  refine (walk x0 y0 z0 u0 bx0 be0 bz0 bu0 a1 (bounds_i64 w1) a2 (bounds_i64 w2) W).mono fun e W' ⟨he, hg⟩ => ?_
  subst he
  exact ⟨_, rfl, _, _, _, [], _, [], hW', trodAll_cons_mk (shut_bool Try.underlying4 _) trodAll_mk0, trodAll_cons_mk (Below.trod Try.laidOut (by kernel_rfl) (of_decide_eq_true (by kernel_rfl)) h0 (Same.toBelow hg) (fun x hx => hlt x (by simp [hx]))) (trodAll_cons_mk (shut_int Try.underlying3 w1) (trodAll_cons_mk (shut_int Try.underlying3 w2) trodAll_mk0)), rfl, (Same.toBelow hg).frame _, fun h => by cases h⟩

theorem over : Rows.timesyncKeepsRow.holds Try.pinned (OpenSpec.ofChange Rows.timesyncKeepsSpec) :=
  OpenClaim.holds_of_wide 9 Try.f9 rfl rfl rfl rfl rfl rfl rfl ⟨rfl, rfl, rfl, rfl, rfl⟩ rfl rfl rfl rfl rfl (by kernel_rfl) Try.func9 (by kernel_rfl)
    (of_decide_eq_true (by kernel_rfl)) (by unfold Func.isWrapper; first | (rw [if_pos (by decide +kernel)]; kernel_rfl) | (rw [if_neg (by decide +kernel)]; exact ⟨rfl, rfl⟩))
    (fun os started H enc _ => lifted os started H enc)

theorem proved : Rows.TimesyncKeepsSaid :=
  over
end timesyncKeeps
end Go.Proofs.Ytffcoeadpicohaa
