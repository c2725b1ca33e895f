/- TimesyncOne: for all states, parents and corrections, wherever the list is cut in two, the corrections of the first part and then those of the second part lead to what all of them lead to at once; and a node that no correction names is as it was. No conditions. -/
import Derived.Test.YtffcoeadpicohaaOneI
namespace Go.Proofs.Ytffcoeadpicohaa
open Go.RowKit Go.Deep

namespace timesyncOne
theorem walk (w : World) (v0 v1 : Value) (l : List St) (zs : List Int) (h0 : LstC w v0 l.length (ycells l)) (h1 : LstC w v1 zs.length (icells zs)) (v2 : Value) (xs : List Sn) (h2 : LstC w v2 xs.length (xcells xs)) (t : Int) (ht : 0 ≤ t ∧ t ≤ 255) :
    Calls Try.prog 6 #[.agg #[v0, v1], v2, .int .u8 t] w fun e w' => e = .returned (.bool true) ∧ Same w w' := by
  by_cases q0 : l.length ≤ 40
  · by_cases q1 : zs.length ≤ 40
    · by_cases q2 : xs.length ≤ 40
      · by_cases hb : (runU l zs xs).2.2 = 0
        · obtain ⟨ho, l2, hk, he⟩ := runU_good hb
          obtain ⟨K, hK⟩ : ∃ K, K = t.toNat % (xs.length + 1) := ⟨_, rfl⟩
          have hKl : K ≤ xs.length := by have := Nat.mod_lt t.toNat (show 0 < xs.length + 1 by omega); omega
          have hKt : Int.tmod t ((xs.length : Int) + 1) = K := by rw [hK]; exact rem_of t xs.length ht.1
          obtain ⟨l1, r1, hl1, r2⟩ := runU_two ho hk K hKl
          have hl2 := runK_length _ l2 hk
          have hno : ∀ N : Nat, (∀ i, i < xs.length → ¬ (xs.getD i sn0).1 = (N : Int)) → l2.getD N st0 = l.getD N st0 := fun N hN => runK_other _ zs l xs N _ l2 hN hk
          rcases h2 with ⟨b, off, cap, rfl, hcap, hc⟩ | ⟨ao, cap, rfl, hz, _⟩
          · by_cases hKc : K < cap
            · exact good1 w v0 v1 b off cap l l1 l2 zs xs t K h0.lst h1.lst hc ht q0 q1 q2 hKt hKl hKc hl1 hl2 he r1 r2 hno
            · have e1 : cap = xs.length := by omega
              have e2 : K = xs.length := by omega
              rw [e1]
              exact good2 w v0 v1 b off l l1 l2 zs xs t K h0.lst h1.lst hc ht q0 q1 q2 hKt e2 hl1 hl2 he r1 r2 hno
          · exact good3 w v0 v1 ao cap l l1 l2 zs xs t K h0.lst h1.lst hz ht q0 q1 q2 hKt (by omega) hl1 hl2 he r1 r2 hno
        · exact bad w v0 v1 v2 l zs xs t h0.lst h1.lst h2.lst q0 q1 q2 hb
      · exact early w v0 v1 v2 l zs xs t h0.lst h1.lst h2.lst (.inr (.inr ⟨q0, q1, by omega⟩))
    · exact early w v0 v1 v2 l zs xs t h0.lst h1.lst h2.lst (.inr (.inl ⟨q0, by omega⟩))
  · exact early w v0 v1 v2 l zs xs t h0.lst h1.lst h2.lst (.inl (by omega))
open Go.ChangeShapes Go.WideShapes Go.ChangeAt
theorem own : ownKnob Try.prog.godebug = none := by kernel_rfl

set_option maxRecDepth 100000 in
theorem lifted (os : Os) (started : os.Started) (H : Type) (enc : TypeId × Value → H) :
    ReturnsInHanded {} Try.checked os 6 .any (Rows.timesyncOneSpec.pre6 enc Try.prog Try.f6 Rows.timesyncOneRow.domain false) (Rows.timesyncOneSpec.post enc Try.prog Try.f6 false true false false) := by
  refine returnsInHanded_of_change (C := Try.checked) own started (by kernel_rfl) Try.func6
    (ChangeSpec.witness6 (enc := enc) (C := Try.checked) false ⟨#[], #[.agg #[.slice none 0 0, .slice none 0 0], .slice none 0 0, .int .u8 0], []⟩ 8 (by kernel_rfl) (by kernel_rfl) (by kernel_rfl) (by kernel_rfl)) ?_
  intro W base args ds gs before hval0 hW hcnd _
  have hval : ∀ (j : Nat) t v, Try.f6.params[j]? = some t → args[j]? = some v → Value.okWide Try.prog W .any base t v := hval0
  have hW' := hW
  obtain ⟨p, q, hA0, hV, rfl, hfz, hnd⟩ := hW
  have hA : DataW.TrodAll enc Try.prog W 0 (fun _ => true) true Try.f6.params.toList args.toList ds p := hA0
  rw [Try.params6] at hA hval
  obtain ⟨v0, vs0, d0, ds0, p0, q0, hargs, rfl, rfl, h0, r0⟩ := trodAll_cons hA
  obtain ⟨v1, vs1, d1, ds1, p1, q1, rfl, rfl, rfl, h1, r1⟩ := trodAll_cons r0
  obtain ⟨v2, vs2, d2, ds2, p2, q2, rfl, rfl, rfl, h2, r2⟩ := trodAll_cons r1
  obtain ⟨rfl, rfl, rfl⟩ := trodAll_nil r2
  obtain rfl : args = #[v0, v1, v2] := by cases args; simp_all
  obtain ⟨rfl, rfl⟩ := trodVars_none hV
  obtain ⟨va0, vb0, l0, z0, rfl, hl0, hz0⟩ := open_tree (hval 0 39 v0 rfl rfl) h0
  obtain ⟨xs1, hx1⟩ := open_syncs (hval 1 40 v1 rfl rfl) h1
  obtain ⟨a2, rfl, rfl, rfl, w2⟩ := open_int Try.underlying5 (hval 2 5 v2 rfl rfl) h2
  clear hA0 hval0
  try simp only [List.append_nil] at hW'
  try simp only [List.nil_append] at hW'
  have hlt : ∀ x ∈ p0 ++ p1, x.block < W.heap.size := fun x hx => by
    have := hW'.lt x (by simpa using hx)
    simpa using this
  refine (walk W va0 vb0 l0 z0 hl0 hz0 v1 xs1 hx1 a2 (bounds_u8 w2)).mono fun e W' ⟨he, hg⟩ => ?_
  subst he
  exact ⟨_, rfl, _, _, _, [], _, [], hW', trodAll_cons_mk (shut_bool Try.underlying4 _) trodAll_mk0, trodAll_cons_mk (Below.trod Try.laidOut (by kernel_rfl) (of_decide_eq_true (by kernel_rfl)) h0 (Same.toBelow hg) (fun x hx => hlt x (by simp [hx]))) (trodAll_cons_mk (Below.trod Try.laidOut (by kernel_rfl) (of_decide_eq_true (by kernel_rfl)) h1 (Same.toBelow hg) (fun x hx => hlt x (by simp [hx]))) (trodAll_cons_mk (shut_int Try.underlying5 w2) trodAll_mk0)), rfl, (Same.toBelow hg).frame _, fun h => by cases h⟩

theorem over : Rows.timesyncOneRow.holds Try.pinned (OpenSpec.ofChange Rows.timesyncOneSpec) :=
  OpenClaim.holds_of_wide 6 Try.f6 rfl rfl rfl rfl rfl rfl rfl ⟨rfl, rfl, rfl, rfl, rfl⟩ rfl rfl rfl rfl rfl (by kernel_rfl) Try.func6 (by kernel_rfl)
    (of_decide_eq_true (by kernel_rfl)) (by unfold Func.isWrapper; first | (rw [if_pos (by decide +kernel)]; kernel_rfl) | (rw [if_neg (by decide +kernel)]; exact ⟨rfl, rfl⟩))
    (fun os started H enc _ => lifted os started H enc)

theorem proved : Rows.TimesyncOneSaid :=
  over
end timesyncOne
end Go.Proofs.Ytffcoeadpicohaa
