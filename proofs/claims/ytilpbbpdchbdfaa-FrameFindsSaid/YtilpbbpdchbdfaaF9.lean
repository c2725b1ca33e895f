/- What passes on the fields of each kind: the map, and what is found in it. -/
import Derived.Test.YtilpbbpdchbdfaaF8
import Derived.Maps.OwnSet
namespace Go.Proofs.Ytilpbbpdchbdfaa
open Go.RowKit

/-- How a function without captured values reads. -/
def fnElem (v : Value) : Option (DataW Unit × List MemPlace) :=
  match v with
  | .func (.func n) a b => if a.size = 0 ∧ b.size = 0 then some (.lit (.int .i64 n), []) else some (.lit (.bool false), [])
  | _ => some (.lit (.bool false), [])
theorem fnElem_mk (n : Nat) : fnElem (.func (.func n) #[] #[]) = some (.lit (.int .i64 n), []) := rfl
theorem fnElem_inv {v : Value} {n : Nat} {ps : List MemPlace} (h : fnElem v = some (.lit (.int .i64 n), ps)) : v = .func (.func n) #[] #[] := by
  unfold fnElem at h
  split at h
  · rename_i m a b
    split at h
    · rename_i hab
      have ha : a = #[] := Array.eq_empty_of_size_eq_zero hab.1
      have hb : b = #[] := Array.eq_empty_of_size_eq_zero hab.2
      subst ha hb
      simp at h
      have hm : m = n := Int.ofNat_inj.1 h.1
      subst hm; rfl
    · simp at h
  · simp at h
theorem kinds_keyed : Maps.Keyed Try.prog 3 := Maps.int_keyed Try.underlying3
abbrev kl (k : Int) : Lit := .int .i64 k
theorem kinds_key {k : Int} (h : -9223372036854775808 ≤ k ∧ k ≤ 9223372036854775807) : keyOf Try.prog 3 (.int .i64 k) = some (kl k) :=
  Maps.keyOf_int_mk Try.underlying3 (by simp [Lit.wf, IntKind.min, IntKind.max, IntKind.signed, IntKind.bits]; omega)
/-- The map of the kinds. -/
def kindsD : DataW Unit := ((((DataW.map []).put (kl 1) (.lit (kl 115))).put (kl 2) (.lit (kl 116))).put (kl 3) (.lit (kl 117))).put (kl 4) (.lit (kl 118))
def KindsIn (w : World) (b : Nat) : Prop := w.ownsMap Try.prog 3 fnElem b 4 kindsD
theorem KindsIn.drew {w : World} {b : Nat} (h : KindsIn w b) : KindsIn w.drew b := World.ownsMap.drew h
theorem Same.ofTurned {w w' : World} {b : Nat} (h : w.mapTurned w' b) {W : World} (hs : Same W w) (hb : W.heap.size ≤ b) : Same W w' := by
  have hg := h.grown
  exact ⟨hg.os.trans hs.os, hg.tape.trans hs.tape, hg.output.trans hs.output, Nat.le_trans hs.size hg.size, fun k hk => (hg.block k (Nat.lt_of_lt_of_le hk hs.size) (by simp; omega)).trans (hs.block k hk)⟩
set_option maxRecDepth 100000 in
theorem kinds_any (w : World) : Calls Try.prog 102 #[] w fun e w' => e = .returned (.map (some w.heap.size)) ∧ Same w w' ∧ KindsIn w' w.heap.size := by
  have e0 := run_makeMap (P := Try.prog) 110 w
  have o0 := World.ownsMap_made w Try.prog 3 fnElem
  have s0 : Same w (w.alloc (.map #[] 0)) := (Same.refl w).alloc _
  obtain ⟨w1, e1, o1, t1⟩ := o0.store kinds_keyed Try.underlying110 (by unfold maxLen; omega) (kinds_key (k := 1) (by decide)) (fnElem_mk 115)
  have s1 := Same.ofTurned t1 s0 (Nat.le_refl _)
  obtain ⟨w2, e2, o2, t2⟩ := o1.store kinds_keyed Try.underlying110 (by unfold maxLen; omega) (kinds_key (k := 2) (by decide)) (fnElem_mk 116)
  have s2 := Same.ofTurned t2 s1 (Nat.le_refl _)
  obtain ⟨w3, e3, o3, t3⟩ := o2.store kinds_keyed Try.underlying110 (by unfold maxLen; omega) (kinds_key (k := 3) (by decide)) (fnElem_mk 117)
  have s3 := Same.ofTurned t3 s2 (Nat.le_refl _)
  obtain ⟨w4, e4, o4, t4⟩ := o3.store kinds_keyed Try.underlying110 (by unfold maxLen; omega) (kinds_key (k := 4) (by decide)) (fnElem_mk 118)
  have s4 := Same.ofTurned t4 s3 (Nat.le_refl _)
  have HF := Lib.hid (And.intro s4 (show KindsIn w4 w.heap.size from o4))
  clear o0 o1 o2 o3 o4 s0 s1 s2 s3 s4 t1 t2 t3 t4
  go_enter Try.func102, Try.ntmps102
  go_wp2
  go_ret
  exact ⟨rfl, HF.out⟩
theorem zeroFn (w : World) : ∃ z, (zeroValue 108).run Try.prog w = .ok z w ∧ fnElem z = some (.lit (.bool false), []) := ⟨.nilFunc, by kernel_rfl, rfl⟩
/-- What is found in the map of the kinds. -/
theorem kinds_look {w : World} {b : Nat} (h : KindsIn w b) (k : Int) (f : Nat) (hk : (k = 1 ∧ f = 115) ∨ (k = 2 ∧ f = 116) ∨ (k = 3 ∧ f = 117) ∨ (k = 4 ∧ f = 118)) :
    (Instr.lookup 110 (.map (some b)) (.int .i64 k) true).run Try.prog w = .ok (.tuple #[.func (.func f) #[] #[], .bool true]) w := by
  obtain ⟨z, hz, hzd⟩ := zeroFn w
  obtain ⟨v, ps, hrun, hv⟩ := World.ownsMap.look_ok h kinds_keyed Try.underlying110 hz hzd (kinds_key (k := k) (by omega))
  rw [hrun]
  rcases hk with ⟨rfl, rfl⟩ | ⟨rfl, rfl⟩ | ⟨rfl, rfl⟩ | ⟨rfl, rfl⟩
  all_goals
    have := fnElem_inv hv
    subst this
    rfl
theorem kinds_none {w : World} {b : Nat} (h : KindsIn w b) (k : Int) (hk : k ≠ 1 ∧ k ≠ 2 ∧ k ≠ 3 ∧ k ≠ 4) (hb : -9223372036854775808 ≤ k ∧ k ≤ 9223372036854775807) :
    ∃ v, (Instr.lookup 110 (.map (some b)) (.int .i64 k) true).run Try.prog w = .ok (.tuple #[v, .bool false]) w := by
  obtain ⟨z, hz, hzd⟩ := zeroFn w
  obtain ⟨v, ps, hrun, hv⟩ := World.ownsMap.look_ok h kinds_keyed Try.underlying110 hz hzd (kinds_key hb)
  refine ⟨v, ?_⟩
  rw [hrun]
  have : Maps.has kindsD (kl k) = false := by
    have e : kindsD = .map [(kl 1, .lit (kl 115)), (kl 2, .lit (kl 116)), (kl 3, .lit (kl 117)), (kl 4, .lit (kl 118))] := rfl
    rw [e, Maps.has_eq]
    simp [Lit.sameKey]
    omega
  rw [this]
end Go.Proofs.Ytilpbbpdchbdfaa
