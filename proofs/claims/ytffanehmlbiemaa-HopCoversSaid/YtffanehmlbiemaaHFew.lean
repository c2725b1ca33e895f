/- Whether lists are few and short. -/
import Derived.Test.YtffanehmlbiemaaHCp
namespace Go.Proofs.Ytffanehmlbiemaa
open Go.RowKit Go.Deep

theorem fewC_any (v f u : Int) (ao : Option Addr) (n cap : Nat) (w : World) : Calls Try.prog 40 #[hopV v f u (.slice ao n cap)] w fun e w' => e = .returned (.bool (decide ((20 : Int) < (n : Int)))) ∧ Same w w' := by
  have HS := Lib.hid ((Same.refl w).alloc (.cells #[.int .i64 v, .int .i64 f, .int .i64 u, .slice ao n cap] 24))
  go_enter Try.func40, Try.ntmps40
  go_wp2
  go_ret
  exact ⟨rfl, HS.out⟩
def longB (x : Hp) : Bool := decide ((20 : Int) < (x.2.2.2.length : Int))
set_option maxHeartbeats 1600000 in
set_option maxRecDepth 100000 in
theorem IndexH_few (w : World) (v : Value) (hs : List Hp) (h : HL w v hs) (hl : hs.length ≤ 1000) (R : Int → Prop) (hin : ∀ k : Nat, k < hs.length → longB (hs.getD k hp0) = true → R k) (hout : (∀ k, k < hs.length → longB (hs.getD k hp0) = false) → R (-1)) :
    Calls Try.prog 50 #[v, .func (.func 40) #[] #[]] w fun e w' => (∃ r, -1 ≤ r ∧ r ≤ 1000 ∧ e = .returned (.int .i64 r) ∧ R r) ∧ Same w w' := by
  rcases h with ⟨b, off, cap, rfl, h0, hc⟩ | ⟨ao, cap, rfl, rfl⟩
  · have H := Lib.hid hc; clear hc
    have HI := Lib.hid hin; clear hin
    have HO := Lib.hid hout; clear hout
    generalize hn : hs.length = n at *
    clear hn
    go_enter Try.func50, Try.ntmps50
    go_wp2
    go_loopw [8] (fun i wr => ∃ k : Nat, k ≤ n ∧ i = .int .i64 k ∧ (∀ j, j < k → longB (hs.getD j hp0) = false) ∧ Same w wr) (fun i _ => n - (intOf i).toNat)
    case atStart => exact ⟨0, Nat.zero_le _, rfl, fun j hj => absurd hj (Nat.not_lt_zero _), Same.refl _⟩
    case round =>
      obtain ⟨k, hk, rfl, hno, hS⟩ := hrel
      by_cases hlt : k < n
      · obtain ⟨ao, ca, z0, z1, z2, z3, _⟩ := (H.out k hlt).same hS
        have HNO := Lib.hid hno; clear hno
        have HSR := Lib.hid hS; clear hS
        have HIK := Lib.hid (HI.out k hlt)
        have hX := fun w1 => fewC_any (hs.getD k hp0).1 (hs.getD k hp0).2.1 (hs.getD k hp0).2.2.1 ao (hs.getD k hp0).2.2.2.length ca w1
        obtain ⟨u, hu⟩ : ∃ u, longB (hs.getD k hp0) = u := ⟨_, rfl⟩
        rw [show decide ((20 : Int) < ((hs.getD k hp0).2.2.2.length : Int)) = u from hu] at hX
        rw [hu] at HIK
        have HU := Lib.hid hu; clear hu
        have HX := Lib.hid hX; clear hX
        generalize (hs.getD k hp0).1 = x0 at z0 HX
        generalize (hs.getD k hp0).2.1 = x1 at z1 HX
        generalize (hs.getD k hp0).2.2.1 = x2 at z2 HX
        generalize (hs.getD k hp0).2.2.2.length = x3 at z3 HX
        cases u with
        | true =>
          go_wp2_with (go_at_call 40; (with_reducible refine (HX.out _).mono ?_); rintro e w1 ⟨rfl, hw⟩; have HW := Lib.hid (HSR.out.trans hw); clear hw)
          go_ret
          exact ⟨⟨(k : Int), by omega, by omega, rfl, HIK.out (by first | rfl | trivial)⟩, HW.out⟩
        | false =>
          go_wp2_with (go_at_call 40; (with_reducible refine (HX.out _).mono ?_); rintro e w1 ⟨rfl, hw⟩; have HW := Lib.hid (HSR.out.trans hw); clear hw)
          go_roundw
          case rel =>
            refine ⟨k + 1, by omega, by go_num, fun j hj => ?_, HW.out⟩
            by_cases hjk : j = k
            · subst hjk; exact HU.out
            · exact HNO.out j (by omega)
          case measure => simp [intOf]; omega
      · obtain rfl : k = n := by omega
        have HNO := Lib.hid (HO.out hno); clear hno
        have HQ := Lib.hid hS; clear hS
        go_wp2
        go_ret
        exact ⟨⟨-1, by omega, by omega, rfl, HNO.out⟩, HQ.out⟩
  · have HNO := Lib.hid (hout (fun k hk => absurd hk (by simp)))
    go_enter Try.func50, Try.ntmps50
    go_wp2
    refine wp_loop_rounds 1 ?_
    rw [rounds_succ]
    go_wp2
    go_ret
    exact ⟨⟨-1, by omega, by omega, rfl, HNO.out⟩, Same.refl _⟩
def fewB (hs : List Hp) : Bool := decide ((hs.length : Int) ≤ 10) && !hs.any longB
theorem hmem (hs : List Hp) (k : Nat) (hk : k < hs.length) : hs.getD k hp0 ∈ hs := by
  rw [List.getD_eq_getElem?_getD, List.getElem?_eq_getElem hk]
  exact List.getElem_mem hk
theorem any_hit {hs : List Hp} {p : Hp → Bool} {k : Nat} (hk : k < hs.length) (h : p (hs.getD k hp0) = true) : hs.any p = true :=
  List.any_eq_true.2 ⟨_, hmem hs k hk, h⟩
theorem any_no {hs : List Hp} {p : Hp → Bool} (h : ∀ k, k < hs.length → p (hs.getD k hp0) = false) : hs.any p = false := by
  rw [List.any_eq_false]
  intro x hx
  obtain ⟨i, hi, he⟩ := List.getElem_of_mem hx
  have := h i hi
  rw [List.getD_eq_getElem?_getD, List.getElem?_eq_getElem hi] at this
  rw [← he]
  simpa using this
theorem ContainsH_few (w : World) (v : Value) (hs : List Hp) (h : HL w v hs) (hl : hs.length ≤ 1000) :
    Calls Try.prog 32 #[v, .func (.func 40) #[] #[]] w fun e w' => e = .returned (.bool (hs.any longB)) ∧ Same w w' := by
  have HX := Lib.hid (IndexH_few w v hs h hl (fun r => decide (0 ≤ r) = hs.any longB) (fun k hk he => by rw [any_hit hk he]; exact decide_eq_true (by omega)) (fun hno => by rw [any_no hno]; rfl))
  generalize hs.any longB = u at *
  obtain ⟨ao, cap, rfl⟩ := h.shape
  clear h
  go_enter Try.func32, Try.ntmps32
  go_wp2_with (go_at_call 50; (with_reducible refine HX.out.mono ?_); rintro e w1 ⟨⟨r, hr1, hr2, rfl, hr⟩, hw⟩; have HW := Lib.hid hw; clear hw)
  go_ret
  exact ⟨by first | rfl | exact ret_bool hr, HW.out⟩
theorem few_any (w : World) (v : Value) (hs : List Hp) (h : HL w v hs) : Calls Try.prog 18 #[v] w fun e w' => e = .returned (.bool (fewB hs)) ∧ Same w w' := by
  unfold fewB
  by_cases hl : hs.length ≤ 10
  · have hX := ContainsH_few w v hs h (by omega)
    rw [show decide ((hs.length : Int) ≤ 10) = true from decide_eq_true (by omega), Bool.true_and]
    generalize hs.any longB = u at *
    have HX := Lib.hid hX; clear hX
    have r1 : decide ((hs.length : Int) ≤ 10) = true := decide_eq_true (by omega)
    obtain ⟨ao, cap, rfl⟩ := h.shape
    clear h
    generalize hs.length = n at *
    go_enter Try.func18, Try.ntmps18
    go_wp2_with (go_at_call 32; (with_reducible refine HX.out.mono ?_); rintro e w1 ⟨rfl, hw⟩; have HW := Lib.hid hw; clear hw)
    go_ret
    exact ⟨rfl, HW.out⟩
  · rw [show decide ((hs.length : Int) ≤ 10) = false from decide_eq_false (by omega), Bool.false_and]
    have r1 : decide ((hs.length : Int) ≤ 10) = false := decide_eq_false (by omega)
    obtain ⟨ao, cap, rfl⟩ := h.shape
    clear h
    generalize hs.length = n at *
    go_enter Try.func18, Try.ntmps18
    go_wp2
    go_ret
    exact ⟨rfl, Same.refl _⟩
end Go.Proofs.Ytffanehmlbiemaa
