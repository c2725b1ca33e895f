/- Hears: the calls of package power that it makes, and the lists of those that are heard; slices.Equal. -/
import Derived.Test.YtcennbjegdlbhaaNearest
import Derived.OwnWalk
import Derived.Deep.AppendLies
import Derived.Laws.OwnMore
import Derived.Deep.Onto
namespace Go.Proofs.Ytcennbjegdlbhaa
open Go.RowKit

theorem pwithin_at (n l m : Int) (u : Bool) (hu : decide (l ≤ n ∧ n ≤ m) = u) (w : World) : Calls Try.prog 65 #[.int .i64 n, .int .i64 l, .int .i64 m] w fun e w' => e = .returned (.bool u) ∧ w' = w := by
  subst hu
  by_cases h1 : n < l
  · have e : decide (l ≤ n ∧ n ≤ m) = false := decide_eq_false (by omega)
    rw [e]; clear e
    go_enter Try.func65, Try.ntmps65
    go_wp2
    go_ret
    exact ⟨rfl, rfl⟩
  · have h2 : l ≤ n := by omega
    have e : decide (l ≤ n ∧ n ≤ m) = decide (n ≤ m) := by simp [h2]
    rw [e]; clear e h1
    go_enter Try.func65, Try.ntmps65
    go_wp2
    go_ret
    exact ⟨rfl, rfl⟩
theorem receives_yes (t n : Int) (h : rtB t n = true) (w : World) : Calls Try.prog 66 #[.int .i64 t, .int .i64 n] w fun e w' => e = .returned (.bool true) ∧ w' = w := by
  unfold rtB at h
  simp only [Bool.and_eq_true, decide_eq_true_eq] at h
  have H1 := Lib.hid (fun w => pwithin_at t 1000 100000 true (decide_eq_true h.1) w)
  have H2 := Lib.hid (fun w => pwithin_at n 1 68719476736 true (decide_eq_true h.2) w)
  clear h
  go_enter Try.func66, Try.ntmps66
  go_wp2_with (first
    | (go_at_call 65; (with_reducible refine (H1.out _).mono ?_); rintro e w' ⟨rfl, rfl⟩)
    | (go_at_call 65; (with_reducible refine (H2.out _).mono ?_); rintro e w' ⟨rfl, rfl⟩))
  go_ret
  exact ⟨rfl, rfl⟩
theorem add_nil (w : World) : Calls Try.prog 71 #[.slice none 0 0] w fun e w' => e = .returned (.int .i64 0) ∧ w' = w := by
  go_enter Try.func71, Try.ntmps71
  go_wp2
  refine wp_loop_rounds 1 ?_
  rw [rounds_succ]
  go_wp2
  go_ret
  exact ⟨rfl, rfl⟩
theorem sum_nil (w : World) : Calls Try.prog 67 #[.slice none 0 0] w fun e w' => e = .returned (.tuple #[.int .i64 0, .int .i64 0]) ∧ w' = w := by
  have HA := Lib.hid (fun w => add_nil w)
  go_enter Try.func67, Try.ntmps67
  go_wp2
  refine wp_loop_rounds 1 ?_
  rw [rounds_succ]
  go_wp2_with (go_at_call 71; (with_reducible refine (HA.out _).mono ?_); rintro e w' ⟨rfl, rfl⟩)
  go_ret2
  exact ⟨rfl, rfl⟩
theorem tn_bd {t n : Int} (h : rtB t n = true) : 0 ≤ t * n ∧ t * n ≤ 6871947673600000 ∧ 1000 ≤ t ∧ t ≤ 100000 ∧ 1 ≤ n ∧ n ≤ 68719476736 := by
  unfold rtB at h
  simp only [Bool.and_eq_true, decide_eq_true_eq] at h
  have := mul_bd (a := t) (b := n) (by omega) h.1.2 (by omega) h.2.2
  omega
theorem received_nil (p t n : Int) (hp : Pw p) (h : rtB t n = true) (u : Bool) (hu : decide (t * n ≤ 1000 * p) = u) (w : World) :
    Calls Try.prog 57 #[.int .i64 p, .int .i64 t, .int .i64 n, .slice none 0 0] w fun e w' => e = .returned (.tuple #[.bool u, .int .i64 0]) ∧ w' = w := by
  have H1 := Lib.hid (fun w => pwithin_at p 0 68719476736 true (decide_eq_true hp) w)
  have H2 := Lib.hid (fun w => receives_yes t n h w)
  have H3 := Lib.hid (fun w => sum_nil w)
  obtain ⟨b1, b2, b3, b4, b5, b6⟩ := tn_bd h
  obtain ⟨p1, p2⟩ := hp
  have HU := Lib.hid hu; clear hu h
  go_enter Try.func57, Try.ntmps57
  go_wp2_with (first
    | (go_at_call 65; (with_reducible refine (H1.out _).mono ?_); rintro e w' ⟨rfl, rfl⟩)
    | (go_at_call 66; (with_reducible refine (H2.out _).mono ?_); rintro e w' ⟨rfl, rfl⟩)
    | (go_at_call 67; (with_reducible refine (H3.out _).mono ?_); rintro e w' ⟨rfl, rfl⟩))
  go_ret2
  first | exact ⟨rfl, rfl⟩ | exact ⟨by rw [HU.out]; rfl, rfl⟩
theorem decide_nil (p t n : Int) (hp : Pw p) (h : rtB t n = true) (u : Bool) (hu : decide (t * n ≤ 1000 * p) = u) (w : World) :
    Calls Try.prog 58 #[.int .i64 p, .int .i64 t, .int .i64 n, .int .i64 0] w fun e w' => e = .returned (.bool u) ∧ w' = w := by
  obtain ⟨b1, b2, b3, b4, b5, b6⟩ := tn_bd h
  obtain ⟨p1, p2⟩ := hp
  have HU := Lib.hid hu; clear hu h
  go_enter Try.func58, Try.ntmps58
  go_wp2
  go_ret
  exact ⟨ret_bool HU.out, rfl⟩
/-- Equal lists of ints. -/
theorem equal_same (w : World) (v1 v2 : Value) (xs : List Int) (h1 : Ints w v1 xs) (h2 : Ints w v2 xs) (hl : xs.length ≤ 1000) :
    Calls Try.prog 27 #[v1, v2] w fun e w' => e = .returned (.bool true) ∧ Same w w' := by
  rcases h1 with ⟨b1, o1, c1, rfl, h0, hc1⟩ | ⟨ao1, c1, rfl, e1⟩
  · rcases h2 with ⟨b2, o2, c2, rfl, _, hc2⟩ | ⟨ao2, c2, rfl, e2⟩
    · have H1 := Lib.hid hc1; clear hc1
      have H2 := Lib.hid hc2; clear hc2
      go_enter Try.func27, Try.ntmps27
      go_wp2
      go_loopw [13] (fun i wr => ∃ k : Nat, k ≤ xs.length ∧ i = .int .i64 k ∧ Same w wr) (fun i _ => xs.length - (intOf i).toNat)
      case atStart => exact ⟨0, Nat.zero_le _, rfl, Same.refl _⟩
      case round =>
        obtain ⟨k, hk, rfl, hS⟩ := hrel
        by_cases hlt : k < xs.length
        · have g1 := hS.cell (H1.out k hlt)
          have g2 := hS.cell (H2.out k hlt)
          have HS := Lib.hid hS; clear hS
          generalize xs.getD k 0 = x at *
          go_wp2
          go_quiet (fail)
          go_wp2
          go_roundw
          case rel => exact ⟨k + 1, by omega, by go_num, HS.out.drewN _⟩
          case measure => simp [intOf]; omega
        · have HS := Lib.hid hS; clear hS
          go_wp2
          go_ret
          exact ⟨rfl, HS.out⟩
    · rw [e2] at h0; simp at h0
  · subst e1
    rcases h2 with ⟨b2, o2, c2, _, h0, _⟩ | ⟨ao2, c2, rfl, e2⟩
    · simp at h0
    · go_enter Try.func27, Try.ntmps27
      go_wp2
      refine wp_loop_rounds 1 ?_
      rw [rounds_succ]
      go_wp2
      go_ret
      exact ⟨rfl, Same.refl _⟩
/-- Those of the first k nodes that are heard at a node. -/
def hL (s : Site) (b : Nat) (k : Nat) : List Nat := (List.range k).filter fun i => decide (s.t * s.n ≤ 1000 * betS s i b)
theorem hL_succ (s : Site) (b k : Nat) : hL s b (k + 1) = hL s b k ++ (if decide (s.t * s.n ≤ 1000 * betS s k b) = true then [k] else []) := by
  unfold hL
  rw [List.range_succ, List.filter_append]
  congr 1
  by_cases h : decide (s.t * s.n ≤ 1000 * betS s k b) = true
  · rw [if_pos h]; simp only [List.filter_cons, h, if_true, List.filter_nil]
  · rw [if_neg h]; simp only [List.filter_cons, h, List.filter_nil]; rfl
theorem hL_length (s : Site) (b k : Nat) : (hL s b k).length ≤ k := by
  unfold hL
  exact Nat.le_trans (List.length_filter_le _ _) (by simp)
def ncells (l : List Nat) : List Value := l.map fun (i : Nat) => .int .i64 (i : Int)
theorem ints_own {w : World} {base n : Nat} {v : Value} {l : List Nat} (hn : n = l.length) (h : w.ownsRow base 3 1 v n (ncells l)) : Ints w v (l.map fun (i : Nat) => (i : Int)) := by
  subst hn
  by_cases h0 : l = []
  · subst h0
    rcases h.2 with ⟨rfl, _⟩ | ⟨g, cap, cur, rfl, _⟩
    · exact .inr ⟨_, _, rfl, rfl⟩
    · exact .inr ⟨_, _, rfl, rfl⟩
  · obtain ⟨g, cap, rfl, _, _⟩ := h.form (List.length_pos_iff.2 h0)
    refine .inl ⟨g, 0, cap, by simp, by simpa using List.length_pos_iff.2 h0, fun i hi => ?_⟩
    have hi' : i < l.length := by simpa using hi
    have := h.cellAt i (by omega)
    rw [Nat.zero_add, this]
    simp [ncells, List.getD_eq_getElem?_getD, hi']
theorem pw_bet {s : Site} (hg : Good s) {a b : Nat} (ha : a < s.ps.length) : Pw (betS s a b) := by
  unfold betS
  split
  · exact ⟨by decide, by decide⟩
  · have hp := (hg.pt a ha).2.2
    have a1 := base_bd (e := s.e) (x := s.zs.getD a 0) (m := max (sqS (s.ps.getD a ⟨0, 0⟩).x (s.ps.getD a ⟨0, 0⟩).y (s.ps.getD b ⟨0, 0⟩).x (s.ps.getD b ⟨0, 0⟩).y) 100) hp.1 (by omega)
    have a2 := thru_bd (crossedL (s.ps.getD a ⟨0, 0⟩).x (s.ps.getD a ⟨0, 0⟩).y (s.ps.getD b ⟨0, 0⟩).x (s.ps.getD b ⟨0, 0⟩).y s.ws) _ a1.1
    have a3 := hp.2
    unfold Pw arrS
    omega
end Go.Proofs.Ytcennbjegdlbhaa
