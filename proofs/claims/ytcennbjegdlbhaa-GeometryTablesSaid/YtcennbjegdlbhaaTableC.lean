/- Tables for every site, and that they are the same. -/
import Derived.Test.YtcennbjegdlbhaaTableB
namespace Go.Proofs.Ytcennbjegdlbhaa
open Go.RowKit

theorem TblAt.same {w w' : World} {v : Value} {n : Nat} {f : Nat → Nat → Int} (h : TblAt w v n f) (s : Same w w') : TblAt w' v n f := by
  obtain ⟨T, cap, rfl, h⟩ := h
  refine ⟨T, cap, rfl, fun a ha => ?_⟩
  obtain ⟨va, h1, h2⟩ := h a ha
  exact ⟨va, s.cell h1, h2.same s⟩
/-- What Table returns: a table, or nil and an error. -/
def Tbl (w : World) (v : Value) (s : Site) : Prop := (siteB s = true ∧ TblAt w v s.ps.length (betS s)) ∨ (siteB s = false ∧ v = .slice none 0 0)
theorem Tbl.same {w w' : World} {v : Value} {s : Site} (h : Tbl w v s) (k : Same w w') : Tbl w' v s := h.imp (fun ⟨a, b⟩ => ⟨a, b.same k⟩) id
theorem table_any (w : World) (v : Value) (s : Site) (h : SiteAt w v s) : Calls Try.prog 22 #[v] w fun e w' => ∃ u, e = .returned (.tuple #[u, .int .i64 (if siteB s then 0 else 1)]) ∧ Tbl w' u s ∧ Same w w' := by
  have hread := h.read
  obtain ⟨v1, v2, v3, rfl, h1, h2, h3⟩ := hread
  obtain ⟨ao1, cap1, e1⟩ := h1.shape
  obtain ⟨ao2, cap2, e2⟩ := h2.shape
  obtain ⟨ao3, cap3, e3⟩ := h3.shape
  by_cases hs : siteB s = true
  · refine (table_good w s v1 v2 v3 h ao1 ao2 ao3 cap1 cap2 cap3 e1 e2 e3 hs).mono ?_
    rintro e w' ⟨u, rfl, ht, hk⟩
    exact ⟨u, by rw [if_pos hs], .inl ⟨hs, ht⟩, hk⟩
  · have HAT := Lib.hid (fun (w1 : World) (h : Same (boxS w v1 v2 v3 s.e s.n s.t) w1) => boxS_at h)
    have s0 : Same w (boxS w v1 v2 v3 s.e s.n s.t) := by repeat' (first | exact Same.refl _ | apply Same.alloc)
    have HS0 := Lib.hid s0
    have hc := check_at _ _ s (h.same s0) 1 (by rw [if_neg hs])
    have HC := Lib.hid hc; clear hc
    have hf : siteB s = false := by simpa using hs
    have HT := Lib.hid (fun w' : World => (show Tbl w' (.slice none 0 0) s from .inr ⟨hf, rfl⟩))
    rw [show (if siteB s = true then (0 : Int) else 1) = 1 by rw [if_neg hs]]
    clear hs h s0 hf h1 h2 h3
    subst e1 e2 e3
    go_enter Try.func22, Try.ntmps22
    go_wp2_with (go_at_call 24; (with_reducible refine HC.out.mono ?_); rintro e w1 ⟨rfl, hw⟩; have hb := Lib.hid hw; clear hw)
    go_ret2
    exact ⟨_, rfl, HT.out _, HS0.out.trans hb.out⟩
theorem table2_any (w : World) (v : Value) (s : Site) (h : SiteAt w v s) : Calls Try.prog 23 #[v] w fun e w' => ∃ u, e = .returned (.tuple #[u, .int .i64 (if siteB s then 0 else 1)]) ∧ Tbl w' u s ∧ Same w w' := by
  have hread := h.read
  obtain ⟨v1, v2, v3, rfl, h1, h2, h3⟩ := hread
  obtain ⟨ao1, cap1, e1⟩ := h1.shape
  obtain ⟨ao2, cap2, e2⟩ := h2.shape
  obtain ⟨ao3, cap3, e3⟩ := h3.shape
  by_cases hs : siteB s = true
  · refine (table2_good w s v1 v2 v3 h ao1 ao2 ao3 cap1 cap2 cap3 e1 e2 e3 hs).mono ?_
    rintro e w' ⟨u, rfl, ht, hk⟩
    exact ⟨u, by rw [if_pos hs], .inl ⟨hs, ht⟩, hk⟩
  · have HAT := Lib.hid (fun (w1 : World) (h : Same (boxS w v1 v2 v3 s.e s.n s.t) w1) => boxS_at h)
    have s0 : Same w (boxS w v1 v2 v3 s.e s.n s.t) := by repeat' (first | exact Same.refl _ | apply Same.alloc)
    have HS0 := Lib.hid s0
    have hc := check2_at _ _ s (h.same s0) 1 (by rw [if_neg hs])
    have HC := Lib.hid hc; clear hc
    have hf : siteB s = false := by simpa using hs
    have HT := Lib.hid (fun w' : World => (show Tbl w' (.slice none 0 0) s from .inr ⟨hf, rfl⟩))
    rw [show (if siteB s = true then (0 : Int) else 1) = 1 by rw [if_neg hs]]
    clear hs h s0 hf h1 h2 h3
    subst e1 e2 e3
    go_enter Try.func23, Try.ntmps23
    go_wp2_with (go_at_call 25; (with_reducible refine HC.out.mono ?_); rintro e w1 ⟨rfl, hw⟩; have hb := Lib.hid hw; clear hw)
    go_ret2
    exact ⟨_, rfl, HT.out _, HS0.out.trans hb.out⟩
theorem eqf_good (w : World) (v1 v2 : Value) (n : Nat) (f : Nat → Nat → Int) (h1 : TblAt w v1 n f) (h2 : TblAt w v2 n f) (hn : n ≤ 32) :
    Calls Try.prog 26 #[v1, v2, .func (.func 27) #[] #[]] w fun e w' => e = .returned (.bool true) ∧ Same w w' := by
  obtain ⟨T1, c1, rfl, h1⟩ := h1
  obtain ⟨T2, c2, rfl, h2⟩ := h2
  have H1 := Lib.hid h1; clear h1
  have H2 := Lib.hid h2; clear h2
  go_enter Try.func26, Try.ntmps26
  go_wp2
  go_loopw [17] (fun i wr => ∃ k : Nat, k ≤ n ∧ i = .int .i64 k ∧ Same w wr) (fun i _ => n - (intOf i).toNat)
  case atStart => exact ⟨0, Nat.zero_le _, rfl, Same.refl _⟩
  case round =>
    obtain ⟨k, hk, rfl, hS⟩ := hrel
    have HS := Lib.hid hS; clear hS
    by_cases hlt : k < n
    · obtain ⟨va, a1, a2⟩ := H1.out k hlt
      obtain ⟨vb, b1, b2⟩ := H2.out k hlt
      have q1 := HS.out.cell a1
      have q2 := HS.out.cell b1
      have HQ := Lib.hid (equal_same wr va vb _ (a2.same HS.out) (b2.same HS.out) (by simp; omega))
      clear a1 a2 b1 b2
      go_wp2_with (go_at_call 27; (with_reducible refine HQ.out.mono ?_); rintro e w5 ⟨rfl, hw5⟩; have HF := Lib.hid (HS.out.trans hw5); clear hw5)
      go_roundw
      case rel => exact ⟨k + 1, by omega, by go_num, HF.out⟩
      case measure => simp [intOf]; omega
    · obtain rfl : k = n := by omega
      go_wp2
      go_ret
      exact ⟨rfl, HS.out⟩
theorem eqf_nil (w : World) : Calls Try.prog 26 #[.slice none 0 0, .slice none 0 0, .func (.func 27) #[] #[]] w fun e w' => e = .returned (.bool true) ∧ Same w w' := by
  go_enter Try.func26, Try.ntmps26
  go_wp2
  refine wp_loop_rounds 1 ?_
  rw [rounds_succ]
  go_wp2
  go_ret
  exact ⟨rfl, Same.refl _⟩
theorem eqf_any (w : World) (v1 v2 : Value) (s : Site) (h1 : Tbl w v1 s) (h2 : Tbl w v2 s) :
    Calls Try.prog 26 #[v1, v2, .func (.func 27) #[] #[]] w fun e w' => e = .returned (.bool true) ∧ Same w w' := by
  rcases h1 with ⟨hs, h1⟩ | ⟨hs, rfl⟩
  · rcases h2 with ⟨_, h2⟩ | ⟨hs', _⟩
    · exact eqf_good w v1 v2 _ _ h1 h2 (by have := (good_of hs).n32; omega)
    · rw [hs] at hs'; cases hs'
  · rcases h2 with ⟨hs', _⟩ | ⟨_, rfl⟩
    · rw [hs] at hs'; cases hs'
    · exact eqf_nil w
end Go.Proofs.Ytcennbjegdlbhaa
