/- GeometryTables: for every site the law returns true. No condition on the input. -/
import Derived.Test.YtcennbjegdlbhaaLists
namespace Go.Proofs.Ytcennbjegdlbhaa
open Go.RowKit

namespace geometryTables
def Rows5 (w : World) (T n : Nat) (f : Nat → Nat → Int) : Prop := ∀ a, a < n → ∃ R off cap, w.cell? ⟨T, a, none⟩ = some (.slice (some ⟨R, off, none⟩) n cap) ∧ ∀ b, b < n → w.cell? ⟨R, off + b, none⟩ = some (.int .i64 (f a b))
theorem rows5_of {w : World} {T n : Nat} {f : Nat → Nat → Int} (hn : 0 < n) (h : ∀ a, a < n → ∃ va, w.cell? ⟨T, a, none⟩ = some va ∧ Ints w va ((List.range n).map (f a))) : Rows5 w T n f := by
  intro a ha
  obtain ⟨va, h1, h2⟩ := h a ha
  rcases h2 with ⟨R, off, cap, rfl, _, h3⟩ | ⟨_, _, _, h3⟩
  · refine ⟨R, off, cap, by rw [h1]; simp, fun b hb => ?_⟩
    have := h3 b (by simpa using hb)
    rw [this]
    simp [List.getD_eq_getElem?_getD, hb]
  · have : n = 0 := by simpa using h3
    omega
theorem table_in (w : World) (v : Value) (s : Site) (h : SiteAt w v s) (hs : siteB s = true) : Calls Try.prog 22 #[v] w fun e w' => ∃ T cap, e = .returned (.tuple #[.slice (some ⟨T, 0, none⟩) s.ps.length cap, .int .i64 0]) ∧ Rows5 w' T s.ps.length (betS s) ∧ Same w w' := by
  refine (table_any w v s h).mono ?_
  rintro e w' ⟨u, rfl, hu, hk⟩
  rcases hu with ⟨_, T, cap, rfl, ht⟩ | ⟨hf, _⟩
  · exact ⟨T, cap, by rw [if_pos hs], rows5_of (by have := (good_of hs).n2; omega) ht, hk⟩
  · rw [hs] at hf; cases hf
set_option maxHeartbeats 3200000 in
set_option maxRecDepth 100000 in
theorem bad (w : World) (s : Site) (v1 v2 v3 : Value) (h : SiteAt w (.agg #[v1, v2, v3, .int .i64 s.e, .int .i64 s.n, .int .i64 s.t]) s) (ao1 ao2 ao3 : Option Addr) (cap1 cap2 cap3 : Nat) (e1 : v1 = .slice ao1 s.ps.length cap1) (e2 : v2 = .slice ao2 s.zs.length cap2) (e3 : v3 = .slice ao3 s.ws.length cap3) (u : Bool) (hu : fewB s = u) (hcase : u = false ∨ siteB s = false) :
    Calls Try.prog 10 #[.agg #[v1, v2, v3, .int .i64 s.e, .int .i64 s.n, .int .i64 s.t]] w fun e w' => e = .returned (.bool true) ∧ Same w w' := by
  have HAT := Lib.hid (fun (w1 : World) (h : Same (boxS w v1 v2 v3 s.e s.n s.t) w1) => boxS_at h)
  have HAW := Lib.hid (awake_any (boxS w v1 v2 v3 s.e s.n s.t))
  have hfew := fun (w1 : World) (k : Same w w1) => few_any w1 _ s (h.same k)
  rw [hu] at hfew
  have HFEW := Lib.hid hfew; clear hfew hu
  have ht := fun (hf : siteB s = false) (w1 : World) (k : Same w w1) => (table_any w1 _ s (h.same k)).mono (fun e w' (hh : ∃ u, e = .returned (.tuple #[u, .int .i64 (if siteB s then 0 else 1)]) ∧ Tbl w' u s ∧ Same w1 w') => (show e = .returned (.tuple #[.slice none 0 0, .int .i64 1]) ∧ Same w1 w' by
    obtain ⟨u, rfl, hu, hk⟩ := hh
    rcases hu with ⟨ht, _⟩ | ⟨_, rfl⟩
    · rw [hf] at ht; cases ht
    · exact ⟨by rw [hf]; rfl, hk⟩))
  have hc := fun (hf : siteB s = false) (w1 : World) (k : Same w w1) => check_at w1 _ s (h.same k) 1 (by rw [hf]; rfl)
  clear h
  rcases hcase with rfl | hf
  · clear ht hc
    subst e1 e2 e3
    generalize s.e = e at *
    generalize s.n = nn at *
    generalize s.t = t at *
    go_enter Try.func10, Try.ntmps10
    go_wp2_with (first
      | (go_at_call 11; (with_reducible refine HAW.out.mono ?_); rintro e w1 ⟨rfl, hw⟩; have hb := Lib.hid hw; obtain ⟨z1, z2, z3, z4, z5, z6, hs⟩ := HAT.out _ hw; clear hw)
      | (go_at_call 17; (with_reducible refine (HFEW.out _ hs).mono ?_); rintro e w2 ⟨rfl, hw⟩; have hb' := Lib.hid (hb.out.trans hw); clear hb hw hs z1 z2 z3 z4 z5 z6; have hb := hb'; clear hb'; obtain ⟨z1, z2, z3, z4, z5, z6, hs⟩ := HAT.out _ hb.out))
    go_ret
    exact ⟨rfl, hs⟩
  · have H1 := Lib.hid (ht hf)
    have H2 := Lib.hid (hc hf)
    clear ht hc hf
    subst e1 e2 e3
    generalize s.e = e at *
    generalize s.n = nn at *
    generalize s.t = t at *
    cases u
    all_goals
      go_enter Try.func10, Try.ntmps10
      go_wp2_with (first
        | (go_at_call 11; (with_reducible refine HAW.out.mono ?_); rintro e w1 ⟨rfl, hw⟩; have hb := Lib.hid hw; obtain ⟨z1, z2, z3, z4, z5, z6, hs⟩ := HAT.out _ hw; clear hw)
        | (go_at_call 17; (with_reducible refine (HFEW.out _ hs).mono ?_); rintro e w2 ⟨rfl, hw⟩; have hb' := Lib.hid (hb.out.trans hw); clear hb hw hs z1 z2 z3 z4 z5 z6; have hb := hb'; clear hb'; obtain ⟨z1, z2, z3, z4, z5, z6, hs⟩ := HAT.out _ hb.out)
        | (go_at_call 22; (with_reducible refine (H1.out _ hs).mono ?_); rintro e w3 ⟨rfl, hw⟩; have hb' := Lib.hid (hb.out.trans hw); clear hb hw hs z1 z2 z3 z4 z5 z6; have hb := hb'; clear hb'; obtain ⟨z1, z2, z3, z4, z5, z6, hs⟩ := HAT.out _ hb.out)
        | (go_at_call 24; (with_reducible refine (H2.out _ hs).mono ?_); rintro e w4 ⟨rfl, hw⟩; have hb' := Lib.hid (hb.out.trans hw); clear hb hw hs z1 z2 z3 z4 z5 z6; have hb := hb'; clear hb'; obtain ⟨z1, z2, z3, z4, z5, z6, hs⟩ := HAT.out _ hb.out))
      go_ret
      exact ⟨rfl, hs⟩
theorem wrap_in (n : Int) (h : -9223372036854775808 ≤ n ∧ n ≤ 9223372036854775807) : IntKind.i64.wrap n = n := by
  simp only [IntKind.wrap, IntKind.bits, IntKind.signed]
  simp
  omega
/-- What the long condition reads. -/
abbrev S8q (w : World) (v1 v2 v3 : Value) (e n t : Int) (wr : World) (C0 : Addr) (x0 : Value) (C1 : Addr) (x1 : Value) (w' : World) : Prop :=
  (w'.cell? ⟨w.heap.size, 0, none⟩ = some v1 ∧ w'.cell? ⟨w.heap.size, 1, none⟩ = some v2 ∧ w'.cell? ⟨w.heap.size, 2, none⟩ = some v3 ∧ w'.cell? ⟨w.heap.size, 3, none⟩ = some (.int .i64 e) ∧ w'.cell? ⟨w.heap.size, 4, none⟩ = some (.int .i64 n) ∧ w'.cell? ⟨w.heap.size, 5, none⟩ = some (.int .i64 t)) ∧ w'.cell? C0 = some x0 ∧ w'.cell? C1 = some x1 ∧ Same wr w'
theorem keep8q {w wr w1 w2 : World} {v1 v2 v3 : Value} {e n t : Int} {C0 C1 : Addr} {x0 x1 : Value} (h : S8q w v1 v2 v3 e n t wr C0 x0 C1 x1 w1) (s : Same w1 w2) : S8q w v1 v2 v3 e n t wr C0 x0 C1 x1 w2 := by
  obtain ⟨⟨h0, h1, h2, h3, h4, h5⟩, h6, h7, hs⟩ := h
  exact ⟨⟨s.cell h0, s.cell h1, s.cell h2, s.cell h3, s.cell h4, s.cell h5⟩, s.cell h6, s.cell h7, hs.trans s⟩
set_option maxHeartbeats 12800000 in
set_option maxRecDepth 100000 in
theorem good (w : World) (s : Site) (A1 o1 cap1 A2 o2 cap2 : Nat) (ao3 : Option Addr) (cap3 : Nat) (h : SiteAt w (.agg #[.slice (some ⟨A1, o1, none⟩) s.ps.length cap1, .slice (some ⟨A2, o2, none⟩) s.ps.length cap2, .slice ao3 s.ws.length cap3, .int .i64 s.e, .int .i64 s.n, .int .i64 s.t]) s) (hf : fewB s = true) (hs : siteB s = true)
    (hc1 : ∀ i, i < s.ps.length → w.cell? ⟨A1, o1 + i * 2, none⟩ = some (.int .i64 (s.ps.getD i ⟨0, 0⟩).x) ∧ w.cell? ⟨A1, o1 + i * 2 + 1, none⟩ = some (.int .i64 (s.ps.getD i ⟨0, 0⟩).y))
    (hc2 : ∀ i, i < s.ps.length → w.cell? ⟨A2, o2 + i, none⟩ = some (.int .i64 (s.zs.getD i 0))) :
    Calls Try.prog 10 #[(.agg #[.slice (some ⟨A1, o1, none⟩) s.ps.length cap1, .slice (some ⟨A2, o2, none⟩) s.ps.length cap2, .slice ao3 s.ws.length cap3, .int .i64 s.e, .int .i64 s.n, .int .i64 s.t])] w fun e w' => e = .returned (.bool true) ∧ Same w w' := by
  have hg := good_of hs
  have l2 := hg.n2
  have l1 := hg.n32
  have HAT := Lib.hid (fun (w1 : World) (h : Same (boxS w (.slice (some ⟨A1, o1, none⟩) s.ps.length cap1) (.slice (some ⟨A2, o2, none⟩) s.ps.length cap2) (.slice ao3 s.ws.length cap3) s.e s.n s.t) w1) => boxS_at h)
  have HAW := Lib.hid (awake_any (boxS w (.slice (some ⟨A1, o1, none⟩) s.ps.length cap1) (.slice (some ⟨A2, o2, none⟩) s.ps.length cap2) (.slice ao3 s.ws.length cap3) s.e s.n s.t))
  have hfew := fun (w1 : World) (k : Same w w1) => few_any w1 _ s (h.same k)
  rw [hf] at hfew
  have HFEW := Lib.hid hfew; clear hfew hf
  have HTB := Lib.hid (fun (w1 : World) (k : Same w w1) => table_in w1 _ s (h.same k) hs)
  have HH := Lib.hid (fun (b : Nat) (hb : b < s.ps.length) (w1 : World) (k : Same w w1) => (show Calls Try.prog 30 #[(.agg #[.slice (some ⟨A1, o1, none⟩) s.ps.length cap1, .slice (some ⟨A2, o2, none⟩) s.ps.length cap2, .slice ao3 s.ws.length cap3, .int .i64 s.e, .int .i64 s.n, .int .i64 s.t]), .int .i64 b] w1 (HearP w1 (heard s b) 0) by
    have := hears_any w1 _ s (h.same k) (b : Int)
    rw [heardL_eq s b hs hb] at this
    exact this))
  have HBW := Lib.hid (fun (a b : Nat) (ha : a < s.ps.length) (hb : b < s.ps.length) (w1 : World) (k : Same w w1) => (show Calls Try.prog 20 #[(.agg #[.slice (some ⟨A1, o1, none⟩) s.ps.length cap1, .slice (some ⟨A2, o2, none⟩) s.ps.length cap2, .slice ao3 s.ws.length cap3, .int .i64 s.e, .int .i64 s.n, .int .i64 s.t]), .int .i64 a, .int .i64 b] w1 fun e w' => e = .returned (.tuple #[.int .i64 (betS s a b), .int .i64 0]) ∧ Same w1 w' by
    have := between_api w1 _ s (h.same k) (a : Int) (b : Int)
    rw [betweenS_eq s a b hs ha hb] at this
    exact this))
  have HAS := Lib.hid (fun (a b : Nat) (ha : a < s.ps.length) (hb : b < s.ps.length) => (show ∃ Q, (a ≠ b → Q = betS s a b) ∧ ∀ w1, Same w w1 → Calls Try.prog 18 #[(.agg #[.slice (some ⟨A1, o1, none⟩) s.ps.length cap1, .slice (some ⟨A2, o2, none⟩) s.ps.length cap2, .slice ao3 s.ws.length cap3, .int .i64 s.e, .int .i64 s.n, .int .i64 s.t]), .agg #[.int .i64 (s.ps.getD a ⟨0, 0⟩).x, .int .i64 (s.ps.getD a ⟨0, 0⟩).y], .int .i64 (s.zs.getD a 0), .agg #[.int .i64 (s.ps.getD b ⟨0, 0⟩).x, .int .i64 (s.ps.getD b ⟨0, 0⟩).y]] w1 fun e w' => e = .returned (.tuple #[.int .i64 Q, .int .i64 0]) ∧ Same w1 w' by
    obtain ⟨g1, g2⟩ := atS_eq s a b hs ha hb
    refine ⟨_, g2, fun w1 k => ?_⟩
    have := at_any w1 _ s (h.same k) (s.ps.getD a ⟨0, 0⟩).x (s.ps.getD a ⟨0, 0⟩).y (s.zs.getD a 0) (s.ps.getD b ⟨0, 0⟩).x (s.ps.getD b ⟨0, 0⟩).y
    rw [g1] at this
    exact this))
  have HNR := Lib.hid (fun (b : Nat) (hb : b < s.ps.length) => (show ∃ k : Nat, k ≤ b ∧ (s.ps.getD k ⟨0, 0⟩).x = (s.ps.getD b ⟨0, 0⟩).x ∧ (s.ps.getD k ⟨0, 0⟩).y = (s.ps.getD b ⟨0, 0⟩).y ∧ ∀ w1, Same w w1 → Calls Try.prog 28 #[(.agg #[.slice (some ⟨A1, o1, none⟩) s.ps.length cap1, .slice (some ⟨A2, o2, none⟩) s.ps.length cap2, .slice ao3 s.ws.length cap3, .int .i64 s.e, .int .i64 s.n, .int .i64 s.t]), .agg #[.int .i64 (s.ps.getD b ⟨0, 0⟩).x, .int .i64 (s.ps.getD b ⟨0, 0⟩).y]] w1 fun e w' => e = .returned (.tuple #[.int .i64 k, .int .i64 0]) ∧ Same w1 w' by
    obtain ⟨k, g1, g2, g3, g4⟩ := near_node s b hs hb
    refine ⟨k, g2, g3, g4, fun w1 hk => ?_⟩
    have := nearest_any w1 _ s (h.same hk) (s.ps.getD b ⟨0, 0⟩).x (s.ps.getD b ⟨0, 0⟩).y
    rw [g1] at this
    exact this))
  have HC1 := Lib.hid hc1; clear hc1
  have HC2 := Lib.hid hc2; clear hc2
  have HGD := Lib.hid hg
  clear h hs hg
  go_enter Try.func10, Try.ntmps10
  go_wp2_with (first
    | (go_at_call 11; (with_reducible refine HAW.out.mono ?_); rintro e w1 ⟨rfl, hw⟩; have hb := Lib.hid hw; obtain ⟨z1, z2, z3, z4, z5, z6, hs⟩ := HAT.out _ hw; clear hw)
    | (go_at_call 17; (with_reducible refine (HFEW.out _ hs).mono ?_); rintro e w2 ⟨rfl, hw⟩; have hb' := Lib.hid (hb.out.trans hw); clear hb hw hs z1 z2 z3 z4 z5 z6; have hb := hb'; clear hb'; obtain ⟨z1, z2, z3, z4, z5, z6, hs⟩ := HAT.out _ hb.out)
    | (go_at_call 22; (with_reducible refine (HTB.out _ hs).mono ?_); rintro e w3 ⟨T, capT, rfl, hT, hw⟩; have HT := Lib.hid hT; have hb' := Lib.hid (hb.out.trans hw); clear hT hb hw hs z1 z2 z3 z4 z5 z6; have hb := hb'; clear hb'; obtain ⟨z1, z2, z3, z4, z5, z6, hs⟩ := HAT.out _ hb.out))
  clear z1 z2 z3 z4 z5 z6 hs
  go_loopw [57] (fun i wr => ∃ k : Nat, k ≤ s.ps.length ∧ i = .int .i64 k ∧ Same w3 wr) (fun i _ => s.ps.length - (intOf i).toNat)
  case atStart => exact ⟨0, Nat.zero_le _, rfl, Same.refl _⟩
  case round =>
    obtain ⟨b, hbn, rfl, hS⟩ := hrel
    obtain ⟨z1, z2, z3, z4, z5, z6, hs⟩ := HAT.out _ (hb.out.trans hS)
    by_cases hlt : b < s.ps.length
    · have HHB := Lib.hid (HH.out b hlt)
      have HL := Lib.hid (heard_len s b l1)
      have HSRT := Lib.hid (fun (w1 : World) (V : Value) (h : Ints w1 V (heard s b)) => sorted_any w1 V _ h HL.out (heard_sorted s b))
      have HCS := Lib.hid (fun (w1 : World) (V : Value) (h : Ints w1 V (heard s b)) => contains_any w1 V _ h HL.out (b : Int) false (heard_self s b hlt HGD.out))
      go_wp2_with (first
        | (go_at_call 30; (with_reducible refine (HHB.out _ hs).mono ?_); rintro e w4 ⟨V, rfl, hV, hw⟩; have HV := Lib.hid hV; have hS' := hS.trans hw; clear hV hw hs z1 z2 z3 z4 z5 z6 hS; have hS := hS'; clear hS'; obtain ⟨z1, z2, z3, z4, z5, z6, hs⟩ := HAT.out _ (hb.out.trans hS))
        | (go_at_call 36; (with_reducible refine (HSRT.out _ _ HV.out).mono ?_); rintro e w5 ⟨rfl, hw⟩; have HV' := Lib.hid (HV.out.same hw); clear HV; have HV := HV'; clear HV'; have hS' := hS.trans hw; clear hw hs z1 z2 z3 z4 z5 z6 hS; have hS := hS'; clear hS'; obtain ⟨z1, z2, z3, z4, z5, z6, hs⟩ := HAT.out _ (hb.out.trans hS))
        | (go_at_call 37; (with_reducible refine (HCS.out _ _ HV.out).mono ?_); rintro e w6 ⟨rfl, hw⟩; have HV' := Lib.hid (HV.out.same hw); clear HV; have HV := HV'; clear HV'; have hS' := hS.trans hw; clear hw hs z1 z2 z3 z4 z5 z6 hS; have hS := hS'; clear hS'; obtain ⟨z1, z2, z3, z4, z5, z6, hs⟩ := HAT.out _ (hb.out.trans hS)))
      clear z1 z2 z3 z4 z5 z6 hs
      have HS6 := Lib.hid hS; clear hS
      go_loopw [81] (fun i wr => ∃ k : Nat, k ≤ s.ps.length ∧ i = .int .i64 k ∧ Same w6 wr) (fun i _ => s.ps.length - (intOf i).toNat)
      case atStart => exact ⟨0, Nat.zero_le _, rfl, Same.refl _⟩
      case round =>
        obtain ⟨a, han, rfl, hI⟩ := hrel
        obtain ⟨z1, z2, z3, z4, z5, z6, hs⟩ := HAT.out _ (hb.out.trans (HS6.out.trans hI))
        by_cases hla : a < s.ps.length
        · obtain ⟨R, oR, cR, r1, r2⟩ := HT.out a hla
          have r3 := r2 b hlt
          obtain ⟨Q, hQ, hAt⟩ := HAS.out a b hla hlt
          obtain ⟨g1, g2⟩ := HC1.out a hla
          obtain ⟨g4, g5⟩ := HC1.out b hlt
          have g3 := HC2.out a hla
          have hPw := pw_bet HGD.out (a := a) (b := b) hla
          have hBT := HBW.out a b hla hlt
          have hmem := heard_mem s a b hla
          obtain ⟨u, hu⟩ : ∃ u, decide (s.t * s.n ≤ 1000 * betS s a b) = u := ⟨_, rfl⟩
          have HCT := Lib.hid (fun (w1 : World) (V : Value) (h : Ints w1 V (heard s b)) => contains_any w1 V _ h HL.out (a : Int) u (hmem.trans hu))
          have hdiag : a = b → betS s a b = 0 := fun e => by unfold betS; rw [if_pos e]
          generalize betS s a b = P at *
          generalize (s.ps.getD a ⟨0, 0⟩).x = xa at *
          generalize (s.ps.getD a ⟨0, 0⟩).y = ya at *
          generalize (s.ps.getD b ⟨0, 0⟩).x = xb at *
          generalize (s.ps.getD b ⟨0, 0⟩).y = yb at *
          generalize s.zs.getD a 0 = za at *
          have HBT := Lib.hid hBT; clear hBT
          have HATC := Lib.hid hAt; clear hAt
          have G := Lib.hid (And.intro g1 (And.intro g2 (And.intro g3 (And.intro g4 g5)))); clear g1 g2 g3 g4 g5
          have RR := Lib.hid (And.intro r1 r3); clear r1 r2 r3
          have hbn' : (b : Int) < (s.ps.length : Int) := by omega
          have han' : (a : Int) < (s.ps.length : Int) := by omega
          have p1 : 0 ≤ P := hPw.1
          have p2 : P ≤ 68719476736 := hPw.2
          clear hPw hmem
          have HQ := Lib.hid hQ
          have HDG := Lib.hid hdiag
          clear hQ hdiag
          have q1 : 0 ≤ s.t * s.n := Int.mul_nonneg (by have := HGD.out.t; omega) (by have := HGD.out.n; omega)
          have q2 : s.t * s.n ≤ 100000 * 68719476736 := Int.mul_le_mul (HGD.out.t).2 (HGD.out.n).2 (by have := HGD.out.n; omega) (by omega)
          have HI := Lib.hid hI; clear hI
          go_wp2_with (go_at_call 20; (with_reducible refine (HBT.out _ hs).mono ?_); rintro e w7 ⟨rfl, hw⟩; have HI' := Lib.hid (HI.out.trans hw); clear HI hw hs z1 z2 z3 z4 z5 z6; have HI := HI'; clear HI'; obtain ⟨z1, z2, z3, z4, z5, z6, hs⟩ := HAT.out _ (hb.out.trans (HS6.out.trans HI.out)))
          have hst : S12 w w.heap.size (.slice (some ⟨A1, o1, none⟩) s.ps.length cap1) (.slice (some ⟨A2, o2, none⟩) s.ps.length cap2) (.slice ao3 s.ws.length cap3) (.int .i64 s.e) (.int .i64 s.n) (.int .i64 s.t) ⟨A1, o1 + a * 2, none⟩ (.int .i64 xa) ⟨A1, o1 + a * 2 + 1, none⟩ (.int .i64 ya) ⟨A2, o2 + a, none⟩ (.int .i64 za) ⟨A1, o1 + b * 2, none⟩ (.int .i64 xb) ⟨A1, o1 + b * 2 + 1, none⟩ (.int .i64 yb) w7 := ⟨z1, z2, z3, z4, z5, z6, hs.cell G.out.1, hs.cell G.out.2.1, hs.cell G.out.2.2.1, hs.cell G.out.2.2.2.1, hs.cell G.out.2.2.2.2, hs⟩
          have HST := Lib.hid hst; clear hst
          go_region_held3 (fun w1 => S12 w w.heap.size (.slice (some ⟨A1, o1, none⟩) s.ps.length cap1) (.slice (some ⟨A2, o2, none⟩) s.ps.length cap2) (.slice ao3 s.ws.length cap3) (.int .i64 s.e) (.int .i64 s.n) (.int .i64 s.t) ⟨A1, o1 + a * 2, none⟩ (.int .i64 xa) ⟨A1, o1 + a * 2 + 1, none⟩ (.int .i64 ya) ⟨A2, o2 + a, none⟩ (.int .i64 za) ⟨A1, o1 + b * 2, none⟩ (.int .i64 xb) ⟨A1, o1 + b * 2 + 1, none⟩ (.int .i64 yb) w1)
            (first | exact keep12 HST.out ((Same.refl _).drew) | exact keep12 (by assumption) hw8 | assumption)
            (first | (go_at_call 18; (with_reducible refine (HATC.out _ (by exact (by assumption : S12 w w.heap.size (.slice (some ⟨A1, o1, none⟩) s.ps.length cap1) (.slice (some ⟨A2, o2, none⟩) s.ps.length cap2) (.slice ao3 s.ws.length cap3) (.int .i64 s.e) (.int .i64 s.n) (.int .i64 s.t) ⟨A1, o1 + a * 2, none⟩ (.int .i64 xa) ⟨A1, o1 + a * 2 + 1, none⟩ (.int .i64 ya) ⟨A2, o2 + a, none⟩ (.int .i64 za) ⟨A1, o1 + b * 2, none⟩ (.int .i64 xb) ⟨A1, o1 + b * 2 + 1, none⟩ (.int .i64 yb) _).2.2.2.2.2.2.2.2.2.2.2)).mono ?_); rintro e w8 ⟨rfl, hw8⟩) | fail)
          have hI8 := HI.out.trans ((Same.refl _).drew.trans hw8)
          obtain ⟨y1, y2, y3, y4, y5, y6, hs8⟩ := HAT.out _ (hb.out.trans (HS6.out.trans hI8))
          have hS3 := HS6.out.trans hI8
          have hst : S8q w (.slice (some ⟨A1, o1, none⟩) s.ps.length cap1) (.slice (some ⟨A2, o2, none⟩) s.ps.length cap2) (.slice ao3 s.ws.length cap3) s.e s.n s.t w6 ⟨T, a, none⟩ (.slice (some ⟨R, oR, none⟩) s.ps.length cR) ⟨R, oR + b, none⟩ (.int .i64 P) w8 := ⟨⟨y1, y2, y3, y4, y5, y6⟩, hS3.cell RR.out.1, hS3.cell RR.out.2, hI8⟩
          have HST8 := Lib.hid hst
          clear hst y1 y2 y3 y4 y5 y6 hs8 hS3 hI8 z1 z2 z3 z4 z5 z6 hs hw8
          have a0 : (0 : Int) ≤ (a : Int) := by omega
          have b0 : (0 : Int) ≤ (b : Int) := by omega
          by_cases hab : a = b
          · obtain rfl := hab.symm
            have hP0 := HDG.out rfl
            subst hP0
            have q3 : 0 < s.t * s.n := Int.mul_pos (by have := HGD.out.t; omega) (by have := HGD.out.n; omega)
            have hq0 : decide (s.t * s.n ≤ 0) = false := decide_eq_false (by omega)
            obtain rfl : u = false := by rw [← hu]; exact decide_eq_false (by omega)
            clear hu
            have hw0 : IntKind.i64.wrap 0 = 0 := by decide
            have hw1 : IntKind.i64.wrap (s.t * s.n) = s.t * s.n := wrap_in _ ⟨by omega, by omega⟩
            go_wp2
            refine wp_region_noPanic ?_
            refine wp_region_held_drew (S := (fun w1 => S8q w (.slice (some ⟨A1, o1, none⟩) s.ps.length cap1) (.slice (some ⟨A2, o2, none⟩) s.ps.length cap2) (.slice ao3 s.ws.length cap3) s.e s.n s.t w6 ⟨T, b, none⟩ (.slice (some ⟨R, oR, none⟩) s.ps.length cR) ⟨R, oR + b, none⟩ (.int .i64 0) w1)) (by kernel_rfl) ?_ (fun hHeld => ?_)
            · exact keep8q HST8.out ((Same.refl _).drew)
            refine wpAnyH_take (i := 0) (oi := { dst := some 111, op := Go.Op.move (Go.Operand.tmp 10), type := 38, pos := "law.go:193", after := #[], guard := none }) (v := ?_) rfl (by kernel_rfl) (by kernel_rfl) (by kernel_rfl) (fun _ _ _ h => h) (Or.inl ⟨by rfl, ?_⟩) (by assumption) ?_
            rotate_left
            · intro w' hSw; (try dsimp only at hSw); go_simp; try with_reducible rfl
            try simp only [Act.put, List.setIfInBounds_toArray, List.set_cons_zero, List.set_cons_succ]
            refine wpAnyH_take (i := 1) (oi := { dst := some 112, op := Go.Op.binOp Go.BinOp.neq 38 (Go.Operand.tmp 111) (Go.Operand.const (Go.Value.int Go.IntKind.i64 0)) 38, type := 4, pos := "law.go:193", after := #[{ on := 0, ground := Go.Ground.data }], guard := none }) (v := ?_) rfl (by kernel_rfl) (by kernel_rfl) (by kernel_rfl) (fun _ _ _ h => h) (Or.inl ⟨by rfl, ?_⟩) (by assumption) ?_
            rotate_left
            · intro w' hSw; (try dsimp only at hSw); go_simp; try with_reducible rfl
            try simp only [Act.put, List.setIfInBounds_toArray, List.set_cons_zero, List.set_cons_succ]
            refine wpAnyH_take (i := 2) (oi := { dst := some 113, op := Go.Op.move (Go.Operand.tmp 112), type := 4, pos := "law.go:193", after := #[{ on := 1, ground := Go.Ground.data }], guard := none }) (v := ?_) rfl (by kernel_rfl) (by kernel_rfl) (by kernel_rfl) (fun _ _ _ h => h) (Or.inl ⟨by rfl, ?_⟩) (by assumption) ?_
            rotate_left
            · intro w' hSw; (try dsimp only at hSw); go_simp; try with_reducible rfl
            try simp only [Act.put, List.setIfInBounds_toArray, List.set_cons_zero, List.set_cons_succ]
            refine wpAnyH_take (i := 3) (oi := { dst := some 114, op := Go.Op.move (Go.Operand.tmp 12), type := 38, pos := "law.go:193", after := #[{ on := 2, ground := Go.Ground.guard }], guard := some (2, false) }) (v := ?_) rfl (by kernel_rfl) (by kernel_rfl) (by kernel_rfl) (fun _ _ _ h => h) (Or.inl ⟨by rfl, ?_⟩) (by assumption) ?_
            rotate_left
            · intro w' hSw; (try dsimp only at hSw); go_simp; try with_reducible rfl
            try simp only [Act.put, List.setIfInBounds_toArray, List.set_cons_zero, List.set_cons_succ]
            refine wpAnyH_take (i := 4) (oi := { dst := some 115, op := Go.Op.binOp Go.BinOp.neq 38 (Go.Operand.tmp 114) (Go.Operand.const (Go.Value.int Go.IntKind.i64 0)) 38, type := 4, pos := "law.go:193", after := #[{ on := 3, ground := Go.Ground.data }, { on := 2, ground := Go.Ground.guard }], guard := some (2, false) }) (v := ?_) rfl (by kernel_rfl) (by kernel_rfl) (by kernel_rfl) (fun _ _ _ h => h) (Or.inl ⟨by rfl, ?_⟩) (by assumption) ?_
            rotate_left
            · intro w' hSw; (try dsimp only at hSw); go_simp; try with_reducible rfl
            try simp only [Act.put, List.setIfInBounds_toArray, List.set_cons_zero, List.set_cons_succ]
            refine wpAnyH_take (i := 5) (oi := { dst := some 116, op := Go.Op.pick (Go.Operand.tmp 113) (Go.Operand.const (Go.Value.bool true)) (Go.Operand.tmp 115), type := 4, pos := "law.go:193", after := #[{ on := 2, ground := Go.Ground.data }, { on := 4, ground := Go.Ground.data }], guard := none }) (v := ?_) rfl (by kernel_rfl) (by kernel_rfl) (by kernel_rfl) (fun _ _ _ h => h) (Or.inl ⟨by rfl, ?_⟩) (by assumption) ?_
            rotate_left
            · intro w' hSw; (try dsimp only at hSw); go_simp; try with_reducible rfl
            try simp only [Act.put, List.setIfInBounds_toArray, List.set_cons_zero, List.set_cons_succ]
            refine wpAnyH_take (i := 6) (oi := { dst := some 117, op := Go.Op.move (Go.Operand.tmp 116), type := 4, pos := "law.go:193", after := #[{ on := 5, ground := Go.Ground.data }, { on := 2, ground := Go.Ground.chain }], guard := none }) (v := ?_) rfl (by kernel_rfl) (by kernel_rfl) (by kernel_rfl) (fun _ _ _ h => h) (Or.inl ⟨by rfl, ?_⟩) (by assumption) ?_
            rotate_left
            · intro w' hSw; (try dsimp only at hSw); go_simp; try with_reducible rfl
            try simp only [Act.put, List.setIfInBounds_toArray, List.set_cons_zero, List.set_cons_succ]
            refine wpAnyH_take (i := 7) (oi := { dst := some 118, op := Go.Op.move (Go.Operand.tmp 3), type := 42, pos := "law.go:193", after := #[{ on := 6, ground := Go.Ground.guard }], guard := some (6, false) }) (v := ?_) rfl (by kernel_rfl) (by kernel_rfl) (by kernel_rfl) (fun _ _ _ h => h) (Or.inl ⟨by rfl, ?_⟩) (by assumption) ?_
            rotate_left
            · intro w' hSw; (try dsimp only at hSw); go_simp; try with_reducible rfl
            try simp only [Act.put, List.setIfInBounds_toArray, List.set_cons_zero, List.set_cons_succ]
            refine wpAnyH_take (i := 8) (oi := { dst := some 119, op := Go.Op.move (Go.Operand.tmp 8), type := 3, pos := "law.go:193", after := #[{ on := 6, ground := Go.Ground.guard }], guard := some (6, false) }) (v := ?_) rfl (by kernel_rfl) (by kernel_rfl) (by kernel_rfl) (fun _ _ _ h => h) (Or.inl ⟨by rfl, ?_⟩) (by assumption) ?_
            rotate_left
            · intro w' hSw; (try dsimp only at hSw); go_simp; try with_reducible rfl
            try simp only [Act.put, List.setIfInBounds_toArray, List.set_cons_zero, List.set_cons_succ]
            refine wpAnyH_take (i := 9) (oi := { dst := some 120, op := Go.Op.indexAddr 42 (Go.Operand.tmp 118) (Go.Operand.tmp 119), type := 0, pos := "law.go:193", after := #[{ on := 7, ground := Go.Ground.data }, { on := 8, ground := Go.Ground.data }, { on := 6, ground := Go.Ground.guard }], guard := some (6, false) }) (v := ?_) rfl (by kernel_rfl) (by kernel_rfl) (by kernel_rfl) (fun _ _ _ h => h) (Or.inl ⟨by rfl, ?_⟩) (by assumption) ?_
            rotate_left
            · intro w' hSw; (try dsimp only at hSw); go_simp; try with_reducible rfl
            try simp only [Act.put, List.setIfInBounds_toArray, List.set_cons_zero, List.set_cons_succ]
            refine wpAnyH_take (i := 10) (oi := { dst := some 121, op := Go.Op.load 31 (Go.Operand.tmp 120), type := 31, pos := "law.go:193", after := #[{ on := 9, ground := Go.Ground.data }, { on := 6, ground := Go.Ground.guard }], guard := some (6, false) }) (v := ?_) rfl (by kernel_rfl) (by kernel_rfl) (by kernel_rfl) (fun _ _ _ h => h) (Or.inl ⟨by rfl, ?_⟩) (by assumption) ?_
            rotate_left
            · intro w' hSw; (try dsimp only at hSw); go_simp; try with_reducible rfl
            try simp only [Act.put, List.setIfInBounds_toArray, List.set_cons_zero, List.set_cons_succ]
            refine wpAnyH_take (i := 11) (oi := { dst := some 122, op := Go.Op.call { callee := Go.Callee.builtin Go.Builtin.len, args := #[Go.Operand.tmp 121], argTypes := #[31] }, type := 3, pos := "law.go:193", after := #[{ on := 10, ground := Go.Ground.data }, { on := 6, ground := Go.Ground.guard }], guard := some (6, false) }) (v := ?_) rfl (by kernel_rfl) (by kernel_rfl) (by kernel_rfl) (fun _ _ _ h => h) (Or.inl ⟨by rfl, ?_⟩) (by assumption) ?_
            rotate_left
            · intro w' hSw; (try dsimp only at hSw); go_simp; try with_reducible rfl
            try simp only [Act.put, List.setIfInBounds_toArray, List.set_cons_zero, List.set_cons_succ]
            refine wpAnyH_take (i := 12) (oi := { dst := some 123, op := Go.Op.fieldAddr 34 (Go.Operand.tmp 1) 0, type := 0, pos := "law.go:193", after := #[{ on := 6, ground := Go.Ground.guard }], guard := some (6, false) }) (v := ?_) rfl (by kernel_rfl) (by kernel_rfl) (by kernel_rfl) (fun _ _ _ h => h) (Or.inl ⟨by rfl, ?_⟩) (by assumption) ?_
            rotate_left
            · intro w' hSw; (try dsimp only at hSw); go_simp; try with_reducible rfl
            try simp only [Act.put, List.setIfInBounds_toArray, List.set_cons_zero, List.set_cons_succ]
            refine wpAnyH_take (i := 13) (oi := { dst := some 124, op := Go.Op.load 30 (Go.Operand.tmp 123), type := 30, pos := "law.go:193", after := #[{ on := 12, ground := Go.Ground.data }, { on := 6, ground := Go.Ground.guard }], guard := some (6, false) }) (v := ?_) rfl (by kernel_rfl) (by kernel_rfl) (by kernel_rfl) (fun _ _ _ h => h) (Or.inl ⟨by rfl, ?_⟩) (by assumption) ?_
            rotate_left
            · intro w' hSw; (try dsimp only at hSw); go_simp; try with_reducible rfl
            try simp only [Act.put, List.setIfInBounds_toArray, List.set_cons_zero, List.set_cons_succ]
            refine wpAnyH_take (i := 14) (oi := { dst := some 125, op := Go.Op.call { callee := Go.Callee.builtin Go.Builtin.len, args := #[Go.Operand.tmp 124], argTypes := #[30] }, type := 3, pos := "law.go:193", after := #[{ on := 13, ground := Go.Ground.data }, { on := 6, ground := Go.Ground.guard }], guard := some (6, false) }) (v := ?_) rfl (by kernel_rfl) (by kernel_rfl) (by kernel_rfl) (fun _ _ _ h => h) (Or.inl ⟨by rfl, ?_⟩) (by assumption) ?_
            rotate_left
            · intro w' hSw; (try dsimp only at hSw); go_simp; try with_reducible rfl
            try simp only [Act.put, List.setIfInBounds_toArray, List.set_cons_zero, List.set_cons_succ]
            refine wpAnyH_take (i := 15) (oi := { dst := some 126, op := Go.Op.binOp Go.BinOp.neq 3 (Go.Operand.tmp 122) (Go.Operand.tmp 125) 3, type := 4, pos := "law.go:193", after := #[{ on := 11, ground := Go.Ground.data }, { on := 14, ground := Go.Ground.data }, { on := 6, ground := Go.Ground.guard }], guard := some (6, false) }) (v := ?_) rfl (by kernel_rfl) (by kernel_rfl) (by kernel_rfl) (fun _ _ _ h => h) (Or.inl ⟨by rfl, ?_⟩) (by assumption) ?_
            rotate_left
            · intro w' hSw; (try dsimp only at hSw); go_simp; try with_reducible rfl
            try simp only [Act.put, List.setIfInBounds_toArray, List.set_cons_zero, List.set_cons_succ]
            refine wpAnyH_take (i := 16) (oi := { dst := some 127, op := Go.Op.pick (Go.Operand.tmp 117) (Go.Operand.const (Go.Value.bool true)) (Go.Operand.tmp 126), type := 4, pos := "law.go:193", after := #[{ on := 6, ground := Go.Ground.data }, { on := 15, ground := Go.Ground.data }], guard := none }) (v := ?_) rfl (by kernel_rfl) (by kernel_rfl) (by kernel_rfl) (fun _ _ _ h => h) (Or.inl ⟨by rfl, ?_⟩) (by assumption) ?_
            rotate_left
            · intro w' hSw; (try dsimp only at hSw); go_simp; try with_reducible rfl
            try simp only [Act.put, List.setIfInBounds_toArray, List.set_cons_zero, List.set_cons_succ]
            refine wpAnyH_take (i := 17) (oi := { dst := some 128, op := Go.Op.move (Go.Operand.tmp 127), type := 4, pos := "law.go:193", after := #[{ on := 16, ground := Go.Ground.data }, { on := 6, ground := Go.Ground.chain }], guard := none }) (v := ?_) rfl (by kernel_rfl) (by kernel_rfl) (by kernel_rfl) (fun _ _ _ h => h) (Or.inl ⟨by rfl, ?_⟩) (by assumption) ?_
            rotate_left
            · intro w' hSw; (try dsimp only at hSw); go_simp; try with_reducible rfl
            try simp only [Act.put, List.setIfInBounds_toArray, List.set_cons_zero, List.set_cons_succ]
            refine wpAnyH_take (i := 18) (oi := { dst := some 129, op := Go.Op.move (Go.Operand.tmp 3), type := 42, pos := "law.go:193", after := #[{ on := 17, ground := Go.Ground.guard }], guard := some (17, false) }) (v := ?_) rfl (by kernel_rfl) (by kernel_rfl) (by kernel_rfl) (fun _ _ _ h => h) (Or.inl ⟨by rfl, ?_⟩) (by assumption) ?_
            rotate_left
            · intro w' hSw; (try dsimp only at hSw); go_simp; try with_reducible rfl
            try simp only [Act.put, List.setIfInBounds_toArray, List.set_cons_zero, List.set_cons_succ]
            refine wpAnyH_take (i := 19) (oi := { dst := some 130, op := Go.Op.move (Go.Operand.tmp 8), type := 3, pos := "law.go:193", after := #[{ on := 17, ground := Go.Ground.guard }], guard := some (17, false) }) (v := ?_) rfl (by kernel_rfl) (by kernel_rfl) (by kernel_rfl) (fun _ _ _ h => h) (Or.inl ⟨by rfl, ?_⟩) (by assumption) ?_
            rotate_left
            · intro w' hSw; (try dsimp only at hSw); go_simp; try with_reducible rfl
            try simp only [Act.put, List.setIfInBounds_toArray, List.set_cons_zero, List.set_cons_succ]
            refine wpAnyH_take (i := 20) (oi := { dst := some 131, op := Go.Op.indexAddr 42 (Go.Operand.tmp 129) (Go.Operand.tmp 130), type := 0, pos := "law.go:193", after := #[{ on := 18, ground := Go.Ground.data }, { on := 19, ground := Go.Ground.data }, { on := 17, ground := Go.Ground.guard }], guard := some (17, false) }) (v := ?_) rfl (by kernel_rfl) (by kernel_rfl) (by kernel_rfl) (fun _ _ _ h => h) (Or.inl ⟨by rfl, ?_⟩) (by assumption) ?_
            rotate_left
            · intro w' hSw; (try dsimp only at hSw); go_simp; try with_reducible rfl
            try simp only [Act.put, List.setIfInBounds_toArray, List.set_cons_zero, List.set_cons_succ]
            refine wpAnyH_take (i := 21) (oi := { dst := some 132, op := Go.Op.load 31 (Go.Operand.tmp 131), type := 31, pos := "law.go:193", after := #[{ on := 20, ground := Go.Ground.data }, { on := 17, ground := Go.Ground.guard }], guard := some (17, false) }) (v := ?_) rfl (by kernel_rfl) (by kernel_rfl) (by kernel_rfl) (fun _ _ _ h => h) (Or.inl ⟨by rfl, ?_⟩) (by assumption) ?_
            rotate_left
            · intro w' hSw; (try dsimp only at hSw); go_simp; try with_reducible rfl
            try simp only [Act.put, List.setIfInBounds_toArray, List.set_cons_zero, List.set_cons_succ]
            refine wpAnyH_take (i := 22) (oi := { dst := some 133, op := Go.Op.move (Go.Operand.tmp 5), type := 3, pos := "law.go:193", after := #[{ on := 17, ground := Go.Ground.guard }], guard := some (17, false) }) (v := ?_) rfl (by kernel_rfl) (by kernel_rfl) (by kernel_rfl) (fun _ _ _ h => h) (Or.inl ⟨by rfl, ?_⟩) (by assumption) ?_
            rotate_left
            · intro w' hSw; (try dsimp only at hSw); go_simp; try with_reducible rfl
            try simp only [Act.put, List.setIfInBounds_toArray, List.set_cons_zero, List.set_cons_succ]
            refine wpAnyH_take (i := 23) (oi := { dst := some 134, op := Go.Op.indexAddr 31 (Go.Operand.tmp 132) (Go.Operand.tmp 133), type := 0, pos := "law.go:193", after := #[{ on := 21, ground := Go.Ground.data }, { on := 22, ground := Go.Ground.data }, { on := 17, ground := Go.Ground.guard }], guard := some (17, false) }) (v := ?_) rfl (by kernel_rfl) (by kernel_rfl) (by kernel_rfl) (fun _ _ _ h => h) (Or.inl ⟨by rfl, ?_⟩) (by assumption) ?_
            rotate_left
            · intro w' hSw; (try dsimp only at hSw); go_simp; try with_reducible rfl
            try simp only [Act.put, List.setIfInBounds_toArray, List.set_cons_zero, List.set_cons_succ]
            refine wpAnyH_take (i := 24) (oi := { dst := some 135, op := Go.Op.load 3 (Go.Operand.tmp 134), type := 3, pos := "law.go:193", after := #[{ on := 23, ground := Go.Ground.data }, { on := 17, ground := Go.Ground.guard }], guard := some (17, false) }) (v := ?_) rfl (by kernel_rfl) (by kernel_rfl) (by kernel_rfl) (fun _ _ _ h => h) (Or.inl ⟨by rfl, ?_⟩) (by assumption) ?_
            rotate_left
            · intro w' hSw; (try dsimp only at hSw); go_simp; try with_reducible rfl
            try simp only [Act.put, List.setIfInBounds_toArray, List.set_cons_zero, List.set_cons_succ]
            refine wpAnyH_take (i := 25) (oi := { dst := some 136, op := Go.Op.move (Go.Operand.tmp 9), type := 3, pos := "law.go:193", after := #[{ on := 17, ground := Go.Ground.guard }], guard := some (17, false) }) (v := ?_) rfl (by kernel_rfl) (by kernel_rfl) (by kernel_rfl) (fun _ _ _ h => h) (Or.inl ⟨by rfl, ?_⟩) (by assumption) ?_
            rotate_left
            · intro w' hSw; (try dsimp only at hSw); go_simp; try with_reducible rfl
            try simp only [Act.put, List.setIfInBounds_toArray, List.set_cons_zero, List.set_cons_succ]
            refine wpAnyH_take (i := 26) (oi := { dst := some 137, op := Go.Op.binOp Go.BinOp.neq 3 (Go.Operand.tmp 135) (Go.Operand.tmp 136) 3, type := 4, pos := "law.go:193", after := #[{ on := 24, ground := Go.Ground.data }, { on := 25, ground := Go.Ground.data }, { on := 17, ground := Go.Ground.guard }], guard := some (17, false) }) (v := ?_) rfl (by kernel_rfl) (by kernel_rfl) (by kernel_rfl) (fun _ _ _ h => h) (Or.inl ⟨by rfl, ?_⟩) (by assumption) ?_
            rotate_left
            · intro w' hSw; (try dsimp only at hSw); go_simp; try with_reducible rfl
            try simp only [Act.put, List.setIfInBounds_toArray, List.set_cons_zero, List.set_cons_succ]
            refine wpAnyH_take (i := 27) (oi := { dst := some 138, op := Go.Op.pick (Go.Operand.tmp 128) (Go.Operand.const (Go.Value.bool true)) (Go.Operand.tmp 137), type := 4, pos := "law.go:193", after := #[{ on := 17, ground := Go.Ground.data }, { on := 26, ground := Go.Ground.data }], guard := none }) (v := ?_) rfl (by kernel_rfl) (by kernel_rfl) (by kernel_rfl) (fun _ _ _ h => h) (Or.inl ⟨by rfl, ?_⟩) (by assumption) ?_
            rotate_left
            · intro w' hSw; (try dsimp only at hSw); go_simp; try with_reducible rfl
            try simp only [Act.put, List.setIfInBounds_toArray, List.set_cons_zero, List.set_cons_succ]
            refine wpAnyH_take (i := 28) (oi := { dst := some 139, op := Go.Op.move (Go.Operand.tmp 138), type := 4, pos := "law.go:193", after := #[{ on := 27, ground := Go.Ground.data }, { on := 17, ground := Go.Ground.chain }], guard := none }) (v := ?_) rfl (by kernel_rfl) (by kernel_rfl) (by kernel_rfl) (fun _ _ _ h => h) (Or.inl ⟨by rfl, ?_⟩) (by assumption) ?_
            rotate_left
            · intro w' hSw; (try dsimp only at hSw); go_simp; try with_reducible rfl
            try simp only [Act.put, List.setIfInBounds_toArray, List.set_cons_zero, List.set_cons_succ]
            refine wpAnyH_take (i := 29) (oi := { dst := some 140, op := Go.Op.move (Go.Operand.tmp 8), type := 3, pos := "law.go:193", after := #[{ on := 28, ground := Go.Ground.guard }], guard := some (28, false) }) (v := ?_) rfl (by kernel_rfl) (by kernel_rfl) (by kernel_rfl) (fun _ _ _ h => h) (Or.inl ⟨by rfl, ?_⟩) (by assumption) ?_
            rotate_left
            · intro w' hSw; (try dsimp only at hSw); go_simp; try with_reducible rfl
            try simp only [Act.put, List.setIfInBounds_toArray, List.set_cons_zero, List.set_cons_succ]
            refine wpAnyH_take (i := 30) (oi := { dst := some 141, op := Go.Op.move (Go.Operand.tmp 5), type := 3, pos := "law.go:193", after := #[{ on := 28, ground := Go.Ground.guard }], guard := some (28, false) }) (v := ?_) rfl (by kernel_rfl) (by kernel_rfl) (by kernel_rfl) (fun _ _ _ h => h) (Or.inl ⟨by rfl, ?_⟩) (by assumption) ?_
            rotate_left
            · intro w' hSw; (try dsimp only at hSw); go_simp; try with_reducible rfl
            try simp only [Act.put, List.setIfInBounds_toArray, List.set_cons_zero, List.set_cons_succ]
            refine wpAnyH_take (i := 31) (oi := { dst := some 142, op := Go.Op.binOp Go.BinOp.neq 3 (Go.Operand.tmp 140) (Go.Operand.tmp 141) 3, type := 4, pos := "law.go:193", after := #[{ on := 29, ground := Go.Ground.data }, { on := 30, ground := Go.Ground.data }, { on := 28, ground := Go.Ground.guard }], guard := some (28, false) }) (v := ?_) rfl (by kernel_rfl) (by kernel_rfl) (by kernel_rfl) (fun _ _ _ h => h) (Or.inl ⟨by rfl, ?_⟩) (by assumption) ?_
            rotate_left
            · intro w' hSw; (try dsimp only at hSw); go_simp; try with_reducible rfl
            try simp only [Act.put, List.setIfInBounds_toArray, List.set_cons_zero, List.set_cons_succ]
            refine wpAnyH_take (i := 32) (oi := { dst := some 143, op := Go.Op.move (Go.Operand.tmp 142), type := 4, pos := "law.go:193", after := #[{ on := 31, ground := Go.Ground.data }, { on := 28, ground := Go.Ground.chain }, { on := 28, ground := Go.Ground.guard }], guard := some (28, false) }) (v := ?_) rfl (by kernel_rfl) (by kernel_rfl) (by kernel_rfl) (fun _ _ _ h => h) (Or.inl ⟨by rfl, ?_⟩) (by assumption) ?_
            rotate_left
            · intro w' hSw; (try dsimp only at hSw); go_simp; try with_reducible rfl
            try simp only [Act.put, List.setIfInBounds_toArray, List.set_cons_zero, List.set_cons_succ]
            refine wpAnyH_take (i := 33) (oi := { dst := some 144, op := Go.Op.move (Go.Operand.tmp 9), type := 3, pos := "law.go:193", after := #[{ on := 32, ground := Go.Ground.guard }], guard := some (32, true) }) (v := undef) rfl (by kernel_rfl) (by kernel_rfl) (by kernel_rfl) (fun _ _ _ h => h) (Or.inr ⟨by rfl, rfl⟩) (by assumption) ?_
            try simp only [Act.put, List.setIfInBounds_toArray, List.set_cons_zero, List.set_cons_succ]
            refine wpAnyH_take (i := 34) (oi := { dst := some 145, op := Go.Op.move (Go.Operand.tmp 11), type := 3, pos := "law.go:193", after := #[{ on := 32, ground := Go.Ground.guard }], guard := some (32, true) }) (v := undef) rfl (by kernel_rfl) (by kernel_rfl) (by kernel_rfl) (fun _ _ _ h => h) (Or.inr ⟨by rfl, rfl⟩) (by assumption) ?_
            try simp only [Act.put, List.setIfInBounds_toArray, List.set_cons_zero, List.set_cons_succ]
            refine wpAnyH_take (i := 35) (oi := { dst := some 146, op := Go.Op.binOp Go.BinOp.neq 3 (Go.Operand.tmp 144) (Go.Operand.tmp 145) 3, type := 4, pos := "law.go:193", after := #[{ on := 33, ground := Go.Ground.data }, { on := 34, ground := Go.Ground.data }, { on := 32, ground := Go.Ground.guard }], guard := some (32, true) }) (v := undef) rfl (by kernel_rfl) (by kernel_rfl) (by kernel_rfl) (fun _ _ _ h => h) (Or.inr ⟨by rfl, rfl⟩) (by assumption) ?_
            try simp only [Act.put, List.setIfInBounds_toArray, List.set_cons_zero, List.set_cons_succ]
            refine wpAnyH_take (i := 36) (oi := { dst := some 147, op := Go.Op.pick (Go.Operand.tmp 143) (Go.Operand.tmp 146) (Go.Operand.const (Go.Value.bool false)), type := 4, pos := "law.go:193", after := #[{ on := 32, ground := Go.Ground.data }, { on := 35, ground := Go.Ground.data }, { on := 28, ground := Go.Ground.guard }], guard := some (28, false) }) (v := ?_) rfl (by kernel_rfl) (by kernel_rfl) (by kernel_rfl) (fun _ _ _ h => h) (Or.inl ⟨by rfl, ?_⟩) (by assumption) ?_
            rotate_left
            · intro w' hSw; (try dsimp only at hSw); go_simp; try with_reducible rfl
            try simp only [Act.put, List.setIfInBounds_toArray, List.set_cons_zero, List.set_cons_succ]
            refine wpAnyH_take (i := 37) (oi := { dst := some 148, op := Go.Op.pick (Go.Operand.tmp 139) (Go.Operand.const (Go.Value.bool true)) (Go.Operand.tmp 147), type := 4, pos := "law.go:193", after := #[{ on := 28, ground := Go.Ground.data }, { on := 36, ground := Go.Ground.data }], guard := none }) (v := ?_) rfl (by kernel_rfl) (by kernel_rfl) (by kernel_rfl) (fun _ _ _ h => h) (Or.inl ⟨by rfl, ?_⟩) (by assumption) ?_
            rotate_left
            · intro w' hSw; (try dsimp only at hSw); go_simp; try with_reducible rfl
            try simp only [Act.put, List.setIfInBounds_toArray, List.set_cons_zero, List.set_cons_succ]
            refine wpAnyH_take (i := 38) (oi := { dst := some 149, op := Go.Op.move (Go.Operand.tmp 148), type := 4, pos := "law.go:193", after := #[{ on := 37, ground := Go.Ground.data }, { on := 32, ground := Go.Ground.chain }], guard := none }) (v := ?_) rfl (by kernel_rfl) (by kernel_rfl) (by kernel_rfl) (fun _ _ _ h => h) (Or.inl ⟨by rfl, ?_⟩) (by assumption) ?_
            rotate_left
            · intro w' hSw; (try dsimp only at hSw); go_simp; try with_reducible rfl
            try simp only [Act.put, List.setIfInBounds_toArray, List.set_cons_zero, List.set_cons_succ]
            refine wpAnyH_take (i := 39) (oi := { dst := some 150, op := Go.Op.move (Go.Operand.tmp 8), type := 3, pos := "law.go:193", after := #[{ on := 38, ground := Go.Ground.guard }], guard := some (38, false) }) (v := ?_) rfl (by kernel_rfl) (by kernel_rfl) (by kernel_rfl) (fun _ _ _ h => h) (Or.inl ⟨by rfl, ?_⟩) (by assumption) ?_
            rotate_left
            · intro w' hSw; (try dsimp only at hSw); go_simp; try with_reducible rfl
            try simp only [Act.put, List.setIfInBounds_toArray, List.set_cons_zero, List.set_cons_succ]
            refine wpAnyH_take (i := 40) (oi := { dst := some 151, op := Go.Op.move (Go.Operand.tmp 5), type := 3, pos := "law.go:193", after := #[{ on := 38, ground := Go.Ground.guard }], guard := some (38, false) }) (v := ?_) rfl (by kernel_rfl) (by kernel_rfl) (by kernel_rfl) (fun _ _ _ h => h) (Or.inl ⟨by rfl, ?_⟩) (by assumption) ?_
            rotate_left
            · intro w' hSw; (try dsimp only at hSw); go_simp; try with_reducible rfl
            try simp only [Act.put, List.setIfInBounds_toArray, List.set_cons_zero, List.set_cons_succ]
            refine wpAnyH_take (i := 41) (oi := { dst := some 152, op := Go.Op.binOp Go.BinOp.eql 3 (Go.Operand.tmp 150) (Go.Operand.tmp 151) 3, type := 4, pos := "law.go:193", after := #[{ on := 39, ground := Go.Ground.data }, { on := 40, ground := Go.Ground.data }, { on := 38, ground := Go.Ground.guard }], guard := some (38, false) }) (v := ?_) rfl (by kernel_rfl) (by kernel_rfl) (by kernel_rfl) (fun _ _ _ h => h) (Or.inl ⟨by rfl, ?_⟩) (by assumption) ?_
            rotate_left
            · intro w' hSw; (try dsimp only at hSw); go_simp; try with_reducible rfl
            try simp only [Act.put, List.setIfInBounds_toArray, List.set_cons_zero, List.set_cons_succ]
            refine wpAnyH_take (i := 42) (oi := { dst := some 153, op := Go.Op.move (Go.Operand.tmp 152), type := 4, pos := "law.go:193", after := #[{ on := 41, ground := Go.Ground.data }, { on := 38, ground := Go.Ground.chain }, { on := 38, ground := Go.Ground.guard }], guard := some (38, false) }) (v := ?_) rfl (by kernel_rfl) (by kernel_rfl) (by kernel_rfl) (fun _ _ _ h => h) (Or.inl ⟨by rfl, ?_⟩) (by assumption) ?_
            rotate_left
            · intro w' hSw; (try dsimp only at hSw); go_simp; try with_reducible rfl
            try simp only [Act.put, List.setIfInBounds_toArray, List.set_cons_zero, List.set_cons_succ]
            refine wpAnyH_take (i := 43) (oi := { dst := some 154, op := Go.Op.move (Go.Operand.tmp 9), type := 3, pos := "law.go:193", after := #[{ on := 42, ground := Go.Ground.guard }], guard := some (42, true) }) (v := ?_) rfl (by kernel_rfl) (by kernel_rfl) (by kernel_rfl) (fun _ _ _ h => h) (Or.inl ⟨by rfl, ?_⟩) (by assumption) ?_
            rotate_left
            · intro w' hSw; (try dsimp only at hSw); go_simp; try with_reducible rfl
            try simp only [Act.put, List.setIfInBounds_toArray, List.set_cons_zero, List.set_cons_succ]
            refine wpAnyH_take (i := 44) (oi := { dst := some 155, op := Go.Op.binOp Go.BinOp.neq 3 (Go.Operand.tmp 154) (Go.Operand.const (Go.Value.int Go.IntKind.i64 0)) 3, type := 4, pos := "law.go:193", after := #[{ on := 43, ground := Go.Ground.data }, { on := 42, ground := Go.Ground.guard }], guard := some (42, true) }) (v := ?_) rfl (by kernel_rfl) (by kernel_rfl) (by kernel_rfl) (fun _ _ _ h => h) (Or.inl ⟨by rfl, ?_⟩) (by assumption) ?_
            rotate_left
            · intro w' hSw; (try dsimp only at hSw); go_simp; try with_reducible rfl
            try simp only [Act.put, List.setIfInBounds_toArray, List.set_cons_zero, List.set_cons_succ]
            refine wpAnyH_take (i := 45) (oi := { dst := some 156, op := Go.Op.pick (Go.Operand.tmp 153) (Go.Operand.tmp 155) (Go.Operand.const (Go.Value.bool false)), type := 4, pos := "law.go:193", after := #[{ on := 42, ground := Go.Ground.data }, { on := 44, ground := Go.Ground.data }, { on := 38, ground := Go.Ground.guard }], guard := some (38, false) }) (v := ?_) rfl (by kernel_rfl) (by kernel_rfl) (by kernel_rfl) (fun _ _ _ h => h) (Or.inl ⟨by rfl, ?_⟩) (by assumption) ?_
            rotate_left
            · intro w' hSw; (try dsimp only at hSw); go_simp; try with_reducible rfl
            try simp only [Act.put, List.setIfInBounds_toArray, List.set_cons_zero, List.set_cons_succ]
            refine wpAnyH_take (i := 46) (oi := { dst := some 157, op := Go.Op.pick (Go.Operand.tmp 149) (Go.Operand.const (Go.Value.bool true)) (Go.Operand.tmp 156), type := 4, pos := "law.go:193", after := #[{ on := 38, ground := Go.Ground.data }, { on := 45, ground := Go.Ground.data }], guard := none }) (v := ?_) rfl (by kernel_rfl) (by kernel_rfl) (by kernel_rfl) (fun _ _ _ h => h) (Or.inl ⟨by rfl, ?_⟩) (by assumption) ?_
            rotate_left
            · intro w' hSw; (try dsimp only at hSw); go_simp; try with_reducible rfl
            try simp only [Act.put, List.setIfInBounds_toArray, List.set_cons_zero, List.set_cons_succ]
            refine wpAnyH_take (i := 47) (oi := { dst := some 158, op := Go.Op.move (Go.Operand.tmp 157), type := 4, pos := "law.go:193", after := #[{ on := 46, ground := Go.Ground.data }, { on := 42, ground := Go.Ground.chain }], guard := none }) (v := ?_) rfl (by kernel_rfl) (by kernel_rfl) (by kernel_rfl) (fun _ _ _ h => h) (Or.inl ⟨by rfl, ?_⟩) (by assumption) ?_
            rotate_left
            · intro w' hSw; (try dsimp only at hSw); go_simp; try with_reducible rfl
            try simp only [Act.put, List.setIfInBounds_toArray, List.set_cons_zero, List.set_cons_succ]
            refine wpAnyH_take (i := 48) (oi := { dst := some 159, op := Go.Op.move (Go.Operand.tmp 6), type := 31, pos := "law.go:193", after := #[{ on := 47, ground := Go.Ground.guard }], guard := some (47, false) }) (v := ?_) rfl (by kernel_rfl) (by kernel_rfl) (by kernel_rfl) (fun _ _ _ h => h) (Or.inl ⟨by rfl, ?_⟩) (by assumption) ?_
            rotate_left
            · intro w' hSw; (try dsimp only at hSw); go_simp; try with_reducible rfl
            try simp only [Act.put, List.setIfInBounds_toArray, List.set_cons_zero, List.set_cons_succ]
            refine wpAnyH_take (i := 49) (oi := { dst := some 160, op := Go.Op.move (Go.Operand.tmp 8), type := 3, pos := "law.go:193", after := #[{ on := 47, ground := Go.Ground.guard }], guard := some (47, false) }) (v := ?_) rfl (by kernel_rfl) (by kernel_rfl) (by kernel_rfl) (fun _ _ _ h => h) (Or.inl ⟨by rfl, ?_⟩) (by assumption) ?_
            rotate_left
            · intro w' hSw; (try dsimp only at hSw); go_simp; try with_reducible rfl
            try simp only [Act.put, List.setIfInBounds_toArray, List.set_cons_zero, List.set_cons_succ]
            refine wpAnyH_take (i := 51) (oi := { dst := some 162, op := Go.Op.move (Go.Operand.tmp 9), type := 3, pos := "law.go:193", after := #[{ on := 47, ground := Go.Ground.guard }], guard := some (47, false) }) (v := ?_) rfl (by kernel_rfl) (by kernel_rfl) (by kernel_rfl) (fun _ _ _ h => h) (Or.inl ⟨by rfl, ?_⟩) (by assumption) ?_
            rotate_left
            · intro w' hSw; (try dsimp only at hSw); go_simp; try with_reducible rfl
            try simp only [Act.put, List.setIfInBounds_toArray, List.set_cons_zero, List.set_cons_succ]
            refine wpAnyH_take (i := 52) (oi := { dst := some 163, op := Go.Op.binOp Go.BinOp.mul 3 (Go.Operand.const (Go.Value.int Go.IntKind.i64 1000)) (Go.Operand.tmp 162) 3, type := 3, pos := "law.go:193", after := #[{ on := 51, ground := Go.Ground.data }, { on := 47, ground := Go.Ground.guard }], guard := some (47, false) }) (v := ?_) rfl (by kernel_rfl) (by kernel_rfl) (by kernel_rfl) (fun _ _ _ h => h) (Or.inl ⟨by rfl, ?_⟩) (by assumption) ?_
            rotate_left
            · intro w' hSw; (try dsimp only at hSw); go_simp; try with_reducible rfl
            try simp only [Act.put, List.setIfInBounds_toArray, List.set_cons_zero, List.set_cons_succ]
            refine wpAnyH_take (i := 53) (oi := { dst := some 164, op := Go.Op.fieldAddr 34 (Go.Operand.tmp 1) 5, type := 0, pos := "law.go:193", after := #[{ on := 47, ground := Go.Ground.guard }], guard := some (47, false) }) (v := ?_) rfl (by kernel_rfl) (by kernel_rfl) (by kernel_rfl) (fun _ _ _ h => h) (Or.inl ⟨by rfl, ?_⟩) (by assumption) ?_
            rotate_left
            · intro w' hSw; (try dsimp only at hSw); go_simp; try with_reducible rfl
            try simp only [Act.put, List.setIfInBounds_toArray, List.set_cons_zero, List.set_cons_succ]
            refine wpAnyH_take (i := 54) (oi := { dst := some 165, op := Go.Op.load 3 (Go.Operand.tmp 164), type := 3, pos := "law.go:193", after := #[{ on := 53, ground := Go.Ground.data }, { on := 47, ground := Go.Ground.guard }], guard := some (47, false) }) (v := ?_) rfl (by kernel_rfl) (by kernel_rfl) (by kernel_rfl) (fun _ _ _ h => h) (Or.inl ⟨by rfl, ?_⟩) (by assumption) ?_
            rotate_left
            · intro w' hSw; (try dsimp only at hSw); go_simp; try with_reducible rfl
            try simp only [Act.put, List.setIfInBounds_toArray, List.set_cons_zero, List.set_cons_succ]
            refine wpAnyH_take (i := 55) (oi := { dst := some 166, op := Go.Op.fieldAddr 34 (Go.Operand.tmp 1) 4, type := 0, pos := "law.go:193", after := #[{ on := 47, ground := Go.Ground.guard }], guard := some (47, false) }) (v := ?_) rfl (by kernel_rfl) (by kernel_rfl) (by kernel_rfl) (fun _ _ _ h => h) (Or.inl ⟨by rfl, ?_⟩) (by assumption) ?_
            rotate_left
            · intro w' hSw; (try dsimp only at hSw); go_simp; try with_reducible rfl
            try simp only [Act.put, List.setIfInBounds_toArray, List.set_cons_zero, List.set_cons_succ]
            refine wpAnyH_take (i := 56) (oi := { dst := some 167, op := Go.Op.load 3 (Go.Operand.tmp 166), type := 3, pos := "law.go:193", after := #[{ on := 55, ground := Go.Ground.data }, { on := 47, ground := Go.Ground.guard }], guard := some (47, false) }) (v := ?_) rfl (by kernel_rfl) (by kernel_rfl) (by kernel_rfl) (fun _ _ _ h => h) (Or.inl ⟨by rfl, ?_⟩) (by assumption) ?_
            rotate_left
            · intro w' hSw; (try dsimp only at hSw); go_simp; try with_reducible rfl
            try simp only [Act.put, List.setIfInBounds_toArray, List.set_cons_zero, List.set_cons_succ]
            refine wpAnyH_take (i := 57) (oi := { dst := some 168, op := Go.Op.binOp Go.BinOp.mul 3 (Go.Operand.tmp 165) (Go.Operand.tmp 167) 3, type := 3, pos := "law.go:193", after := #[{ on := 54, ground := Go.Ground.data }, { on := 56, ground := Go.Ground.data }, { on := 47, ground := Go.Ground.guard }], guard := some (47, false) }) (v := ?_) rfl (by kernel_rfl) (by kernel_rfl) (by kernel_rfl) (fun _ _ _ h => h) (Or.inl ⟨by rfl, ?_⟩) (by assumption) ?_
            rotate_left
            · intro w' hSw; (try dsimp only at hSw); go_simp; try with_reducible rfl
            try simp only [Act.put, List.setIfInBounds_toArray, List.set_cons_zero, List.set_cons_succ]
            refine wpAnyH_take (i := 58) (oi := { dst := some 169, op := Go.Op.binOp Go.BinOp.geq 3 (Go.Operand.tmp 163) (Go.Operand.tmp 168) 3, type := 4, pos := "law.go:193", after := #[{ on := 52, ground := Go.Ground.data }, { on := 57, ground := Go.Ground.data }, { on := 47, ground := Go.Ground.guard }], guard := some (47, false) }) (v := ?_) rfl (by kernel_rfl) (by kernel_rfl) (by kernel_rfl) (fun _ _ _ h => h) (Or.inl ⟨by rfl, ?_⟩) (by assumption) ?_
            rotate_left
            · intro w' hSw; (try dsimp only at hSw); go_simp; try with_reducible rfl
            try simp only [Act.put, List.setIfInBounds_toArray, List.set_cons_zero, List.set_cons_succ]
            refine wpAnyH_ready (rs := [50]) (by kernel_rfl) (by simp) ?_
            refine AllReadyH.cons (o := { dst := some 161, op := Go.Op.call { callee := Go.Callee.value (Go.Operand.func 37), args := #[Go.Operand.tmp 159, Go.Operand.tmp 160], argTypes := #[31, 3] }, type := 4, pos := "law.go:193", after := #[{ on := 48, ground := Go.Ground.data }, { on := 49, ground := Go.Ground.data }, { on := 47, ground := Go.Ground.chain }, { on := 47, ground := Go.Ground.guard }], guard := some (47, false) }) rfl (fun K hK => ?_) AllReadyH.nil
            go_simp
            (with_reducible refine (HCT.out _ _ (HV.out.same (by exact (by assumption : S8q w (.slice (some ⟨A1, o1, none⟩) s.ps.length cap1) (.slice (some ⟨A2, o2, none⟩) s.ps.length cap2) (.slice ao3 s.ws.length cap3) s.e s.n s.t w6 ⟨T, b, none⟩ (.slice (some ⟨R, oR, none⟩) s.ps.length cR) ⟨R, oR + b, none⟩ (.int .i64 0) _).2.2.2))).mono ?_)
            rintro e w9 ⟨rfl, hw9⟩
            go_simp
            refine hK.out _ _ ?_ (fun hHeld => ?_)
            · exact keep8q (by assumption) hw9
            try simp only [Act.put, List.setIfInBounds_toArray, List.set_cons_zero, List.set_cons_succ]
            clear hK K
            refine wpAnyH_take (i := 59) (oi := { dst := some 170, op := Go.Op.binOp Go.BinOp.neq 4 (Go.Operand.tmp 161) (Go.Operand.tmp 169) 4, type := 4, pos := "law.go:193", after := #[{ on := 50, ground := Go.Ground.data }, { on := 58, ground := Go.Ground.data }, { on := 47, ground := Go.Ground.guard }], guard := some (47, false) }) (v := ?_) rfl (by kernel_rfl) (by kernel_rfl) (by kernel_rfl) (fun _ _ _ h => h) (Or.inl ⟨by rfl, ?_⟩) (by assumption) ?_
            rotate_left
            · intro w' hSw; (try dsimp only at hSw); go_simp; try with_reducible rfl
            try simp only [Act.put, List.setIfInBounds_toArray, List.set_cons_zero, List.set_cons_succ]
            refine wpAnyH_take (i := 60) (oi := { dst := some 171, op := Go.Op.pick (Go.Operand.tmp 158) (Go.Operand.const (Go.Value.bool true)) (Go.Operand.tmp 170), type := 4, pos := "law.go:193", after := #[{ on := 47, ground := Go.Ground.data }, { on := 59, ground := Go.Ground.data }], guard := none }) (v := ?_) rfl (by kernel_rfl) (by kernel_rfl) (by kernel_rfl) (fun _ _ _ h => h) (Or.inl ⟨by rfl, ?_⟩) (by assumption) ?_
            rotate_left
            · intro w' hSw; (try dsimp only at hSw); go_simp; try with_reducible rfl
            try simp only [Act.put, List.setIfInBounds_toArray, List.set_cons_zero, List.set_cons_succ]
            refine wpAnyH_done (by kernel_rfl) ?_ _
            refine NoPanic.normal ?_
            have hfin := HST8.out.2.2.2.trans ((Same.refl _).drew.trans hw9)
            have HF := Lib.hid hfin
            clear hfin hHeld hw9
            go_wp2
            go_roundw
            case rel => exact ⟨b + 1, by omega, by go_num, HF.out⟩
            case measure => simp [intOf]; omega
          · have hab' : ((a : Int) == (b : Int)) = false := by rw [beq_eq_false_iff_ne]; omega
            have hab1 : ((a : Int) != (b : Int)) = true := by rw [bne_iff_ne]; omega
            have hab2 : (a == b) = false := by rw [beq_eq_false_iff_ne]; exact hab
            have hab3 : (a != b) = true := by rw [bne_iff_ne]; exact hab
            have hab4 : decide (a = b) = false := decide_eq_false hab
            have hw1 : IntKind.i64.wrap (s.t * s.n) = s.t * s.n := wrap_in _ ⟨by omega, by omega⟩
            have hw2 : IntKind.i64.wrap (1000 * P) = 1000 * P := wrap_in _ ⟨by omega, by omega⟩
            have hPQ := (HQ.out hab).symm
            subst hPQ
            go_wp2
            refine wp_region_noPanic ?_
            refine wp_region_held_drew (S := (fun w1 => S8q w (.slice (some ⟨A1, o1, none⟩) s.ps.length cap1) (.slice (some ⟨A2, o2, none⟩) s.ps.length cap2) (.slice ao3 s.ws.length cap3) s.e s.n s.t w6 ⟨T, a, none⟩ (.slice (some ⟨R, oR, none⟩) s.ps.length cR) ⟨R, oR + b, none⟩ (.int .i64 P) w1)) (by kernel_rfl) ?_ (fun hHeld => ?_)
            · exact keep8q HST8.out ((Same.refl _).drew)
            refine wpAnyH_take (i := 0) (oi := { dst := some 111, op := Go.Op.move (Go.Operand.tmp 10), type := 38, pos := "law.go:193", after := #[], guard := none }) (v := ?_) rfl (by kernel_rfl) (by kernel_rfl) (by kernel_rfl) (fun _ _ _ h => h) (Or.inl ⟨by rfl, ?_⟩) (by assumption) ?_
            rotate_left
            · intro w' hSw; (try dsimp only at hSw); go_simp; try with_reducible rfl
            try simp only [Act.put, List.setIfInBounds_toArray, List.set_cons_zero, List.set_cons_succ]
            refine wpAnyH_take (i := 1) (oi := { dst := some 112, op := Go.Op.binOp Go.BinOp.neq 38 (Go.Operand.tmp 111) (Go.Operand.const (Go.Value.int Go.IntKind.i64 0)) 38, type := 4, pos := "law.go:193", after := #[{ on := 0, ground := Go.Ground.data }], guard := none }) (v := ?_) rfl (by kernel_rfl) (by kernel_rfl) (by kernel_rfl) (fun _ _ _ h => h) (Or.inl ⟨by rfl, ?_⟩) (by assumption) ?_
            rotate_left
            · intro w' hSw; (try dsimp only at hSw); go_simp; try with_reducible rfl
            try simp only [Act.put, List.setIfInBounds_toArray, List.set_cons_zero, List.set_cons_succ]
            refine wpAnyH_take (i := 2) (oi := { dst := some 113, op := Go.Op.move (Go.Operand.tmp 112), type := 4, pos := "law.go:193", after := #[{ on := 1, ground := Go.Ground.data }], guard := none }) (v := ?_) rfl (by kernel_rfl) (by kernel_rfl) (by kernel_rfl) (fun _ _ _ h => h) (Or.inl ⟨by rfl, ?_⟩) (by assumption) ?_
            rotate_left
            · intro w' hSw; (try dsimp only at hSw); go_simp; try with_reducible rfl
            try simp only [Act.put, List.setIfInBounds_toArray, List.set_cons_zero, List.set_cons_succ]
            refine wpAnyH_take (i := 3) (oi := { dst := some 114, op := Go.Op.move (Go.Operand.tmp 12), type := 38, pos := "law.go:193", after := #[{ on := 2, ground := Go.Ground.guard }], guard := some (2, false) }) (v := ?_) rfl (by kernel_rfl) (by kernel_rfl) (by kernel_rfl) (fun _ _ _ h => h) (Or.inl ⟨by rfl, ?_⟩) (by assumption) ?_
            rotate_left
            · intro w' hSw; (try dsimp only at hSw); go_simp; try with_reducible rfl
            try simp only [Act.put, List.setIfInBounds_toArray, List.set_cons_zero, List.set_cons_succ]
            refine wpAnyH_take (i := 4) (oi := { dst := some 115, op := Go.Op.binOp Go.BinOp.neq 38 (Go.Operand.tmp 114) (Go.Operand.const (Go.Value.int Go.IntKind.i64 0)) 38, type := 4, pos := "law.go:193", after := #[{ on := 3, ground := Go.Ground.data }, { on := 2, ground := Go.Ground.guard }], guard := some (2, false) }) (v := ?_) rfl (by kernel_rfl) (by kernel_rfl) (by kernel_rfl) (fun _ _ _ h => h) (Or.inl ⟨by rfl, ?_⟩) (by assumption) ?_
            rotate_left
            · intro w' hSw; (try dsimp only at hSw); go_simp; try with_reducible rfl
            try simp only [Act.put, List.setIfInBounds_toArray, List.set_cons_zero, List.set_cons_succ]
            refine wpAnyH_take (i := 5) (oi := { dst := some 116, op := Go.Op.pick (Go.Operand.tmp 113) (Go.Operand.const (Go.Value.bool true)) (Go.Operand.tmp 115), type := 4, pos := "law.go:193", after := #[{ on := 2, ground := Go.Ground.data }, { on := 4, ground := Go.Ground.data }], guard := none }) (v := ?_) rfl (by kernel_rfl) (by kernel_rfl) (by kernel_rfl) (fun _ _ _ h => h) (Or.inl ⟨by rfl, ?_⟩) (by assumption) ?_
            rotate_left
            · intro w' hSw; (try dsimp only at hSw); go_simp; try with_reducible rfl
            try simp only [Act.put, List.setIfInBounds_toArray, List.set_cons_zero, List.set_cons_succ]
            refine wpAnyH_take (i := 6) (oi := { dst := some 117, op := Go.Op.move (Go.Operand.tmp 116), type := 4, pos := "law.go:193", after := #[{ on := 5, ground := Go.Ground.data }, { on := 2, ground := Go.Ground.chain }], guard := none }) (v := ?_) rfl (by kernel_rfl) (by kernel_rfl) (by kernel_rfl) (fun _ _ _ h => h) (Or.inl ⟨by rfl, ?_⟩) (by assumption) ?_
            rotate_left
            · intro w' hSw; (try dsimp only at hSw); go_simp; try with_reducible rfl
            try simp only [Act.put, List.setIfInBounds_toArray, List.set_cons_zero, List.set_cons_succ]
            refine wpAnyH_take (i := 7) (oi := { dst := some 118, op := Go.Op.move (Go.Operand.tmp 3), type := 42, pos := "law.go:193", after := #[{ on := 6, ground := Go.Ground.guard }], guard := some (6, false) }) (v := ?_) rfl (by kernel_rfl) (by kernel_rfl) (by kernel_rfl) (fun _ _ _ h => h) (Or.inl ⟨by rfl, ?_⟩) (by assumption) ?_
            rotate_left
            · intro w' hSw; (try dsimp only at hSw); go_simp; try with_reducible rfl
            try simp only [Act.put, List.setIfInBounds_toArray, List.set_cons_zero, List.set_cons_succ]
            refine wpAnyH_take (i := 8) (oi := { dst := some 119, op := Go.Op.move (Go.Operand.tmp 8), type := 3, pos := "law.go:193", after := #[{ on := 6, ground := Go.Ground.guard }], guard := some (6, false) }) (v := ?_) rfl (by kernel_rfl) (by kernel_rfl) (by kernel_rfl) (fun _ _ _ h => h) (Or.inl ⟨by rfl, ?_⟩) (by assumption) ?_
            rotate_left
            · intro w' hSw; (try dsimp only at hSw); go_simp; try with_reducible rfl
            try simp only [Act.put, List.setIfInBounds_toArray, List.set_cons_zero, List.set_cons_succ]
            refine wpAnyH_take (i := 9) (oi := { dst := some 120, op := Go.Op.indexAddr 42 (Go.Operand.tmp 118) (Go.Operand.tmp 119), type := 0, pos := "law.go:193", after := #[{ on := 7, ground := Go.Ground.data }, { on := 8, ground := Go.Ground.data }, { on := 6, ground := Go.Ground.guard }], guard := some (6, false) }) (v := ?_) rfl (by kernel_rfl) (by kernel_rfl) (by kernel_rfl) (fun _ _ _ h => h) (Or.inl ⟨by rfl, ?_⟩) (by assumption) ?_
            rotate_left
            · intro w' hSw; (try dsimp only at hSw); go_simp; try with_reducible rfl
            try simp only [Act.put, List.setIfInBounds_toArray, List.set_cons_zero, List.set_cons_succ]
            refine wpAnyH_take (i := 10) (oi := { dst := some 121, op := Go.Op.load 31 (Go.Operand.tmp 120), type := 31, pos := "law.go:193", after := #[{ on := 9, ground := Go.Ground.data }, { on := 6, ground := Go.Ground.guard }], guard := some (6, false) }) (v := ?_) rfl (by kernel_rfl) (by kernel_rfl) (by kernel_rfl) (fun _ _ _ h => h) (Or.inl ⟨by rfl, ?_⟩) (by assumption) ?_
            rotate_left
            · intro w' hSw; (try dsimp only at hSw); go_simp; try with_reducible rfl
            try simp only [Act.put, List.setIfInBounds_toArray, List.set_cons_zero, List.set_cons_succ]
            refine wpAnyH_take (i := 11) (oi := { dst := some 122, op := Go.Op.call { callee := Go.Callee.builtin Go.Builtin.len, args := #[Go.Operand.tmp 121], argTypes := #[31] }, type := 3, pos := "law.go:193", after := #[{ on := 10, ground := Go.Ground.data }, { on := 6, ground := Go.Ground.guard }], guard := some (6, false) }) (v := ?_) rfl (by kernel_rfl) (by kernel_rfl) (by kernel_rfl) (fun _ _ _ h => h) (Or.inl ⟨by rfl, ?_⟩) (by assumption) ?_
            rotate_left
            · intro w' hSw; (try dsimp only at hSw); go_simp; try with_reducible rfl
            try simp only [Act.put, List.setIfInBounds_toArray, List.set_cons_zero, List.set_cons_succ]
            refine wpAnyH_take (i := 12) (oi := { dst := some 123, op := Go.Op.fieldAddr 34 (Go.Operand.tmp 1) 0, type := 0, pos := "law.go:193", after := #[{ on := 6, ground := Go.Ground.guard }], guard := some (6, false) }) (v := ?_) rfl (by kernel_rfl) (by kernel_rfl) (by kernel_rfl) (fun _ _ _ h => h) (Or.inl ⟨by rfl, ?_⟩) (by assumption) ?_
            rotate_left
            · intro w' hSw; (try dsimp only at hSw); go_simp; try with_reducible rfl
            try simp only [Act.put, List.setIfInBounds_toArray, List.set_cons_zero, List.set_cons_succ]
            refine wpAnyH_take (i := 13) (oi := { dst := some 124, op := Go.Op.load 30 (Go.Operand.tmp 123), type := 30, pos := "law.go:193", after := #[{ on := 12, ground := Go.Ground.data }, { on := 6, ground := Go.Ground.guard }], guard := some (6, false) }) (v := ?_) rfl (by kernel_rfl) (by kernel_rfl) (by kernel_rfl) (fun _ _ _ h => h) (Or.inl ⟨by rfl, ?_⟩) (by assumption) ?_
            rotate_left
            · intro w' hSw; (try dsimp only at hSw); go_simp; try with_reducible rfl
            try simp only [Act.put, List.setIfInBounds_toArray, List.set_cons_zero, List.set_cons_succ]
            refine wpAnyH_take (i := 14) (oi := { dst := some 125, op := Go.Op.call { callee := Go.Callee.builtin Go.Builtin.len, args := #[Go.Operand.tmp 124], argTypes := #[30] }, type := 3, pos := "law.go:193", after := #[{ on := 13, ground := Go.Ground.data }, { on := 6, ground := Go.Ground.guard }], guard := some (6, false) }) (v := ?_) rfl (by kernel_rfl) (by kernel_rfl) (by kernel_rfl) (fun _ _ _ h => h) (Or.inl ⟨by rfl, ?_⟩) (by assumption) ?_
            rotate_left
            · intro w' hSw; (try dsimp only at hSw); go_simp; try with_reducible rfl
            try simp only [Act.put, List.setIfInBounds_toArray, List.set_cons_zero, List.set_cons_succ]
            refine wpAnyH_take (i := 15) (oi := { dst := some 126, op := Go.Op.binOp Go.BinOp.neq 3 (Go.Operand.tmp 122) (Go.Operand.tmp 125) 3, type := 4, pos := "law.go:193", after := #[{ on := 11, ground := Go.Ground.data }, { on := 14, ground := Go.Ground.data }, { on := 6, ground := Go.Ground.guard }], guard := some (6, false) }) (v := ?_) rfl (by kernel_rfl) (by kernel_rfl) (by kernel_rfl) (fun _ _ _ h => h) (Or.inl ⟨by rfl, ?_⟩) (by assumption) ?_
            rotate_left
            · intro w' hSw; (try dsimp only at hSw); go_simp; try with_reducible rfl
            try simp only [Act.put, List.setIfInBounds_toArray, List.set_cons_zero, List.set_cons_succ]
            refine wpAnyH_take (i := 16) (oi := { dst := some 127, op := Go.Op.pick (Go.Operand.tmp 117) (Go.Operand.const (Go.Value.bool true)) (Go.Operand.tmp 126), type := 4, pos := "law.go:193", after := #[{ on := 6, ground := Go.Ground.data }, { on := 15, ground := Go.Ground.data }], guard := none }) (v := ?_) rfl (by kernel_rfl) (by kernel_rfl) (by kernel_rfl) (fun _ _ _ h => h) (Or.inl ⟨by rfl, ?_⟩) (by assumption) ?_
            rotate_left
            · intro w' hSw; (try dsimp only at hSw); go_simp; try with_reducible rfl
            try simp only [Act.put, List.setIfInBounds_toArray, List.set_cons_zero, List.set_cons_succ]
            refine wpAnyH_take (i := 17) (oi := { dst := some 128, op := Go.Op.move (Go.Operand.tmp 127), type := 4, pos := "law.go:193", after := #[{ on := 16, ground := Go.Ground.data }, { on := 6, ground := Go.Ground.chain }], guard := none }) (v := ?_) rfl (by kernel_rfl) (by kernel_rfl) (by kernel_rfl) (fun _ _ _ h => h) (Or.inl ⟨by rfl, ?_⟩) (by assumption) ?_
            rotate_left
            · intro w' hSw; (try dsimp only at hSw); go_simp; try with_reducible rfl
            try simp only [Act.put, List.setIfInBounds_toArray, List.set_cons_zero, List.set_cons_succ]
            refine wpAnyH_take (i := 18) (oi := { dst := some 129, op := Go.Op.move (Go.Operand.tmp 3), type := 42, pos := "law.go:193", after := #[{ on := 17, ground := Go.Ground.guard }], guard := some (17, false) }) (v := ?_) rfl (by kernel_rfl) (by kernel_rfl) (by kernel_rfl) (fun _ _ _ h => h) (Or.inl ⟨by rfl, ?_⟩) (by assumption) ?_
            rotate_left
            · intro w' hSw; (try dsimp only at hSw); go_simp; try with_reducible rfl
            try simp only [Act.put, List.setIfInBounds_toArray, List.set_cons_zero, List.set_cons_succ]
            refine wpAnyH_take (i := 19) (oi := { dst := some 130, op := Go.Op.move (Go.Operand.tmp 8), type := 3, pos := "law.go:193", after := #[{ on := 17, ground := Go.Ground.guard }], guard := some (17, false) }) (v := ?_) rfl (by kernel_rfl) (by kernel_rfl) (by kernel_rfl) (fun _ _ _ h => h) (Or.inl ⟨by rfl, ?_⟩) (by assumption) ?_
            rotate_left
            · intro w' hSw; (try dsimp only at hSw); go_simp; try with_reducible rfl
            try simp only [Act.put, List.setIfInBounds_toArray, List.set_cons_zero, List.set_cons_succ]
            refine wpAnyH_take (i := 20) (oi := { dst := some 131, op := Go.Op.indexAddr 42 (Go.Operand.tmp 129) (Go.Operand.tmp 130), type := 0, pos := "law.go:193", after := #[{ on := 18, ground := Go.Ground.data }, { on := 19, ground := Go.Ground.data }, { on := 17, ground := Go.Ground.guard }], guard := some (17, false) }) (v := ?_) rfl (by kernel_rfl) (by kernel_rfl) (by kernel_rfl) (fun _ _ _ h => h) (Or.inl ⟨by rfl, ?_⟩) (by assumption) ?_
            rotate_left
            · intro w' hSw; (try dsimp only at hSw); go_simp; try with_reducible rfl
            try simp only [Act.put, List.setIfInBounds_toArray, List.set_cons_zero, List.set_cons_succ]
            refine wpAnyH_take (i := 21) (oi := { dst := some 132, op := Go.Op.load 31 (Go.Operand.tmp 131), type := 31, pos := "law.go:193", after := #[{ on := 20, ground := Go.Ground.data }, { on := 17, ground := Go.Ground.guard }], guard := some (17, false) }) (v := ?_) rfl (by kernel_rfl) (by kernel_rfl) (by kernel_rfl) (fun _ _ _ h => h) (Or.inl ⟨by rfl, ?_⟩) (by assumption) ?_
            rotate_left
            · intro w' hSw; (try dsimp only at hSw); go_simp; try with_reducible rfl
            try simp only [Act.put, List.setIfInBounds_toArray, List.set_cons_zero, List.set_cons_succ]
            refine wpAnyH_take (i := 22) (oi := { dst := some 133, op := Go.Op.move (Go.Operand.tmp 5), type := 3, pos := "law.go:193", after := #[{ on := 17, ground := Go.Ground.guard }], guard := some (17, false) }) (v := ?_) rfl (by kernel_rfl) (by kernel_rfl) (by kernel_rfl) (fun _ _ _ h => h) (Or.inl ⟨by rfl, ?_⟩) (by assumption) ?_
            rotate_left
            · intro w' hSw; (try dsimp only at hSw); go_simp; try with_reducible rfl
            try simp only [Act.put, List.setIfInBounds_toArray, List.set_cons_zero, List.set_cons_succ]
            refine wpAnyH_take (i := 23) (oi := { dst := some 134, op := Go.Op.indexAddr 31 (Go.Operand.tmp 132) (Go.Operand.tmp 133), type := 0, pos := "law.go:193", after := #[{ on := 21, ground := Go.Ground.data }, { on := 22, ground := Go.Ground.data }, { on := 17, ground := Go.Ground.guard }], guard := some (17, false) }) (v := ?_) rfl (by kernel_rfl) (by kernel_rfl) (by kernel_rfl) (fun _ _ _ h => h) (Or.inl ⟨by rfl, ?_⟩) (by assumption) ?_
            rotate_left
            · intro w' hSw; (try dsimp only at hSw); go_simp; try with_reducible rfl
            try simp only [Act.put, List.setIfInBounds_toArray, List.set_cons_zero, List.set_cons_succ]
            refine wpAnyH_take (i := 24) (oi := { dst := some 135, op := Go.Op.load 3 (Go.Operand.tmp 134), type := 3, pos := "law.go:193", after := #[{ on := 23, ground := Go.Ground.data }, { on := 17, ground := Go.Ground.guard }], guard := some (17, false) }) (v := ?_) rfl (by kernel_rfl) (by kernel_rfl) (by kernel_rfl) (fun _ _ _ h => h) (Or.inl ⟨by rfl, ?_⟩) (by assumption) ?_
            rotate_left
            · intro w' hSw; (try dsimp only at hSw); go_simp; try with_reducible rfl
            try simp only [Act.put, List.setIfInBounds_toArray, List.set_cons_zero, List.set_cons_succ]
            refine wpAnyH_take (i := 25) (oi := { dst := some 136, op := Go.Op.move (Go.Operand.tmp 9), type := 3, pos := "law.go:193", after := #[{ on := 17, ground := Go.Ground.guard }], guard := some (17, false) }) (v := ?_) rfl (by kernel_rfl) (by kernel_rfl) (by kernel_rfl) (fun _ _ _ h => h) (Or.inl ⟨by rfl, ?_⟩) (by assumption) ?_
            rotate_left
            · intro w' hSw; (try dsimp only at hSw); go_simp; try with_reducible rfl
            try simp only [Act.put, List.setIfInBounds_toArray, List.set_cons_zero, List.set_cons_succ]
            refine wpAnyH_take (i := 26) (oi := { dst := some 137, op := Go.Op.binOp Go.BinOp.neq 3 (Go.Operand.tmp 135) (Go.Operand.tmp 136) 3, type := 4, pos := "law.go:193", after := #[{ on := 24, ground := Go.Ground.data }, { on := 25, ground := Go.Ground.data }, { on := 17, ground := Go.Ground.guard }], guard := some (17, false) }) (v := ?_) rfl (by kernel_rfl) (by kernel_rfl) (by kernel_rfl) (fun _ _ _ h => h) (Or.inl ⟨by rfl, ?_⟩) (by assumption) ?_
            rotate_left
            · intro w' hSw; (try dsimp only at hSw); go_simp; try with_reducible rfl
            try simp only [Act.put, List.setIfInBounds_toArray, List.set_cons_zero, List.set_cons_succ]
            refine wpAnyH_take (i := 27) (oi := { dst := some 138, op := Go.Op.pick (Go.Operand.tmp 128) (Go.Operand.const (Go.Value.bool true)) (Go.Operand.tmp 137), type := 4, pos := "law.go:193", after := #[{ on := 17, ground := Go.Ground.data }, { on := 26, ground := Go.Ground.data }], guard := none }) (v := ?_) rfl (by kernel_rfl) (by kernel_rfl) (by kernel_rfl) (fun _ _ _ h => h) (Or.inl ⟨by rfl, ?_⟩) (by assumption) ?_
            rotate_left
            · intro w' hSw; (try dsimp only at hSw); go_simp; try with_reducible rfl
            try simp only [Act.put, List.setIfInBounds_toArray, List.set_cons_zero, List.set_cons_succ]
            refine wpAnyH_take (i := 28) (oi := { dst := some 139, op := Go.Op.move (Go.Operand.tmp 138), type := 4, pos := "law.go:193", after := #[{ on := 27, ground := Go.Ground.data }, { on := 17, ground := Go.Ground.chain }], guard := none }) (v := ?_) rfl (by kernel_rfl) (by kernel_rfl) (by kernel_rfl) (fun _ _ _ h => h) (Or.inl ⟨by rfl, ?_⟩) (by assumption) ?_
            rotate_left
            · intro w' hSw; (try dsimp only at hSw); go_simp; try with_reducible rfl
            try simp only [Act.put, List.setIfInBounds_toArray, List.set_cons_zero, List.set_cons_succ]
            refine wpAnyH_take (i := 29) (oi := { dst := some 140, op := Go.Op.move (Go.Operand.tmp 8), type := 3, pos := "law.go:193", after := #[{ on := 28, ground := Go.Ground.guard }], guard := some (28, false) }) (v := ?_) rfl (by kernel_rfl) (by kernel_rfl) (by kernel_rfl) (fun _ _ _ h => h) (Or.inl ⟨by rfl, ?_⟩) (by assumption) ?_
            rotate_left
            · intro w' hSw; (try dsimp only at hSw); go_simp; try with_reducible rfl
            try simp only [Act.put, List.setIfInBounds_toArray, List.set_cons_zero, List.set_cons_succ]
            refine wpAnyH_take (i := 30) (oi := { dst := some 141, op := Go.Op.move (Go.Operand.tmp 5), type := 3, pos := "law.go:193", after := #[{ on := 28, ground := Go.Ground.guard }], guard := some (28, false) }) (v := ?_) rfl (by kernel_rfl) (by kernel_rfl) (by kernel_rfl) (fun _ _ _ h => h) (Or.inl ⟨by rfl, ?_⟩) (by assumption) ?_
            rotate_left
            · intro w' hSw; (try dsimp only at hSw); go_simp; try with_reducible rfl
            try simp only [Act.put, List.setIfInBounds_toArray, List.set_cons_zero, List.set_cons_succ]
            refine wpAnyH_take (i := 31) (oi := { dst := some 142, op := Go.Op.binOp Go.BinOp.neq 3 (Go.Operand.tmp 140) (Go.Operand.tmp 141) 3, type := 4, pos := "law.go:193", after := #[{ on := 29, ground := Go.Ground.data }, { on := 30, ground := Go.Ground.data }, { on := 28, ground := Go.Ground.guard }], guard := some (28, false) }) (v := ?_) rfl (by kernel_rfl) (by kernel_rfl) (by kernel_rfl) (fun _ _ _ h => h) (Or.inl ⟨by rfl, ?_⟩) (by assumption) ?_
            rotate_left
            · intro w' hSw; (try dsimp only at hSw); go_simp; try with_reducible rfl
            try simp only [Act.put, List.setIfInBounds_toArray, List.set_cons_zero, List.set_cons_succ]
            refine wpAnyH_take (i := 32) (oi := { dst := some 143, op := Go.Op.move (Go.Operand.tmp 142), type := 4, pos := "law.go:193", after := #[{ on := 31, ground := Go.Ground.data }, { on := 28, ground := Go.Ground.chain }, { on := 28, ground := Go.Ground.guard }], guard := some (28, false) }) (v := ?_) rfl (by kernel_rfl) (by kernel_rfl) (by kernel_rfl) (fun _ _ _ h => h) (Or.inl ⟨by rfl, ?_⟩) (by assumption) ?_
            rotate_left
            · intro w' hSw; (try dsimp only at hSw); go_simp; try with_reducible rfl
            try simp only [Act.put, List.setIfInBounds_toArray, List.set_cons_zero, List.set_cons_succ]
            refine wpAnyH_take (i := 33) (oi := { dst := some 144, op := Go.Op.move (Go.Operand.tmp 9), type := 3, pos := "law.go:193", after := #[{ on := 32, ground := Go.Ground.guard }], guard := some (32, true) }) (v := ?_) rfl (by kernel_rfl) (by kernel_rfl) (by kernel_rfl) (fun _ _ _ h => h) (Or.inl ⟨by rfl, ?_⟩) (by assumption) ?_
            rotate_left
            · intro w' hSw; (try dsimp only at hSw); go_simp; try with_reducible rfl
            try simp only [Act.put, List.setIfInBounds_toArray, List.set_cons_zero, List.set_cons_succ]
            refine wpAnyH_take (i := 34) (oi := { dst := some 145, op := Go.Op.move (Go.Operand.tmp 11), type := 3, pos := "law.go:193", after := #[{ on := 32, ground := Go.Ground.guard }], guard := some (32, true) }) (v := ?_) rfl (by kernel_rfl) (by kernel_rfl) (by kernel_rfl) (fun _ _ _ h => h) (Or.inl ⟨by rfl, ?_⟩) (by assumption) ?_
            rotate_left
            · intro w' hSw; (try dsimp only at hSw); go_simp; try with_reducible rfl
            try simp only [Act.put, List.setIfInBounds_toArray, List.set_cons_zero, List.set_cons_succ]
            refine wpAnyH_take (i := 35) (oi := { dst := some 146, op := Go.Op.binOp Go.BinOp.neq 3 (Go.Operand.tmp 144) (Go.Operand.tmp 145) 3, type := 4, pos := "law.go:193", after := #[{ on := 33, ground := Go.Ground.data }, { on := 34, ground := Go.Ground.data }, { on := 32, ground := Go.Ground.guard }], guard := some (32, true) }) (v := ?_) rfl (by kernel_rfl) (by kernel_rfl) (by kernel_rfl) (fun _ _ _ h => h) (Or.inl ⟨by rfl, ?_⟩) (by assumption) ?_
            rotate_left
            · intro w' hSw; (try dsimp only at hSw); go_simp; try with_reducible rfl
            try simp only [Act.put, List.setIfInBounds_toArray, List.set_cons_zero, List.set_cons_succ]
            refine wpAnyH_take (i := 36) (oi := { dst := some 147, op := Go.Op.pick (Go.Operand.tmp 143) (Go.Operand.tmp 146) (Go.Operand.const (Go.Value.bool false)), type := 4, pos := "law.go:193", after := #[{ on := 32, ground := Go.Ground.data }, { on := 35, ground := Go.Ground.data }, { on := 28, ground := Go.Ground.guard }], guard := some (28, false) }) (v := ?_) rfl (by kernel_rfl) (by kernel_rfl) (by kernel_rfl) (fun _ _ _ h => h) (Or.inl ⟨by rfl, ?_⟩) (by assumption) ?_
            rotate_left
            · intro w' hSw; (try dsimp only at hSw); go_simp; try with_reducible rfl
            try simp only [Act.put, List.setIfInBounds_toArray, List.set_cons_zero, List.set_cons_succ]
            refine wpAnyH_take (i := 37) (oi := { dst := some 148, op := Go.Op.pick (Go.Operand.tmp 139) (Go.Operand.const (Go.Value.bool true)) (Go.Operand.tmp 147), type := 4, pos := "law.go:193", after := #[{ on := 28, ground := Go.Ground.data }, { on := 36, ground := Go.Ground.data }], guard := none }) (v := ?_) rfl (by kernel_rfl) (by kernel_rfl) (by kernel_rfl) (fun _ _ _ h => h) (Or.inl ⟨by rfl, ?_⟩) (by assumption) ?_
            rotate_left
            · intro w' hSw; (try dsimp only at hSw); go_simp; try with_reducible rfl
            try simp only [Act.put, List.setIfInBounds_toArray, List.set_cons_zero, List.set_cons_succ]
            refine wpAnyH_take (i := 38) (oi := { dst := some 149, op := Go.Op.move (Go.Operand.tmp 148), type := 4, pos := "law.go:193", after := #[{ on := 37, ground := Go.Ground.data }, { on := 32, ground := Go.Ground.chain }], guard := none }) (v := ?_) rfl (by kernel_rfl) (by kernel_rfl) (by kernel_rfl) (fun _ _ _ h => h) (Or.inl ⟨by rfl, ?_⟩) (by assumption) ?_
            rotate_left
            · intro w' hSw; (try dsimp only at hSw); go_simp; try with_reducible rfl
            try simp only [Act.put, List.setIfInBounds_toArray, List.set_cons_zero, List.set_cons_succ]
            refine wpAnyH_take (i := 39) (oi := { dst := some 150, op := Go.Op.move (Go.Operand.tmp 8), type := 3, pos := "law.go:193", after := #[{ on := 38, ground := Go.Ground.guard }], guard := some (38, false) }) (v := ?_) rfl (by kernel_rfl) (by kernel_rfl) (by kernel_rfl) (fun _ _ _ h => h) (Or.inl ⟨by rfl, ?_⟩) (by assumption) ?_
            rotate_left
            · intro w' hSw; (try dsimp only at hSw); go_simp; try with_reducible rfl
            try simp only [Act.put, List.setIfInBounds_toArray, List.set_cons_zero, List.set_cons_succ]
            refine wpAnyH_take (i := 40) (oi := { dst := some 151, op := Go.Op.move (Go.Operand.tmp 5), type := 3, pos := "law.go:193", after := #[{ on := 38, ground := Go.Ground.guard }], guard := some (38, false) }) (v := ?_) rfl (by kernel_rfl) (by kernel_rfl) (by kernel_rfl) (fun _ _ _ h => h) (Or.inl ⟨by rfl, ?_⟩) (by assumption) ?_
            rotate_left
            · intro w' hSw; (try dsimp only at hSw); go_simp; try with_reducible rfl
            try simp only [Act.put, List.setIfInBounds_toArray, List.set_cons_zero, List.set_cons_succ]
            refine wpAnyH_take (i := 41) (oi := { dst := some 152, op := Go.Op.binOp Go.BinOp.eql 3 (Go.Operand.tmp 150) (Go.Operand.tmp 151) 3, type := 4, pos := "law.go:193", after := #[{ on := 39, ground := Go.Ground.data }, { on := 40, ground := Go.Ground.data }, { on := 38, ground := Go.Ground.guard }], guard := some (38, false) }) (v := ?_) rfl (by kernel_rfl) (by kernel_rfl) (by kernel_rfl) (fun _ _ _ h => h) (Or.inl ⟨by rfl, ?_⟩) (by assumption) ?_
            rotate_left
            · intro w' hSw; (try dsimp only at hSw); go_simp; try with_reducible rfl
            try simp only [Act.put, List.setIfInBounds_toArray, List.set_cons_zero, List.set_cons_succ]
            refine wpAnyH_take (i := 42) (oi := { dst := some 153, op := Go.Op.move (Go.Operand.tmp 152), type := 4, pos := "law.go:193", after := #[{ on := 41, ground := Go.Ground.data }, { on := 38, ground := Go.Ground.chain }, { on := 38, ground := Go.Ground.guard }], guard := some (38, false) }) (v := ?_) rfl (by kernel_rfl) (by kernel_rfl) (by kernel_rfl) (fun _ _ _ h => h) (Or.inl ⟨by rfl, ?_⟩) (by assumption) ?_
            rotate_left
            · intro w' hSw; (try dsimp only at hSw); go_simp; try with_reducible rfl
            try simp only [Act.put, List.setIfInBounds_toArray, List.set_cons_zero, List.set_cons_succ]
            refine wpAnyH_take (i := 43) (oi := { dst := some 154, op := Go.Op.move (Go.Operand.tmp 9), type := 3, pos := "law.go:193", after := #[{ on := 42, ground := Go.Ground.guard }], guard := some (42, true) }) (v := undef) rfl (by kernel_rfl) (by kernel_rfl) (by kernel_rfl) (fun _ _ _ h => h) (Or.inr ⟨by rfl, rfl⟩) (by assumption) ?_
            try simp only [Act.put, List.setIfInBounds_toArray, List.set_cons_zero, List.set_cons_succ]
            refine wpAnyH_take (i := 44) (oi := { dst := some 155, op := Go.Op.binOp Go.BinOp.neq 3 (Go.Operand.tmp 154) (Go.Operand.const (Go.Value.int Go.IntKind.i64 0)) 3, type := 4, pos := "law.go:193", after := #[{ on := 43, ground := Go.Ground.data }, { on := 42, ground := Go.Ground.guard }], guard := some (42, true) }) (v := undef) rfl (by kernel_rfl) (by kernel_rfl) (by kernel_rfl) (fun _ _ _ h => h) (Or.inr ⟨by rfl, rfl⟩) (by assumption) ?_
            try simp only [Act.put, List.setIfInBounds_toArray, List.set_cons_zero, List.set_cons_succ]
            refine wpAnyH_take (i := 45) (oi := { dst := some 156, op := Go.Op.pick (Go.Operand.tmp 153) (Go.Operand.tmp 155) (Go.Operand.const (Go.Value.bool false)), type := 4, pos := "law.go:193", after := #[{ on := 42, ground := Go.Ground.data }, { on := 44, ground := Go.Ground.data }, { on := 38, ground := Go.Ground.guard }], guard := some (38, false) }) (v := ?_) rfl (by kernel_rfl) (by kernel_rfl) (by kernel_rfl) (fun _ _ _ h => h) (Or.inl ⟨by rfl, ?_⟩) (by assumption) ?_
            rotate_left
            · intro w' hSw; (try dsimp only at hSw); go_simp; try with_reducible rfl
            try simp only [Act.put, List.setIfInBounds_toArray, List.set_cons_zero, List.set_cons_succ]
            refine wpAnyH_take (i := 46) (oi := { dst := some 157, op := Go.Op.pick (Go.Operand.tmp 149) (Go.Operand.const (Go.Value.bool true)) (Go.Operand.tmp 156), type := 4, pos := "law.go:193", after := #[{ on := 38, ground := Go.Ground.data }, { on := 45, ground := Go.Ground.data }], guard := none }) (v := ?_) rfl (by kernel_rfl) (by kernel_rfl) (by kernel_rfl) (fun _ _ _ h => h) (Or.inl ⟨by rfl, ?_⟩) (by assumption) ?_
            rotate_left
            · intro w' hSw; (try dsimp only at hSw); go_simp; try with_reducible rfl
            try simp only [Act.put, List.setIfInBounds_toArray, List.set_cons_zero, List.set_cons_succ]
            refine wpAnyH_take (i := 47) (oi := { dst := some 158, op := Go.Op.move (Go.Operand.tmp 157), type := 4, pos := "law.go:193", after := #[{ on := 46, ground := Go.Ground.data }, { on := 42, ground := Go.Ground.chain }], guard := none }) (v := ?_) rfl (by kernel_rfl) (by kernel_rfl) (by kernel_rfl) (fun _ _ _ h => h) (Or.inl ⟨by rfl, ?_⟩) (by assumption) ?_
            rotate_left
            · intro w' hSw; (try dsimp only at hSw); go_simp; try with_reducible rfl
            try simp only [Act.put, List.setIfInBounds_toArray, List.set_cons_zero, List.set_cons_succ]
            refine wpAnyH_take (i := 48) (oi := { dst := some 159, op := Go.Op.move (Go.Operand.tmp 6), type := 31, pos := "law.go:193", after := #[{ on := 47, ground := Go.Ground.guard }], guard := some (47, false) }) (v := ?_) rfl (by kernel_rfl) (by kernel_rfl) (by kernel_rfl) (fun _ _ _ h => h) (Or.inl ⟨by rfl, ?_⟩) (by assumption) ?_
            rotate_left
            · intro w' hSw; (try dsimp only at hSw); go_simp; try with_reducible rfl
            try simp only [Act.put, List.setIfInBounds_toArray, List.set_cons_zero, List.set_cons_succ]
            refine wpAnyH_take (i := 49) (oi := { dst := some 160, op := Go.Op.move (Go.Operand.tmp 8), type := 3, pos := "law.go:193", after := #[{ on := 47, ground := Go.Ground.guard }], guard := some (47, false) }) (v := ?_) rfl (by kernel_rfl) (by kernel_rfl) (by kernel_rfl) (fun _ _ _ h => h) (Or.inl ⟨by rfl, ?_⟩) (by assumption) ?_
            rotate_left
            · intro w' hSw; (try dsimp only at hSw); go_simp; try with_reducible rfl
            try simp only [Act.put, List.setIfInBounds_toArray, List.set_cons_zero, List.set_cons_succ]
            refine wpAnyH_take (i := 51) (oi := { dst := some 162, op := Go.Op.move (Go.Operand.tmp 9), type := 3, pos := "law.go:193", after := #[{ on := 47, ground := Go.Ground.guard }], guard := some (47, false) }) (v := ?_) rfl (by kernel_rfl) (by kernel_rfl) (by kernel_rfl) (fun _ _ _ h => h) (Or.inl ⟨by rfl, ?_⟩) (by assumption) ?_
            rotate_left
            · intro w' hSw; (try dsimp only at hSw); go_simp; try with_reducible rfl
            try simp only [Act.put, List.setIfInBounds_toArray, List.set_cons_zero, List.set_cons_succ]
            refine wpAnyH_take (i := 52) (oi := { dst := some 163, op := Go.Op.binOp Go.BinOp.mul 3 (Go.Operand.const (Go.Value.int Go.IntKind.i64 1000)) (Go.Operand.tmp 162) 3, type := 3, pos := "law.go:193", after := #[{ on := 51, ground := Go.Ground.data }, { on := 47, ground := Go.Ground.guard }], guard := some (47, false) }) (v := ?_) rfl (by kernel_rfl) (by kernel_rfl) (by kernel_rfl) (fun _ _ _ h => h) (Or.inl ⟨by rfl, ?_⟩) (by assumption) ?_
            rotate_left
            · intro w' hSw; (try dsimp only at hSw); go_simp; try with_reducible rfl
            try simp only [Act.put, List.setIfInBounds_toArray, List.set_cons_zero, List.set_cons_succ]
            refine wpAnyH_take (i := 53) (oi := { dst := some 164, op := Go.Op.fieldAddr 34 (Go.Operand.tmp 1) 5, type := 0, pos := "law.go:193", after := #[{ on := 47, ground := Go.Ground.guard }], guard := some (47, false) }) (v := ?_) rfl (by kernel_rfl) (by kernel_rfl) (by kernel_rfl) (fun _ _ _ h => h) (Or.inl ⟨by rfl, ?_⟩) (by assumption) ?_
            rotate_left
            · intro w' hSw; (try dsimp only at hSw); go_simp; try with_reducible rfl
            try simp only [Act.put, List.setIfInBounds_toArray, List.set_cons_zero, List.set_cons_succ]
            refine wpAnyH_take (i := 54) (oi := { dst := some 165, op := Go.Op.load 3 (Go.Operand.tmp 164), type := 3, pos := "law.go:193", after := #[{ on := 53, ground := Go.Ground.data }, { on := 47, ground := Go.Ground.guard }], guard := some (47, false) }) (v := ?_) rfl (by kernel_rfl) (by kernel_rfl) (by kernel_rfl) (fun _ _ _ h => h) (Or.inl ⟨by rfl, ?_⟩) (by assumption) ?_
            rotate_left
            · intro w' hSw; (try dsimp only at hSw); go_simp; try with_reducible rfl
            try simp only [Act.put, List.setIfInBounds_toArray, List.set_cons_zero, List.set_cons_succ]
            refine wpAnyH_take (i := 55) (oi := { dst := some 166, op := Go.Op.fieldAddr 34 (Go.Operand.tmp 1) 4, type := 0, pos := "law.go:193", after := #[{ on := 47, ground := Go.Ground.guard }], guard := some (47, false) }) (v := ?_) rfl (by kernel_rfl) (by kernel_rfl) (by kernel_rfl) (fun _ _ _ h => h) (Or.inl ⟨by rfl, ?_⟩) (by assumption) ?_
            rotate_left
            · intro w' hSw; (try dsimp only at hSw); go_simp; try with_reducible rfl
            try simp only [Act.put, List.setIfInBounds_toArray, List.set_cons_zero, List.set_cons_succ]
            refine wpAnyH_take (i := 56) (oi := { dst := some 167, op := Go.Op.load 3 (Go.Operand.tmp 166), type := 3, pos := "law.go:193", after := #[{ on := 55, ground := Go.Ground.data }, { on := 47, ground := Go.Ground.guard }], guard := some (47, false) }) (v := ?_) rfl (by kernel_rfl) (by kernel_rfl) (by kernel_rfl) (fun _ _ _ h => h) (Or.inl ⟨by rfl, ?_⟩) (by assumption) ?_
            rotate_left
            · intro w' hSw; (try dsimp only at hSw); go_simp; try with_reducible rfl
            try simp only [Act.put, List.setIfInBounds_toArray, List.set_cons_zero, List.set_cons_succ]
            refine wpAnyH_take (i := 57) (oi := { dst := some 168, op := Go.Op.binOp Go.BinOp.mul 3 (Go.Operand.tmp 165) (Go.Operand.tmp 167) 3, type := 3, pos := "law.go:193", after := #[{ on := 54, ground := Go.Ground.data }, { on := 56, ground := Go.Ground.data }, { on := 47, ground := Go.Ground.guard }], guard := some (47, false) }) (v := ?_) rfl (by kernel_rfl) (by kernel_rfl) (by kernel_rfl) (fun _ _ _ h => h) (Or.inl ⟨by rfl, ?_⟩) (by assumption) ?_
            rotate_left
            · intro w' hSw; (try dsimp only at hSw); go_simp; try with_reducible rfl
            try simp only [Act.put, List.setIfInBounds_toArray, List.set_cons_zero, List.set_cons_succ]
            refine wpAnyH_take (i := 58) (oi := { dst := some 169, op := Go.Op.binOp Go.BinOp.geq 3 (Go.Operand.tmp 163) (Go.Operand.tmp 168) 3, type := 4, pos := "law.go:193", after := #[{ on := 52, ground := Go.Ground.data }, { on := 57, ground := Go.Ground.data }, { on := 47, ground := Go.Ground.guard }], guard := some (47, false) }) (v := ?_) rfl (by kernel_rfl) (by kernel_rfl) (by kernel_rfl) (fun _ _ _ h => h) (Or.inl ⟨by rfl, ?_⟩) (by assumption) ?_
            rotate_left
            · intro w' hSw; (try dsimp only at hSw); go_simp; try with_reducible rfl
            try simp only [Act.put, List.setIfInBounds_toArray, List.set_cons_zero, List.set_cons_succ]
            refine wpAnyH_ready (rs := [50]) (by kernel_rfl) (by simp) ?_
            refine AllReadyH.cons (o := { dst := some 161, op := Go.Op.call { callee := Go.Callee.value (Go.Operand.func 37), args := #[Go.Operand.tmp 159, Go.Operand.tmp 160], argTypes := #[31, 3] }, type := 4, pos := "law.go:193", after := #[{ on := 48, ground := Go.Ground.data }, { on := 49, ground := Go.Ground.data }, { on := 47, ground := Go.Ground.chain }, { on := 47, ground := Go.Ground.guard }], guard := some (47, false) }) rfl (fun K hK => ?_) AllReadyH.nil
            go_simp
            (with_reducible refine (HCT.out _ _ (HV.out.same (by exact (by assumption : S8q w (.slice (some ⟨A1, o1, none⟩) s.ps.length cap1) (.slice (some ⟨A2, o2, none⟩) s.ps.length cap2) (.slice ao3 s.ws.length cap3) s.e s.n s.t w6 ⟨T, a, none⟩ (.slice (some ⟨R, oR, none⟩) s.ps.length cR) ⟨R, oR + b, none⟩ (.int .i64 P) _).2.2.2))).mono ?_)
            rintro e w9 ⟨rfl, hw9⟩
            go_simp
            refine hK.out _ _ ?_ (fun hHeld => ?_)
            · exact keep8q (by assumption) hw9
            try simp only [Act.put, List.setIfInBounds_toArray, List.set_cons_zero, List.set_cons_succ]
            clear hK K
            refine wpAnyH_take (i := 59) (oi := { dst := some 170, op := Go.Op.binOp Go.BinOp.neq 4 (Go.Operand.tmp 161) (Go.Operand.tmp 169) 4, type := 4, pos := "law.go:193", after := #[{ on := 50, ground := Go.Ground.data }, { on := 58, ground := Go.Ground.data }, { on := 47, ground := Go.Ground.guard }], guard := some (47, false) }) (v := ?_) rfl (by kernel_rfl) (by kernel_rfl) (by kernel_rfl) (fun _ _ _ h => h) (Or.inl ⟨by rfl, ?_⟩) (by assumption) ?_
            rotate_left
            · intro w' hSw; (try dsimp only at hSw); go_simp; try with_reducible rfl
            try simp only [Act.put, List.setIfInBounds_toArray, List.set_cons_zero, List.set_cons_succ]
            refine wpAnyH_take (i := 60) (oi := { dst := some 171, op := Go.Op.pick (Go.Operand.tmp 158) (Go.Operand.const (Go.Value.bool true)) (Go.Operand.tmp 170), type := 4, pos := "law.go:193", after := #[{ on := 47, ground := Go.Ground.data }, { on := 59, ground := Go.Ground.data }], guard := none }) (v := ?_) rfl (by kernel_rfl) (by kernel_rfl) (by kernel_rfl) (fun _ _ _ h => h) (Or.inl ⟨by rfl, ?_⟩) (by assumption) ?_
            rotate_left
            · intro w' hSw; (try dsimp only at hSw); go_simp; try with_reducible rfl
            try simp only [Act.put, List.setIfInBounds_toArray, List.set_cons_zero, List.set_cons_succ]
            refine wpAnyH_done (by kernel_rfl) ?_ _
            refine NoPanic.normal ?_
            have hfin := HST8.out.2.2.2.trans ((Same.refl _).drew.trans hw9)
            have HF := Lib.hid hfin
            clear hfin hHeld hw9
            go_wp2
            go_roundw
            case rel => exact ⟨a + 1, by omega, by go_num, HF.out⟩
            case measure => simp [intOf]; omega
        · obtain rfl : a = s.ps.length := by omega
          obtain ⟨kk, n1, n2, n3, hN⟩ := HNR.out b hlt
          obtain ⟨g4, g5⟩ := HC1.out b hlt
          obtain ⟨g6, g7⟩ := HC1.out kk (by omega)
          rw [n2] at g6
          rw [n3] at g7
          generalize (s.ps.getD b ⟨0, 0⟩).x = xb at *
          generalize (s.ps.getD b ⟨0, 0⟩).y = yb at *
          have HNN := Lib.hid hN; clear hN n2 n3
          have hbn' : (b : Int) < (s.ps.length : Int) := by omega
          have b0 : (0 : Int) ≤ (b : Int) := by omega
          have hkb : (kk : Int) ≤ (b : Int) := by omega
          have k0 : (0 : Int) ≤ (kk : Int) := by omega
          have hkn : (kk : Int) < (s.ps.length : Int) := by omega
          have d1 : decide ((kk : Int) < 0) = false := decide_eq_false (by omega)
          have d2 : decide ((b : Int) < (kk : Int)) = false := decide_eq_false (by omega)
          have d3 : decide (b < kk) = false := decide_eq_false (by omega)
          have hst : S8q w (.slice (some ⟨A1, o1, none⟩) s.ps.length cap1) (.slice (some ⟨A2, o2, none⟩) s.ps.length cap2) (.slice ao3 s.ws.length cap3) s.e s.n s.t w ⟨A1, o1 + b * 2, none⟩ (.int .i64 xb) ⟨A1, o1 + b * 2 + 1, none⟩ (.int .i64 yb) wr := ⟨⟨z1, z2, z3, z4, z5, z6⟩, hs.cell g4, hs.cell g5, hs⟩
          have HSTN := Lib.hid hst; clear hst
          have HKW := Lib.hid (HS6.out.trans hI)
          have G := Lib.hid (And.intro g4 (And.intro g5 (And.intro g6 g7)))
          have HSB := Lib.hid hs
          clear g4 g5 g6 g7 hs hI z1 z2 z3 z4 z5 z6
          go_wp2
          go_region_held3 (fun w1 => S8q w (.slice (some ⟨A1, o1, none⟩) s.ps.length cap1) (.slice (some ⟨A2, o2, none⟩) s.ps.length cap2) (.slice ao3 s.ws.length cap3) s.e s.n s.t w ⟨A1, o1 + b * 2, none⟩ (.int .i64 xb) ⟨A1, o1 + b * 2 + 1, none⟩ (.int .i64 yb) w1)
            (first | exact keep8q HSTN.out ((Same.refl _).drew) | exact keep8q (by assumption) hw10 | assumption)
            (first | (go_at_call 28; (with_reducible refine (HNN.out _ (by exact (by assumption : S8q w (.slice (some ⟨A1, o1, none⟩) s.ps.length cap1) (.slice (some ⟨A2, o2, none⟩) s.ps.length cap2) (.slice ao3 s.ws.length cap3) s.e s.n s.t w ⟨A1, o1 + b * 2, none⟩ (.int .i64 xb) ⟨A1, o1 + b * 2 + 1, none⟩ (.int .i64 yb) _).2.2.2)).mono ?_); rintro e w10 ⟨rfl, hw10⟩) | fail)
          have hK := HKW.out.trans ((Same.refl _).drew.trans hw10)
          have HK := Lib.hid hK
          obtain ⟨y1, y2, y3, y4, y5, y6, hs10⟩ := HAT.out _ (hb.out.trans hK)
          have c1 := hs10.cell G.out.1
          have c2 := hs10.cell G.out.2.1
          have c3 := hs10.cell G.out.2.2.1
          have c4 := hs10.cell G.out.2.2.2
          clear hK hw10 hs10
          go_wp2
          go_quiet (fail)
          go_wp2
          go_roundw
          case rel => exact ⟨b + 1, by omega, by go_num, HK.out.drewN _⟩
          case measure => simp [intOf]; omega
    · obtain rfl : b = s.ps.length := by omega
      go_wp2
      go_ret
      exact ⟨rfl, hs⟩
theorem walk (w : World) (v : Value) (s : Site) (hs : SiteAt w v s) :
    Calls Try.prog 10 #[v] w fun e w' => e = .returned (.bool true) ∧ Same w w' := by
  have hread := hs.read
  obtain ⟨v1, v2, v3, rfl, h1, h2, h3⟩ := hread
  obtain ⟨ao1, cap1, e1⟩ := h1.shape
  obtain ⟨ao2, cap2, e2⟩ := h2.shape
  obtain ⟨ao3, cap3, e3⟩ := h3.shape
  by_cases hf : fewB s = true
  · by_cases hB : siteB s = true
    · have hg := good_of hB
      have hn := hg.n2
      rcases h1 with ⟨b1, off1, cap1', e1', h0, hc1⟩ | ⟨_, _, _, e⟩
      · rcases h2 with ⟨b2, off2, cap2', e2', h02, hc2⟩ | ⟨_, _, _, e⟩
        · subst e1' e2' e3
          rw [hg.z] at hc2 hs ⊢
          exact good w s b1 off1 cap1' b2 off2 cap2' ao3 cap3 hs hf hB hc1 hc2
        · have := hg.z; rw [e] at this; simp at this; omega
      · rw [e] at hn; simp at hn
    · exact bad w s v1 v2 v3 hs ao1 ao2 ao3 cap1 cap2 cap3 e1 e2 e3 true hf (.inr (by simpa using hB))
  · exact bad w s v1 v2 v3 hs ao1 ao2 ao3 cap1 cap2 cap3 e1 e2 e3 false (by simpa using hf) (.inl rfl)
open Go.ChangeShapes Go.WideShapes Go.ChangeAt
theorem own : ownKnob Try.prog.godebug = none := by kernel_rfl

set_option maxRecDepth 100000 in
theorem lifted (os : Os) (started : os.Started) (H : Type) (enc : TypeId × Value → H) :
    ReturnsInHanded {} Try.checked os 10 .any (Rows.geometryTablesSpec.pre6 enc Try.prog Try.f10 Rows.geometryTablesRow.domain false) (Rows.geometryTablesSpec.post enc Try.prog Try.f10 false true false false) := by
  refine returnsInHanded_of_change (C := Try.checked) own started (by kernel_rfl) Try.func10
    (ChangeSpec.witness6 (enc := enc) (C := Try.checked) false ⟨#[], #[.agg #[.slice none 0 0, .slice none 0 0, .slice none 0 0, .int .i64 0, .int .i64 0, .int .i64 0]], []⟩ 8 (by kernel_rfl) (by kernel_rfl) (by kernel_rfl) (by kernel_rfl)) ?_
  intro W base args ds gs before hval0 hW hcnd _
  have hval : ∀ (j : Nat) t v, Try.f10.params[j]? = some t → args[j]? = some v → Value.okWide Try.prog W .any base t v := hval0
  have hW' := hW
  obtain ⟨p, q, hA0, hV, rfl, hfz, hnd⟩ := hW
  have hA : DataW.TrodAll enc Try.prog W 0 (fun _ => true) true Try.f10.params.toList args.toList ds p := hA0
  rw [Try.params10] at hA hval
  obtain ⟨v0, vs0, d0, ds0, p0, q0, hargs, rfl, rfl, h0, r0⟩ := trodAll_cons hA
  obtain ⟨rfl, rfl, rfl⟩ := trodAll_nil r0
  obtain rfl : args = #[v0] := by cases args; simp_all
  obtain ⟨rfl, rfl⟩ := trodVars_none hV
  obtain ⟨s0, hs0⟩ := open_site (hval 0 34 v0 rfl rfl) h0
  clear hA0 hval0
  try simp only [List.append_nil] at hW'
  try simp only [List.nil_append] at hW'
  have hlt : ∀ x ∈ p0, x.block < W.heap.size := fun x hx => by
    have := hW'.lt x (by simpa using hx)
    simpa using this
  refine (walk W v0 s0 hs0).mono fun e W' ⟨he, hg⟩ => ?_
  subst he
  exact ⟨_, rfl, _, _, _, [], _, [], hW', trodAll_cons_mk (shut_bool Try.underlying4 _) trodAll_mk0, trodAll_cons_mk (Below.trod Try.laidOut (by kernel_rfl) (of_decide_eq_true (by kernel_rfl)) h0 (Same.toBelow hg) (fun x hx => hlt x (by simp [hx]))) trodAll_mk0, rfl, (Same.toBelow hg).frame _, fun h => by cases h⟩

theorem over : Rows.geometryTablesRow.holds Try.pinned (OpenSpec.ofChange Rows.geometryTablesSpec) :=
  OpenClaim.holds_of_wide 10 Try.f10 rfl rfl rfl rfl rfl rfl rfl ⟨rfl, rfl, rfl, rfl, rfl⟩ rfl rfl rfl rfl rfl (by kernel_rfl) Try.func10 (by kernel_rfl)
    (of_decide_eq_true (by kernel_rfl)) (by unfold Func.isWrapper; first | (rw [if_pos (by decide +kernel)]; kernel_rfl) | (rw [if_neg (by decide +kernel)]; exact ⟨rfl, rfl⟩))
    (fun os started H enc _ => lifted os started H enc)

theorem proved : Rows.GeometryTablesSaid :=
  over
end geometryTables
end Go.Proofs.Ytcennbjegdlbhaa
