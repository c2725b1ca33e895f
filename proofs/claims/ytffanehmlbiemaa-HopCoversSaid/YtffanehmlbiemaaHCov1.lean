/- slices.ContainsFunc with the closure of HopCovers. -/
import Derived.Test.YtffanehmlbiemaaHSame2
namespace Go.Proofs.Ytffanehmlbiemaa
open Go.RowKit Go.Deep

abbrev fnc (B : Nat) : Value := .func (.func 33) #[] #[.pointer (some ⟨B, 0, none⟩)]
/-- The captured list. -/
def Cap (w : World) (B : Nat) (x : Hp) : Prop := ∃ ao cap, w.cell? ⟨B, 0, none⟩ = some (.int .i64 x.1) ∧ w.cell? ⟨B, 1, none⟩ = some (.int .i64 x.2.1) ∧ w.cell? ⟨B, 2, none⟩ = some (.int .i64 x.2.2.1) ∧ w.cell? ⟨B, 3, none⟩ = some (.slice ao x.2.2.2.length cap) ∧ IL w (.slice ao x.2.2.2.length cap) x.2.2.2
theorem Cap.same {w w' : World} {B : Nat} {x : Hp} (h : Cap w B x) (s : Same w w') : Cap w' B x := by
  obtain ⟨ao, cap, h0, h1, h2, h3, h4⟩ := h
  exact ⟨ao, cap, s.cell h0, s.cell h1, s.cell h2, s.cell h3, h4.same s⟩
set_option maxHeartbeats 1600000 in
set_option maxRecDepth 100000 in
theorem covers_ex (w : World) (B : Nat) (x : Hp) (a b c : Int) (ao : Option Addr) (cap : Nat) (zs : List Int) (hc : Cap w B x) (h : IL w (.slice ao zs.length cap) zs) (hl : x.2.2.2.length ≤ 1000) (hl2 : zs.length ≤ 1000) :
    Calls Try.prog 33 #[hopV a b c (.slice ao zs.length cap), .pointer (some ⟨B, 0, none⟩)] w fun e w' => (∃ u, e = .returned (.bool u)) ∧ Same w w' := by
  obtain ⟨x0, x1, x2, xz⟩ := x
  have HS := Lib.hid ((Same.refl w).alloc (.cells #[.int .i64 a, .int .i64 b, .int .i64 c, .slice ao zs.length cap] 24))
  obtain ⟨ax, cx, k0, k1, k2, k3, hx⟩ := hc.same HS.out
  simp only at k0 k1 k2 k3 hx hl
  have HX := Lib.hid (fun (w1 : World) (q : Same w w1) (q2 : IL w1 (.slice ax xz.length cx) xz) => Same2_ex w1 x0 x1 x2 a b c _ _ xz zs q2 (h.same q) hl hl2)
  have HIX := Lib.hid hx; clear hx h hc
  generalize xz.length = n at *
  generalize zs.length = m at *
  go_enter Try.func33, Try.ntmps33
  go_wp2_with (go_at_call 24; (with_reducible refine (HX.out _ HS.out HIX.out).mono ?_); rintro e w1 ⟨⟨u, rfl⟩, hw⟩; have HW := Lib.hid (HS.out.trans hw); clear hw)
  go_ret
  exact ⟨⟨_, rfl⟩, HW.out⟩
set_option maxHeartbeats 1600000 in
set_option maxRecDepth 100000 in
theorem covers_hit (w : World) (B : Nat) (x : Hp) (ao : Option Addr) (cap : Nat) (hc : Cap w B x) (h : IL w (.slice ao x.2.2.2.length cap) x.2.2.2) (hl : x.2.2.2.length ≤ 1000) :
    Calls Try.prog 33 #[hopV x.1 x.2.1 x.2.2.1 (.slice ao x.2.2.2.length cap), .pointer (some ⟨B, 0, none⟩)] w fun e w' => e = .returned (.bool true) ∧ Same w w' := by
  obtain ⟨x0, x1, x2, xz⟩ := x
  simp only at h hl ⊢
  have HS := Lib.hid ((Same.refl w).alloc (.cells #[.int .i64 x0, .int .i64 x1, .int .i64 x2, .slice ao xz.length cap] 24))
  obtain ⟨ax, cx, k0, k1, k2, k3, hx⟩ := hc.same HS.out
  simp only at k0 k1 k2 k3 hx
  have HX := Lib.hid (fun (w1 : World) (q : Same w w1) (q2 : IL w1 (.slice ax xz.length cx) xz) => Same2_any w1 x0 x1 x2 _ _ xz q2 (h.same q) hl)
  have HIX := Lib.hid hx; clear hx h hc
  generalize xz.length = n at *
  go_enter Try.func33, Try.ntmps33
  go_wp2_with (go_at_call 24; (with_reducible refine (HX.out _ HS.out HIX.out).mono ?_); rintro e w1 ⟨rfl, hw⟩; have HW := Lib.hid (HS.out.trans hw); clear hw)
  go_ret
  exact ⟨rfl, HW.out⟩
set_option maxHeartbeats 1600000 in
set_option maxRecDepth 100000 in
theorem IndexH_cov (w : World) (v : Value) (hs : List Hp) (B K : Nat) (hK : K < hs.length) (h : HL w v hs) (hl : hs.length ≤ 1000) (hz : ∀ i, (hs.getD i hp0).2.2.2.length ≤ 1000) (hc : Cap w B (hs.getD K hp0)) :
    Calls Try.prog 50 #[v, fnc B] w fun e w' => (∃ r : Int, 0 ≤ r ∧ r ≤ 1000 ∧ e = .returned (.int .i64 r)) ∧ Same w w' := by
  rcases h with ⟨b, off, cap, rfl, h0, hcc⟩ | ⟨ao, cap, rfl, rfl⟩
  · have H := Lib.hid hcc; clear hcc
    have HZ := Lib.hid hz; clear hz
    have HC := Lib.hid hc; clear hc
    generalize hn : hs.length = n at *
    clear hn
    go_enter Try.func50, Try.ntmps50
    go_wp2
    go_loopw [8] (fun i wr => ∃ k : Nat, k ≤ K ∧ i = .int .i64 k ∧ Same w wr) (fun i _ => n - (intOf i).toNat)
    case atStart => exact ⟨0, Nat.zero_le _, rfl, Same.refl _⟩
    case round =>
      obtain ⟨k, hk, rfl, hS⟩ := hrel
      have hlt : k < n := by omega
      obtain ⟨ao, ca, z0, z1, z2, z3, hil⟩ := (H.out k hlt).same hS
      have HSR := Lib.hid hS
      by_cases hkK : k = K
      · subst hkK
        have HX := Lib.hid (covers_hit wr B (hs.getD k hp0) ao ca (HC.out.same hS) hil (HZ.out k))
        clear hS hil
        generalize (hs.getD k hp0).1 = x0 at z0 HX
        generalize (hs.getD k hp0).2.1 = x1 at z1 HX
        generalize (hs.getD k hp0).2.2.1 = x2 at z2 HX
        generalize (hs.getD k hp0).2.2.2.length = x3 at z3 HX
        go_wp2_with (go_at_call 33; (with_reducible refine HX.out.mono ?_); rintro e w1 ⟨rfl, hw⟩; have HW := Lib.hid (HSR.out.trans hw); clear hw)
        go_ret
        exact ⟨⟨(k : Int), by omega, by omega, rfl⟩, HW.out⟩
      · have HX := Lib.hid (covers_ex wr B (hs.getD K hp0) (hs.getD k hp0).1 (hs.getD k hp0).2.1 (hs.getD k hp0).2.2.1 ao ca (hs.getD k hp0).2.2.2 (HC.out.same hS) hil (HZ.out K) (HZ.out k))
        clear hS hil
        generalize (hs.getD k hp0).1 = x0 at z0 HX
        generalize (hs.getD k hp0).2.1 = x1 at z1 HX
        generalize (hs.getD k hp0).2.2.1 = x2 at z2 HX
        generalize (hs.getD k hp0).2.2.2.length = x3 at z3 HX
        go_wp2_with (go_at_call 33; (with_reducible refine HX.out.mono ?_); rintro e w1 ⟨⟨u, rfl⟩, hw⟩; have HW := Lib.hid (HSR.out.trans hw); clear hw; cases u)
        · go_roundw
          case rel => exact ⟨k + 1, by omega, by go_num, HW.out⟩
          case measure => simp [intOf]; omega
        · go_ret
          exact ⟨⟨(k : Int), by omega, by omega, rfl⟩, HW.out⟩
  · exact absurd hK (by simp)
theorem ContainsH_cov (w : World) (v : Value) (hs : List Hp) (B K : Nat) (hK : K < hs.length) (h : HL w v hs) (hl : hs.length ≤ 1000) (hz : ∀ i, (hs.getD i hp0).2.2.2.length ≤ 1000) (hc : Cap w B (hs.getD K hp0)) :
    Calls Try.prog 32 #[v, fnc B] w fun e w' => e = .returned (.bool true) ∧ Same w w' := by
  have HX := Lib.hid (IndexH_cov w v hs B K hK h hl hz hc)
  obtain ⟨ao, cap, rfl⟩ := h.shape
  clear h hc hz
  go_enter Try.func32, Try.ntmps32
  go_wp2_with (go_at_call 50; (with_reducible refine HX.out.mono ?_); rintro e w1 ⟨⟨r, hr1, hr2, rfl⟩, hw⟩; have HW := Lib.hid hw; clear hw)
  go_ret
  exact ⟨by first | rfl | (congr 2; exact decide_eq_true hr1), HW.out⟩
end Go.Proofs.Ytffanehmlbiemaa
