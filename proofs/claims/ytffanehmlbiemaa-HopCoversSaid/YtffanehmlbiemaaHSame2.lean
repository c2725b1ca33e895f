/- The reference's Same, of lists that may differ: it answers. -/
import Derived.Test.YtffanehmlbiemaaHSeq
namespace Go.Proofs.Ytffanehmlbiemaa
open Go.RowKit Go.Deep

theorem boxS2 {w w1 : World} {a b c : Int} {ao : Option Addr} {n cap : Nat} {a2 b2 c2 : Int} {ao2 : Option Addr} {n2 cap2 : Nat} (hs : Same ((w.alloc (.cells #[.int .i64 a, .int .i64 b, .int .i64 c, .slice ao n cap] 24)).alloc (.cells #[.int .i64 a2, .int .i64 b2, .int .i64 c2, .slice ao2 n2 cap2] 24)) w1) : w1.cell? ⟨w.heap.size, 3, none⟩ = some (.slice ao n cap) ∧ w1.cell? ⟨w.heap.size + 1, 3, none⟩ = some (.slice ao2 n2 cap2) := ⟨hs.cell (by go_simp), hs.cell (by go_simp)⟩
set_option maxHeartbeats 3200000 in
set_option maxRecDepth 100000 in
theorem Same2_ex (w : World) (a b c a' b' c' : Int) (s1 s2 : Value) (zs ys : List Int) (h1 : IL w s1 zs) (h2 : IL w s2 ys) (hl : zs.length ≤ 1000) (hl2 : ys.length ≤ 1000) :
    Calls Try.prog 24 #[hopV a b c s1, hopV a' b' c' s2] w fun e w' => (∃ u, e = .returned (.bool u)) ∧ Same w w' := by
  obtain ⟨a1, c1, rfl, hx1⟩ := h1.parts
  obtain ⟨a2, c2, rfl, hx2⟩ := h2.parts
  have H1 := Lib.hid hx1
  have H2 := Lib.hid hx2
  clear hx1 hx2 h1 h2
  have HS := Lib.hid (((Same.refl w).alloc (.cells #[.int .i64 a, .int .i64 b, .int .i64 c, .slice a1 zs.length c1] 24)).alloc (.cells #[.int .i64 a', .int .i64 b', .int .i64 c', .slice a2 ys.length c2] 24))
  have HB := Lib.hid (fun (w1 : World) (hs : Same ((w.alloc (.cells #[.int .i64 a, .int .i64 b, .int .i64 c, .slice a1 zs.length c1] 24)).alloc (.cells #[.int .i64 a', .int .i64 b', .int .i64 c', .slice a2 ys.length c2] 24)) w1) => boxS2 hs)
  by_cases e1 : a = a'
  · have f1 : (a != a') = false := by simpa using e1
    by_cases e2 : b = b'
    · have f2 : (b != b') = false := by simpa using e2
      by_cases e3 : c = c'
      · have f3 : (c != c') = false := by simpa using e3
        clear e1 e2 e3
        by_cases e4 : zs.length = ys.length
        · generalize hn : zs.length = n at *
          generalize hn2 : ys.length = n2 at *
          subst e4
          clear hn hn2 hl2
          obtain ⟨x0, hx0⟩ : ∃ x0, x0 = ((w.alloc (.cells #[.int .i64 a, .int .i64 b, .int .i64 c, .slice a1 n c1] 24)).alloc (.cells #[.int .i64 a', .int .i64 b', .int .i64 c', .slice a2 n c2] 24)) := ⟨_, rfl⟩
          go_enter Try.func24, Try.ntmps24
          go_wp2
          rw [← hx0] at HS HB ⊢
          clear hx0
          go_loopw [5] (fun i wr => ∃ k : Nat, k ≤ n ∧ i = .int .i64 k ∧ Same x0 wr) (fun i _ => n - (intOf i).toNat)
          case atStart => exact ⟨0, Nat.zero_le _, rfl, Same.refl _⟩
          case round =>
            obtain ⟨k, hk, rfl, hS⟩ := hrel
            obtain ⟨d1, d2⟩ := HB.out _ hS
            by_cases hlt : k < n
            · obtain ⟨b1, o1, rfl, g1⟩ := H1.out k hlt
              obtain ⟨b2, o2, rfl, g2⟩ := H2.out k hlt
              replace g1 := (HS.out.trans hS).cell g1
              replace g2 := (HS.out.trans hS).cell g2
              have HQ := Lib.hid hS; clear hS
              generalize zs.getD k 0 = x at *
              generalize ys.getD k 0 = y at *
              by_cases exy : x = y
              · have fx : (x != y) = false := by simpa using exy
                clear exy
                go_wp2
                go_quiet (fail)
                go_wp2
                go_roundw
                case rel => exact ⟨k + 1, by omega, by go_num, HQ.out.drewN _⟩
                case measure => simp [intOf]; omega
              · have fx : (x != y) = true := by simpa using exy
                clear exy
                go_wp2
                go_quiet (fail)
                go_wp2
                go_ret
                exact ⟨⟨_, rfl⟩, HS.out.trans (HQ.out.drewN _)⟩
            · obtain rfl : n = k := by omega
              have HQ := Lib.hid hS; clear hS
              go_wp2
              go_ret
              exact ⟨⟨_, rfl⟩, HS.out.trans HQ.out⟩
        · have f4 : ((zs.length : Int) != (ys.length : Int)) = true := by rw [bne_iff_ne]; omega
          clear e4
          generalize zs.length = n at *
          generalize ys.length = n2 at *
          go_enter Try.func24, Try.ntmps24
          go_wp2
          go_ret
          exact ⟨⟨_, rfl⟩, HS.out⟩
      · have f3 : (c != c') = true := by simpa using e3
        clear e1 e2 e3
        generalize zs.length = n at *
        generalize ys.length = n2 at *
        go_enter Try.func24, Try.ntmps24
        go_wp2
        go_ret
        exact ⟨⟨_, rfl⟩, HS.out⟩
    · have f2 : (b != b') = true := by simpa using e2
      clear e1 e2
      generalize zs.length = n at *
      generalize ys.length = n2 at *
      go_enter Try.func24, Try.ntmps24
      go_wp2
      go_ret
      exact ⟨⟨_, rfl⟩, HS.out⟩
  · have f1 : (a != a') = true := by simpa using e1
    clear e1
    generalize zs.length = n at *
    generalize ys.length = n2 at *
    go_enter Try.func24, Try.ntmps24
    go_wp2
    go_ret
    exact ⟨⟨_, rfl⟩, HS.out⟩
end Go.Proofs.Ytffanehmlbiemaa
