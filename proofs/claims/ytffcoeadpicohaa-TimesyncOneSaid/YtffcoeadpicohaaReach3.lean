
/- Reach, by the package and by the reference. -/
import Derived.Test.YtffcoeadpicohaaReach2
namespace Go.Proofs.Ytffcoeadpicohaa
open Go.RowKit Go.Lib Go.Sort

/-- Reach. -/
def reachS (o d : Int) (r : Nat) : Int × Int := if okC o d = true then rchP r else (0, 1)
theorem Reach2_any (o d x : Int) (r : Nat) (hr : okC o d = true → IsR o d x r) (w : World) :
    Calls Try.prog 76 #[.agg #[.int .i64 o, .int .i64 d], .int .i64 x] w fun e w' => e = .returned (.tuple #[.int .i64 (reachS o d r).1, .int .i64 (reachS o d r).2]) ∧ Grew w w' := by
  have h1 := fun w => check2_any o d w
  rcases chk_cases o d with ⟨a, b⟩ | ⟨a, b⟩ <;> rw [show chk o d = _ from b] at h1 <;> clear b
  · have h3 := fun (t : Int) (k : 0 ≤ t ∧ t ≤ 1099511627776) (w : World) => at2_any o d t a k.1 k.2 w
    rw [show reachS o d r = rchP r from if_pos a]
    obtain ⟨hr1, hr2⟩ := hr a
    clear hr
    have H1 := Lib.hid h1; clear h1
    by_cases hlt : r ≤ 1099511627776
    · have hm : x ≤ shS o d 1099511627776 := by
        have := hr2 1099511627776 (by decide)
        by_cases e : shS o d 1099511627776 < x
        · have := this.2 e; omega
        · omega
      rw [show rchP r = ((r : Int), 0) from if_pos hlt]
      have H2 := Lib.hid hr2; clear hr2 hr1
      have hx := h3 1099511627776 (by decide)
      generalize shS o d 1099511627776 = top at *
      have HX := Lib.hid hx; clear hx
      have H3 := Lib.hid h3; clear h3 a
      go_enter Try.func76, Try.ntmps76
      go_wp2_with (first
        | (go_at_call 44; (with_reducible refine (H1.out _).mono ?_); rintro e w1 ⟨rfl, hw⟩; have HB := Lib.hid ((Bx.new w o d 23).keep hw); clear hw; obtain ⟨k0, k1, _⟩ := HB.out)
        | (go_at_call 47; (with_reducible refine (HX.out _).mono ?_); rintro e w2 ⟨rfl, hw⟩; have HB' := Lib.hid (HB.out.keep hw); clear hw HB k0 k1; have HB := HB'; clear HB'; obtain ⟨k0, k1, _⟩ := HB.out))
      clear HX H1 k0 k1
      generalize decide (top < x) = tb at *
      go_loopw [6, 7] (fun lo hi wr => ∃ l h : Nat, lo = .int .i64 l ∧ hi = .int .i64 h ∧ l ≤ r ∧ r ≤ h ∧ h ≤ 1099511627776 ∧ Bx w w.heap.size o d wr) (fun lo hi _ => (intOf hi).toNat - (intOf lo).toNat)
      case atStart => exact ⟨0, 1099511627776, rfl, rfl, Nat.zero_le _, hlt, Nat.le_refl _, HB.out⟩
      case round =>
        obtain ⟨l, h, rfl, rfl, hl, hh, hb, hB⟩ := hrel
        have HB2 := Lib.hid hB
        obtain ⟨k0, k1, _⟩ := hB
        by_cases hc : l < h
        · have hsp := H2.out ((l + h) / 2) (by omega)
          have hat := H3.out (((l + h) / 2 : Nat) : Int) (by omega)
          have hmid : ((l : Int) + (h : Int)) / 2 = (((l + h) / 2 : Nat) : Int) := by omega
          obtain ⟨m, hme⟩ : ∃ m, m = (l + h) / 2 := ⟨_, rfl⟩
          rw [← hme] at hsp hat hmid
          have m1 : l ≤ m := by omega
          have m2 : m < h := by omega
          clear hme
          by_cases hv : x ≤ shS o d m
          · have hrm : r ≤ m := by
              by_cases e : m < r
              · have := hsp.1 e; omega
              · omega
            generalize shS o d m = v at *
            have HA := Lib.hid hat; clear hat hsp
            go_wp2_with (go_at_call 47; (with_reducible refine (HA.out _).mono ?_); rintro e w4 ⟨rfl, hw⟩; have HB3 := Lib.hid (HB2.out.keep hw); clear hw HB2 k0 k1)
            go_roundw
            case rel => exact ⟨l, m, rfl, rfl, by omega, by omega, by omega, HB3.out⟩
            case measure => simp [intOf]; omega
          · have hrm : m + 1 ≤ r := by
              have := hsp.2 (by omega); omega
            have hv' : shS o d m < x := by omega
            generalize shS o d m = v at *
            have HA := Lib.hid hat; clear hat hsp hv
            go_wp2_with (go_at_call 47; (with_reducible refine (HA.out _).mono ?_); rintro e w4 ⟨rfl, hw⟩; have HB3 := Lib.hid (HB2.out.keep hw); clear hw HB2 k0 k1)
            go_roundw
            case rel => exact ⟨m + 1, h, by go_num, rfl, by omega, by omega, by omega, HB3.out⟩
            case measure => simp [intOf]; omega
        · obtain rfl : l = r := by omega
          clear H2 H3
          go_wp2
          go_ret2
          exact ⟨rfl, HB2.out.2.2⟩
    · have hm : shS o d 1099511627776 < x := (hr2 1099511627776 (by decide)).1 (by omega)
      rw [show rchP r = (0, 15) from if_neg hlt]
      clear hr2 hr1 hlt
      have hx := h3 1099511627776 (by decide)
      generalize shS o d 1099511627776 = top at *
      have HX := Lib.hid hx; clear hx h3 a
      go_enter Try.func76, Try.ntmps76
      go_wp2_with (first
        | (go_at_call 44; (with_reducible refine (H1.out _).mono ?_); rintro e w1 ⟨rfl, hw⟩; have HB := Lib.hid ((Bx.new w o d 23).keep hw); clear hw; obtain ⟨k0, k1, _⟩ := HB.out)
        | (go_at_call 47; (with_reducible refine (HX.out _).mono ?_); rintro e w2 ⟨rfl, hw⟩; have HB' := Lib.hid (HB.out.keep hw); clear hw HB k0 k1; have HB := HB'; clear HB'; obtain ⟨k0, k1, _⟩ := HB.out))
      go_ret2
      exact ⟨rfl, HB.out.2.2⟩
  · rw [show reachS o d r = (0, 1) from if_neg (by rw [a]; decide)]
    have H1 := Lib.hid h1; clear h1 a hr
    go_enter Try.func76, Try.ntmps76
    go_wp2_with (go_at_call 44; (with_reducible refine (H1.out _).mono ?_); rintro e w1 ⟨rfl, hw⟩; have HB := Lib.hid ((Bx.new w o d 23).keep hw); clear hw; obtain ⟨k0, k1, _⟩ := HB.out)
    go_ret2
    exact ⟨rfl, HB.out.2.2⟩
end Go.Proofs.Ytffcoeadpicohaa
