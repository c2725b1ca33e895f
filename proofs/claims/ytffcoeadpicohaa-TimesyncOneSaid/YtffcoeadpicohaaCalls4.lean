
/- Slots, windows, adjusting, differences, by the package and by the reference. -/
import Derived.Test.YtffcoeadpicohaaReach3
import Derived.OwnWalk
namespace Go.Proofs.Ytffcoeadpicohaa
open Go.RowKit Go.Lib Go.Sort

/-- A slot's number is in its range. -/
def slB (n : Int) : Bool := inB n 0 109951162
theorem slB_of {n : Int} (h : slB n = true) : 0 ≤ n ∧ n ≤ 109951162 := inB_yes h
/-- What a clock reaches in a slot. -/
def inS (o d n : Int) (r : Nat) : Int × Int := if okC o d = true then (if slB n = true then rchP r else (0, 2)) else (0, 1)
theorem in_cases (o d n : Int) (r : Nat) : (okC o d = true ∧ slB n = true ∧ inS o d n r = rchP r) ∨ (okC o d = true ∧ slB n = false ∧ inS o d n r = (0, 2)) ∨ (okC o d = false ∧ inS o d n r = (0, 1)) := by
  unfold inS
  cases okC o d <;> cases slB n <;> simp
theorem inSlot_any (o d n k : Int) (hk : 0 ≤ k ∧ k ≤ 10000) (r : Nat) (hr : okC o d = true → slB n = true → IsR o d (n * 10000 + k) r) (w : World) :
    Calls Try.prog 55 #[.agg #[.int .i64 o, .int .i64 d], .int .i64 n, .int .i64 k] w fun e w' => e = .returned (.tuple #[.int .i64 (inS o d n r).1, .int .i64 (inS o d n r).2]) ∧ Grew w w' := by
  have h1 := fun w => check_any o d w
  have h4 : ∀ w, Calls Try.prog 61 #[.int .i64 n, .int .i64 0, .int .i64 109951162] w fun e w' => e = .returned (.bool (slB n)) ∧ w' = w := fun w => within_any n 0 109951162 w
  rcases in_cases o d n r with ⟨a, b, hs⟩ | ⟨a, b, hs⟩ | ⟨a, hs⟩ <;> rw [hs] <;> clear hs
  · have h3 := fun (w : World) (B : Nat) => reach_any o d (n * 10000 + k) a r (hr a b) B w
    obtain ⟨n1, n2⟩ := slB_of b
    rw [show chk o d = 0 from if_pos a] at h1
    rw [b] at h4
    have H1 := Lib.hid h1; clear h1 a b hr
    have H2 := Lib.hid (fun w => dialOf_any o d w)
    have H3 := Lib.hid h3; clear h3
    have H4 := Lib.hid h4; clear h4
    obtain ⟨k1, k2⟩ := hk
    generalize rchP r = q at *
    obtain ⟨q1, q2⟩ := q
    go_enter Try.func55, Try.ntmps55
    go_wp2_with (first
      | (go_at_call 41; (with_reducible refine (H1.out _).mono ?_); rintro e w1 ⟨rfl, hw⟩; have HB := Lib.hid ((Bx.new w o d 23).keep hw); clear hw; obtain ⟨k0, k1, _⟩ := HB.out)
      | (go_at_call 61; (with_reducible refine (H4.out _).mono ?_); rintro e w3 ⟨rfl, rfl⟩)
      | (go_at_call 68; (with_reducible refine (H2.out _).mono ?_); rintro e w2 ⟨rfl, hw⟩; obtain ⟨j0, j1, hj⟩ := hw; have HC := Lib.hid (HB.out.2.2.trans hj); clear hj HB k0 k1)
      | (go_at_call 69; (with_reducible refine (H3.out _ _ j0 j1).mono ?_); rintro e w3 ⟨rfl, hw⟩; have HD := Lib.hid (HC.out.trans hw); clear hw HC))
    go_ret2
    exact ⟨rfl, HD.out⟩
  · rw [show chk o d = 0 from if_pos a] at h1
    rw [b] at h4
    have H1 := Lib.hid h1; clear h1 a b hr
    have H4 := Lib.hid h4; clear h4
    go_enter Try.func55, Try.ntmps55
    go_wp2_with (first | (go_at_call 41; (with_reducible refine (H1.out _).mono ?_); rintro e w1 ⟨rfl, hw⟩; have HB := Lib.hid ((Bx.new w o d 23).keep hw); clear hw; obtain ⟨k0, k1, _⟩ := HB.out) | (go_at_call 61; (with_reducible refine (H4.out _).mono ?_); rintro e w3 ⟨rfl, rfl⟩))
    go_ret2
    exact ⟨rfl, HB.out.2.2⟩
  · rw [show chk o d = 1 from if_neg (by rw [a]; decide)] at h1
    have H1 := Lib.hid h1; clear h1 a h4 hr
    go_enter Try.func55, Try.ntmps55
    go_wp2_with (go_at_call 41; (with_reducible refine (H1.out _).mono ?_); rintro e w1 ⟨rfl, hw⟩; have HB := Lib.hid ((Bx.new w o d 23).keep hw); clear hw; obtain ⟨k0, k1, _⟩ := HB.out)
    go_ret2
    exact ⟨rfl, HB.out.2.2⟩
theorem in2_any (o d n k : Int) (hk : 0 ≤ k ∧ k ≤ 10000) (r : Nat) (hr : okC o d = true → slB n = true → IsR o d (n * 10000 + k) r) (w : World) :
    Calls Try.prog 72 #[.agg #[.int .i64 o, .int .i64 d], .int .i64 n, .int .i64 k] w fun e w' => e = .returned (.tuple #[.int .i64 (inS o d n r).1, .int .i64 (inS o d n r).2]) ∧ Grew w w' := by
  have h1 := fun w => check2_any o d w
  rcases in_cases o d n r with ⟨a, b, hs⟩ | ⟨a, b, hs⟩ | ⟨a, hs⟩ <;> rw [hs] <;> clear hs
  · have h3 := fun (w : World) => Reach2_any o d (n * 10000 + k) r (fun a => hr a b) w
    rw [show reachS o d r = rchP r from if_pos a] at h3
    obtain ⟨n1, n2⟩ := slB_of b
    rw [show chk o d = 0 from if_pos a] at h1
    have H1 := Lib.hid h1; clear h1 a b hr
    have H3 := Lib.hid h3; clear h3
    obtain ⟨k1, k2⟩ := hk
    generalize rchP r = q at *
    obtain ⟨q1, q2⟩ := q
    go_enter Try.func72, Try.ntmps72
    go_wp2_with (first
      | (go_at_call 44; (with_reducible refine (H1.out _).mono ?_); rintro e w1 ⟨rfl, hw⟩; have HB := Lib.hid ((Bx.new w o d 23).keep hw); clear hw; obtain ⟨k0, k1, _⟩ := HB.out)
      | (go_at_call 76; (with_reducible refine (H3.out _).mono ?_); rintro e w2 ⟨rfl, hw⟩; have HB' := Lib.hid (HB.out.keep hw); clear hw HB k0 k1; have HB := HB'; clear HB'; obtain ⟨k0, k1, _⟩ := HB.out))
    go_ret2
    exact ⟨rfl, HB.out.2.2⟩
  · rw [show chk o d = 0 from if_pos a] at h1
    have hb := inB_no b
    have H1 := Lib.hid h1; clear h1 a b hr
    by_cases n1 : n < 0
    · clear hb
      go_enter Try.func72, Try.ntmps72
      go_wp2_with (go_at_call 44; (with_reducible refine (H1.out _).mono ?_); rintro e w1 ⟨rfl, hw⟩; have HB := Lib.hid ((Bx.new w o d 23).keep hw); clear hw; obtain ⟨k0, k1, _⟩ := HB.out)
      go_ret2
      exact ⟨rfl, HB.out.2.2⟩
    · have n2 : 0 ≤ n := by omega
      have n3 : 109951162 < n := by omega
      clear hb n1
      go_enter Try.func72, Try.ntmps72
      go_wp2_with (go_at_call 44; (with_reducible refine (H1.out _).mono ?_); rintro e w1 ⟨rfl, hw⟩; have HB := Lib.hid ((Bx.new w o d 23).keep hw); clear hw; obtain ⟨k0, k1, _⟩ := HB.out)
      go_ret2
      exact ⟨rfl, HB.out.2.2⟩
  · rw [show chk o d = 1 from if_neg (by rw [a]; decide)] at h1
    have H1 := Lib.hid h1; clear h1 a hr
    go_enter Try.func72, Try.ntmps72
    go_wp2_with (go_at_call 44; (with_reducible refine (H1.out _).mono ?_); rintro e w1 ⟨rfl, hw⟩; have HB := Lib.hid ((Bx.new w o d 23).keep hw); clear hw; obtain ⟨k0, k1, _⟩ := HB.out)
    go_ret2
    exact ⟨rfl, HB.out.2.2⟩
theorem Send_any (o d n : Int) (r : Nat) (hr : okC o d = true → slB n = true → IsR o d (n * 10000 + 2120) r) (w : World) :
    Calls Try.prog 32 #[.agg #[.int .i64 o, .int .i64 d], .int .i64 n] w fun e w' => e = .returned (.tuple #[.int .i64 (inS o d n r).1, .int .i64 (inS o d n r).2]) ∧ Grew w w' := by
  have H1 := Lib.hid (fun w => inSlot_any o d n 2120 (by decide) r hr w)
  clear hr
  generalize inS o d n r = q at *
  obtain ⟨q1, q2⟩ := q
  go_enter Try.func32, Try.ntmps32
  go_wp2_with (go_at_call 55; (with_reducible refine (H1.out _).mono ?_); rintro e w1 ⟨rfl, hw⟩; have HB := Lib.hid ((Bx.new w o d 23).keep hw); clear hw; obtain ⟨k0, k1, _⟩ := HB.out)
  go_ret2
  exact ⟨rfl, HB.out.2.2⟩
theorem Send2_any (o d n : Int) (r : Nat) (hr : okC o d = true → slB n = true → IsR o d (n * 10000 + 2120) r) (w : World) :
    Calls Try.prog 67 #[.agg #[.int .i64 o, .int .i64 d], .int .i64 n] w fun e w' => e = .returned (.tuple #[.int .i64 (inS o d n r).1, .int .i64 (inS o d n r).2]) ∧ Grew w w' := by
  have H1 := Lib.hid (fun w => in2_any o d n 2120 (by decide) r hr w)
  clear hr
  generalize inS o d n r = q at *
  obtain ⟨q1, q2⟩ := q
  go_enter Try.func67, Try.ntmps67
  go_wp2_with (go_at_call 72; (with_reducible refine (H1.out _).mono ?_); rintro e w1 ⟨rfl, hw⟩; have HB := Lib.hid ((Bx.new w o d 23).keep hw); clear hw; obtain ⟨k0, k1, _⟩ := HB.out)
  go_ret2
  exact ⟨rfl, HB.out.2.2⟩
/-- Window: its first time, its last time, its error. -/
def winS (o d n : Int) (r0 r1 : Nat) : Int × Int × Int := if (inS o d n r1).2 = 0 then ((inS o d n r0).1, (inS o d n r1).1 - 1, 0) else (0, 0, (inS o d n r1).2)
theorem inS_bd (o d n : Int) (r : Nat) : 0 ≤ (inS o d n r).1 ∧ (inS o d n r).1 ≤ 1099511627776 ∧ 0 ≤ (inS o d n r).2 ∧ (inS o d n r).2 ≤ 15 := by
  rcases in_cases o d n r with ⟨_, _, hs⟩ | ⟨_, _, hs⟩ | ⟨_, hs⟩ <;> rw [hs]
  · unfold rchP; split <;> simp only [] <;> omega
  · decide
  · decide
end Go.Proofs.Ytffcoeadpicohaa
