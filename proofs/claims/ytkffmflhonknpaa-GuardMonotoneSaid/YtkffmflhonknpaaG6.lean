/- Fits and Late of package guard and of the reference, over any contract of what they call. -/
import Derived.Test.YtkffmflhonknpaaG5
namespace Go.Proofs.Ytkffmflhonknpaa
open Go.RowKit Go.Lib Go.Sort

/-- Two clocks' boxes. -/
def Bz (w : World) (o d o' d' : Int) (w' : World) : Prop :=
  w'.cell? ⟨w.heap.size, 0, none⟩ = some (.int .i64 o) ∧ w'.cell? ⟨w.heap.size, 1, none⟩ = some (.int .i64 d) ∧ w'.cell? ⟨w.heap.size + 1, 0, none⟩ = some (.int .i64 o') ∧ w'.cell? ⟨w.heap.size + 1, 1, none⟩ = some (.int .i64 d') ∧ Same w w'
theorem Bz.keep {w w1 w2 : World} {o d o' d' : Int} (h : Bz w o d o' d' w1) (k : Same w1 w2) : Bz w o d o' d' w2 := ⟨k.cell h.1, k.cell h.2.1, k.cell h.2.2.1, k.cell h.2.2.2.1, h.2.2.2.2.trans k⟩
theorem Bz.new (w : World) (o d o' d' : Int) (t t' : TypeId) : Bz w o d o' d' ((w.alloc (.cells #[.int .i64 o, .int .i64 d] t)).alloc (.cells #[.int .i64 o', .int .i64 d'] t')) :=
  ⟨by go_simp, by go_simp, by go_simp, by go_simp, ((Same.refl w).alloc _).alloc _⟩
/-- Fits. -/
def fiF (a : (Int × Int × Int) × Int) : Bool × Int := if a.2 = 0 then (decide (a.1.2.1 ≤ a.1.1) && decide (a.1.1 ≤ a.1.2.2), 0) else (false, a.2)
theorem Fits_of {o d o' d' n x e f l e' : Int} (h1 : CSend o d n x e) (h2 : CWin o' d' n f l e') (w : World) :
    Calls Try.prog 24 #[.agg #[.int .i64 o, .int .i64 d], .agg #[.int .i64 o', .int .i64 d'], .int .i64 n] w fun r w' => r = .returned (.tuple #[.bool (fiF (arF x e f l e')).1, .int .i64 (fiF (arF x e f l e')).2]) ∧ Same w w' := by
  have hmf : ∀ (fn : Fn) (first cap : Array Value) (w : World), (Instr.makeFunc fn first cap).run Try.prog w = .ok (.func fn first cap) w := fun _ _ _ _ => rfl
  have k1 := fun w => arrive_of h1 h2 w
  clear h1 h2
  generalize arF x e f l e' = q at *
  obtain ⟨⟨x, f, l⟩, e⟩ := q
  simp only at k1
  by_cases he : e = 0
  · subst he
    rw [show fiF ((x, f, l), 0) = (decide (f ≤ x) && decide (x ≤ l), 0) from rfl]
    have H1 := Lib.hid k1; clear k1
    by_cases a1 : f ≤ x
    · have e1 : decide (f ≤ x) = true := by simpa using a1
      rw [e1]
      generalize hx : decide (x ≤ l) = b at *
      go_enter Try.func24, Try.ntmps24
      go_wp2_with (go_at_call 47; (with_reducible refine (H1.out _).mono ?_); rintro r w1 ⟨rfl, hw⟩; have HB := Lib.hid ((Bz.new w o d o' d' 31 31).keep hw); clear hw)
      go_ret2
      exact ⟨by simp, HB.out.2.2.2.2.alloc _⟩
    · have a2 : x < f := by omega
      have e1 : decide (f ≤ x) = false := by simpa using a1
      rw [e1]
      clear a1
      go_enter Try.func24, Try.ntmps24
      go_wp2_with (go_at_call 47; (with_reducible refine (H1.out _).mono ?_); rintro r w1 ⟨rfl, hw⟩; have HB := Lib.hid ((Bz.new w o d o' d' 31 31).keep hw); clear hw)
      go_ret2
      exact ⟨rfl, HB.out.2.2.2.2.alloc _⟩
  · rw [show fiF ((x, f, l), e) = (false, e) from if_neg he]
    have hd : (e != 0) = true := by simpa using he
    have H1 := Lib.hid k1; clear k1 he
    go_enter Try.func24, Try.ntmps24
    go_wp2_with (go_at_call 47; (with_reducible refine (H1.out _).mono ?_); rintro r w1 ⟨rfl, hw⟩; have HB := Lib.hid ((Bz.new w o d o' d' 31 31).keep hw); clear hw)
    go_ret2
    exact ⟨rfl, HB.out.2.2.2.2.alloc _⟩
theorem Fits2_of {o d o' d' n x e f l e' : Int} (h1 : CSend2 o d n x e) (h2 : CWin2 o' d' n f l e') (w : World) :
    Calls Try.prog 25 #[.agg #[.int .i64 o, .int .i64 d], .agg #[.int .i64 o', .int .i64 d'], .int .i64 n] w fun r w' => r = .returned (.tuple #[.bool (fiF (arF x e f l e')).1, .int .i64 (fiF (arF x e f l e')).2]) ∧ Grew w w' := by
  have K1 := Lib.hid h1; clear h1
  have K2 := Lib.hid h2; clear h2
  rcases ar_cases x e f l e' with ⟨rfl, rfl, hs⟩ | ⟨rfl, a, hs⟩ | ⟨a, hs⟩ <;> rw [hs] <;> clear hs
  · rw [show fiF ((x, f, l), 0) = (decide (f ≤ x) && decide (x ≤ l), 0) from rfl]
    by_cases a1 : f ≤ x
    · have e1 : decide (f ≤ x) = true := by simpa using a1
      rw [e1]
      generalize hx : decide (x ≤ l) = b at *
      go_enter Try.func25, Try.ntmps25
      go_wp2_with (first
        | (go_at_call 46; (with_reducible refine (K1.out _).mono ?_); rintro r w1 ⟨rfl, hw⟩; have HB := Lib.hid ((By.new w o d o' d' 31 31).keep hw); clear hw; obtain ⟨k0, k1, k2, k3, k4⟩ := HB.out)
        | (go_at_call 50; (with_reducible refine (K2.out _).mono ?_); rintro r w2 ⟨rfl, hw⟩; have HC := Lib.hid (HB.out.keep hw); clear hw HB k0 k1 k2 k3 k4))
      go_ret2
      exact ⟨by simp, HC.out.2.2.2.2⟩
    · have a2 : x < f := by omega
      have e1 : decide (f ≤ x) = false := by simpa using a1
      rw [e1]
      clear a1
      go_enter Try.func25, Try.ntmps25
      go_wp2_with (first
        | (go_at_call 46; (with_reducible refine (K1.out _).mono ?_); rintro r w1 ⟨rfl, hw⟩; have HB := Lib.hid ((By.new w o d o' d' 31 31).keep hw); clear hw; obtain ⟨k0, k1, k2, k3, k4⟩ := HB.out)
        | (go_at_call 50; (with_reducible refine (K2.out _).mono ?_); rintro r w2 ⟨rfl, hw⟩; have HC := Lib.hid (HB.out.keep hw); clear hw HB k0 k1 k2 k3 k4))
      go_ret2
      exact ⟨rfl, HC.out.2.2.2.2⟩
  · have he : ¬ e' = 0 := by simpa using a
    rw [show fiF ((0, 0, 0), e') = (false, e') from if_neg he]
    clear he
    go_enter Try.func25, Try.ntmps25
    go_wp2_with (first
      | (go_at_call 46; (with_reducible refine (K1.out _).mono ?_); rintro r w1 ⟨rfl, hw⟩; have HB := Lib.hid ((By.new w o d o' d' 31 31).keep hw); clear hw; obtain ⟨k0, k1, k2, k3, k4⟩ := HB.out)
      | (go_at_call 50; (with_reducible refine (K2.out _).mono ?_); rintro r w2 ⟨rfl, hw⟩; have HC := Lib.hid (HB.out.keep hw); clear hw HB k0 k1 k2 k3 k4))
    go_ret2
    exact ⟨rfl, HC.out.2.2.2.2⟩
  · have he : ¬ e = 0 := by simpa using a
    rw [show fiF ((0, 0, 0), e) = (false, e) from if_neg he]
    clear he
    go_enter Try.func25, Try.ntmps25
    go_wp2_with (go_at_call 46; (with_reducible refine (K1.out _).mono ?_); rintro r w1 ⟨rfl, hw⟩; have HB := Lib.hid ((By.new w o d o' d' 31 31).keep hw); clear hw)
    go_ret2
    exact ⟨rfl, HB.out.2.2.2.2⟩
/-- Late: v is what the receiver's clock shows. -/
def laF (n v : Int) (a : (Int × Int × Int) × Int) : Int × Int := if a.2 = 0 then (v - (n * 10000 + 2120), 0) else (0, a.2)
theorem Late_of {o d o' d' n x e f l e' v : Int} (h1 : CSend o d n x e) (h2 : CWin o' d' n f l e') (hv : e = 0 → e' = 0 → CShow o' d' x v 0 ∧ (-2300000000000 ≤ v ∧ v ≤ 2300000000000) ∧ 0 ≤ n ∧ n ≤ 109951162) (w : World) :
    Calls Try.prog 26 #[.agg #[.int .i64 o, .int .i64 d], .agg #[.int .i64 o', .int .i64 d'], .int .i64 n] w fun r w' => r = .returned (.tuple #[.int .i64 (laF n v (arF x e f l e')).1, .int .i64 (laF n v (arF x e f l e')).2]) ∧ Same w w' := by
  have hmf : ∀ (fn : Fn) (first cap : Array Value) (w : World), (Instr.makeFunc fn first cap).run Try.prog w = .ok (.func fn first cap) w := fun _ _ _ _ => rfl
  have k1 := fun w => arrive_of h1 h2 w
  clear h1 h2
  rcases ar_cases x e f l e' with ⟨rfl, rfl, hs⟩ | ⟨rfl, a, hs⟩ | ⟨a, hs⟩ <;> rw [hs] at k1 ⊢ <;> clear hs
  · obtain ⟨hsh, ⟨v1, v2⟩, n1, n2⟩ := hv rfl rfl
    rw [show laF n v ((x, f, l), 0) = (v - (n * 10000 + 2120), 0) from rfl]
    have H1 := Lib.hid k1; clear k1
    have H2 := Lib.hid hsh; clear hsh hv
    go_enter Try.func26, Try.ntmps26
    go_wp2_with (first
      | (go_at_call 47; (with_reducible refine (H1.out _).mono ?_); rintro r w1 ⟨rfl, hw⟩; have HB := Lib.hid (((Bz.new w o d o' d' 31 31).keep hw).keep ((Same.refl _).alloc (.cells #[.int .i64 x, .int .i64 f, .int .i64 l] 54))); clear hw; obtain ⟨k0, k1, k2, k3, k4⟩ := HB.out)
      | (go_at_call 32; (with_reducible refine (H2.out _).mono ?_); rintro r w2 ⟨rfl, hw⟩; have HC := Lib.hid (HB.out.keep hw.toSame); clear hw HB k0 k1 k2 k3 k4))
    go_ret2
    exact ⟨rfl, HC.out.2.2.2.2⟩
  · have he : ¬ e' = 0 := by simpa using a
    rw [show laF n v ((0, 0, 0), e') = (0, e') from if_neg he]
    have H1 := Lib.hid k1; clear k1 he hv
    go_enter Try.func26, Try.ntmps26
    go_wp2_with (go_at_call 47; (with_reducible refine (H1.out _).mono ?_); rintro r w1 ⟨rfl, hw⟩; have HB := Lib.hid ((Bz.new w o d o' d' 31 31).keep hw); clear hw)
    go_ret2
    exact ⟨rfl, HB.out.2.2.2.2.alloc _⟩
  · have he : ¬ e = 0 := by simpa using a
    rw [show laF n v ((0, 0, 0), e) = (0, e) from if_neg he]
    have H1 := Lib.hid k1; clear k1 he hv
    go_enter Try.func26, Try.ntmps26
    go_wp2_with (go_at_call 47; (with_reducible refine (H1.out _).mono ?_); rintro r w1 ⟨rfl, hw⟩; have HB := Lib.hid ((Bz.new w o d o' d' 31 31).keep hw); clear hw)
    go_ret2
    exact ⟨rfl, HB.out.2.2.2.2.alloc _⟩
theorem Late2_of {o d o' d' n x e f l e' v : Int} (h1 : CSend2 o d n x e) (h2 : CWin2 o' d' n f l e') (hv : e = 0 → e' = 0 → CAt2 o' d' x v ∧ (-2300000000000 ≤ v ∧ v ≤ 2300000000000) ∧ 0 ≤ n ∧ n ≤ 109951162) (w : World) :
    Calls Try.prog 27 #[.agg #[.int .i64 o, .int .i64 d], .agg #[.int .i64 o', .int .i64 d'], .int .i64 n] w fun r w' => r = .returned (.tuple #[.int .i64 (laF n v (arF x e f l e')).1, .int .i64 (laF n v (arF x e f l e')).2]) ∧ Grew w w' := by
  have K1 := Lib.hid h1; clear h1
  have K2 := Lib.hid h2; clear h2
  rcases ar_cases x e f l e' with ⟨rfl, rfl, hs⟩ | ⟨rfl, a, hs⟩ | ⟨a, hs⟩ <;> rw [hs] <;> clear hs
  · obtain ⟨hsh, ⟨v1, v2⟩, n1, n2⟩ := hv rfl rfl
    rw [show laF n v ((x, f, l), 0) = (v - (n * 10000 + 2120), 0) from rfl]
    have H2 := Lib.hid hsh; clear hsh hv
    go_enter Try.func27, Try.ntmps27
    go_wp2_with (first
      | (go_at_call 46; (with_reducible refine (K1.out _).mono ?_); rintro r w1 ⟨rfl, hw⟩; have HB := Lib.hid ((By.new w o d o' d' 31 31).keep hw); clear hw; obtain ⟨k0, k1, k2, k3, k4⟩ := HB.out)
      | (go_at_call 50; (with_reducible refine (K2.out _).mono ?_); rintro r w2 ⟨rfl, hw⟩; have HC := Lib.hid (HB.out.keep hw); clear hw HB k0 k1 k2 k3 k4; obtain ⟨k0, k1, k2, k3, k4⟩ := HC.out)
      | (go_at_call 51; (with_reducible refine (H2.out _).mono ?_); rintro r w3 ⟨rfl, hw⟩; have HD := Lib.hid (HC.out.keep hw); clear hw HC k0 k1 k2 k3 k4))
    go_ret2
    exact ⟨ret2_i64 (by omega) rfl, HD.out.2.2.2.2⟩
  · have he : ¬ e' = 0 := by simpa using a
    rw [show laF n v ((0, 0, 0), e') = (0, e') from if_neg he]
    clear he hv
    go_enter Try.func27, Try.ntmps27
    go_wp2_with (first
      | (go_at_call 46; (with_reducible refine (K1.out _).mono ?_); rintro r w1 ⟨rfl, hw⟩; have HB := Lib.hid ((By.new w o d o' d' 31 31).keep hw); clear hw; obtain ⟨k0, k1, k2, k3, k4⟩ := HB.out)
      | (go_at_call 50; (with_reducible refine (K2.out _).mono ?_); rintro r w2 ⟨rfl, hw⟩; have HC := Lib.hid (HB.out.keep hw); clear hw HB k0 k1 k2 k3 k4))
    go_ret2
    exact ⟨rfl, HC.out.2.2.2.2⟩
  · have he : ¬ e = 0 := by simpa using a
    rw [show laF n v ((0, 0, 0), e) = (0, e) from if_neg he]
    clear he hv
    go_enter Try.func27, Try.ntmps27
    go_wp2_with (go_at_call 46; (with_reducible refine (K1.out _).mono ?_); rintro r w1 ⟨rfl, hw⟩; have HB := Lib.hid ((By.new w o d o' d' 31 31).keep hw); clear hw)
    go_ret2
    exact ⟨rfl, HB.out.2.2.2.2⟩
end Go.Proofs.Ytkffmflhonknpaa
