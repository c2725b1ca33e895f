/- Crossings: the rectangles meet and no segment lies on one side of the other, exactly if they cross properly or an end of one lies on the other. -/
import Derived.Handy
namespace Go.Proofs.Ytcennbjegdlbhaa
namespace GeoM
def same (p q : Int) : Prop := (0 < p ∧ 0 < q) ∨ (p < 0 ∧ q < 0)
def opp (p q : Int) : Prop := (0 < p ∧ q < 0) ∨ (p < 0 ∧ 0 < q)
theorem pp {x y : Int} (hx : 0 < x) (hy : 0 < y) : 0 < x * y := Int.mul_pos hx hy
theorem pn {x y : Int} (hx : 0 < x) (hy : y < 0) : x * y < 0 := by have := Int.mul_pos hx (show 0 < -y by omega); rw [Int.mul_neg] at this; omega
theorem np {x y : Int} (hx : x < 0) (hy : 0 < y) : x * y < 0 := by rw [Int.mul_comm]; exact pn hy hx
theorem nn {x y : Int} (hx : x < 0) (hy : y < 0) : 0 < x * y := by have := Int.mul_pos (show 0 < -x by omega) (show 0 < -y by omega); rwa [Int.neg_mul_neg] at this
theorem zero_of {x y : Int} (h : x * y = 0) (hy : y ≠ 0) : x = 0 := (Int.mul_eq_zero.1 h).resolve_right hy
/-- The sign of a product, for omega. -/
theorem sg (x y : Int) : (0 < x ∧ 0 < y ∧ 0 < x * y) ∨ (0 < x ∧ y < 0 ∧ x * y < 0) ∨ (x < 0 ∧ 0 < y ∧ x * y < 0) ∨ (x < 0 ∧ y < 0 ∧ 0 < x * y) ∨ (x = 0 ∧ x * y = 0) ∨ (y = 0 ∧ x * y = 0) := by
  rcases Int.lt_trichotomy x 0 with hx | rfl | hx
  · rcases Int.lt_trichotomy y 0 with hy | rfl | hy
    · exact .inr (.inr (.inr (.inl ⟨hx, hy, nn hx hy⟩)))
    · exact .inr (.inr (.inr (.inr (.inr ⟨rfl, by simp⟩))))
    · exact .inr (.inr (.inl ⟨hx, hy, np hx hy⟩))
  · exact .inr (.inr (.inr (.inr (.inl ⟨rfl, by simp⟩))))
  · rcases Int.lt_trichotomy y 0 with hy | rfl | hy
    · exact .inr (.inl ⟨hx, hy, pn hx hy⟩)
    · exact .inr (.inr (.inr (.inr (.inr ⟨rfl, by simp⟩))))
    · exact .inl ⟨hx, hy, pp hx hy⟩
theorem core1 {u w K R S : Int} (hR : R * u = w * K) (hS : S * u = (w - u) * K) (hu : u ≠ 0) (hw : min 0 u ≤ w ∧ w ≤ max 0 u) : ¬ same R S := by
  intro h; unfold same at h
  have h1 := sg R u
  have h2 := sg S u
  have h3 := sg w K
  have h4 := sg (w - u) K
  rw [hR] at h1
  rw [hS] at h2
  generalize w * K = X at *
  generalize (w - u) * K = Y at *
  omega
theorem core2 {u w K R S : Int} (hR : R * u = w * K) (hS : S * u = (w - u) * K) (hK : K ≠ 0) (h : ¬ same R S) : min 0 u ≤ w ∧ w ≤ max 0 u := by
  unfold same at h
  have h1 := sg R u
  have h2 := sg S u
  have h3 := sg w K
  have h4 := sg (w - u) K
  rw [hR] at h1
  rw [hS] at h2
  generalize w * K = X at *
  generalize (w - u) * K = Y at *
  omega
theorem core3 {u1 u2 w1 w2 : Int} (h : u1 * w2 = u2 * w1) (hu : u1 ≠ 0) (hw : min 0 u1 ≤ w1 ∧ w1 ≤ max 0 u1) : min 0 u2 ≤ w2 ∧ w2 ≤ max 0 u2 := by
  have h' : u1 * (w2 - u2) = u2 * (w1 - u1) := by grind
  have h1 := sg u1 w2
  have h2 := sg u2 w1
  have h3 := sg u1 (w2 - u2)
  have h4 := sg u2 (w1 - u1)
  rw [h] at h1
  rw [h'] at h3
  generalize u2 * w1 = X at *
  generalize u2 * (w1 - u1) = Y at *
  omega
def cr (a1 a2 b1 b2 c1 c2 : Int) : Int := (b1 - a1) * (c2 - a2) - (b2 - a2) * (c1 - a1)
def bet (a b c : Int) : Prop := min a b ≤ c ∧ c ≤ max a b
def meet (a b c d : Int) : Prop := max (min a b) (min c d) ≤ min (max a b) (max c d)
def hit (a1 a2 b1 b2 c1 c2 d1 d2 : Int) : Prop :=
  (cr a1 a2 b1 b2 c1 c2 = 0 ∧ bet a1 b1 c1 ∧ bet a2 b2 c2) ∨ (cr a1 a2 b1 b2 d1 d2 = 0 ∧ bet a1 b1 d1 ∧ bet a2 b2 d2) ∨ (cr c1 c2 d1 d2 a1 a2 = 0 ∧ bet c1 d1 a1 ∧ bet c2 d2 a2) ∨ (cr c1 c2 d1 d2 b1 b2 = 0 ∧ bet c1 d1 b1 ∧ bet c2 d2 b2)
theorem line {a1 a2 b1 b2 c1 c2 d1 d2 : Int} (hP : cr a1 a2 b1 b2 c1 c2 = 0) (hQ : cr a1 a2 b1 b2 d1 d2 = 0) (hu : b1 - a1 ≠ 0) (hm : meet a1 b1 c1 d1) : hit a1 a2 b1 b2 c1 c2 d1 d2 := by
  unfold cr at hP hQ
  have hK : (b1 - a1) * (d2 - c2) = (b2 - a2) * (d1 - c1) := by grind
  have hc : bet a1 b1 c1 ∨ bet a1 b1 d1 ∨ bet c1 d1 a1 ∨ bet c1 d1 b1 := by unfold meet at hm; unfold bet; omega
  unfold hit
  rcases hc with h | h | h | h
  · left
    have := core3 (u1 := b1 - a1) (u2 := b2 - a2) (w1 := c1 - a1) (w2 := c2 - a2) (by omega) hu (by unfold bet at h; omega)
    exact ⟨by unfold cr; omega, h, by unfold bet; omega⟩
  · right; left
    have := core3 (u1 := b1 - a1) (u2 := b2 - a2) (w1 := d1 - a1) (w2 := d2 - a2) (by omega) hu (by unfold bet at h; omega)
    exact ⟨by unfold cr; omega, h, by unfold bet; omega⟩
  · right; right; left
    have hR : cr c1 c2 d1 d2 a1 a2 = 0 := by
      have : cr c1 c2 d1 d2 a1 a2 * (b1 - a1) = 0 := by unfold cr; grind
      exact zero_of this hu
    by_cases hv : d1 - c1 = 0
    · have v2 : d2 - c2 = 0 := by
        have : (d2 - c2) * (b1 - a1) = 0 := by rw [Int.mul_comm, hK, hv]; simp
        exact zero_of this hu
      have e1 : c1 - a1 = 0 := by unfold bet at h; omega
      have e2 : c2 - a2 = 0 := by
        have : (c2 - a2) * (b1 - a1) = 0 := by rw [e1] at hP; rw [Int.mul_comm]; omega
        exact zero_of this hu
      exact ⟨hR, h, by unfold bet; omega⟩
    · have := core3 (u1 := d1 - c1) (u2 := d2 - c2) (w1 := a1 - c1) (w2 := a2 - c2) (by unfold cr at hR; omega) hv (by unfold bet at h; omega)
      exact ⟨hR, h, by unfold bet; omega⟩
  · right; right; right
    have hS : cr c1 c2 d1 d2 b1 b2 = 0 := by
      have : cr c1 c2 d1 d2 b1 b2 * (b1 - a1) = 0 := by unfold cr; grind
      exact zero_of this hu
    by_cases hv : d1 - c1 = 0
    · have v2 : d2 - c2 = 0 := by
        have : (d2 - c2) * (b1 - a1) = 0 := by rw [Int.mul_comm, hK, hv]; simp
        exact zero_of this hu
      have e1 : c1 - a1 = b1 - a1 := by unfold bet at h; omega
      have e2 : c2 - b2 = 0 := by
        have : (c2 - b2) * (b1 - a1) = 0 := by rw [e1] at hP; grind
        exact zero_of this hu
      exact ⟨hS, h, by unfold bet; omega⟩
    · have := core3 (u1 := d1 - c1) (u2 := d2 - c2) (w1 := b1 - c1) (w2 := b2 - c2) (by unfold cr at hS; omega) hv (by unfold bet at h; omega)
      exact ⟨hS, h, by unfold bet; omega⟩
theorem cr_axes (a1 a2 b1 b2 c1 c2 : Int) : cr a2 a1 b2 b1 c2 c1 = - cr a1 a2 b1 b2 c1 c2 := by unfold cr; grind
theorem hit_axes {a1 a2 b1 b2 c1 c2 d1 d2 : Int} (h : hit a2 a1 b2 b1 c2 c1 d2 d1) : hit a1 a2 b1 b2 c1 c2 d1 d2 := by
  unfold hit at *
  rw [cr_axes a1 a2 b1 b2 c1 c2, cr_axes a1 a2 b1 b2 d1 d2, cr_axes c1 c2 d1 d2 a1 a2, cr_axes c1 c2 d1 d2 b1 b2] at h
  rcases h with ⟨h1, h2, h3⟩ | ⟨h1, h2, h3⟩ | ⟨h1, h2, h3⟩ | ⟨h1, h2, h3⟩
  · exact .inl ⟨by omega, h3, h2⟩
  · exact .inr (.inl ⟨by omega, h3, h2⟩)
  · exact .inr (.inr (.inl ⟨by omega, h3, h2⟩))
  · exact .inr (.inr (.inr ⟨by omega, h3, h2⟩))
theorem firstZero {a1 a2 b1 b2 c1 c2 d1 d2 : Int} (hP : cr a1 a2 b1 b2 c1 c2 = 0) (hm1 : meet a1 b1 c1 d1) (hm2 : meet a2 b2 c2 d2) (hn : ¬ same (cr c1 c2 d1 d2 a1 a2) (cr c1 c2 d1 d2 b1 b2)) : hit a1 a2 b1 b2 c1 c2 d1 d2 := by
  by_cases hu1 : b1 - a1 = 0
  · by_cases hu2 : b2 - a2 = 0
    · have e1 : b1 = a1 := by omega
      have e2 : b2 = a2 := by omega
      subst e1 e2
      have hR : cr c1 c2 d1 d2 b1 b2 = 0 := by unfold same at hn; omega
      exact .inr (.inr (.inl ⟨hR, by unfold meet at hm1; unfold bet; omega, by unfold meet at hm2; unfold bet; omega⟩))
    · by_cases hQ : cr a1 a2 b1 b2 d1 d2 = 0
      · exact hit_axes (line (by rw [cr_axes, hP]; rfl) (by rw [cr_axes, hQ]; rfl) hu2 hm2)
      · have hR : ∀ k, k = cr a1 a2 b1 b2 d1 d2 → cr c1 c2 d1 d2 a1 a2 * (b2 - a2) = (c2 - a2) * k ∧ cr c1 c2 d1 d2 b1 b2 * (b2 - a2) = ((c2 - a2) - (b2 - a2)) * k ∧ cr c1 c2 d1 d2 a1 a2 * (b1 - a1) = (c1 - a1) * k ∧ cr c1 c2 d1 d2 b1 b2 * (b1 - a1) = ((c1 - a1) - (b1 - a1)) * k := by
          intro k hk; subst hk; unfold cr at *; refine ⟨by grind, by grind, by grind, by grind⟩
        obtain ⟨r1, r2, r3, r4⟩ := hR _ rfl
        have x := core2 r3 r4 hQ hn
        have y := core2 r1 r2 hQ hn
        exact .inl ⟨hP, by unfold bet; omega, by unfold bet; omega⟩
  · by_cases hQ : cr a1 a2 b1 b2 d1 d2 = 0
    · exact line hP hQ hu1 hm1
    · have hR : ∀ k, k = cr a1 a2 b1 b2 d1 d2 → cr c1 c2 d1 d2 a1 a2 * (b2 - a2) = (c2 - a2) * k ∧ cr c1 c2 d1 d2 b1 b2 * (b2 - a2) = ((c2 - a2) - (b2 - a2)) * k ∧ cr c1 c2 d1 d2 a1 a2 * (b1 - a1) = (c1 - a1) * k ∧ cr c1 c2 d1 d2 b1 b2 * (b1 - a1) = ((c1 - a1) - (b1 - a1)) * k := by
        intro k hk; subst hk; unfold cr at *; refine ⟨by grind, by grind, by grind, by grind⟩
      obtain ⟨r1, r2, r3, r4⟩ := hR _ rfl
      have x := core2 r3 r4 hQ hn
      have y := core2 r1 r2 hQ hn
      exact .inl ⟨hP, by unfold bet; omega, by unfold bet; omega⟩
theorem cr_swap (a1 a2 b1 b2 c1 c2 : Int) : cr b1 b2 a1 a2 c1 c2 = - cr a1 a2 b1 b2 c1 c2 := by unfold cr; grind
theorem hit_wall {a1 a2 b1 b2 c1 c2 d1 d2 : Int} (h : hit a1 a2 b1 b2 d1 d2 c1 c2) : hit a1 a2 b1 b2 c1 c2 d1 d2 := by
  unfold hit at *
  rw [cr_swap c1 c2 d1 d2 a1 a2, cr_swap c1 c2 d1 d2 b1 b2] at h
  have sw : ∀ {x y z : Int}, bet x y z → bet y x z := fun h => by unfold bet at *; omega
  rcases h with ⟨h1, h2, h3⟩ | ⟨h1, h2, h3⟩ | ⟨h1, h2, h3⟩ | ⟨h1, h2, h3⟩
  · exact .inr (.inl ⟨h1, h2, h3⟩)
  · exact .inl ⟨h1, h2, h3⟩
  · exact .inr (.inr (.inl ⟨by omega, sw h2, sw h3⟩))
  · exact .inr (.inr (.inr ⟨by omega, sw h2, sw h3⟩))
theorem same_neg {p q : Int} (h : same (-p) (-q)) : same p q := by unfold same at *; omega
theorem meet_sw {a b c d : Int} (h : meet a b c d) : meet a b d c := by unfold meet at *; omega
theorem meet_role {a b c d : Int} (h : meet a b c d) : meet c d a b := by unfold meet at *; omega
theorem opp_of {p q : Int} (hp : p ≠ 0) (hq : q ≠ 0) (h : ¬ same p q) : opp p q := by unfold same at *; unfold opp; omega
theorem hit_role {a1 a2 b1 b2 c1 c2 d1 d2 : Int} (h : hit c1 c2 d1 d2 a1 a2 b1 b2) : hit a1 a2 b1 b2 c1 c2 d1 d2 := by
  unfold hit at *
  rcases h with h | h | h | h
  · exact .inr (.inr (.inl h))
  · exact .inr (.inr (.inr h))
  · exact .inl h
  · exact .inr (.inl h)
theorem onto {a1 a2 b1 b2 c1 c2 d1 d2 : Int} (hm1 : meet a1 b1 c1 d1) (hm2 : meet a2 b2 c2 d2) (hpq : ¬ same (cr a1 a2 b1 b2 c1 c2) (cr a1 a2 b1 b2 d1 d2)) (hrs : ¬ same (cr c1 c2 d1 d2 a1 a2) (cr c1 c2 d1 d2 b1 b2)) :
    (opp (cr a1 a2 b1 b2 c1 c2) (cr a1 a2 b1 b2 d1 d2) ∧ opp (cr c1 c2 d1 d2 a1 a2) (cr c1 c2 d1 d2 b1 b2)) ∨ hit a1 a2 b1 b2 c1 c2 d1 d2 := by
  by_cases hP : cr a1 a2 b1 b2 c1 c2 = 0
  · exact .inr (firstZero hP hm1 hm2 hrs)
  by_cases hQ : cr a1 a2 b1 b2 d1 d2 = 0
  · refine .inr (hit_wall (firstZero hQ (meet_sw hm1) (meet_sw hm2) ?_))
    rw [cr_swap c1 c2 d1 d2 a1 a2, cr_swap c1 c2 d1 d2 b1 b2]
    exact fun h => hrs (same_neg h)
  by_cases hR : cr c1 c2 d1 d2 a1 a2 = 0
  · exact .inr (hit_role (firstZero hR (meet_role hm1) (meet_role hm2) hpq))
  by_cases hS : cr c1 c2 d1 d2 b1 b2 = 0
  · refine .inr (hit_role (hit_wall (firstZero hS (meet_sw (meet_role hm1)) (meet_sw (meet_role hm2)) ?_)))
    rw [cr_swap a1 a2 b1 b2 c1 c2, cr_swap a1 a2 b1 b2 d1 d2]
    exact fun h => hpq (same_neg h)
  exact .inl ⟨opp_of hP hQ hpq, opp_of hR hS hrs⟩
theorem wavg {p q r s a b c d : Int} (hp : 0 < p) (hq : 0 < q) (hr : 0 < r) (hs : 0 < s) (hsum : p + q = r + s) (h : q * c + p * d = r * b + s * a) : meet a b c d := by
  unfold meet
  apply Decidable.byContradiction
  intro hn
  have hc : max a b < min c d ∨ max c d < min a b := by omega
  rcases hc with hc | hc
  · have e : q * (c - max a b) + p * (d - max a b) = r * (b - max a b) + s * (a - max a b) := by
      generalize max a b = m; grind
    have h1 := Int.mul_pos hq (show 0 < c - max a b by omega)
    have h2 := Int.mul_pos hp (show 0 < d - max a b by omega)
    have h3 := Int.mul_nonneg (show 0 ≤ r by omega) (show 0 ≤ max a b - b by omega)
    have h4 := Int.mul_nonneg (show 0 ≤ s by omega) (show 0 ≤ max a b - a by omega)
    have e3 : r * (b - max a b) = - (r * (max a b - b)) := by rw [← Int.mul_neg]; congr 1; omega
    have e4 : s * (a - max a b) = - (s * (max a b - a)) := by rw [← Int.mul_neg]; congr 1; omega
    omega
  · have e : q * (min a b - c) + p * (min a b - d) = r * (min a b - b) + s * (min a b - a) := by
      generalize min a b = m; grind
    have h1 := Int.mul_pos hq (show 0 < min a b - c by omega)
    have h2 := Int.mul_pos hp (show 0 < min a b - d by omega)
    have h3 := Int.mul_nonneg (show 0 ≤ r by omega) (show 0 ≤ b - min a b by omega)
    have h4 := Int.mul_nonneg (show 0 ≤ s by omega) (show 0 ≤ a - min a b by omega)
    have e3 : r * (min a b - b) = - (r * (b - min a b)) := by rw [← Int.mul_neg]; congr 1; omega
    have e4 : s * (min a b - a) = - (s * (a - min a b)) := by rw [← Int.mul_neg]; congr 1; omega
    omega
theorem opp_meet {a1 a2 b1 b2 c1 c2 d1 d2 : Int} (h : opp (cr a1 a2 b1 b2 c1 c2) (cr a1 a2 b1 b2 d1 d2)) (h' : opp (cr c1 c2 d1 d2 a1 a2) (cr c1 c2 d1 d2 b1 b2)) : meet a1 b1 c1 d1 ∧ meet a2 b2 c2 d2 := by
  have i0 : cr a1 a2 b1 b2 c1 c2 - cr a1 a2 b1 b2 d1 d2 = cr c1 c2 d1 d2 b1 b2 - cr c1 c2 d1 d2 a1 a2 := by unfold cr; grind
  have i1 : cr a1 a2 b1 b2 c1 c2 * d1 - cr a1 a2 b1 b2 d1 d2 * c1 = cr c1 c2 d1 d2 b1 b2 * a1 - cr c1 c2 d1 d2 a1 a2 * b1 := by unfold cr; grind
  have i2 : cr a1 a2 b1 b2 c1 c2 * d2 - cr a1 a2 b1 b2 d1 d2 * c2 = cr c1 c2 d1 d2 b1 b2 * a2 - cr c1 c2 d1 d2 a1 a2 * b2 := by unfold cr; grind
  generalize cr a1 a2 b1 b2 c1 c2 = P at *
  generalize cr a1 a2 b1 b2 d1 d2 = Q at *
  generalize cr c1 c2 d1 d2 a1 a2 = R at *
  generalize cr c1 c2 d1 d2 b1 b2 = S at *
  unfold opp at *
  have hk : (0 < P ∧ Q < 0 ∧ R < 0 ∧ 0 < S) ∨ (P < 0 ∧ 0 < Q ∧ 0 < R ∧ S < 0) := by omega
  rcases hk with ⟨h1, h2, h3, h4⟩ | ⟨h1, h2, h3, h4⟩
  · exact ⟨wavg (p := P) (q := -Q) (r := -R) (s := S) h1 (by omega) (by omega) h4 (by omega) (by simp only [Int.neg_mul]; omega), wavg (p := P) (q := -Q) (r := -R) (s := S) h1 (by omega) (by omega) h4 (by omega) (by simp only [Int.neg_mul]; omega)⟩
  · exact ⟨wavg (p := -P) (q := Q) (r := R) (s := -S) (by omega) h2 h3 (by omega) (by omega) (by simp only [Int.neg_mul]; omega), wavg (p := -P) (q := Q) (r := R) (s := -S) (by omega) h2 h3 (by omega) (by omega) (by simp only [Int.neg_mul]; omega)⟩
theorem on_rs {a1 a2 b1 b2 c1 c2 d1 d2 : Int} (hP : cr a1 a2 b1 b2 c1 c2 = 0) (h1 : bet a1 b1 c1) (h2 : bet a2 b2 c2) : ¬ same (cr c1 c2 d1 d2 a1 a2) (cr c1 c2 d1 d2 b1 b2) := by
  have hR : ∀ k, k = cr a1 a2 b1 b2 d1 d2 → cr c1 c2 d1 d2 a1 a2 * (b2 - a2) = (c2 - a2) * k ∧ cr c1 c2 d1 d2 b1 b2 * (b2 - a2) = ((c2 - a2) - (b2 - a2)) * k ∧ cr c1 c2 d1 d2 a1 a2 * (b1 - a1) = (c1 - a1) * k ∧ cr c1 c2 d1 d2 b1 b2 * (b1 - a1) = ((c1 - a1) - (b1 - a1)) * k := by
    intro k hk; subst hk; unfold cr at *; refine ⟨by grind, by grind, by grind, by grind⟩
  obtain ⟨r1, r2, r3, r4⟩ := hR _ rfl
  unfold bet at *
  by_cases hu1 : b1 - a1 = 0
  · by_cases hu2 : b2 - a2 = 0
    · have e1 : a1 = c1 := by omega
      have e2 : a2 = c2 := by omega
      have : cr c1 c2 d1 d2 a1 a2 = 0 := by unfold cr; rw [e1, e2]; simp
      unfold same; omega
    · exact core1 r1 r2 hu2 (by omega)
  · exact core1 r3 r4 hu1 (by omega)
theorem meet_on {a b c d : Int} (h : bet a b c) : meet a b c d := by unfold bet at *; unfold meet; omega
theorem not_same_l {p q : Int} (h : p = 0) : ¬ same p q := by unfold same; omega
theorem not_same_r {p q : Int} (h : q = 0) : ¬ same p q := by unfold same; omega
theorem not_same_opp {p q : Int} (h : opp p q) : ¬ same p q := by unfold opp at *; unfold same; omega
theorem back {a1 a2 b1 b2 c1 c2 d1 d2 : Int} (h : (opp (cr a1 a2 b1 b2 c1 c2) (cr a1 a2 b1 b2 d1 d2) ∧ opp (cr c1 c2 d1 d2 a1 a2) (cr c1 c2 d1 d2 b1 b2)) ∨ hit a1 a2 b1 b2 c1 c2 d1 d2) :
    meet a1 b1 c1 d1 ∧ meet a2 b2 c2 d2 ∧ ¬ same (cr a1 a2 b1 b2 c1 c2) (cr a1 a2 b1 b2 d1 d2) ∧ ¬ same (cr c1 c2 d1 d2 a1 a2) (cr c1 c2 d1 d2 b1 b2) := by
  rcases h with ⟨h, h'⟩ | ⟨h0, h1, h2⟩ | ⟨h0, h1, h2⟩ | ⟨h0, h1, h2⟩ | ⟨h0, h1, h2⟩
  · obtain ⟨m1, m2⟩ := opp_meet h h'
    exact ⟨m1, m2, not_same_opp h, not_same_opp h'⟩
  · exact ⟨meet_on h1, meet_on h2, not_same_l h0, on_rs h0 h1 h2⟩
  · refine ⟨meet_sw (meet_on h1), meet_sw (meet_on h2), not_same_r h0, fun hs => ?_⟩
    have := on_rs (d1 := c1) (d2 := c2) h0 h1 h2
    rw [cr_swap c1 c2 d1 d2 a1 a2, cr_swap c1 c2 d1 d2 b1 b2] at this
    exact this (same_neg (by simpa using hs))
  · exact ⟨meet_role (meet_on h1), meet_role (meet_on h2), on_rs h0 h1 h2, not_same_l h0⟩
  · refine ⟨meet_role (meet_sw (meet_on h1)), meet_role (meet_sw (meet_on h2)), fun hs => ?_, not_same_r h0⟩
    have := on_rs (d1 := a1) (d2 := a2) h0 h1 h2
    rw [cr_swap a1 a2 b1 b2 c1 c2, cr_swap a1 a2 b1 b2 d1 d2] at this
    exact this (same_neg (by simpa using hs))
end GeoM
end Go.Proofs.Ytcennbjegdlbhaa
