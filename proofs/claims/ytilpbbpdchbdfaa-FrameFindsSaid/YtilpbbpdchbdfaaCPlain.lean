
/- Residues of polynomials over two elements modulo x^16 + x^12 + x^5 + 1, as numbers: sums, products, powers of x and their period. -/
namespace Go.Proofs.Ytilpbbpdchbdfaa.Crc

/-- A residue times x. -/
def T (a : Nat) : Nat := (2 * a) % 65536 ^^^ (if a.testBit 15 then 4129 else 0)

theorem T_zero : T 0 = 0 := by decide
theorem xor_left_comm (a b c : Nat) : a ^^^ (b ^^^ c) = b ^^^ (a ^^^ c) := by rw [← Nat.xor_assoc, Nat.xor_comm a b, Nat.xor_assoc]
theorem xor_cancel (a b : Nat) : a ^^^ (a ^^^ b) = b := by rw [← Nat.xor_assoc, Nat.xor_self, Nat.zero_xor]
theorem testBit_double (a i : Nat) : (2 * a).testBit (i + 1) = a.testBit i := by
  rw [Nat.testBit_succ]; congr 1; omega
theorem double_xor (a b : Nat) : 2 * (a ^^^ b) = (2 * a) ^^^ (2 * b) := by
  apply Nat.eq_of_testBit_eq; intro i
  cases i with
  | zero => simp
  | succ i => rw [Nat.testBit_xor, testBit_double, testBit_double, testBit_double, Nat.testBit_xor]
theorem T_xor (a b : Nat) : T (a ^^^ b) = T a ^^^ T b := by
  unfold T
  rw [double_xor, show (65536 : Nat) = 2 ^ 16 by decide, Nat.xor_mod_two_pow, Nat.testBit_xor]
  generalize 2 * a % 2 ^ 16 = x
  generalize 2 * b % 2 ^ 16 = y
  cases a.testBit 15 <;> cases b.testBit 15 <;> simp [Nat.xor_assoc, Nat.xor_comm, xor_left_comm]
theorem xor_lt {a b : Nat} (ha : a < 65536) (hb : b < 65536) : a ^^^ b < 65536 := Nat.xor_lt_two_pow (n := 16) ha hb
theorem T_lt (a : Nat) : T a < 65536 := by
  unfold T; exact xor_lt (Nat.mod_lt _ (by decide)) (by split <;> decide)

/-- x^n times a residue. -/
def Ti : Nat → Nat → Nat
  | 0, a => a
  | n + 1, a => T (Ti n a)
theorem Ti_zero (n : Nat) : Ti n 0 = 0 := by induction n with | zero => rfl | succ n ih => rw [Ti, ih]; exact T_zero
theorem Ti_xor (n a b : Nat) : Ti n (a ^^^ b) = Ti n a ^^^ Ti n b := by
  induction n with | zero => rfl | succ n ih => rw [Ti, ih, T_xor]; rfl
theorem Ti_lt (n : Nat) {a : Nat} (h : a < 65536) : Ti n a < 65536 := by cases n with | zero => exact h | succ n => exact T_lt _
theorem Ti_add (m n a : Nat) : Ti (m + n) a = Ti m (Ti n a) := by
  induction m with | zero => simp [Ti] | succ m ih => rw [Nat.succ_add, Ti, ih]; rfl
theorem Ti_T (n a : Nat) : Ti n (T a) = T (Ti n a) := by
  induction n with | zero => rfl | succ n ih => rw [Ti, ih]; rfl
theorem Ti_comm (m n a : Nat) : Ti m (Ti n a) = Ti n (Ti m a) := by rw [← Ti_add, ← Ti_add, Nat.add_comm]

/-- The sum of f i over the bits i below n of p. -/
def lin (f : Nat → Nat) : Nat → Nat → Nat
  | 0, _ => 0
  | n + 1, p => lin f n p ^^^ (if p.testBit n then f n else 0)
theorem xor4 (a b c d : Nat) : (a ^^^ b) ^^^ (c ^^^ d) = (a ^^^ c) ^^^ (b ^^^ d) := by
  simp [Nat.xor_assoc, xor_left_comm]
theorem lin_xor (f : Nat → Nat) (n p q : Nat) : lin f n (p ^^^ q) = lin f n p ^^^ lin f n q := by
  induction n with
  | zero => simp [lin]
  | succ n ih =>
    rw [lin, lin, lin, ih, xor4]; congr 1
    rw [Nat.testBit_xor]; cases p.testBit n <;> cases q.testBit n <;> simp
theorem lin_zero (f : Nat → Nat) (n : Nat) : lin f n 0 = 0 := by
  induction n with | zero => rfl | succ n ih => rw [lin, ih]; simp
theorem lin_congr {f g : Nat → Nat} {n : Nat} (h : ∀ i, i < n → f i = g i) (p : Nat) : lin f n p = lin g n p := by
  induction n with
  | zero => rfl
  | succ n ih => rw [lin, lin, ih (fun i hi => h i (by omega)), h n (by omega)]
theorem lin_map (g : Nat → Nat) (h0 : g 0 = 0) (hx : ∀ a b, g (a ^^^ b) = g a ^^^ g b) (f : Nat → Nat) (n p : Nat) : g (lin f n p) = lin (fun i => g (f i)) n p := by
  induction n with
  | zero => exact h0
  | succ n ih => rw [lin, lin, hx, ih]; congr 1; cases p.testBit n <;> simp [h0]
theorem lin_both (f g : Nat → Nat) (n p : Nat) : lin (fun i => f i ^^^ g i) n p = lin f n p ^^^ lin g n p := by
  induction n with
  | zero => simp [lin]
  | succ n ih => rw [lin, lin, lin, ih, xor4]; congr 1; split <;> simp
theorem lin_pow (n p : Nat) : lin (fun i => 2 ^ i) n p = p % 2 ^ n := by
  induction n with
  | zero => simp [lin, Nat.mod_one]
  | succ n ih =>
    rw [lin, ih]
    apply Nat.eq_of_testBit_eq; intro i
    rw [Nat.testBit_xor, Nat.testBit_mod_two_pow, Nat.testBit_mod_two_pow]
    by_cases hn : p.testBit n
    · rw [if_pos hn, Nat.testBit_two_pow]
      by_cases h : i = n
      · subst h; simp [hn]
      · have : (i < n + 1) = (i < n) := by apply propext; omega
        simp [show ¬ n = i from fun e => h e.symm, this]
    · rw [if_neg hn, Nat.zero_testBit, Bool.xor_false]
      by_cases h : i = n
      · subst h; simp [hn]
      · have : (i < n + 1) = (i < n) := by apply propext; omega
        simp [this]
theorem lin_of_lt {n p : Nat} (h : p < 2 ^ n) : p = lin (fun i => 2 ^ i) n p := by rw [lin_pow, Nat.mod_eq_of_lt h]
/-- What is additive is known by its values at the powers of 2. -/
theorem additive (g : Nat → Nat) (h0 : g 0 = 0) (hx : ∀ a b, g (a ^^^ b) = g a ^^^ g b) {n p : Nat} (h : p < 2 ^ n) : g p = lin (fun i => g (2 ^ i)) n p := by
  conv => lhs; rw [lin_of_lt h]
  exact lin_map g h0 hx _ n p
theorem lin_double (f : Nat → Nat) (n p : Nat) : lin f (n + 1) (2 * p) = lin (fun i => f (i + 1)) n p := by
  induction n with
  | zero => simp [lin]
  | succ n ih =>
    rw [lin, ih, lin, testBit_double]
theorem lin_two (f : Nat → Nat) {n k : Nat} (h : k < n) : lin f n (2 ^ k) = f k := by
  have low : ∀ m, m ≤ k → lin f m (2 ^ k) = 0 := by
    intro m
    induction m with
    | zero => intro _; rfl
    | succ m ih => intro h; rw [lin, ih (by omega), Nat.testBit_two_pow]; simp [show ¬ k = m by omega]
  induction n with
  | zero => omega
  | succ n ih =>
    rw [lin, Nat.testBit_two_pow]
    by_cases e : k = n
    · subst e; rw [low k (Nat.le_refl _)]; simp
    · rw [ih (by omega)]; simp [e]
theorem lin_mod (f : Nat → Nat) (n p : Nat) : lin f n (p % 2 ^ n) = lin f n p := by
  have : ∀ m, m ≤ n → lin f m (p % 2 ^ n) = lin f m p := by
    intro m
    induction m with
    | zero => intro _; rfl
    | succ m ih => intro h; rw [lin, lin, ih (by omega), Nat.testBit_mod_two_pow]; simp [show m < n by omega]
  exact this n (Nat.le_refl n)

/-- The product of two residues. -/
def M (a b : Nat) : Nat := lin (fun i => Ti i a) 16 b
/-- The residue of x^n. -/
def X (n : Nat) : Nat := Ti n 1
theorem X_lt (n : Nat) : X n < 65536 := Ti_lt n (by decide)
theorem X_low : ∀ i, i < 16 → X i = 2 ^ i := by decide
theorem M_xor_right (a b c : Nat) : M a (b ^^^ c) = M a b ^^^ M a c := lin_xor _ _ _ _
theorem M_xor_left (a b c : Nat) : M (a ^^^ b) c = M a c ^^^ M b c := by
  unfold M; rw [← lin_both]; exact lin_congr (fun i _ => Ti_xor i a b) c
theorem M_zero_right (a : Nat) : M a 0 = 0 := lin_zero _ _
theorem M_zero_left (b : Nat) : M 0 b = 0 := by
  have := M_xor_left 0 0 b; rw [Nat.xor_self, Nat.xor_self] at this; exact this
theorem lin_lt {f : Nat → Nat} (h : ∀ i, f i < 65536) (n p : Nat) : lin f n p < 65536 := by
  induction n with
  | zero => simp [lin]
  | succ n ih => rw [lin]; exact xor_lt ih (by split; exact h n; decide)
theorem M_lt {a : Nat} (ha : a < 65536) (b : Nat) : M a b < 65536 := lin_lt (fun i => Ti_lt i ha) 16 b
theorem M_Ti_left (n a b : Nat) : M (Ti n a) b = Ti n (M a b) := by
  unfold M; rw [lin_map (Ti n) (Ti_zero n) (Ti_xor n)]; exact lin_congr (fun i _ => Ti_comm i n a) b
theorem M_one_right (a : Nat) : M a 1 = a := by
  exact (lin_two _ (k := 0) (by decide)).trans rfl
theorem T16 {a : Nat} (ha : a < 65536) : Ti 16 a = (Ti 12 a ^^^ Ti 5 a) ^^^ a := by
  have h1 := additive (Ti 16) (Ti_zero 16) (Ti_xor 16) (n := 16) (p := a) ha
  have h2 := additive (fun a => (Ti 12 a ^^^ Ti 5 a) ^^^ a) (by simp [Ti_zero]) (fun a b => by
    show (Ti 12 (a ^^^ b) ^^^ Ti 5 (a ^^^ b)) ^^^ (a ^^^ b) = _
    rw [Ti_xor, Ti_xor, xor4 (Ti 12 a), xor4]) (n := 16) (p := a) ha
  rw [h1, h2]
  exact lin_congr (by decide +kernel) a
theorem M_4129 {a : Nat} (ha : a < 65536) : M a 4129 = Ti 16 a := by
  rw [T16 ha]
  rw [show (4129 : Nat) = (2 ^ 12 ^^^ 2 ^ 5) ^^^ 2 ^ 0 by decide, M_xor_right, M_xor_right]
  unfold M
  rw [lin_two _ (by decide), lin_two _ (by decide), lin_two _ (by decide)]; rfl
theorem M_T_right {a : Nat} (ha : a < 65536) (b : Nat) : M a (T b) = T (M a b) := by
  unfold T
  rw [M_xor_right]
  have h1 : M a (2 * b % 65536) = lin (fun i => Ti (i + 1) a) 15 b := by
    have h := lin_mod (fun i => Ti i a) 16 (2 * b)
    rw [show (2 : Nat) ^ 16 = 65536 by decide] at h
    exact h.trans (lin_double (fun i => Ti i a) 15 b)
  have h2 : M a (if b.testBit 15 then 4129 else 0) = if b.testBit 15 then Ti 16 a else 0 := by
    split
    · exact M_4129 ha
    · exact M_zero_right a
  rw [h1, h2]
  have h3 : T (M a b) = lin (fun i => T (Ti i a)) 16 b := lin_map T T_zero T_xor (fun i => Ti i a) 16 b
  change _ = T (M a b)
  rw [h3, lin]; rfl
theorem M_Ti_right {a : Nat} (ha : a < 65536) (n b : Nat) : M a (Ti n b) = Ti n (M a b) := by
  induction n with | zero => rfl | succ n ih => rw [Ti, M_T_right ha, ih]; rfl
theorem M_X {a : Nat} (ha : a < 65536) (n : Nat) : M a (X n) = Ti n a := by
  unfold X; rw [M_Ti_right ha, M_one_right]
theorem M_one_left {a : Nat} (ha : a < 65536) : M 1 a = a := by
  have : M 1 a = lin (fun i => 2 ^ i) 16 a := lin_congr (fun i hi => X_low i hi) a
  rw [this]; exact (lin_of_lt (n := 16) ha).symm
theorem M_comm {a b : Nat} (ha : a < 65536) (hb : b < 65536) : M a b = M b a := by
  have h := additive (fun b => M b a) (M_zero_left a) (fun x y => M_xor_left x y a) (n := 16) (p := b) hb
  refine Eq.trans ?_ h.symm
  refine lin_congr (fun i hi => ?_) b
  show Ti i a = M (2 ^ i) a
  rw [← X_low i hi]; unfold X; rw [M_Ti_left, M_one_left ha]
theorem M_assoc {a b : Nat} (ha : a < 65536) (c : Nat) : M (M a b) c = M a (M b c) := by
  have : M a (M b c) = lin (fun i => M a (Ti i b)) 16 c := lin_map (M a) (M_zero_right a) (M_xor_right a) _ _ _
  rw [this]
  exact lin_congr (fun i _ => (M_Ti_right ha i b).symm) c
theorem X_add (m n : Nat) : M (X m) (X n) = X (m + n) := by
  rw [M_X (X_lt m)]; unfold X; rw [← Ti_add, Nat.add_comm]
theorem X_succ (n : Nat) : X (n + 1) = T (X n) := rfl
/-- A quick way to a power. -/
def fast : Nat → Nat → Nat → Nat
  | 0, _, _ => 1
  | f + 1, b, n => if n = 0 then 1 else M (if n % 2 = 1 then b else 1) (fast f (M b b) (n / 2))
theorem M_X_X (k : Nat) : M (X k) (X k) = X (2 * k) := by rw [X_add]; congr 1; omega
theorem fast_X (f k n : Nat) (h : n < 2 ^ f) : fast f (X k) n = X (k * n) := by
  induction f generalizing k n with
  | zero => simp at h; subst h; rfl
  | succ f ih =>
    unfold fast
    by_cases hn : n = 0
    · subst hn; simp; rfl
    · rw [if_neg hn, M_X_X, ih (2 * k) (n / 2) (by rw [Nat.pow_succ] at h; omega)]
      split
      · rename_i h1; rw [X_add]; congr 1
        have : n = 2 * (n / 2) + 1 := by omega
        conv => rhs; rw [this]
        rw [Nat.mul_add, Nat.mul_one, Nat.mul_comm 2 k, Nat.mul_assoc, Nat.add_comm]
      · rename_i h1
        have hn2 : n = 2 * (n / 2) := by omega
        rw [M_one_left (X_lt _)]; congr 1
        conv => rhs; rw [hn2]
        rw [Nat.mul_comm 2 k, Nat.mul_assoc]
theorem X_fast (n : Nat) (h : n < 2 ^ 16) : X n = fast 16 2 n := by
  have := fast_X 16 1 n h
  rw [Nat.one_mul] at this; exact this.symm
theorem X_period : X 32767 = 1 := by rw [X_fast _ (by decide)]; decide +kernel
theorem Ti_period {a : Nat} (ha : a < 65536) : Ti 32767 a = a := by rw [← M_X ha, X_period, M_one_right]
theorem Ti_times {a : Nat} (ha : a < 65536) (k n : Nat) : Ti (32767 * k + n) a = Ti n a := by
  induction k with
  | zero => simp
  | succ k ih => rw [show 32767 * (k + 1) + n = 32767 + (32767 * k + n) by omega, Ti_add, ih]; exact Ti_period (Ti_lt _ ha)
theorem Ti_mod {a : Nat} (ha : a < 65536) (n : Nat) : Ti (n % 32767) a = Ti n a := by
  conv => rhs; rw [← Nat.div_add_mod n 32767]
  exact (Ti_times ha _ _).symm
theorem X_mod (n : Nat) : X (n % 32767) = X n := Ti_mod (by decide) n
theorem T_inj {a b : Nat} (ha : a < 65536) (hb : b < 65536) (h : T a = T b) : a = b := by
  rw [← Ti_period ha, ← Ti_period hb]
  show Ti (32766 + 1) a = Ti (32766 + 1) b
  rw [Ti_add, Ti_add]; exact congrArg _ h
theorem Ti_inj {a b : Nat} (ha : a < 65536) (hb : b < 65536) (n : Nat) (h : Ti n a = Ti n b) : a = b := by
  induction n with
  | zero => exact h
  | succ n ih => exact ih (T_inj (Ti_lt n ha) (Ti_lt n hb) h)
theorem Ti_ne_zero {a : Nat} (ha : a < 65536) (h0 : a ≠ 0) (n : Nat) : Ti n a ≠ 0 := fun h => h0 (Ti_inj ha (by decide) n (h.trans (Ti_zero n).symm))
theorem X_ne_zero (n : Nat) : X n ≠ 0 := Ti_ne_zero (by decide) (by decide) n
/-- No power of x below the period is 1, but that of 0. -/
def walks : Nat → Nat → Bool
  | 0, _ => true
  | n + 1, a => bif Nat.beq a 1 then false else walks n (T a)
theorem walks_sound (n a : Nat) (h : walks n a = true) : ∀ i, i < n → Ti i a ≠ 1 := by
  induction n generalizing a with
  | zero => intro i hi; omega
  | succ n ih =>
    unfold walks at h
    cases hb : Nat.beq a 1 with
    | true => rw [hb] at h; cases h
    | false =>
      rw [hb] at h
      intro i hi
      cases i with
      | zero => intro e; have : a = 1 := e; subst this; simp at hb
      | succ i => intro e; exact ih (T a) h i (by omega) (by rw [Ti_T]; exact e)
theorem X_of_dvd {d m : Nat} (h : X d = 1) : X (d * m) = 1 := by
  induction m with
  | zero => rfl
  | succ m ih => rw [Nat.mul_succ, ← X_add, ih, h, M_one_right]
theorem X_gcd {a b : Nat} (ha : X a = 1) (hb : X b = 1) : X (Nat.gcd a b) = 1 := by
  induction a, b using Nat.gcd.induction with
  | H0 n => rw [Nat.gcd_zero_left]; exact hb
  | H1 m n hm ih =>
    rw [Nat.gcd_rec]
    refine ih ?_ ha
    have h2 := Nat.div_add_mod n m
    have h3 : X (m * (n / m)) = 1 := X_of_dvd ha
    have h4 := X_add (m * (n / m)) (n % m)
    rw [h2, hb, h3, M_one_left (X_lt _)] at h4
    exact h4
theorem X_ne_one {d : Nat} (h0 : 0 < d) (h1 : d < 32767) : X d ≠ 1 := by
  intro h
  have hg := X_gcd h X_period
  have hd : Nat.gcd d 32767 ∣ 32767 := Nat.gcd_dvd_right d 32767
  have hle : Nat.gcd d 32767 ≤ d := Nat.gcd_le_left _ h0
  generalize Nat.gcd d 32767 = g at hg hd hle
  have hc : g ∣ 4681 ∨ g ∣ 1057 ∨ g ∣ 217 := by
    have key : ∀ k, k < 182 → (32767 % k = 0) → (k ∣ 4681 ∨ k ∣ 1057 ∨ k ∣ 217) ∧ (32767 / k = 32767 ∨ 32767 / k ∣ 4681 ∨ 32767 / k ∣ 1057 ∨ 32767 / k ∣ 217) := by decide +kernel
    obtain ⟨q, hq⟩ := hd
    have hgpos : 0 < g := by rcases Nat.eq_zero_or_pos g with e | e; · subst e; simp at hq
                             · exact e
    by_cases hlt : g < 182
    · exact (key g hlt (by rw [hq]; exact Nat.mul_mod_right g q)).1
    · have hql : q < 182 := by
        apply Nat.lt_of_not_le; intro hge
        have := Nat.mul_le_mul (show 182 ≤ g by omega) hge
        omega
      have hqp : 0 < q := by rcases Nat.eq_zero_or_pos q with e | e; · subst e; simp at hq
                             · exact e
      have e1 : 32767 / q = g := by rw [hq]; exact Nat.mul_div_cancel g hqp
      have := (key q hql (by rw [hq]; exact Nat.mul_mod_left g q)).2
      rw [e1] at this
      rcases this with h | h
      · omega
      · exact h
  rcases hc with ⟨m, hm⟩ | ⟨m, hm⟩ | ⟨m, hm⟩
  · have := X_of_dvd (m := m) hg; rw [← hm, X_fast _ (by decide)] at this; revert this; decide +kernel
  · have := X_of_dvd (m := m) hg; rw [← hm, X_fast _ (by decide)] at this; revert this; decide +kernel
  · have := X_of_dvd (m := m) hg; rw [← hm, X_fast _ (by decide)] at this; revert this; decide +kernel
theorem X_inj {i j : Nat} (hi : i < 32767) (hj : j < 32767) (h : X i = X j) : i = j := by
  have main : ∀ i j, i < j → j < 32767 → X i ≠ X j := by
    intro i j hij hj h
    have : X j = Ti i (X (j - i)) := by unfold X; rw [← Ti_add]; congr 1; omega
    rw [this] at h
    exact X_ne_one (by omega) (by omega) (Ti_inj (by decide) (X_lt _) i h).symm
  rcases Nat.lt_trichotomy i j with hl | he | hg
  · exact absurd h (main i j hl hj)
  · exact he
  · exact absurd h.symm (main j i hg hi)

theorem lin_low (f : Nat → Nat) (n q : Nat) : lin f (n + 1) q = (if q % 2 = 1 then f 0 else 0) ^^^ lin (fun i => f (i + 1)) n (q / 2) := by
  have h0 : q.testBit 0 = decide (q % 2 = 1) := Nat.testBit_zero q
  induction n with
  | zero => simp [lin]
  | succ n ih => rw [lin, ih, lin, Nat.xor_assoc, Nat.testBit_succ]
theorem lin_more (f : Nat → Nat) {m n p : Nat} (h : p < 2 ^ m) (hmn : m ≤ n) : lin f n p = lin f m p := by
  induction n with
  | zero => have : m = 0 := by omega
            subst this; rfl
  | succ n ih =>
    by_cases e : m = n + 1
    · subst e; rfl
    · have hp : p.testBit n = false := Nat.testBit_lt_two_pow (Nat.lt_of_lt_of_le h (Nat.pow_le_pow_right (by decide) (by omega)))
      rw [lin, ih (by omega), hp]; simp
/-- The remainder of a polynomial of a degree below 32. -/
def R (p : Nat) : Nat := lin X 32 p
theorem R_lt (p : Nat) : R p < 65536 := lin_lt X_lt 32 p
theorem R_xor (p q : Nat) : R (p ^^^ q) = R p ^^^ R q := lin_xor _ _ _ _
theorem R_zero : R 0 = 0 := lin_zero _ _
theorem R_small {p : Nat} (h : p < 65536) : R p = p := by
  unfold R
  rw [lin_more X (m := 16) h (by decide)]
  have h1 : lin X 16 p = lin (fun i => 2 ^ i) 16 p := lin_congr (fun i hi => X_low i hi) p
  rw [h1]; exact (lin_of_lt (n := 16) h).symm
theorem R_step {q : Nat} (h : q < 4294967296) : R q = T (R (q / 2)) ^^^ q % 2 := by
  have h1 : R (q / 2) = lin X 31 (q / 2) := lin_more X (m := 31) (by omega) (by decide)
  rw [h1, lin_map T T_zero T_xor X 31 (q / 2)]
  have h2 := lin_low X 31 q
  have h3 : R q = (if q % 2 = 1 then X 0 else 0) ^^^ lin (fun i => X (i + 1)) 31 (q / 2) := h2
  have h4 : (if q % 2 = 1 then X 0 else 0) = q % 2 := by
    by_cases e : q % 2 = 1
    · rw [if_pos e, e]; rfl
    · rw [if_neg e]; omega
  rw [h3, h4, Nat.xor_comm]; rfl
theorem R_double {p : Nat} (h : p < 2147483648) : R (2 * p) = T (R p) := by
  rw [R_step (by omega), show 2 * p / 2 = p by omega, show 2 * p % 2 = 0 by omega, Nat.xor_zero]
theorem R_shift {a : Nat} (h : a < 65536) (i : Nat) (hi : i ≤ 16) : R (a * 2 ^ i) = Ti i a := by
  induction i with
  | zero => rw [Nat.pow_zero, Nat.mul_one, R_small h]; rfl
  | succ i ih =>
    have hp : 2 ^ i ≤ 2 ^ 15 := Nat.pow_le_pow_right (by decide) (by omega)
    have hm : a * 2 ^ i ≤ 65535 * 2 ^ 15 := Nat.mul_le_mul (by omega) hp
    rw [Nat.pow_succ, show a * (2 ^ i * 2) = 2 * (a * 2 ^ i) by rw [← Nat.mul_assoc, Nat.mul_comm], R_double (by omega), ih (by omega)]; rfl
/-- The sum of the shifted a over the first k bits of b. -/
def P (a b k : Nat) : Nat := lin (fun i => a * 2 ^ i) k b
theorem P_lt {a : Nat} (h : a < 65536) (b : Nat) : ∀ k, k ≤ 16 → P a b k < 4294967296 := by
  intro k
  induction k with
  | zero => intro _; show 0 < _; decide
  | succ k ih =>
    intro hk
    have hp : 2 ^ k ≤ 2 ^ 15 := Nat.pow_le_pow_right (by decide) (by omega)
    have hm : a * 2 ^ k ≤ 65535 * 2 ^ 15 := Nat.mul_le_mul (by omega) hp
    have h1 := ih (by omega)
    unfold P; rw [lin]
    refine Nat.xor_lt_two_pow (n := 32) h1 ?_
    split <;> omega
theorem R_P {a : Nat} (h : a < 65536) (b : Nat) : R (P a b 16) = M a b := by
  unfold P
  rw [lin_map R R_zero R_xor]
  exact lin_congr (fun i hi => R_shift h i (by omega)) b
/-- The product by the bits from j on. -/
def H (a b j : Nat) : Nat := lin (fun i => Ti i a) (16 - j) (b / 2 ^ j)
theorem H_lt {a : Nat} (h : a < 65536) (b j : Nat) : H a b j < 65536 := lin_lt (fun i => Ti_lt i h) _ _
theorem H_top (a b : Nat) : H a b 16 = 0 := rfl
theorem H_zero (a b : Nat) : H a b 0 = M a b := by unfold H M; rw [Nat.pow_zero, Nat.div_one]
theorem H_step (a b j : Nat) (hj : j < 16) : H a b j = T (H a b (j + 1)) ^^^ (if b / 2 ^ j % 2 = 1 then a else 0) := by
  unfold H
  rw [show 16 - j = (16 - (j + 1)) + 1 by omega, lin_low, lin_map T T_zero T_xor, Nat.div_div_eq_div_mul, ← Nat.pow_succ, Nat.xor_comm]; rfl

/-- The check sum of a string behind another one. -/
def U (s : Nat) (l : List UInt8) : Nat := l.foldl (fun s c => Ti 8 (s ^^^ c.toNat * 256)) s
theorem byte_lt (c : UInt8) : c.toNat * 256 < 65536 := by have := c.toNat_lt; omega
theorem U_nil (s : Nat) : U s [] = s := rfl
theorem U_cons (s : Nat) (c : UInt8) (l : List UInt8) : U s (c :: l) = U (Ti 8 (s ^^^ c.toNat * 256)) l := rfl
theorem U_append (s : Nat) (a b : List UInt8) : U s (a ++ b) = U (U s a) b := List.foldl_append
theorem U_lt {s : Nat} (h : s < 65536) (l : List UInt8) : U s l < 65536 := by
  induction l generalizing s with
  | nil => exact h
  | cons c l ih => rw [U_cons]; exact ih (Ti_lt 8 (xor_lt h (byte_lt c)))
theorem U_xor (s t : Nat) (a b : List UInt8) (h : a.length = b.length) : U (s ^^^ t) (List.zipWith (fun x y => x ^^^ y) a b) = U s a ^^^ U t b := by
  induction a generalizing s t b with
  | nil => cases b with
    | nil => rfl
    | cons _ _ => simp at h
  | cons x a ih =>
    cases b with
    | nil => simp at h
    | cons y b =>
      rw [List.zipWith_cons_cons, U_cons, U_cons, U_cons, ← ih _ _ b (by simpa using h), ← Ti_xor]
      congr 2
      have e : (x ^^^ y).toNat * 256 = x.toNat * 256 ^^^ y.toNat * 256 := by
        rw [UInt8.toNat_xor, show (256 : Nat) = 2 ^ 8 by decide, ← Nat.shiftLeft_eq, ← Nat.shiftLeft_eq, ← Nat.shiftLeft_eq, Nat.shiftLeft_xor_distrib]
      rw [e, xor4]
theorem U_zeros (s : Nat) (n : Nat) : U s (List.replicate n 0) = Ti (8 * n) s := by
  induction n generalizing s with
  | zero => rfl
  | succ n ih =>
    rw [List.replicate_succ, U_cons, ih]
    rw [show (0 : UInt8).toNat * 256 = 0 by rfl, Nat.xor_zero, ← Ti_add]; congr 1
theorem U_split (s : Nat) (l : List UInt8) : U s l = Ti (8 * l.length) s ^^^ U 0 l := by
  have h := U_xor s 0 (List.replicate l.length 0) l (by simp)
  rw [Nat.xor_zero, U_zeros] at h
  rw [← h]; congr 1; clear h
  induction l with
  | nil => rfl
  | cons c l ih => rw [List.length_cons, List.replicate_succ, List.zipWith_cons_cons]; simp; exact ih
/-- The combination of two check sums. -/
def C (a b n : Nat) : Nat := M a (X (8 * n)) ^^^ b
theorem C_mod (a b n : Nat) : M a (X (8 * (n % 32767))) ^^^ b = C a b n := by
  unfold C; rw [← X_mod (8 * (n % 32767)), ← X_mod (8 * n)]; congr 3; omega
theorem C_U {a : Nat} (ha : a < 65536) (l : List UInt8) : C a (U 0 l) l.length = U a l := by
  unfold C; rw [M_X ha]; exact (U_split a l).symm
end Go.Proofs.Ytilpbbpdchbdfaa.Crc
