/- Plain facts: what was read as a frame are its bytes. -/
import Derived.Test.YtilpbbpdchbdfaaFB
import Derived.Test.YtilpbbpdchbdfaaBStay
namespace Go.Proofs.Ytilpbbpdchbdfaa
open Go.RowKit

theorem sU0 {s : ByteArray} {i : Nat} {W : Int} {x : (Nat × Int) × Fr} (h : (stU (Rc.rU s) i W x).1.2 = 0) : x.1.2 = 0 := by
  by_cases hx : x.1.2 = 0
  · exact hx
  · unfold stU Rc.rU at h
    simp only [Bit.rnum_stay hx] at h
    exact h
theorem sU {s : ByteArray} (hs : s.size ≤ 300) {k : Nat} (hk : k ≤ 8 * s.size) (W : Int) (i : Nat) (g : Fr) (h : (stU (Rc.rU s) i W ((k, 0), g)).1.2 = 0) :
    ∃ (p : Nat) (v : Int), stU (Rc.rU s) i W ((k, 0), g) = ((p, 0), g.set i v) ∧ p ≤ 8 * s.size ∧ 0 ≤ v ∧ Bit.wuns W v (Bit.sbits s 0 k, 0) = (Bit.sbits s 0 p, 0) ∧ Rc.rU s W 0 (k, 0) = ((p, 0), v) := by
  have hh : (Bit.rdSt s ⟨0, W, 0, ⟨#[]⟩⟩ (k, 0)).2 = 0 := h
  have hr := Bit.strict_step hs hk hh
  have e1 : Bit.rdSt s ⟨0, W, 0, ⟨#[]⟩⟩ (k, 0) = (Bit.rnum s 1 W (k, 0)).1 := rfl
  have e2 : Bit.rdF s ⟨0, W, 0, ⟨#[]⟩⟩ (k, 0) = ⟨0, W, (Bit.rnum s 1 W (k, 0)).2, ⟨#[]⟩⟩ := rfl
  rw [e1] at hh
  rw [e1, e2] at hr
  have e3 : ∀ (v : Int) (st : List Nat × Int), Bit.wrSt ⟨0, W, v, ⟨#[]⟩⟩ st = Bit.wuns W v st := fun _ _ => rfl
  rw [e3] at hr
  generalize hR : Bit.rnum s 1 W (k, 0) = R at *
  obtain ⟨⟨p, er⟩, v⟩ := R
  simp only at hh hr
  subst hh
  refine ⟨p, v, ?_, hr.2, by omega, hr.1, ?_⟩
  · unfold stU Rc.rU
    simp only [hR]
  · unfold Rc.rU
    simp only [hR]
theorem sS {s : ByteArray} (hs : s.size ≤ 300) {k : Nat} (hk : k ≤ 8 * s.size) (g : Fr) (h : (stS (Rc.rS s) 16 ((k, 0), g)).1.2 = 0) :
    ∃ (p : Nat) (v : Int), stS (Rc.rS s) 16 ((k, 0), g) = ((p, 0), { g with e := v }) ∧ p ≤ 8 * s.size ∧ Bit.wsig 16 v (Bit.sbits s 0 k, 0) = (Bit.sbits s 0 p, 0) := by
  have hh : (Bit.rdSt s ⟨1, 16, 0, ⟨#[]⟩⟩ (k, 0)).2 = 0 := h
  have hr := Bit.strict_step hs hk hh
  have e1 : Bit.rdSt s ⟨1, 16, 0, ⟨#[]⟩⟩ (k, 0) = (Bit.rsig s 16 (k, 0)).1 := rfl
  have e2 : Bit.rdF s ⟨1, 16, 0, ⟨#[]⟩⟩ (k, 0) = ⟨1, 16, (Bit.rsig s 16 (k, 0)).2, ⟨#[]⟩⟩ := rfl
  rw [e1] at hh
  rw [e1, e2] at hr
  have e3 : ∀ (v : Int) (st : List Nat × Int), Bit.wrSt ⟨1, 16, v, ⟨#[]⟩⟩ st = Bit.wsig 16 v st := fun _ _ => rfl
  rw [e3] at hr
  generalize hR : Bit.rsig s 16 (k, 0) = R at *
  obtain ⟨⟨p, er⟩, v⟩ := R
  simp only at hh hr
  subst hh
  refine ⟨p, v, ?_, hr.2, hr.1⟩
  unfold stS Rc.rS
  simp only [hR]
theorem sT0 {s : ByteArray} {x : (Nat × Int) × Fr} (h : (stT (Rc.rT s) x).1.2 = 0) : x.1.2 = 0 := by
  by_cases hx : x.1.2 = 0
  · exact hx
  · unfold stT Rc.rT Bit.rtext at h
    simp only at h
    rw [if_pos hx] at h
    exact h
theorem sS0 {s : ByteArray} {x : (Nat × Int) × Fr} (h : (stS (Rc.rS s) 16 x).1.2 = 0) : x.1.2 = 0 := by
  by_cases hx : x.1.2 = 0
  · exact hx
  · unfold stS Rc.rS Bit.rsig at h
    simp only [Bit.rnum_stay hx] at h
    exact h
theorem sT {s : ByteArray} (hs : s.size ≤ 300) {k : Nat} (hk : k ≤ 8 * s.size) (g : Fr) (h : (stT (Rc.rT s) ((k, 0), g)).1.2 = 0) :
    ∃ (p : Nat) (v : ByteArray), stT (Rc.rT s) ((k, 0), g) = ((p, 0), { g with d := v }) ∧ p ≤ 8 * s.size ∧ Bit.wtext 127 v (Bit.sbits s 0 k, 0) = (Bit.sbits s 0 p, 0) := by
  have hh : (Bit.rdSt s ⟨3, 127, 0, ⟨#[]⟩⟩ (k, 0)).2 = 0 := h
  have hr := Bit.strict_step hs hk hh
  have e1 : Bit.rdSt s ⟨3, 127, 0, ⟨#[]⟩⟩ (k, 0) = (Bit.rtext s 127 (k, 0)).1 := rfl
  have e2 : Bit.rdF s ⟨3, 127, 0, ⟨#[]⟩⟩ (k, 0) = ⟨3, 127, 0, (Bit.rtext s 127 (k, 0)).2⟩ := rfl
  rw [e1] at hh
  rw [e1, e2] at hr
  have e3 : ∀ (v : ByteArray) (st : List Nat × Int), Bit.wrSt ⟨3, 127, 0, v⟩ st = Bit.wtext 127 v st := fun _ _ => rfl
  rw [e3] at hr
  generalize hR : Bit.rtext s 127 (k, 0) = R at *
  obtain ⟨⟨p, er⟩, v⟩ := R
  simp only at hh hr
  subst hh
  refine ⟨p, v, ?_, hr.2, hr.1⟩
  unfold stT Rc.rT
  simp only [hR]
theorem stG_ok {s : ByteArray} {x : (Nat × Int) × Fr} (h : (stG (Rc.rU s) x).1.2 = 0) : x.1.2 = 0 := by
  by_cases hx : x.1.2 = 0
  · exact hx
  · unfold stG at h
    have e0 : ∀ n, Rc.rU s 1 n x.1 = Rc.rU s 1 0 x.1 := fun _ => rfl
    simp only [e0] at h
    have e1 : (Rc.rU s 1 0 x.1).1 = x.1 := by
      unfold Rc.rU
      simp only [Bit.rnum_stay hx]
    split at h
    · have := sU0 h
      simp only [e1] at this
      exact this
    · simp only [e1] at h
      exact h
theorem sG {s : ByteArray} (hs : s.size ≤ 300) {k : Nat} (hk : k ≤ 8 * s.size) (g : Fr) (h : (stG (Rc.rU s) ((k, 0), g)).1.2 = 0) :
    ∃ (p : Nat) (t : Int), stG (Rc.rU s) ((k, 0), g) = ((p, 0), { g with t := t }) ∧ p ≤ 8 * s.size ∧ (if t = -1 then Bit.wuns 1 0 (Bit.sbits s 0 k, 0) else Bit.wuns 5 t (Bit.wuns 1 1 (Bit.sbits s 0 k, 0))) = (Bit.sbits s 0 p, 0) := by
  unfold stG at h ⊢
  have e0 : ∀ n, Rc.rU s 1 n (k, 0) = Rc.rU s 1 0 (k, 0) := fun _ => rfl
  simp only [e0] at h ⊢
  have hf : (Rc.rU s 1 0 (k, 0)).1.2 = 0 := by
    split at h
    · exact sU0 (x := ((Rc.rU s 1 0 (k, 0)).1, g)) h
    · exact h
  obtain ⟨p, v, h1, h2, h3, h4, h5⟩ := sU hs hk 1 0 g (by unfold stU; simp only [e0]; exact hf)
  rw [h5] at h ⊢
  simp only at h ⊢
  by_cases hv : v = 1
  · rw [if_pos hv] at h ⊢
    obtain ⟨p2, t, g1, g2, g3, g4, _⟩ := sU hs h2 5 2 g h
    refine ⟨p2, t, by rw [g1]; rfl, g2, ?_⟩
    subst hv
    rw [if_neg (by omega), h4, g4]
  · rw [if_neg hv] at h ⊢
    refine ⟨p, -1, rfl, h2, ?_⟩
    rw [if_pos rfl]
    have : v = 0 := by
      have hlt := Rc.rnum_lt s 1 1 (k, 0)
      have : Rc.rU s 1 0 (k, 0) = ((Bit.rnum s 1 1 (k, 0)).1, ((Bit.rnum s 1 1 (k, 0)).2 : Int)) := rfl
      rw [this] at h5
      have hr := Bit.rnum_ok (s := s) (least := 1) (wd := 1) (st := (k, 0)) hf
      have hb := Bit.val_sbits_lt s k 1
      have e : (Bit.rnum s 1 1 (k, 0)).2 = Bit.val (Bit.sbits s k 1) := by rw [hr.2.2.2.2]; rfl
      have e2 : ((Bit.rnum s 1 1 (k, 0)).2 : Int) = v := congrArg Prod.snd h5
      omega
    subst this
    exact h4
/-- The head: what is read is what would be written. -/
theorem head_strict {s : ByteArray} (hs : s.size ≤ 300) (h : (stU (Rc.rU s) 4 8 (stU (Rc.rU s) 3 8 (stG (Rc.rU s) (stU (Rc.rU s) 1 5 (stU (Rc.rU s) 0 3 ((0, 0), fr0)))))).1.2 = 0) :
    ∃ (p : Nat) (k n t l q : Int), stU (Rc.rU s) 4 8 (stU (Rc.rU s) 3 8 (stG (Rc.rU s) (stU (Rc.rU s) 1 5 (stU (Rc.rU s) 0 3 ((0, 0), fr0))))) = ((p, 0), ⟨k, n, t, l, q, 0, 0, 0, 0, 0, 0, ⟨#[]⟩⟩) ∧ p ≤ 8 * s.size ∧
      ∀ f : Fr, f.k = k → f.s = n → f.t = t → f.l = l → f.q = q → wHead f = (Bit.sbits s 0 p, 0) := by
  have h4 := sU0 h
  have h3 := sU0 h4
  have h2 := stG_ok h3
  have h1 := sU0 h2
  obtain ⟨p1, k, a1, a2, _, a4, _⟩ := sU hs (Nat.zero_le _) 3 0 fr0 h1
  rw [a1] at h h4 h3 h2 ⊢
  obtain ⟨p2, n, b1, b2, _, b4, _⟩ := sU hs a2 5 1 (fr0.set 0 k) h2
  rw [b1] at h h4 h3 ⊢
  obtain ⟨p3, t, c1, c2, c4⟩ := sG hs b2 ((fr0.set 0 k).set 1 n) h3
  rw [c1] at h h4 ⊢
  obtain ⟨p4, l, d1, d2, _, d4, _⟩ := sU hs c2 8 3 { (fr0.set 0 k).set 1 n with t := t } h4
  rw [d1] at h ⊢
  obtain ⟨p5, q, e1, e2, _, e4, _⟩ := sU hs d2 8 4 ({ (fr0.set 0 k).set 1 n with t := t }.set 3 l) h
  rw [e1]
  refine ⟨p5, k, n, t, l, q, rfl, e2, ?_⟩
  intro f hk hn ht hl hq
  unfold wHead
  rw [hk, hn, ht, hl, hq]
  have z : ([] : List Nat) = Bit.sbits s 0 0 := by simp [Bit.sbits]
  rw [z, a4, b4, c4, d4, e4]
theorem sOwn0 {s : ByteArray} {x : (Nat × Int) × Fr} (h : (stOwn (Rc.rU s) (Rc.rS s) (Rc.rT s) x).1.2 = 0) : x.1.2 = 0 := by
  unfold stOwn at h
  split at h
  · exact sU0 (sU0 (sT0 h))
  · split at h
    · exact sS0 h
    · split at h
      · exact sU0 (sU0 (sU0 (sT0 h)))
      · split at h
        · exact sT0 h
        · exact h
theorem wOwn_1 {f : Fr} (h : f.k = 1) (st : List Nat × Int) : wOwn f st = Bit.wtext 127 f.d (Bit.wuns 16 f.n (Bit.wuns 8 f.fl st)) := by unfold wOwn; rw [if_pos h]
theorem wOwn_2 {f : Fr} (h : f.k = 2) (st : List Nat × Int) : wOwn f st = Bit.wsig 16 f.e st := by unfold wOwn; rw [if_neg (by omega), if_pos h]
theorem wOwn_3 {f : Fr} (h : f.k = 3) (st : List Nat × Int) : wOwn f st = Bit.wtext 127 f.d (Bit.wuns 16 f.ep (Bit.wuns 16 f.r (Bit.wuns 27 f.sl st))) := by unfold wOwn; rw [if_neg (by omega), if_neg (by omega), if_pos h]
theorem wOwn_4 {f : Fr} (h : f.k = 4) (st : List Nat × Int) : wOwn f st = Bit.wtext 127 f.d st := by unfold wOwn; rw [if_neg (by omega), if_neg (by omega), if_neg (by omega), if_pos h]
theorem own_strict {s : ByteArray} (hs : s.size ≤ 300) {p : Nat} (hp : p ≤ 8 * s.size) (k n t l q : Int) (h : (stOwn (Rc.rU s) (Rc.rS s) (Rc.rT s) ((p, 0), ⟨k, n, t, l, q, 0, 0, 0, 0, 0, 0, ⟨#[]⟩⟩)).1.2 = 0) :
    ∃ (p2 : Nat) (F : Fr), stOwn (Rc.rU s) (Rc.rS s) (Rc.rT s) ((p, 0), ⟨k, n, t, l, q, 0, 0, 0, 0, 0, 0, ⟨#[]⟩⟩) = ((p2, 0), F) ∧ p2 ≤ 8 * s.size ∧ wOwn F (Bit.sbits s 0 p, 0) = (Bit.sbits s 0 p2, 0) ∧ F.k = k ∧ F.s = n ∧ F.t = t ∧ F.l = l ∧ F.q = q := by
  unfold stOwn at h ⊢
  simp only at h ⊢
  by_cases k1 : k = 1
  · subst k1
    simp only [if_pos] at h ⊢
    have h2 := sT0 h
    have h1 := sU0 h2
    obtain ⟨p1, v1, a1, a2, _, a4, _⟩ := sU hs hp 8 5 ⟨1, n, t, l, q, 0, 0, 0, 0, 0, 0, ⟨#[]⟩⟩ h1
    replace a1 : stU (Rc.rU s) 5 8 ((p, 0), ⟨1, n, t, l, q, 0, 0, 0, 0, 0, 0, ⟨#[]⟩⟩) = ((p1, 0), ⟨1, n, t, l, q, v1, 0, 0, 0, 0, 0, ⟨#[]⟩⟩) := a1
    rw [a1] at h h2 ⊢
    obtain ⟨p2, v2, b1, b2, _, b4, _⟩ := sU hs a2 16 6 ⟨1, n, t, l, q, v1, 0, 0, 0, 0, 0, ⟨#[]⟩⟩ h2
    replace b1 : stU (Rc.rU s) 6 16 ((p1, 0), ⟨1, n, t, l, q, v1, 0, 0, 0, 0, 0, ⟨#[]⟩⟩) = ((p2, 0), ⟨1, n, t, l, q, v1, v2, 0, 0, 0, 0, ⟨#[]⟩⟩) := b1
    rw [b1] at h ⊢
    obtain ⟨p3, v3, c1, c2, c4⟩ := sT hs b2 ⟨1, n, t, l, q, v1, v2, 0, 0, 0, 0, ⟨#[]⟩⟩ h
    replace c1 : stT (Rc.rT s) ((p2, 0), ⟨1, n, t, l, q, v1, v2, 0, 0, 0, 0, ⟨#[]⟩⟩) = ((p3, 0), ⟨1, n, t, l, q, v1, v2, 0, 0, 0, 0, v3⟩) := c1
    rw [c1]
    refine ⟨p3, ⟨1, n, t, l, q, v1, v2, 0, 0, 0, 0, v3⟩, rfl, c2, ?_, rfl, rfl, rfl, rfl, rfl⟩
    refine (wOwn_1 (f := ⟨1, n, t, l, q, v1, v2, 0, 0, 0, 0, v3⟩) rfl _).trans ?_
    show Bit.wtext 127 v3 (Bit.wuns 16 v2 (Bit.wuns 8 v1 (Bit.sbits s 0 p, 0))) = _
    rw [a4, b4, c4]
  · by_cases k2 : k = 2
    · subst k2
      rw [if_neg k1, if_pos rfl] at h ⊢
      obtain ⟨p1, v1, a1, a2, a4⟩ := sS hs hp ⟨2, n, t, l, q, 0, 0, 0, 0, 0, 0, ⟨#[]⟩⟩ h
      replace a1 : stS (Rc.rS s) 16 ((p, 0), ⟨2, n, t, l, q, 0, 0, 0, 0, 0, 0, ⟨#[]⟩⟩) = ((p1, 0), ⟨2, n, t, l, q, 0, 0, v1, 0, 0, 0, ⟨#[]⟩⟩) := a1
      rw [a1]
      refine ⟨p1, ⟨2, n, t, l, q, 0, 0, v1, 0, 0, 0, ⟨#[]⟩⟩, rfl, a2, ?_, rfl, rfl, rfl, rfl, rfl⟩
      exact (wOwn_2 (f := ⟨2, n, t, l, q, 0, 0, v1, 0, 0, 0, ⟨#[]⟩⟩) rfl _).trans a4
    · by_cases k3 : k = 3
      · subst k3
        rw [if_neg k1, if_neg k2, if_pos rfl] at h ⊢
        have h3 := sT0 h
        have h2 := sU0 h3
        have h1 := sU0 h2
        obtain ⟨p1, v1, a1, a2, _, a4, _⟩ := sU hs hp 27 8 ⟨3, n, t, l, q, 0, 0, 0, 0, 0, 0, ⟨#[]⟩⟩ h1
        replace a1 : stU (Rc.rU s) 8 27 ((p, 0), ⟨3, n, t, l, q, 0, 0, 0, 0, 0, 0, ⟨#[]⟩⟩) = ((p1, 0), ⟨3, n, t, l, q, 0, 0, 0, v1, 0, 0, ⟨#[]⟩⟩) := a1
        rw [a1] at h h3 h2 ⊢
        obtain ⟨p2, v2, b1, b2, _, b4, _⟩ := sU hs a2 16 9 ⟨3, n, t, l, q, 0, 0, 0, v1, 0, 0, ⟨#[]⟩⟩ h2
        replace b1 : stU (Rc.rU s) 9 16 ((p1, 0), ⟨3, n, t, l, q, 0, 0, 0, v1, 0, 0, ⟨#[]⟩⟩) = ((p2, 0), ⟨3, n, t, l, q, 0, 0, 0, v1, v2, 0, ⟨#[]⟩⟩) := b1
        rw [b1] at h h3 ⊢
        obtain ⟨p3, v3, c1, c2, _, c4, _⟩ := sU hs b2 16 10 ⟨3, n, t, l, q, 0, 0, 0, v1, v2, 0, ⟨#[]⟩⟩ h3
        replace c1 : stU (Rc.rU s) 10 16 ((p2, 0), ⟨3, n, t, l, q, 0, 0, 0, v1, v2, 0, ⟨#[]⟩⟩) = ((p3, 0), ⟨3, n, t, l, q, 0, 0, 0, v1, v2, v3, ⟨#[]⟩⟩) := c1
        rw [c1] at h ⊢
        obtain ⟨p4, v4, d1, d2, d4⟩ := sT hs c2 ⟨3, n, t, l, q, 0, 0, 0, v1, v2, v3, ⟨#[]⟩⟩ h
        replace d1 : stT (Rc.rT s) ((p3, 0), ⟨3, n, t, l, q, 0, 0, 0, v1, v2, v3, ⟨#[]⟩⟩) = ((p4, 0), ⟨3, n, t, l, q, 0, 0, 0, v1, v2, v3, v4⟩) := d1
        rw [d1]
        refine ⟨p4, ⟨3, n, t, l, q, 0, 0, 0, v1, v2, v3, v4⟩, rfl, d2, ?_, rfl, rfl, rfl, rfl, rfl⟩
        refine (wOwn_3 (f := ⟨3, n, t, l, q, 0, 0, 0, v1, v2, v3, v4⟩) rfl _).trans ?_
        show Bit.wtext 127 v4 (Bit.wuns 16 v3 (Bit.wuns 16 v2 (Bit.wuns 27 v1 (Bit.sbits s 0 p, 0)))) = _
        rw [a4, b4, c4, d4]
      · by_cases k4 : k = 4
        · subst k4
          rw [if_neg k1, if_neg k2, if_neg k3, if_pos rfl] at h ⊢
          obtain ⟨p1, v1, a1, a2, a4⟩ := sT hs hp ⟨4, n, t, l, q, 0, 0, 0, 0, 0, 0, ⟨#[]⟩⟩ h
          replace a1 : stT (Rc.rT s) ((p, 0), ⟨4, n, t, l, q, 0, 0, 0, 0, 0, 0, ⟨#[]⟩⟩) = ((p1, 0), ⟨4, n, t, l, q, 0, 0, 0, 0, 0, 0, v1⟩) := a1
          rw [a1]
          refine ⟨p1, ⟨4, n, t, l, q, 0, 0, 0, 0, 0, 0, v1⟩, rfl, a2, ?_, rfl, rfl, rfl, rfl, rfl⟩
          exact (wOwn_4 (f := ⟨4, n, t, l, q, 0, 0, 0, 0, 0, 0, v1⟩) rfl _).trans a4
        · rw [if_neg k1, if_neg k2, if_neg k3, if_neg k4]
          refine ⟨p, ⟨k, n, t, l, q, 0, 0, 0, 0, 0, 0, ⟨#[]⟩⟩, rfl, hp, ?_, rfl, rfl, rfl, rfl, rfl⟩
          unfold wOwn
          simp only [if_neg k1, if_neg k2, if_neg k3, if_neg k4]
theorem strict {s : ByteArray} (hs : s.size ≤ 300) (hc : Bit.rclose s (rdX s).1 = 0) :
    wst (rdX s).2 = (Bit.sbits s 0 (rdX s).1.1, 0) ∧ (rdX s).1.1 ≤ 8 * s.size ∧ (rdX s).1.2 = 0 := by
  have h0 : (rdX s).1.2 = 0 := by
    unfold Bit.rclose at hc
    by_cases hx : (rdX s).1.2 = 0
    · exact hx
    · rw [if_pos hx] at hc; exact hc
  have h1 := h0
  unfold rdX stAll at h1
  obtain ⟨p, k, n, t, l, q, e1, e2, e3⟩ := head_strict hs (sOwn0 h1)
  rw [e1] at h1
  obtain ⟨p2, F, a1, a2, a3, b1, b2, b3, b4, b5⟩ := own_strict hs e2 k n t l q h1
  have hX : rdX s = ((p2, 0), F) := by
    unfold rdX stAll
    rw [e1, a1]
  rw [hX]
  refine ⟨?_, a2, rfl⟩
  rw [wst_eq, e3 F b1 b2 b3 b4 b5, a3]
theorem decR_strict {data : ByteArray} {f : Fr} (h : decR data = (f, 0)) : Ok f ∧ encR f = (data, 0) := by
  unfold decR at h
  by_cases h1 : 127 < data.size
  · rw [if_pos h1] at h; simp at h
  · rw [if_neg h1] at h
    by_cases h2 : (cut data).2 ≠ 0
    · rw [if_pos h2] at h; exact absurd (congrArg Prod.snd h) h2
    · rw [if_neg h2] at h
      by_cases h3 : Bit.rclose (cut data).1 (rdX (cut data).1).1 = 0 ∧ okB (rdX (cut data).1).2 = true
      · rw [if_pos h3] at h
        have hf : (rdX (cut data).1).2 = f := congrArg Prod.fst h
        have hcz : (cut data).2 = 0 := by simpa using h2
        -- the string is a protected one
        have hp : Cr.prot (cut data).1 = data ∧ (cut data).1.size ≤ 125 := by
          unfold cut at hcz ⊢
          by_cases h4 : data.size < 2
          · rw [if_pos h4] at hcz; simp at hcz
          · rw [if_neg h4] at hcz ⊢
            by_cases h5 : Cr.syn data ≠ 0
            · rw [if_pos h5] at hcz; simp at hcz
            · rw [if_neg h5]
              have h6 : Cr.syn data = 0 := by simpa using h5
              refine ⟨(Cr.syn_zero data (data.size - 2) (by omega)).1 h6, ?_⟩
              show (data.extract 0 (data.size - 2)).size ≤ 125
              rw [ByteArray.size_extract]; omega
        generalize (cut data).1 = s at *
        obtain ⟨hp1, hp2⟩ := hp
        have hs := strict (s := s) (by omega) h3.1
        rw [hf] at hs h3
        have ho := (okB_iff f).1 h3.2
        refine ⟨ho, ?_⟩
        obtain ⟨q1, q2, q3⟩ := hs
        have hE : Bit.wbytes (Bit.sbits s 0 (rdX s).1.1, 0) = s := by
          refine Bit.strict_end q2 ?_
          have e : (rdX s).1 = ((rdX s).1.1, 0) := by rw [← q3]
          have hc := h3.1
          rw [e] at hc
          exact hc
        have hw : wrR f = (s, (rdX s).1.1, 0) := by
          unfold wrR
          rw [q1, if_neg (by simp only [Bit.sbits_length]; omega)]
          simp only [hE, Bit.sbits_length]
        unfold encR
        rw [if_pos h3.2, hw, if_neg (by simp)]
        simp only [hp1]
      · rw [if_neg h3] at h; simp at h
end Go.Proofs.Ytilpbbpdchbdfaa
