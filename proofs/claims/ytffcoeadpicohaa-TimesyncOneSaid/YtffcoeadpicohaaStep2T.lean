/- One correction within a tree, by the reference. -/
import Derived.Test.YtffcoeadpicohaaRunA
import Derived.Deep.CutBlock
import Derived.RegionTactic
import Derived.ChangeAlike
namespace Go.Proofs.Ytffcoeadpicohaa
open Go.RowKit

/-- A node is acknowledged, by the reference: the parent's error is passed over. -/
def akS2 (c p : St) (n : Int) : St × Int := if (sendS c.1 c.2.1 n).2 = 0 then acS c.1 c.2.1 c.2.2.1 c.2.2.2 n (meS p.1 p.2.1 n (sendS c.1 c.2.1 n).1).1 else ((0, 0, 0, 0), (sendS c.1 c.2.1 n).2)
theorem ak2_cases (c p : St) (n : Int) : ((sendS c.1 c.2.1 n).2 = 0 ∧ akS2 c p n = acS c.1 c.2.1 c.2.2.1 c.2.2.2 n (meS p.1 p.2.1 n (sendS c.1 c.2.1 n).1).1) ∨ (((sendS c.1 c.2.1 n).2 != 0) = true ∧ akS2 c p n = ((0, 0, 0, 0), (sendS c.1 c.2.1 n).2)) := by
  unfold akS2
  by_cases h : (sendS c.1 c.2.1 n).2 = 0
  · rw [if_pos h]; exact .inl ⟨h, rfl⟩
  · rw [if_neg h]; exact .inr ⟨by simpa using h, rfl⟩
/-- The boxes of a step, and the result's, and those of two states. -/
def Bs (w : World) (x0 x1 : Int) (x2 : Bool) (w' : World) : Prop :=
  w'.heap[w.heap.size]? = some (.cells #[.int .i64 x0, .int .i64 x1, .bool x2] 49 (0, 0)) ∧ w'.heap[w.heap.size + 1]? = some (.cells #[.int .i64 0, .int .i64 0, .int .i64 0, .int .i64 0] 25 (0, 0)) ∧ Same w w'
theorem Bs.keep {w w1 w2 : World} {x0 x1 : Int} {x2 : Bool} (h : Bs w x0 x1 x2 w1) (k : Same w1 w2) : Bs w x0 x1 x2 w2 := ⟨k.heap h.1, k.heap h.2.1, h.2.2.trans k⟩
theorem Bs.same {w w1 : World} {x0 x1 : Int} {x2 : Bool} (h : Bs w x0 x1 x2 w1) : Same w w1 := h.2.2
theorem Bs.new (w : World) (x0 x1 : Int) (x2 : Bool) : Bs w x0 x1 x2 ((w.alloc (.cells #[.int .i64 x0, .int .i64 x1, .bool x2] 49)).alloc (.cells #[.int .i64 0, .int .i64 0, .int .i64 0, .int .i64 0] 25)) := by
  refine ⟨?_, ?_, ((Same.refl w).alloc _).alloc _⟩
  · rw [Below.heap_alloc _ _ _ (by simp)]
    exact heap_alloc_new w _
  · have := heap_alloc_new (w.alloc (.cells #[.int .i64 x0, .int .i64 x1, .bool x2] 49)) (.cells #[.int .i64 0, .int .i64 0, .int .i64 0, .int .i64 0] 25)
    simpa using this
structure BsC (b : Nat) (x0 x1 : Int) (x2 : Bool) (w1 : World) : Prop where
  a0 : w1.cell? ⟨b, 0, none⟩ = some (.int .i64 x0)
  a1 : w1.cell? ⟨b, 1, none⟩ = some (.int .i64 x1)
  a2 : w1.cell? ⟨b, 2, none⟩ = some (.bool x2)
  z0 : w1.cell? ⟨b + 1, 0, none⟩ = some (.int .i64 0)
  z1 : w1.cell? ⟨b + 1, 1, none⟩ = some (.int .i64 0)
  z2 : w1.cell? ⟨b + 1, 2, none⟩ = some (.int .i64 0)
  z3 : w1.cell? ⟨b + 1, 3, none⟩ = some (.int .i64 0)
  f0 : w1.frozen? ⟨b + 1, 0, none⟩ = false
  f1 : w1.frozen? ⟨b + 1, 1, none⟩ = false
  f2 : w1.frozen? ⟨b + 1, 2, none⟩ = false
  f3 : w1.frozen? ⟨b + 1, 3, none⟩ = false
theorem Bs.cells {w w1 : World} {x0 x1 : Int} {x2 : Bool} (h : Bs w x0 x1 x2 w1) : BsC w.heap.size x0 x1 x2 w1 := by
  obtain ⟨h1, h2, _⟩ := h
  constructor
  all_goals first
    | (unfold World.cell?; rw [h1]; rfl)
    | (unfold World.cell?; rw [h2]; rfl)
    | (unfold World.frozen?; rw [h2]; rfl)
theorem Bs.done {w w1 : World} {x0 x1 : Int} {x2 : Bool} (h : Bs w x0 x1 x2 w1) (u0 u1 u2 u3 : Value) : Same w ((((w1.setCell ⟨w.heap.size + 1, 0, none⟩ u0).setCell ⟨w.heap.size + 1, 1, none⟩ u1).setCell ⟨w.heap.size + 1, 2, none⟩ u2).setCell ⟨w.heap.size + 1, 3, none⟩ u3) :=
  (((h.2.2.setCell (Nat.le_succ _) _).setCell (Nat.le_succ _) _).setCell (Nat.le_succ _) _).setCell (Nat.le_succ _) _
/-- What the reference's correction of a node gives. -/
def step2S (n : Nat) (l : List St) (zs : List Int) (x : Sn) : St × Int :=
  if nodeB n x = true then (if x.2.2 = true then akS2 (l.getD x.1.toNat st0) (l.getD (zs.getD x.1.toNat 0).toNat st0) x.2.1 else hrS (l.getD x.1.toNat st0) (l.getD (zs.getD x.1.toNat 0).toNat st0) x.2.1) else ((0, 0, 0, 0), 7)
/-- All boxes of a step. -/
structure Bst (w : World) (x0 x1 : Int) (x2 : Bool) (pa pb : Nat) (c p : St) (wx : World) : Prop where
  bs : Bs w x0 x1 x2 wx
  yc : YAt wx pa 0 c
  yp : YAt wx pb 0 p
theorem Bst.keep {w : World} {x0 x1 : Int} {x2 : Bool} {pa pb : Nat} {c p : St} {w1 w2 : World} (h : Bst w x0 x1 x2 pa pb c p w1) (k : Same w1 w2) : Bst w x0 x1 x2 pa pb c p w2 := ⟨h.bs.keep k, h.yc.same k, h.yp.same k⟩
theorem Bst.c {w : World} {x0 x1 : Int} {x2 : Bool} {pa pb : Nat} {c p : St} {w1 : World} (h : Bst w x0 x1 x2 pa pb c p w1) : w1.cell? ⟨pa, 0, none⟩ = some (.int .i64 c.1) ∧ w1.cell? ⟨pa, 1, none⟩ = some (.int .i64 c.2.1) ∧ w1.cell? ⟨pa, 2, none⟩ = some (.int .i64 c.2.2.1) ∧ w1.cell? ⟨pa, 3, none⟩ = some (.int .i64 c.2.2.2) := h.yc
theorem Bst.p {w : World} {x0 x1 : Int} {x2 : Bool} {pa pb : Nat} {c p : St} {w1 : World} (h : Bst w x0 x1 x2 pa pb c p w1) : w1.cell? ⟨pb, 0, none⟩ = some (.int .i64 p.1) ∧ w1.cell? ⟨pb, 1, none⟩ = some (.int .i64 p.2.1) ∧ w1.cell? ⟨pb, 2, none⟩ = some (.int .i64 p.2.2.1) ∧ w1.cell? ⟨pb, 3, none⟩ = some (.int .i64 p.2.2.2) := h.yp
theorem und1 {w : World} {a : Addr} {v : Value} (h : w.cell? a = some v) : ∀ x y z u : Value, (w.alloc (.cells #[x, y, z, u] 25)).cell? a = some v := fun _ _ _ _ => ((Same.refl w).alloc _).cell h
theorem und2 {w : World} {a : Addr} {v : Value} (h : w.cell? a = some v) : ∀ x y z u x' y' z' u' : Value, ((w.alloc (.cells #[x, y, z, u] 25)).alloc (.cells #[x', y', z', u'] 25)).cell? a = some v := fun _ _ _ _ _ _ _ _ => (((Same.refl w).alloc _).alloc _).cell h
set_option maxHeartbeats 4000000 in
set_option maxRecDepth 100000 in
theorem step2_any (w : World) (b1 o1 k1 b2 o2 k2 n : Nat) (l : List St) (zs : List Int) (x : Sn) (_hn1 : 1 ≤ n) (_hn2 : n ≤ 32)
    (hY : ∀ i, i < n → YAt w b1 (o1 + i * 4) (l.getD i st0)) (hpar : ∀ i, i < n → w.cell? ⟨b2, o2 + i, none⟩ = some (.int .i64 (zs.getD i 0))) (hpr : ∀ i, 1 ≤ i → i < n → ∃ P : Nat, zs.getD i 0 = (P : Int) ∧ P < n) :
    Calls Try.prog 54 #[.slice (some ⟨b1, o1, none⟩) n k1, .slice (some ⟨b2, o2, none⟩) n k2, .agg #[.int .i64 x.1, .int .i64 x.2.1, .bool x.2.2]] w
      fun e w' => e = .returned (.tuple #[vS (step2S n l zs x).1, .int .i64 (step2S n l zs x).2]) ∧ Same w w' := by
  obtain ⟨x0, x1, x2⟩ := x
  have HN := Lib.hid (Bs.new w x0 x1 x2)
  obtain ⟨a0, a1, a2, z0, z1, z2, z3, f0, f1, f2, f3⟩ := HN.out.cells
  cases hnb : nodeB n (x0, x1, x2) with
  | false =>
    rw [show step2S n l zs (x0, x1, x2) = ((0, 0, 0, 0), 7) from if_neg (by rw [hnb]; decide)]
    have hno := inB_no (show inB x0 1 ((n : Int) - 1) = false from hnb)
    clear hnb hY hpar hpr
    by_cases q1 : x0 < 1
    · clear hno
      go_enter Try.func54, Try.ntmps54
      go_wp2
      exact bodyPost_ret (v := nil4 7) (by simp [results, Try.results54, go_sem, z0, z1, z2, z3]) rfl ⟨rfl, by first | exact HN.out.done _ _ _ _ | exact HN.out.same⟩
    · have q1' : 1 ≤ x0 := by omega
      have q2 : (n : Int) ≤ x0 := by omega
      clear hno q1
      go_enter Try.func54, Try.ntmps54
      go_wp2
      exact bodyPost_ret (v := nil4 7) (by simp [results, Try.results54, go_sem, z0, z1, z2, z3]) rfl ⟨rfl, by first | exact HN.out.done _ _ _ _ | exact HN.out.same⟩
  | true =>
    obtain ⟨q1, q2⟩ := inB_yes (show inB x0 1 ((n : Int) - 1) = true from hnb)
    obtain ⟨N, rfl⟩ : ∃ N : Nat, x0 = (N : Int) := ⟨x0.toNat, by omega⟩
    have hN : N < n := by omega
    obtain ⟨P, hP, hPn⟩ := hpr N (by omega) hN
    have hcn := hpar N hN
    rw [hP] at hcn
    have hst : step2S n l zs ((N : Int), x1, x2) = if x2 = true then akS2 (l.getD N st0) (l.getD P st0) x1 else hrS (l.getD N st0) (l.getD P st0) x1 := by
      unfold step2S; rw [if_pos hnb]; simp only [Int.toNat_natCast, hP]
    rw [hst]
    clear hst hnb hpar hpr hP
    have yc := hY N hN
    have yp := hY P hPn
    clear hY
    generalize l.getD N st0 = c at *
    generalize l.getD P st0 = p at *
    have e0 := HN.out.same.cell hcn
    obtain ⟨c0, c1, c2, c3⟩ := c
    obtain ⟨p0, p1, p2, p3⟩ := p
    obtain ⟨g0, g1, g2, g3⟩ := yc.same HN.out.same
    obtain ⟨h0, h1, h2, h3⟩ := yp.same HN.out.same
    simp only at g0 g1 g2 g3 h0 h1 h2 h3
    clear yc yp hcn
    have q3 : (N : Int) < n := by omega
    have q4 : (P : Int) < n := by omega
    obtain ⟨R, hR⟩ : ∃ R, (if x2 = true then akS2 (c0, c1, c2, c3) (p0, p1, p2, p3) x1 else hrS (c0, c1, c2, c3) (p0, p1, p2, p3) x1) = R := ⟨_, rfl⟩
    rw [hR]
    have hcase : (x2 = true ∧ (sendS c0 c1 x1).2 = 0 ∧ R = acS c0 c1 c2 c3 x1 (meS p0 p1 x1 (sendS c0 c1 x1).1).1) ∨ (x2 = true ∧ ((sendS c0 c1 x1).2 != 0) = true ∧ R = ((0, 0, 0, 0), (sendS c0 c1 x1).2)) ∨
        (x2 = false ∧ (sendS p0 p1 x1).2 = 0 ∧ R = heS c0 c1 c2 c3 x1 (sendS p0 p1 x1).1) ∨ (x2 = false ∧ ((sendS p0 p1 x1).2 != 0) = true ∧ R = ((0, 0, 0, 0), (sendS p0 p1 x1).2)) := by
      rw [← hR]
      cases x2 with
      | true =>
        rw [if_pos rfl]
        rcases ak2_cases (c0, c1, c2, c3) (p0, p1, p2, p3) x1 with ⟨h, k⟩ | ⟨h, k⟩
        · exact .inl ⟨rfl, h, k⟩
        · exact .inr (.inl ⟨rfl, h, k⟩)
      | false =>
        rw [if_neg (by decide)]
        rcases hr_cases (c0, c1, c2, c3) (p0, p1, p2, p3) x1 with ⟨h, k⟩ | ⟨h, k⟩
        · exact .inr (.inr (.inl ⟨rfl, h, k⟩))
        · exact .inr (.inr (.inr ⟨rfl, h, k⟩))
    have HCASE := Lib.hid hcase; clear hcase hR
    go_enter Try.func54, Try.ntmps54
    go_upto_region 3 with fail
    go_cut [8, 9] from 27 (fun s8 s9 wx => ∃ pa pb : Nat, s8 = .pointer (some ⟨pa, 0, none⟩) ∧ s9 = .pointer (some ⟨pb, 0, none⟩) ∧ Bst w N x1 x2 pa pb (c0, c1, c2, c3) (p0, p1, p2, p3) wx)
    case first =>
      clear z0 z1 z2 z3 f0 f1 f2 f3
      have e0x := und1 e0
      have e0y := und2 e0
      have g0x := und1 g0
      have g0y := und2 g0
      have g1x := und1 g1
      have g1y := und2 g1
      have g2x := und1 g2
      have g2y := und2 g2
      have g3x := und1 g3
      have g3y := und2 g3
      have h0x := und1 h0
      have h0y := und2 h0
      have h1x := und1 h1
      have h1y := und2 h1
      have h2x := und1 h2
      have h2y := und2 h2
      have h3x := und1 h3
      have h3y := und2 h3
      have a0x := und1 a0
      have a0y := und2 a0
      have a1x := und1 a1
      have a1y := und2 a1
      have a2x := und1 a2
      have a2y := und2 a2
      go_region
      · go_wp2
        go_meet
        case rel => exact ⟨_, _, rfl, rfl, ⟨HN.out.keep ((((Same.refl _).alloc _).alloc _).drew), ⟨by go_simp, by go_simp, by go_simp, by go_simp⟩, ⟨by go_simp, by go_simp, by go_simp, by go_simp⟩⟩⟩
      · go_wp2
        go_meet
        case rel => exact ⟨_, _, rfl, rfl, ⟨HN.out.keep ((((Same.refl _).alloc _).alloc _).drew), ⟨by go_simp, by go_simp, by go_simp, by go_simp⟩, ⟨by go_simp, by go_simp, by go_simp, by go_simp⟩⟩⟩
    case rest =>
      clear e0 g0 g1 g2 g3 h0 h1 h2 h3 a0 a1 a2 z0 z1 z2 z3 f0 f1 f2 f3
      obtain ⟨pa, pb, rfl, rfl, hA⟩ := hcut
      have HA := Lib.hid hA; clear hA
      obtain ⟨a0, a1, a2, z0, z1, z2, z3, f0, f1, f2, f3⟩ := HA.out.bs.cells
      obtain ⟨g0, g1, g2, g3⟩ := HA.out.c
      obtain ⟨h0, h1, h2, h3⟩ := HA.out.p
      simp only at g0 g1 g2 g3 h0 h1 h2 h3
      rcases HCASE.out with ⟨rfl, e0, hr⟩ | ⟨rfl, e0, hr⟩ | ⟨rfl, e0, hr⟩ | ⟨rfl, e0, hr⟩ <;> clear HCASE
      · have hs1 := fun w => Send2_is c0 c1 x1 w
        have hm := fun w => Measure2_any p0 p1 x1 (sendS c0 c1 x1).1 w
        have hk := fun w => Acked2_any c0 c1 c2 c3 x1 (meS p0 p1 x1 (sendS c0 c1 x1).1).1 w
        generalize sendS c0 c1 x1 = sd at *
        obtain ⟨T, E⟩ := sd
        simp only at e0 hs1 hm hk hr
        subst e0
        generalize meS p0 p1 x1 T = mm at *
        obtain ⟨D, ME⟩ := mm
        simp only at hm hk hr
        generalize acS c0 c1 c2 c3 x1 D = rr at *
        obtain ⟨⟨r0, r1, r2, r3⟩, re⟩ := rr
        have HRR := Lib.hid hr; clear hr
        have H1 := Lib.hid hs1; clear hs1
        have H2 := Lib.hid hm; clear hm
        have H3 := Lib.hid hk; clear hk
        go_wp2_with (first
          | (go_at_call 67; (with_reducible refine (H1.out _).mono ?_); rintro r w5 ⟨rfl, hw⟩; have HB := Lib.hid (HA.out.keep hw.toSame); clear hw a0 a1 a2 z0 z1 z2 z3 f0 f1 f2 f3 g0 g1 g2 g3 h0 h1 h2 h3; obtain ⟨a0, a1, a2, z0, z1, z2, z3, f0, f1, f2, f3⟩ := HB.out.bs.cells; obtain ⟨g0, g1, g2, g3⟩ := HB.out.c; obtain ⟨h0, h1, h2, h3⟩ := HB.out.p; simp only at g0 g1 g2 g3 h0 h1 h2 h3)
          | (go_at_call 12; (with_reducible refine (H2.out _).mono ?_); rintro r w6 ⟨rfl, hw⟩; have HC := Lib.hid (HB.out.keep hw.toSame); clear hw HB a0 a1 a2 z0 z1 z2 z3 f0 f1 f2 f3 g0 g1 g2 g3 h0 h1 h2 h3; have HB := HC; clear HC; obtain ⟨a0, a1, a2, z0, z1, z2, z3, f0, f1, f2, f3⟩ := HB.out.bs.cells; obtain ⟨g0, g1, g2, g3⟩ := HB.out.c; obtain ⟨h0, h1, h2, h3⟩ := HB.out.p; simp only at g0 g1 g2 g3 h0 h1 h2 h3)
          | (go_at_call 16; (with_reducible refine (H3.out _).mono ?_); rintro r w7 ⟨rfl, hw⟩; have HC := Lib.hid (HB.out.keep hw); clear hw HB a0 a1 a2 z0 z1 z2 z3 f0 f1 f2 f3 g0 g1 g2 g3 h0 h1 h2 h3; obtain ⟨a0, a1, a2, z0, z1, z2, z3, f0, f1, f2, f3⟩ := HC.out.bs.cells))
        exact bodyPost_ret (v := .tuple #[.agg #[.int .i64 r0, .int .i64 r1, .int .i64 r2, .int .i64 r3], .int .i64 re]) (by simp [results, Try.results54, go_sem, z0, z1, z2, z3]) rfl ⟨by rw [HRR.out], HC.out.bs.done _ _ _ _⟩
      · have hs1 := fun w => Send2_is c0 c1 x1 w
        generalize sendS c0 c1 x1 = sd at *
        obtain ⟨T, E⟩ := sd
        simp only at e0 hs1 hr
        have HRR := Lib.hid hr; clear hr
        have H1 := Lib.hid hs1; clear hs1
        go_wp2_with (go_at_call 67; (with_reducible refine (H1.out _).mono ?_); rintro r w5 ⟨rfl, hw⟩; have HB := Lib.hid (HA.out.keep hw.toSame); clear hw a0 a1 a2 z0 z1 z2 z3 f0 f1 f2 f3 g0 g1 g2 g3 h0 h1 h2 h3; obtain ⟨a0, a1, a2, z0, z1, z2, z3, f0, f1, f2, f3⟩ := HB.out.bs.cells; obtain ⟨g0, g1, g2, g3⟩ := HB.out.c; obtain ⟨h0, h1, h2, h3⟩ := HB.out.p; simp only at g0 g1 g2 g3 h0 h1 h2 h3)
        exact bodyPost_ret (v := nil4 E) (by simp [results, Try.results54, go_sem, z0, z1, z2, z3]) rfl ⟨by rw [HRR.out], HB.out.bs.done _ _ _ _⟩
      · have hs1 := fun w => Send2_is p0 p1 x1 w
        have hk := fun w => Hear2_any c0 c1 c2 c3 x1 (sendS p0 p1 x1).1 w
        generalize sendS p0 p1 x1 = sd at *
        obtain ⟨T, E⟩ := sd
        simp only at e0 hs1 hk hr
        subst e0
        generalize heS c0 c1 c2 c3 x1 T = rr at *
        obtain ⟨⟨r0, r1, r2, r3⟩, re⟩ := rr
        have HRR := Lib.hid hr; clear hr
        have H1 := Lib.hid hs1; clear hs1
        have H3 := Lib.hid hk; clear hk
        go_wp2_with (first
          | (go_at_call 67; (with_reducible refine (H1.out _).mono ?_); rintro r w5 ⟨rfl, hw⟩; have HB := Lib.hid (HA.out.keep hw.toSame); clear hw a0 a1 a2 z0 z1 z2 z3 f0 f1 f2 f3 g0 g1 g2 g3 h0 h1 h2 h3; obtain ⟨a0, a1, a2, z0, z1, z2, z3, f0, f1, f2, f3⟩ := HB.out.bs.cells; obtain ⟨g0, g1, g2, g3⟩ := HB.out.c; obtain ⟨h0, h1, h2, h3⟩ := HB.out.p; simp only at g0 g1 g2 g3 h0 h1 h2 h3)
          | (go_at_call 14; (with_reducible refine (H3.out _).mono ?_); rintro r w7 ⟨rfl, hw⟩; have HC := Lib.hid (HB.out.keep hw); clear hw HB a0 a1 a2 z0 z1 z2 z3 f0 f1 f2 f3 g0 g1 g2 g3 h0 h1 h2 h3; obtain ⟨a0, a1, a2, z0, z1, z2, z3, f0, f1, f2, f3⟩ := HC.out.bs.cells))
        exact bodyPost_ret (v := .tuple #[.agg #[.int .i64 r0, .int .i64 r1, .int .i64 r2, .int .i64 r3], .int .i64 re]) (by simp [results, Try.results54, go_sem, z0, z1, z2, z3]) rfl ⟨by rw [HRR.out], HC.out.bs.done _ _ _ _⟩
      · have hs1 := fun w => Send2_is p0 p1 x1 w
        generalize sendS p0 p1 x1 = sd at *
        obtain ⟨T, E⟩ := sd
        simp only at e0 hs1 hr
        have HRR := Lib.hid hr; clear hr
        have H1 := Lib.hid hs1; clear hs1
        go_wp2_with (go_at_call 67; (with_reducible refine (H1.out _).mono ?_); rintro r w5 ⟨rfl, hw⟩; have HB := Lib.hid (HA.out.keep hw.toSame); clear hw a0 a1 a2 z0 z1 z2 z3 f0 f1 f2 f3 g0 g1 g2 g3 h0 h1 h2 h3; obtain ⟨a0, a1, a2, z0, z1, z2, z3, f0, f1, f2, f3⟩ := HB.out.bs.cells; obtain ⟨g0, g1, g2, g3⟩ := HB.out.c; obtain ⟨h0, h1, h2, h3⟩ := HB.out.p; simp only at g0 g1 g2 g3 h0 h1 h2 h3)
        exact bodyPost_ret (v := nil4 E) (by simp [results, Try.results54, go_sem, z0, z1, z2, z3]) rfl ⟨by rw [HRR.out], HB.out.bs.done _ _ _ _⟩
end Go.Proofs.Ytffcoeadpicohaa
