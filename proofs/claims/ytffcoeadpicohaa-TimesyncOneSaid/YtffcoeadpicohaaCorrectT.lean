/- One correction within a tree, made in the list of states. -/
import Derived.Test.YtffcoeadpicohaaAckedT
namespace Go.Proofs.Ytffcoeadpicohaa
open Go.RowKit

theorem ycells_set : ∀ (l : List St) (N : Nat) (s : St), N < l.length → ((((ycells l).set (N * 4) (.int .i64 s.1)).set (N * 4 + 1) (.int .i64 s.2.1)).set (N * 4 + 2) (.int .i64 s.2.2.1)).set (N * 4 + 3) (.int .i64 s.2.2.2) = ycells (l.set N s)
  | [], N, s, h => by simp at h
  | v :: ws, 0, s, _ => rfl
  | v :: ws, N + 1, s, h => by
    have ih := ycells_set ws N s (by simpa using h)
    have e : ycells (v :: ws) = .int .i64 v.1 :: .int .i64 v.2.1 :: .int .i64 v.2.2.1 :: .int .i64 v.2.2.2 :: ycells ws := rfl
    have e' : ycells ((v :: ws).set (N + 1) s) = .int .i64 v.1 :: .int .i64 v.2.1 :: .int .i64 v.2.2.1 :: .int .i64 v.2.2.2 :: ycells (ws.set N s) := rfl
    rw [e, e', ← ih, show (N + 1) * 4 = N * 4 + 1 + 1 + 1 + 1 by omega]
    rfl
/-- What a correction of a node gives. -/
def stepS (l : List St) (zs : List Int) (x : Sn) : St × Int :=
  if x.2.2 = true then akS (l.getD x.1.toNat st0) (l.getD (zs.getD x.1.toNat 0).toNat st0) x.2.1 else hrS (l.getD x.1.toNat st0) (l.getD (zs.getD x.1.toNat 0).toNat st0) x.2.1
def nodeB (n : Nat) (x : Sn) : Bool := inB x.1 1 ((n : Int) - 1)
/-- The row of states, as they are. -/
theorem own_y {w : World} {base g n k1 : Nat} {l : List St} (h : w.ownsRow base 25 4 (.slice (some ⟨g, 0, none⟩) n k1) n (ycells l)) (hl : l.length = n) (i : Nat) (hi : i < n) : YAt w g (0 + i * 4) (l.getD i st0) := by
  obtain ⟨g0, g1, g2, g3⟩ := ycells_get l i (by omega)
  rw [Nat.zero_add]
  exact ⟨(h.cellAt _ (by omega)).trans g0, (h.cellAt _ (by omega)).trans g1, (h.cellAt _ (by omega)).trans g2, (h.cellAt _ (by omega)).trans g3⟩
theorem own_set {w : World} {base g n k1 : Nat} {l : List St} (h : w.ownsRow base 25 4 (.slice (some ⟨g, 0, none⟩) n k1) n (ycells l)) (hl : l.length = n) (i : Nat) (hi : i < n) (s : St) :
    ((((w.setCell ⟨g, i * 4, none⟩ (.int .i64 s.1)).setCell ⟨g, i * 4 + 1, none⟩ (.int .i64 s.2.1)).setCell ⟨g, i * 4 + 2, none⟩ (.int .i64 s.2.2.1)).setCell ⟨g, i * 4 + 3, none⟩ (.int .i64 s.2.2.2)).ownsRow base 25 4 (.slice (some ⟨g, 0, none⟩) n k1) n (ycells (l.set i s)) ∧
    w.grownBy ((((w.setCell ⟨g, i * 4, none⟩ (.int .i64 s.1)).setCell ⟨g, i * 4 + 1, none⟩ (.int .i64 s.2.1)).setCell ⟨g, i * 4 + 2, none⟩ (.int .i64 s.2.2.1)).setCell ⟨g, i * 4 + 3, none⟩ (.int .i64 s.2.2.2)) (some g) := by
  have h1 := h.stored (i * 4) (.int .i64 s.1)
  have h2 := h1.1.stored (i * 4 + 1) (.int .i64 s.2.1)
  have h3 := h2.1.stored (i * 4 + 2) (.int .i64 s.2.2.1)
  have h4 := h3.1.stored (i * 4 + 3) (.int .i64 s.2.2.2)
  refine ⟨?_, ?_⟩
  · rw [← ycells_set l i s (by omega)]; exact h4.1
  · have a := h1.2; have b := h2.2; have c := h3.2; have d := h4.2
    refine ⟨d.os.trans (c.os.trans (b.os.trans a.os)), d.tape.trans (c.tape.trans (b.tape.trans a.tape)), d.output.trans (c.output.trans (b.output.trans a.output)), Nat.le_trans a.size (Nat.le_trans b.size (Nat.le_trans c.size d.size)), fun k hk hr => ?_⟩
    rw [d.block k (Nat.lt_of_lt_of_le hk (Nat.le_trans a.size (Nat.le_trans b.size c.size))) hr, c.block k (Nat.lt_of_lt_of_le hk (Nat.le_trans a.size b.size)) hr, b.block k (Nat.lt_of_lt_of_le hk a.size) hr, a.block k hk hr]
/-- Nothing but a row has turned. -/
def But (g : Nat) (w w' : World) : Prop := w.grownBy w' (some g)
theorem But.of_same {g : Nat} {w w' : World} (h : Same w w') : But g w w' := ⟨h.os, h.tape, h.output, h.size, fun k hk _ => h.block k hk⟩
theorem But.trans {g : Nat} {a b c : World} (h : But g a b) (k : But g b c) : But g a c :=
  ⟨k.os.trans h.os, k.tape.trans h.tape, k.output.trans h.output, Nat.le_trans h.size k.size, fun i hi hr => (k.block i (Nat.lt_of_lt_of_le hi h.size) hr).trans (h.block i hi hr)⟩
/-- What a correction leaves. -/
def CorP (w : World) (base g n k1 : Nat) (l : List St) (zs : List Int) (x : Sn) (e : Ending) (w' : World) : Prop :=
  But g w w' ∧ ((nodeB n x = false ∧ e = .returned (.int .i64 7)) ∨ (nodeB n x = true ∧ ¬ (stepS l zs x).2 = 0 ∧ e = .returned (.int .i64 (stepS l zs x).2)) ∨
    (nodeB n x = true ∧ (stepS l zs x).2 = 0 ∧ e = .returned (.int .i64 0) ∧ w'.ownsRow base 25 4 (.slice (some ⟨g, 0, none⟩) n k1) n (ycells (l.set x.1.toNat (stepS l zs x).1))))
/-- The boxes of a tree and a step. -/
def Br (w : World) (v1 v2 : Value) (x0 x1 : Int) (x2 : Bool) (w' : World) : Prop :=
  w'.cell? ⟨w.heap.size, 0, none⟩ = some v1 ∧ w'.cell? ⟨w.heap.size, 1, none⟩ = some v2 ∧ w'.cell? ⟨w.heap.size + 1, 0, none⟩ = some (.int .i64 x0) ∧ w'.cell? ⟨w.heap.size + 1, 1, none⟩ = some (.int .i64 x1) ∧ w'.cell? ⟨w.heap.size + 1, 2, none⟩ = some (.bool x2) ∧ Same w w'
theorem Br.keep {w w1 w2 : World} {v1 v2 : Value} {x0 x1 : Int} {x2 : Bool} (h : Br w v1 v2 x0 x1 x2 w1) (k : Same w1 w2) : Br w v1 v2 x0 x1 x2 w2 := ⟨k.cell h.1, k.cell h.2.1, k.cell h.2.2.1, k.cell h.2.2.2.1, k.cell h.2.2.2.2.1, h.2.2.2.2.2.trans k⟩
theorem Br.same {w w1 : World} {v1 v2 : Value} {x0 x1 : Int} {x2 : Bool} (h : Br w v1 v2 x0 x1 x2 w1) : Same w w1 := h.2.2.2.2.2
theorem Br.new (w : World) (b1 o1 n1 k1 b2 o2 n2 k2 : Nat) (x0 x1 : Int) (x2 : Bool) : Br w (.slice (some ⟨b1, o1, none⟩) n1 k1) (.slice (some ⟨b2, o2, none⟩) n2 k2) x0 x1 x2 ((w.alloc (.cells #[.slice (some ⟨b1, o1, none⟩) n1 k1, .slice (some ⟨b2, o2, none⟩) n2 k2] 73)).alloc (.cells #[.int .i64 x0, .int .i64 x1, .bool x2] 49)) :=
  ⟨by go_simp, by go_simp, by go_simp, by go_simp, by go_simp, ((Same.refl w).alloc _).alloc _⟩
set_option maxHeartbeats 4000000 in
set_option maxRecDepth 100000 in
theorem trcorrect_any (w : World) (base g k1 b2 o2 k2 n : Nat) (l : List St) (zs : List Int) (x : Sn) (hl : l.length = n) (hn1 : 1 ≤ n) (hn2 : n ≤ 32)
    (hrow : w.ownsRow base 25 4 (.slice (some ⟨g, 0, none⟩) n k1) n (ycells l)) (hpar : ∀ i, i < n → w.cell? ⟨b2, o2 + i, none⟩ = some (.int .i64 (zs.getD i 0))) (hpr : ∀ i, 1 ≤ i → i < n → ∃ P : Nat, zs.getD i 0 = (P : Int) ∧ P < n) :
    Calls Try.prog 53 #[.agg #[.slice (some ⟨g, 0, none⟩) n k1, .slice (some ⟨b2, o2, none⟩) n k2], .agg #[.int .i64 x.1, .int .i64 x.2.1, .bool x.2.2]] w (CorP w base g n k1 l zs x) := by
  obtain ⟨x0, x1, x2⟩ := x
  have h1 := fun w => twithin_any x0 1 ((n : Int) - 1) w
  have HNB := Lib.hid (show nodeB n (x0, x1, x2) = inB x0 1 ((n : Int) - 1) from rfl)
  have HN := Lib.hid (Br.new w g 0 n k1 b2 o2 n k2 x0 x1 x2)
  obtain ⟨a0, a1, a2, a3, a4, _⟩ := HN.out
  cases hnb : inB x0 1 ((n : Int) - 1) with
  | false =>
    rw [hnb] at h1
    have H1 := Lib.hid h1; clear h1 hrow hpar hpr
    have HQ := Lib.hid hnb; clear hnb
    go_enter Try.func53, Try.ntmps53
    go_wp2_with (go_at_call 51; (with_reducible refine (H1.out _).mono ?_); rintro r w1 ⟨rfl, hw⟩; replace hw := hw.symm; subst hw)
    go_ret
    exact ⟨But.of_same HN.out.same, .inl ⟨by rw [HNB.out]; exact HQ.out, rfl⟩⟩
  | true =>
    rw [hnb] at h1
    obtain ⟨q1, q2⟩ := inB_yes hnb
    have HQ := Lib.hid hnb; clear hnb
    obtain ⟨N, rfl⟩ : ∃ N : Nat, x0 = (N : Int) := ⟨x0.toNat, by omega⟩
    have hN : N < n := by omega
    obtain ⟨P, hP, hPn⟩ := hpr N (by omega) hN
    have hcn := hpar N hN
    rw [hP] at hcn
    have hst : stepS l zs ((N : Int), x1, x2) = if x2 = true then akS (l.getD N st0) (l.getD P st0) x1 else hrS (l.getD N st0) (l.getD P st0) x1 := by
      unfold stepS; simp only [Int.toNat_natCast, hP]
    have HROW := Lib.hid hrow
    have HST := Lib.hid hst; clear hst
    cases x2 with
    | true =>
      have hk := fun (w1 : World) (hs : Same w w1) => isAcked_any w1 g 0 k1 b2 o2 k2 n N P (l.getD N st0) (l.getD P st0) x1 hN hPn ((own_y hrow hl N hN).same hs) ((own_y hrow hl P hPn).same hs) (hs.cell hcn)
      have HS := Lib.hid (show stepS l zs ((N : Int), x1, true) = akS (l.getD N st0) (l.getD P st0) x1 from HST.out)
      clear HST hrow hpar hcn hpr
      generalize akS (l.getD N st0) (l.getD P st0) x1 = R at *
      obtain ⟨⟨r0, r1, r2, r3⟩, re⟩ := R
      have H1 := Lib.hid h1; clear h1
      have H2 := Lib.hid hk; clear hk
      by_cases he : re = 0
      · subst he
        go_enter Try.func53, Try.ntmps53
        go_wp2_with (first
          | (go_at_call 51; (with_reducible refine (H1.out _).mono ?_); rintro r w1 ⟨rfl, hw⟩; replace hw := hw.symm; subst hw)
          | (go_at_call 66; (with_reducible refine (H2.out _ HN.out.same).mono ?_); rintro r w2 ⟨rfl, hw⟩; have HB := Lib.hid ((HN.out.keep hw).keep ((Same.refl _).alloc (sy4 r0 r1 r2 r3))); have HX := Lib.hid (Same.refl (w2.alloc (sy4 r0 r1 r2 r3))); clear hw a0 a1 a2 a3 a4; obtain ⟨a0, a1, a2, a3, a4, _⟩ := HB.out; obtain ⟨d0, d1, d2, d3⟩ := cells4 HX.out; obtain ⟨y0, y1, y2, y3⟩ := own_y (own_same HROW.out HB.out.same) hl N hN; rw [Nat.zero_add] at y0 y1 y2 y3; have fz0 := (own_same HROW.out HB.out.same).frozenAt (N * 4); have fz1 := (own_same HROW.out HB.out.same).frozenAt (N * 4 + 1); have fz2 := (own_same HROW.out HB.out.same).frozenAt (N * 4 + 2); have fz3 := (own_same HROW.out HB.out.same).frozenAt (N * 4 + 3)))
        have hos := own_set (own_same HROW.out HB.out.same) hl N hN (r0, r1, r2, r3)
        go_ret
        refine ⟨(But.of_same HB.out.same).trans hos.2, .inr (.inr ⟨by rw [HNB.out]; exact HQ.out, by rw [HS.out], rfl, ?_⟩)⟩
        rw [HS.out]
        exact hos.1
      · have he' : (re != 0) = true := by simpa using he
        go_enter Try.func53, Try.ntmps53
        go_wp2_with (first
          | (go_at_call 51; (with_reducible refine (H1.out _).mono ?_); rintro r w1 ⟨rfl, hw⟩; replace hw := hw.symm; subst hw)
          | (go_at_call 66; (with_reducible refine (H2.out _ HN.out.same).mono ?_); rintro r w2 ⟨rfl, hw⟩; have HB := Lib.hid ((HN.out.keep hw).keep ((Same.refl _).alloc (sy4 r0 r1 r2 r3))); clear hw a0 a1 a2 a3 a4))
        go_ret
        refine ⟨But.of_same HB.out.same, .inr (.inl ⟨by rw [HNB.out]; exact HQ.out, ?_, ?_⟩)⟩
        · rw [HS.out]; exact he
        · rw [HS.out]; rfl
    | false =>
      have hk := fun (w1 : World) (hs : Same w w1) => hears_any w1 g 0 k1 b2 o2 k2 n N P (l.getD N st0) (l.getD P st0) x1 hN hPn ((own_y hrow hl N hN).same hs) ((own_y hrow hl P hPn).same hs) (hs.cell hcn)
      have HS := Lib.hid (show stepS l zs ((N : Int), x1, false) = hrS (l.getD N st0) (l.getD P st0) x1 from HST.out)
      clear HST hrow hpar hcn hpr
      generalize hrS (l.getD N st0) (l.getD P st0) x1 = R at *
      obtain ⟨⟨r0, r1, r2, r3⟩, re⟩ := R
      have H1 := Lib.hid h1; clear h1
      have H2 := Lib.hid hk; clear hk
      by_cases he : re = 0
      · subst he
        go_enter Try.func53, Try.ntmps53
        go_wp2_with (first
          | (go_at_call 51; (with_reducible refine (H1.out _).mono ?_); rintro r w1 ⟨rfl, hw⟩; replace hw := hw.symm; subst hw)
          | (go_at_call 65; (with_reducible refine (H2.out _ HN.out.same).mono ?_); rintro r w2 ⟨rfl, hw⟩; have HB := Lib.hid ((HN.out.keep hw).keep ((Same.refl _).alloc (sy4 r0 r1 r2 r3))); have HX := Lib.hid (Same.refl (w2.alloc (sy4 r0 r1 r2 r3))); clear hw a0 a1 a2 a3 a4; obtain ⟨a0, a1, a2, a3, a4, _⟩ := HB.out; obtain ⟨d0, d1, d2, d3⟩ := cells4 HX.out; obtain ⟨y0, y1, y2, y3⟩ := own_y (own_same HROW.out HB.out.same) hl N hN; rw [Nat.zero_add] at y0 y1 y2 y3; have fz0 := (own_same HROW.out HB.out.same).frozenAt (N * 4); have fz1 := (own_same HROW.out HB.out.same).frozenAt (N * 4 + 1); have fz2 := (own_same HROW.out HB.out.same).frozenAt (N * 4 + 2); have fz3 := (own_same HROW.out HB.out.same).frozenAt (N * 4 + 3)))
        have hos := own_set (own_same HROW.out HB.out.same) hl N hN (r0, r1, r2, r3)
        go_ret
        refine ⟨(But.of_same HB.out.same).trans hos.2, .inr (.inr ⟨by rw [HNB.out]; exact HQ.out, by rw [HS.out], rfl, ?_⟩)⟩
        rw [HS.out]
        exact hos.1
      · have he' : (re != 0) = true := by simpa using he
        go_enter Try.func53, Try.ntmps53
        go_wp2_with (first
          | (go_at_call 51; (with_reducible refine (H1.out _).mono ?_); rintro r w1 ⟨rfl, hw⟩; replace hw := hw.symm; subst hw)
          | (go_at_call 65; (with_reducible refine (H2.out _ HN.out.same).mono ?_); rintro r w2 ⟨rfl, hw⟩; have HB := Lib.hid ((HN.out.keep hw).keep ((Same.refl _).alloc (sy4 r0 r1 r2 r3))); clear hw a0 a1 a2 a3 a4))
        go_ret
        refine ⟨But.of_same HB.out.same, .inr (.inl ⟨by rw [HNB.out]; exact HQ.out, ?_, ?_⟩)⟩
        · rw [HS.out]; exact he
        · rw [HS.out]; rfl
end Go.Proofs.Ytffcoeadpicohaa
