/- Table of the package. -/
import Derived.Test.YtcennbjegdlbhaaHearsA
namespace Go.Proofs.Ytcennbjegdlbhaa
open Go.RowKit

/-- A row of a table. -/
def rowL (f : Nat → Nat → Int) (n a : Nat) : List Value := (List.range n).map fun b => .int .i64 (f a b)
theorem rowL_get (f : Nat → Nat → Int) (n a b : Nat) (hb : b < n) : (rowL f n a)[b]? = some (.int .i64 (f a b)) := by simp [rowL, hb]
theorem rowL_length (f : Nat → Nat → Int) (n a : Nat) : (rowL f n a).length = n := by simp [rowL]
/-- A slice that is a whole row of a block. -/
abbrev sl (R n : Nat) : Value := .slice (some ⟨R, 0, none⟩) n n
/-- The first k rows of a table are made; they lie below M. -/
def Done (base T n M : Nat) (f : Nat → Nat → Int) (k : Nat) (rows : List Value) (wr : World) : Prop :=
  wr.ownsRow base 31 1 (sl T n) n rows ∧ T < M ∧ ∀ a, a < k → ∃ R, rows[a]? = some (sl R n) ∧ R ≠ T ∧ R < M ∧ wr.ownsRow base 3 1 (sl R n) n (rowL f n a)
theorem Done.grown {base T n M k : Nat} {f : Nat → Nat → Int} {rows : List Value} {wr w' : World} (h : Done base T n M f k rows wr) {row : Option Nat} (hg : wr.grownBy w' row) (hr : row = none ∨ row = some M) : Done base T n M f k rows w' := by
  obtain ⟨h1, h2, h3⟩ := h
  have ne : ∀ R, R < M → (sl R n).ownBlock = none ∨ (sl R n).ownBlock ≠ row := fun R hR => .inr (by
    rcases hr with rfl | rfl
    · simp [Value.ownBlock]
    · simp [Value.ownBlock]; omega)
  refine ⟨h1.kept hg (ne T h2), h2, fun a ha => ?_⟩
  obtain ⟨R, r1, r2, r3, r4⟩ := h3 a ha
  exact ⟨R, r1, r2, r3, r4.kept hg (ne R r3)⟩
theorem Done.raise {base T n M M' k : Nat} {f : Nat → Nat → Int} {rows : List Value} {wr : World} (h : Done base T n M f k rows wr) (hM : M ≤ M') : Done base T n M' f k rows wr := by
  obtain ⟨h1, h2, h3⟩ := h
  refine ⟨h1, by omega, fun a ha => ?_⟩
  obtain ⟨R, r1, r2, r3, r4⟩ := h3 a ha
  exact ⟨R, r1, r2, by omega, r4⟩
/-- The next row is laid: its slice is stored. -/
theorem Done.store {base T n M k : Nat} {f : Nat → Nat → Int} {rows : List Value} {wr : World} (h : Done base T n M f k rows wr) (u : Value) : Done base T n M f k (rows.set k u) (wr.setCell ⟨T, k, none⟩ u) := by
  obtain ⟨h1, h2, h3⟩ := h
  have hst := h1.stored k u
  refine ⟨hst.1, h2, fun a ha => ?_⟩
  obtain ⟨R, r1, r2, r3, r4⟩ := h3 a ha
  refine ⟨R, by rw [List.getElem?_set_ne (by omega)]; exact r1, r2, r3, r4.kept hst.2 (.inr ?_)⟩
  simp [Value.ownBlock]; exact r2
/-- A row is whole. -/
theorem Done.next {base T n M k : Nat} {f : Nat → Nat → Int} {rows cs : List Value} {wr : World} (h : Done base T n M f k rows wr) (hk : rows[k]? = some (sl M n)) (hc : wr.ownsRow base 3 1 (sl M n) n cs) (hall : ∀ b, b < n → cs[b]? = some (.int .i64 (f k b))) : Done base T n (M + 1) f (k + 1) rows wr := by
  obtain ⟨h1, h2, h3⟩ := h
  have hcs : cs = rowL f n k := by
    have hl : cs.length = n := by have := hc.1; omega
    apply List.ext_getElem?
    intro b
    by_cases hb : b < n
    · rw [hall b hb, rowL_get f n k b hb]
    · rw [List.getElem?_eq_none (by omega), List.getElem?_eq_none (by rw [rowL_length]; omega)]
  subst hcs
  refine ⟨h1, by omega, fun a ha => ?_⟩
  rcases Nat.lt_succ_iff_lt_or_eq.1 ha with h | rfl
  · obtain ⟨R, r1, r2, r3, r4⟩ := h3 a h
    exact ⟨R, r1, r2, by omega, r4⟩
  · exact ⟨M, hk, by omega, by omega, hc⟩
/-- A table as it is read. -/
def TblAt (w : World) (v : Value) (n : Nat) (f : Nat → Nat → Int) : Prop :=
  ∃ T cap, v = .slice (some ⟨T, 0, none⟩) n cap ∧ ∀ a, a < n → ∃ va, w.cell? ⟨T, a, none⟩ = some va ∧ Ints w va ((List.range n).map (f a))
theorem ints_row {w : World} {base R n cap a : Nat} {f : Nat → Nat → Int} (h : w.ownsRow base 3 1 (.slice (some ⟨R, 0, none⟩) n cap) n (rowL f n a)) : Ints w (.slice (some ⟨R, 0, none⟩) n cap) ((List.range n).map (f a)) := by
  by_cases h0 : n = 0
  · subst h0; exact .inr ⟨_, _, rfl, rfl⟩
  · refine .inl ⟨R, 0, cap, by simp, by simp; omega, fun i hi => ?_⟩
    have hi' : i < n := by simpa using hi
    have := h.cellAt i (by omega)
    rw [Nat.zero_add, this, rowL_get f n a i hi']
    simp [List.getD_eq_getElem?_getD, hi']
theorem Done.table {base T n M : Nat} {f : Nat → Nat → Int} {rows : List Value} {wr : World} (h : Done base T n M f n rows wr) : TblAt wr (sl T n) n f := by
  obtain ⟨h1, h2, h3⟩ := h
  refine ⟨T, n, rfl, fun a ha => ?_⟩
  obtain ⟨R, r1, r2, r3, r4⟩ := h3 a ha
  exact ⟨sl R n, by rw [h1.cellAt a (by omega)]; exact r1, ints_row r4⟩
/-- A table comes back, and an error. -/
def TabP (w : World) (n : Nat) (f : Nat → Nat → Int) (e : Ending) (w' : World) : Prop := ∃ v, e = .returned (.tuple #[v, .int .i64 0]) ∧ TblAt w' v n f ∧ Same w w'
/-- What a round reads. -/
abbrev S8t (w : World) (v1 v2 v3 : Value) (e n t : Int) (T k : Nat) (x : Value) (w' : World) : Prop :=
  (w'.cell? ⟨w.heap.size, 0, none⟩ = some v1 ∧ w'.cell? ⟨w.heap.size, 1, none⟩ = some v2 ∧ w'.cell? ⟨w.heap.size, 2, none⟩ = some v3 ∧ w'.cell? ⟨w.heap.size, 3, none⟩ = some (.int .i64 e) ∧ w'.cell? ⟨w.heap.size, 4, none⟩ = some (.int .i64 n) ∧ w'.cell? ⟨w.heap.size, 5, none⟩ = some (.int .i64 t)) ∧ w'.cell? ⟨T, k, none⟩ = some x ∧ Same w w'
theorem keep8t {w w1 w2 : World} {v1 v2 v3 x : Value} {e n t : Int} {T k : Nat} (h : S8t w v1 v2 v3 e n t T k x w1) (s : Same w1 w2) : S8t w v1 v2 v3 e n t T k x w2 := by
  obtain ⟨⟨h0, h1, h2, h3, h4, h5⟩, h6, hs⟩ := h
  exact ⟨⟨s.cell h0, s.cell h1, s.cell h2, s.cell h3, s.cell h4, s.cell h5⟩, s.cell h6, hs.trans s⟩
theorem keep8s {w w1 : World} {v1 v2 v3 x u : Value} {e n t : Int} {T k M j : Nat} (h : S8t w v1 v2 v3 e n t T k x w1) (hM : w.heap.size < M) (hT : T ≠ M) : S8t w v1 v2 v3 e n t T k x (w1.setCell ⟨M, j, none⟩ u) := by
  obtain ⟨⟨h0, h1, h2, h3, h4, h5⟩, h6, hs⟩ := h
  have far : ∀ {a : Addr} {y : Value}, a.block ≠ M → w1.cell? a = some y → (w1.setCell ⟨M, j, none⟩ u).cell? a = some y := fun hb hc => by
    rw [World.cell?_setCell_far _ _ _ _ (fun e => hb e.symm)]; exact hc
  exact ⟨⟨far (by simp; omega) h0, far (by simp; omega) h1, far (by simp; omega) h2, far (by simp; omega) h3, far (by simp; omega) h4, far (by simp; omega) h5⟩, far hT h6, hs.setCell (by simp; omega) _⟩
theorem frozen_same {w w1 : World} (h : Same w w1) {p : Addr} {v : Value} (hc : w.cell? p = some v) : w1.frozen? p = w.frozen? p := by
  have hb := h.block p.block (World.block_lt_of_cell? w p hc)
  unfold World.frozen?
  rw [hb]
/-- Inside a row: j of its numbers are laid. -/
def Inn (w B : World) (T n M : Nat) (f : Nat → Nat → Int) (k j : Nat) (wr : World) : Prop :=
  ∃ rows cs : List Value, Done (w.heap.size + 1) T n M f k rows wr ∧ M < wr.heap.size ∧ rows[k]? = some (sl M n) ∧ wr.ownsRow (w.heap.size + 1) 3 1 (sl M n) n cs ∧ (∀ b, b < j → cs[b]? = some (.int .i64 (f k b))) ∧ Same B wr
theorem Inn.step {w B w2 w5 : World} {T n M k j : Nat} {f : Nat → Nat → Int} {rows cs : List Value} (hD : Done (w.heap.size + 1) T n M f k rows w2) (hM : M < w2.heap.size) (hr : rows[k]? = some (sl M n)) (ho : w2.ownsRow (w.heap.size + 1) 3 1 (sl M n) n cs) (hall : ∀ b, b < j → cs[b]? = some (.int .i64 (f k b))) (hS : Same B w2) (hj : j < n) (hB : B.heap.size ≤ M) (h : Same w2 w5) :
    Inn w B T n M f k (j + 1) (w5.setCell ⟨M, j, none⟩ (.int .i64 (f k j))) := by
  have ho5 := own_same ho h
  have hg := (ho5.stored j (.int .i64 (f k j))).2
  have hcl : cs.length = n := by have := ho.1; omega
  refine ⟨rows, cs.set j (.int .i64 (f k j)), (hD.grown h.grown (.inl rfl)).grown hg (.inr rfl), ?_, hr, (ho5.stored j (.int .i64 (f k j))).1, ?_, (hS.trans h).setCell (by exact hB) _⟩
  · have := h.size; simp; omega
  · intro b hb
    by_cases he : b = j
    · subst he; rw [List.getElem?_set_self (by omega)]
    · rw [List.getElem?_set_ne (fun e => he e.symm)]; exact hall b (by omega)
set_option maxHeartbeats 6400000 in
set_option maxRecDepth 100000 in
theorem table_good (w : World) (s : Site) (v1 v2 v3 : Value) (h : SiteAt w (.agg #[v1, v2, v3, .int .i64 s.e, .int .i64 s.n, .int .i64 s.t]) s) (ao1 ao2 ao3 : Option Addr) (cap1 cap2 cap3 : Nat) (e1 : v1 = .slice ao1 s.ps.length cap1) (e2 : v2 = .slice ao2 s.zs.length cap2) (e3 : v3 = .slice ao3 s.ws.length cap3) (hs : siteB s = true) :
    Calls Try.prog 22 #[.agg #[v1, v2, v3, .int .i64 s.e, .int .i64 s.n, .int .i64 s.t]] w (TabP w s.ps.length (betS s)) := by
  have HAT := Lib.hid (fun (w1 : World) (h : Same (boxS w v1 v2 v3 s.e s.n s.t) w1) => boxS_at h)
  have s0 : Same w (boxS w v1 v2 v3 s.e s.n s.t) := by repeat' (first | exact Same.refl _ | apply Same.alloc)
  have HS0 := Lib.hid s0
  have hc := check_at _ _ s (h.same s0) 0 (by rw [if_pos hs])
  have HC := Lib.hid hc; clear hc
  have hg := good_of hs
  have HBT := Lib.hid (fun (k b : Nat) (hk : k < s.ps.length) (hb : b < s.ps.length) (w1 : World) (hs1 : Same w w1) => between_any w1 _ s (h.same hs1) hg k b hk hb)
  have l1 : (s.ps.length : Int) ≤ 32 := by have := hg.n32; omega
  have l2 : 2 ≤ s.ps.length := hg.n2
  obtain ⟨i0, hi, hz0, hz1, hz2⟩ := info_parts Try.infoInt
  obtain ⟨j0, gi, gz0, gz1, gz2⟩ := info_parts (show (Try.prog.info? 31).map (fun i => (i.zero, i.size, i.bytes)) = some (some (.slice none 0 0), 1, 24) by kernel_rfl)
  subst e1 e2 e3
  clear h hs s0 hg
  generalize hn : s.ps.length = n at *
  generalize betS s = f at *
  clear hn
  go_enter Try.func22, Try.ntmps22
  go_wp2_with (first
    | (go_at_call 24; (with_reducible refine HC.out.mono ?_); rintro e w1 ⟨rfl, hw⟩; have hb := Lib.hid hw; obtain ⟨z1, z2, z3, z4, z5, z6, hs⟩ := HAT.out _ hw; have HSS := Lib.hid hs; clear hw hs)
    | (at_make; refine wpList_make_full _ rfl _ _ 42 rfl (w.heap.size + 1) 31 j0 (.slice none 0 0) 1 Try.underlying42 gi gz0 gz1 _ _ _ _ n rfl rfl rfl rfl ?c1 ?c2 ?c3 ?_))
  case c1 => rw [gz2]; omega
  case c2 => unfold maxLen; omega
  case c3 => have := hb.out.size; simp at this; omega
  intro w2 hown hgrow
  have hs2 : Same w1 w2 := ⟨hgrow.os, hgrow.tape, hgrow.output, hgrow.size, fun k hk => hgrow.block k hk (by simp)⟩
  have HB2 := Lib.hid (hb.out.trans hs2)
  have hT : w.heap.size < w1.heap.size := by have := hb.out.size; simp at this; omega
  have hT2 : w1.heap.size < w2.heap.size := (hown.lt w1.heap.size rfl).2
  obtain ⟨T, hTe⟩ : ∃ T, T = w1.heap.size := ⟨_, rfl⟩
  rw [← hTe] at hown hT hT2 ⊢
  have hD : Done (w.heap.size + 1) T n w2.heap.size f 0 (madeCells #[Value.slice none 0 0] n).toList w2 := ⟨hown, hT2, fun a ha => absurd ha (Nat.not_lt_zero _)⟩
  have HD := Lib.hid hD
  clear hD hown hgrow hs2 hT2 hTe z1 z2 z3 z4 z5 z6 HSS hb
  go_wp2
  go_loopw [19] (fun i wr => ∃ k : Nat, k ≤ n ∧ i = .int .i64 k ∧ (∃ rows, Done (w.heap.size + 1) T n wr.heap.size f k rows wr) ∧ Same (boxS w (.slice ao1 n cap1) (.slice ao2 s.zs.length cap2) (.slice ao3 s.ws.length cap3) s.e s.n s.t) wr) (fun i _ => n - (intOf i).toNat)
  case atStart => exact ⟨0, Nat.zero_le _, rfl, ⟨_, HD.out⟩, HB2.out⟩
  case round =>
    clear HD HB2
    obtain ⟨k, hk, rfl, ⟨rows, hD⟩, hS⟩ := hrel
    obtain ⟨z1, z2, z3, z4, z5, z6, hs⟩ := HAT.out _ hS
    have HS := Lib.hid hS; clear hS
    have HD := Lib.hid hD; clear hD
    have HSW := Lib.hid hs; clear hs
    by_cases hlt : k < n
    · go_wp2_with (at_make; refine wpList_make_full _ rfl _ _ 31 rfl (w.heap.size + 1) 3 i0 (.int .i64 0) 1 Try.underlying31 hi hz0 hz1 _ _ _ _ n rfl rfl rfl rfl ?c1 ?c2 ?c3 ?_)
      case c1 => rw [hz2]; omega
      case c2 => unfold maxLen; omega
      case c3 => have := HS.out.size; simp at this; omega
      intro w4 hown hgrow
      have hM : T < wr.heap.size := HD.out.2.1
      have hMs : wr.heap.size < w4.heap.size := (hown.lt wr.heap.size rfl).2
      have hD4 := HD.out.grown hgrow (.inl rfl)
      have hS4 : Same (boxS w (.slice ao1 n cap1) (.slice ao2 s.zs.length cap2) (.slice ao3 s.ws.length cap3) s.e s.n s.t) w4 := HS.out.trans ⟨hgrow.os, hgrow.tape, hgrow.output, hgrow.size, fun k hk => hgrow.block k hk (by simp)⟩
      obtain ⟨M, hMe⟩ : ∃ M, M = wr.heap.size := ⟨_, rfl⟩
      rw [← hMe] at hown hM hMs hD4 ⊢
      have hrl : rows.length = n := by have := hD4.1.1; omega
      obtain ⟨x0, hx0⟩ : ∃ x, rows[k]? = some x := ⟨_, List.getElem?_eq_getElem (by omega)⟩
      have qc := hD4.1.cellAt k (by omega)
      rw [hx0] at qc
      have qf := hD4.1.frozenAt k
      obtain ⟨cs, hcs⟩ : ∃ cs, cs = (madeCells #[Value.int .i64 0] n).toList := ⟨_, rfl⟩
      have hown' : w4.ownsRow (w.heap.size + 1) 3 1 (sl M n) n cs := by rw [hcs]; exact hown
      have hst := hD4.1.stored k (sl M n)
      have hin : Inn w (boxS w (.slice ao1 n cap1) (.slice ao2 s.zs.length cap2) (.slice ao3 s.ws.length cap3) s.e s.n s.t) T n M f k 0 (w4.setCell ⟨T, k, none⟩ (sl M n)) :=
        ⟨rows.set k (sl M n), cs, hD4.store (sl M n), by simpa using hMs, List.getElem?_set_self (by omega), hown'.kept hst.2 (.inr (by simp [Value.ownBlock]; omega)), fun b hb => absurd hb (Nat.not_lt_zero _), hS4.setCell (by simp; omega) _⟩
      have HIN := Lib.hid hin
      clear hin hst hown hown' hD4 hS4 hMs hcs hgrow hx0 hrl z1 z2 z3 z4 z5 z6 HS HSW HD hMe
      go_wp2
      go_loopw [34] (fun i wr2 => ∃ j : Nat, j ≤ n ∧ i = .int .i64 j ∧ Inn w (boxS w (.slice ao1 n cap1) (.slice ao2 s.zs.length cap2) (.slice ao3 s.ws.length cap3) s.e s.n s.t) T n M f k j wr2) (fun i _ => n - (intOf i).toNat)
      case atStart => exact ⟨0, Nat.zero_le _, rfl, HIN.out⟩
      case round =>
        clear HIN qc qf
        obtain ⟨j, hj, rfl, rows2, cs2, hD, hMs, hrk, ho, hall, hS⟩ := hrel
        obtain ⟨z1, z2, z3, z4, z5, z6, hs⟩ := HAT.out _ hS
        have HSW := Lib.hid hs; clear hs
        by_cases hlt2 : j < n
        · have hcl : cs2.length = n := by have := ho.1; omega
          obtain ⟨y, hy⟩ : ∃ y, cs2[j]? = some y := ⟨_, List.getElem?_eq_getElem (by omega)⟩
          have cT := hD.1.cellAt k (by omega)
          rw [hrk] at cT
          have hst : S8t w (.slice ao1 n cap1) (.slice ao2 s.zs.length cap2) (.slice ao3 s.ws.length cap3) s.e s.n s.t T k (sl M n) wr := ⟨⟨z1, z2, z3, z4, z5, z6⟩, cT, HSW.out⟩
          have HST := Lib.hid hst
          have HO := Lib.hid ho
          have hstep := fun (w5 : World) (h : Same wr w5) => Inn.step (B := boxS w (.slice ao1 n cap1) (.slice ao2 s.zs.length cap2) (.slice ao3 s.ws.length cap3) s.e s.n s.t) hD hMs hrk ho hall hS hlt2 (by simp; omega) h
          have HSTEP := Lib.hid hstep
          have HY := Lib.hid hy
          have Q1 := Lib.hid (HBT.out k j hlt hlt2)
          have hTM : T ≠ M := by omega
          have hwM : w.heap.size < M := by omega
          generalize f k j = fk at *
          clear hst ho hstep hy hD hall hS hrk hcl
          go_wp2
          go_region_held3 (fun w' => S8t w (.slice ao1 n cap1) (.slice ao2 s.zs.length cap2) (.slice ao3 s.ws.length cap3) s.e s.n s.t T k (sl M n) w')
            (first | exact keep8t HST.out ((Same.refl _).drew) | exact keep8t (by assumption) hw5 | exact keep8s (by assumption) hwM hTM | assumption)
            (first
              | (go_at_call 52; (with_reducible refine (Q1.out _ (by exact (by assumption : S8t w (.slice ao1 n cap1) (.slice ao2 s.zs.length cap2) (.slice ao3 s.ws.length cap3) s.e s.n s.t T k (sl M n) _).2.2)).mono ?_); rintro e w5 ⟨rfl, hw5⟩; have hq := own_same HO.out ((Same.refl _).drew.trans hw5); have qc := hq.cellAt j (by omega); rw [HY.out] at qc; have qf := hq.frozenAt j)
              | fail)
          have hfin := HSTEP.out _ ((Same.refl _).drew.trans hw5)
          have HF := Lib.hid hfin
          clear hfin hq qc qf hw5 z1 z2 z3 z4 z5 z6 cT
          go_wp2
          go_roundw
          case rel => exact ⟨j + 1, by omega, by go_num, HF.out⟩
          case measure => simp [intOf]; omega
        · obtain rfl : j = n := by omega
          have hD2 := (hD.next hrk ho hall).raise (M' := wr.heap.size) (by omega)
          have HD2 := Lib.hid hD2
          have HS2 := Lib.hid hS
          clear hD hD2 hS ho hrk hall z1 z2 z3 z4 z5 z6
          go_wp2
          go_roundw
          case rel => exact ⟨k + 1, by omega, by go_num, ⟨_, HD2.out⟩, HS2.out⟩
          case measure => simp [intOf]; omega
    · obtain rfl : k = n := by omega
      go_wp2
      go_ret2
      exact ⟨_, rfl, HD.out.table, HSW.out⟩
end Go.Proofs.Ytcennbjegdlbhaa
