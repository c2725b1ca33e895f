/- Table of the reference, and both for every site. -/
import Derived.Test.YtcennbjegdlbhaaTableA
namespace Go.Proofs.Ytcennbjegdlbhaa
open Go.RowKit

theorem rowL_succ (f : Nat → Nat → Int) (j k : Nat) : rowL f (j + 1) k = rowL f j k ++ [.int .i64 (f k j)] := by simp [rowL, List.range_succ]
/-- The rows that are appended: they lie below M, and apart from the list's own block. -/
def Out (base n : Nat) (f : Nat → Nat → Int) (M k : Nat) (V : Value) (rows : List Value) (wr : World) : Prop :=
  wr.ownsRow base 31 1 V k rows ∧ (∀ b, V.ownBlock = some b → b < M) ∧ ∀ a, a < k → ∃ R cap, rows[a]? = some (.slice (some ⟨R, 0, none⟩) n cap) ∧ V.ownBlock ≠ some R ∧ R < M ∧ wr.ownsRow base 3 1 (.slice (some ⟨R, 0, none⟩) n cap) n (rowL f n a)
theorem Out.grown {base n M k : Nat} {f : Nat → Nat → Int} {V : Value} {rows : List Value} {wr w' : World} (h : Out base n f M k V rows wr) {row : Option Nat} (hg : wr.grownBy w' row) (hr : ∀ b, row = some b → M ≤ b) : Out base n f M k V rows w' := by
  obtain ⟨h1, h2, h3⟩ := h
  have ne : ∀ v : Value, (∀ b, v.ownBlock = some b → b < M) → v.ownBlock = none ∨ v.ownBlock ≠ row := fun v hv => by
    cases hb : v.ownBlock with
    | none => exact .inl rfl
    | some b => exact .inr (fun e => by have := hv b hb; have := hr b e.symm; omega)
  refine ⟨h1.kept hg (ne V h2), h2, fun a ha => ?_⟩
  obtain ⟨R, cap, r1, r2, r3, r4⟩ := h3 a ha
  exact ⟨R, cap, r1, r2, r3, r4.kept hg (ne _ (fun b hb => by simp [Value.ownBlock] at hb; omega))⟩
theorem Out.raise {base n M M' k : Nat} {f : Nat → Nat → Int} {V : Value} {rows : List Value} {wr : World} (h : Out base n f M k V rows wr) (hM : M ≤ M') : Out base n f M' k V rows wr := by
  obtain ⟨h1, h2, h3⟩ := h
  refine ⟨h1, fun b hb => by have := h2 b hb; omega, fun a ha => ?_⟩
  obtain ⟨R, cap, r1, r2, r3, r4⟩ := h3 a ha
  exact ⟨R, cap, r1, r2, by omega, r4⟩
theorem Out.add {base n M k R cap g capg : Nat} {f : Nat → Nat → Int} {V : Value} {rows : List Value} {w6 w8 : World} (h : Out base n f M k V rows w6) (hu : w6.ownsRow M 3 1 (.slice (some ⟨R, 0, none⟩) n cap) n (rowL f n k)) (hb : base ≤ M)
    (hown : w8.ownsRow base 31 1 (.slice (some ⟨g, 0, none⟩) (k + 1) capg) (k + 1) (rows ++ [.slice (some ⟨R, 0, none⟩) n cap])) (hg : w6.grownBy w8 V.ownBlock) (hat : V.ownBlock = some g ∨ g = w6.heap.size) (hlt : g < w8.heap.size) :
    Out base n f w8.heap.size (k + 1) (.slice (some ⟨g, 0, none⟩) (k + 1) capg) (rows ++ [.slice (some ⟨R, 0, none⟩) n cap]) w8 := by
  obtain ⟨h1, h2, h3⟩ := h
  have hk : rows.length = k := by have := h1.1; omega
  have hR := hu.lt R rfl
  have hsz := hg.size
  refine ⟨hown, fun b hb => by simp [Value.ownBlock] at hb; omega, fun a ha => ?_⟩
  rcases Nat.lt_succ_iff_lt_or_eq.1 ha with h | rfl
  · obtain ⟨R', cap', r1, r2, r3, r4⟩ := h3 a h
    have hR' := (r4.lt R' rfl).2
    refine ⟨R', cap', by rw [List.getElem?_append_left (by omega)]; exact r1, ?_, by omega, r4.kept hg (.inr (fun e => r2 e.symm))⟩
    intro e
    have e' : g = R' := by simpa [Value.ownBlock] using e
    rcases hat with h' | h'
    · exact r2 (e' ▸ h')
    · omega
  · refine ⟨R, cap, by rw [List.getElem?_append_right (by omega)]; simp [hk], ?_, by omega, (hu.mono hb).kept hg (.inr (fun e => ?_))⟩
    · intro e
      have e' : g = R := by simpa [Value.ownBlock] using e
      rcases hat with h' | h'
      · have := h2 g h'; omega
      · omega
    · have := h2 R e.symm; omega
theorem Out.table {base n M : Nat} {f : Nat → Nat → Int} {V : Value} {rows : List Value} {wr : World} (h : Out base n f M n V rows wr) (hn : 0 < n) : TblAt wr V n f := by
  obtain ⟨h1, h2, h3⟩ := h
  obtain ⟨T, cap, rfl, _, _⟩ := h1.form hn
  refine ⟨T, cap, rfl, fun a ha => ?_⟩
  obtain ⟨R, cap', r1, r2, r3, r4⟩ := h3 a ha
  exact ⟨_, by rw [h1.cellAt a (by omega)]; exact r1, ints_row r4⟩
/-- Inside a row: its first j numbers. -/
def Inn2 (w B : World) (n : Nat) (f : Nat → Nat → Int) (M k : Nat) (VO : Value) (j : Nat) (V : Value) (wr : World) : Prop :=
  (∃ rows, Out (w.heap.size + 1) n f M k VO rows wr) ∧ wr.ownsRow M 3 1 V j (rowL f j k) ∧ Same B wr ∧ M ≤ wr.heap.size ∧ B.heap.size ≤ M
theorem Inn2.step {w B wr w5 w8 : World} {n M k j : Nat} {f : Nat → Nat → Int} {VO V V' : Value} {o : Obj} (h : Inn2 w B n f M k VO j V wr) (h5 : Same wr w5) (ho : w8.ownsRow M 3 1 V' (j + 1) (rowL f j k ++ [.int .i64 (f k j)])) (hg : (w5.alloc o).grownBy w8 V.ownBlock) : Inn2 w B n f M k VO (j + 1) V' w8 := by
  obtain ⟨⟨rows, h1⟩, h2, h3, h4, hB⟩ := h
  have hs := h5.alloc o
  refine ⟨⟨rows, (h1.grown hs.grown (fun b e => by cases e)).grown hg (fun b e => (h2.lt b e).1)⟩, by rw [rowL_succ]; exact ho, same_grown (h3.trans hs) (own_same h2 hs) hB hg, ?_, hB⟩
  have h6 := hs.size
  have h7 := hg.size
  omega
set_option maxHeartbeats 6400000 in
set_option maxRecDepth 100000 in
theorem table2_good (w : World) (s : Site) (v1 v2 v3 : Value) (h : SiteAt w (.agg #[v1, v2, v3, .int .i64 s.e, .int .i64 s.n, .int .i64 s.t]) s) (ao1 ao2 ao3 : Option Addr) (cap1 cap2 cap3 : Nat) (e1 : v1 = .slice ao1 s.ps.length cap1) (e2 : v2 = .slice ao2 s.zs.length cap2) (e3 : v3 = .slice ao3 s.ws.length cap3) (hs : siteB s = true) :
    Calls Try.prog 23 #[.agg #[v1, v2, v3, .int .i64 s.e, .int .i64 s.n, .int .i64 s.t]] w (TabP w s.ps.length (betS s)) := by
  have HAT := Lib.hid (fun (w1 : World) (h : Same (boxS w v1 v2 v3 s.e s.n s.t) w1) => boxS_at h)
  have s0 : Same w (boxS w v1 v2 v3 s.e s.n s.t) := by repeat' (first | exact Same.refl _ | apply Same.alloc)
  have HS0 := Lib.hid s0
  have hc := check2_at _ _ s (h.same s0) 0 (by rw [if_pos hs])
  have HC := Lib.hid hc; clear hc
  have hg := good_of hs
  have HBT := Lib.hid (fun (k b : Nat) (hk : k < s.ps.length) (hb : b < s.ps.length) (w1 : World) (hs1 : Same w w1) => between2_in w1 _ s (h.same hs1) hs k b hk hb)
  have l1 : (s.ps.length : Int) ≤ 32 := by have := hg.n32; omega
  have l2 : 2 ≤ s.ps.length := hg.n2
  obtain ⟨i0, hi, hz0, hz1, hz2⟩ := info_parts Try.infoInt
  obtain ⟨j0, gi, gz0, gz1, gz2⟩ := info_parts (show (Try.prog.info? 31).map (fun i => (i.zero, i.size, i.bytes)) = some (some (.slice none 0 0), 1, 24) by kernel_rfl)
  subst e1 e2 e3
  clear h hs s0 hg
  generalize hn : s.ps.length = n at *
  generalize betS s = f at *
  clear hn
  go_enter Try.func23, Try.ntmps23
  go_wp2_with (go_at_call 25; (with_reducible refine HC.out.mono ?_); rintro e w1 ⟨rfl, hw⟩; have hb := Lib.hid hw; obtain ⟨z1, z2, z3, z4, z5, z6, hs⟩ := HAT.out _ hw; have HSS := Lib.hid hs; clear hw hs)
  clear z1 z2 z3 z4 z5 z6
  go_loopw [4, 5] (fun V i wr => ∃ k : Nat, k ≤ n ∧ i = .int .i64 k ∧ (∃ rows, Out (w.heap.size + 1) n f wr.heap.size k V rows wr) ∧ Same (boxS w (.slice ao1 n cap1) (.slice ao2 s.zs.length cap2) (.slice ao3 s.ws.length cap3) s.e s.n s.t) wr) (fun _ i _ => n - (intOf i).toNat)
  case atStart => exact ⟨0, Nat.zero_le _, rfl, ⟨[], World.ownsRow_made _ #[] 0 (by have := hb.out.size; simp at this ⊢; omega) (Nat.zero_le _) rfl, fun b e => by simp [Value.ownBlock] at e; simp; omega, fun a ha => absurd ha (Nat.not_lt_zero _)⟩, hb.out.alloc _⟩
  case round =>
    clear hb HSS
    obtain ⟨k, hk, rfl, ⟨rows, hO⟩, hS⟩ := hrel
    obtain ⟨z1, z2, z3, z4, z5, z6, hs⟩ := HAT.out _ hS
    by_cases hlt : k < n
    · have hin : Inn2 w (boxS w (.slice ao1 n cap1) (.slice ao2 s.zs.length cap2) (.slice ao3 s.ws.length cap3) s.e s.n s.t) n f wr.heap.size k u4 0 (.slice (some ⟨wr.heap.size, 0, none⟩) 0 0) (wr.alloc (.cells #[] 3)) := ⟨⟨rows, hO.grown ((Same.refl wr).alloc _).grown (fun b e => by cases e)⟩, World.ownsRow_made _ #[] 0 (Nat.le_refl _) (Nat.zero_le _) rfl, hS.alloc _, by simp, hS.size⟩
      obtain ⟨M, hM⟩ : ∃ M, M = wr.heap.size := ⟨_, rfl⟩
      rw [← hM] at hin
      have HIN := Lib.hid hin
      clear hin hO hS hs
      go_wp2
      go_loopw [6, 7] (fun V i wr2 => ∃ j : Nat, j ≤ n ∧ i = .int .i64 j ∧ Inn2 w (boxS w (.slice ao1 n cap1) (.slice ao2 s.zs.length cap2) (.slice ao3 s.ws.length cap3) s.e s.n s.t) n f M k u4 j V wr2) (fun _ i _ => n - (intOf i).toNat)
      case atStart => exact ⟨0, Nat.zero_le _, rfl, by rw [hM]; have := HIN.out; rw [hM] at this; exact this⟩
      case round =>
        clear HIN z1 z2 z3 z4 z5 z6 hM
        obtain ⟨j, hj, rfl, hI⟩ := hrel
        obtain ⟨z1, z2, z3, z4, z5, z6, hs⟩ := HAT.out _ hI.2.2.1
        have HI := Lib.hid hI; clear hI
        have HSW := Lib.hid hs; clear hs
        by_cases hlt2 : j < n
        · have Q1 := Lib.hid (HBT.out k j hlt hlt2)
          go_wp2_with (first
            | (go_at_call 21; (with_reducible refine (Q1.out _ HSW.out).mono ?_); rintro e w5 ⟨rfl, hw5⟩; have HF := Lib.hid hw5; clear hw5)
            | (at_builtin; refine wpList_append_lies _ rfl _ _ 31 rfl M 3 i0 (.int .i64 0) 1 8 Try.underlying31 hi hz0 hz1 hz2 rfl (by decide) _ _ _ rfl ((own_same HI.out.2.1 HF.out).alloc _) ⟨w5.heap.size, 0, none⟩ 1 1 [.int .i64 (f k j)] rfl ?qc1 ?qc2 ?qc3 (by decide) ?qc4 ?qc5 ?qc6 _ rfl ?_))
          case qc1 => rfl
          case qc2 => exact World.news_of_block (by exact heap_alloc_new w5 _)
          case qc3 => intro u hu; simp at hu; subst hu; rfl
          case qc4 => unfold maxLen; omega
          case qc5 => omega
          case qc6 => have := HI.out.2.2.2.1; have h2 := HF.out.size; simp; omega
          intro g cap w8 hown hgrow hat hlt3
          have HO := Lib.hid hown
          have HG := Lib.hid hgrow
          clear hown hgrow hat hlt3 z1 z2 z3 z4 z5 z6
          go_wp2
          go_roundw
          case rel => exact ⟨j + 1, by omega, by go_num, HI.out.step HF.out HO.out HG.out⟩
          case measure => simp [intOf]; omega
        · obtain rfl : j = n := by omega
          obtain ⟨R, capR, hV, hR1, hR2⟩ := HI.out.2.1.form (by omega)
          subst hV
          obtain ⟨⟨rows2, hO⟩, ho, hS, hMw, hB⟩ := HI.out
          have HO := Lib.hid hO
          have HOR := Lib.hid ho
          have HS := Lib.hid hS
          have hMB : w.heap.size + 1 ≤ M := by simpa using hB
          have hrl : rows2.length = k := by have := hO.1.1; omega
          clear hO ho hS hB HI
          go_wp2_with (at_builtin; refine wpList_append_lies _ rfl _ _ 42 rfl (w.heap.size + 1) 31 j0 (.slice none 0 0) 1 24 Try.underlying42 gi gz0 gz1 gz2 rfl (by decide) _ _ _ rfl (HO.out.1.alloc _) ⟨wr.heap.size, 0, none⟩ 1 1 [.slice (some ⟨R, 0, none⟩) j capR] rfl ?qc1 ?qc2 ?qc3 (by decide) ?qc4 ?qc5 ?qc6 _ rfl ?_)
          case qc1 => rfl
          case qc2 => exact World.news_of_block (by exact heap_alloc_new wr _)
          case qc3 => intro u hu; simp at hu; subst hu; rfl
          case qc4 => unfold maxLen; omega
          case qc5 => omega
          case qc6 => simp; omega
          intro g cap w8 hown hgrow hat hlt3
          have hadd := (HO.out.grown ((Same.refl wr).alloc _).grown (fun b e => by cases e)).add (HOR.out.alloc _) hMB hown hgrow (hat.imp_right (fun e => by simpa using e)) hlt3
          have hsame := same_grown (HS.out.alloc _) (HO.out.1.alloc _) (by simp) hgrow
          have HADD := Lib.hid hadd
          have HSM := Lib.hid hsame
          clear hadd hsame hown hgrow hat hlt3 z1 z2 z3 z4 z5 z6
          go_wp2
          go_roundw
          case rel => exact ⟨k + 1, by omega, by go_num, ⟨_, HADD.out⟩, HSM.out⟩
          case measure => simp [intOf]; omega
    · obtain rfl : k = n := by omega
      have HT := Lib.hid (hO.table (by omega))
      have HF := Lib.hid hs
      clear hO hS hs
      go_wp2
      go_ret2
      exact ⟨_, rfl, HT.out, HF.out⟩
end Go.Proofs.Ytcennbjegdlbhaa
