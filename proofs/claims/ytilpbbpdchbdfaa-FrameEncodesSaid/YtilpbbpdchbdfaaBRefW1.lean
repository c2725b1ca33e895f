
/- The reference writer: one number is written bit by bit. -/
import Derived.Test.YtilpbbpdchbdfaaBRef4
import Derived.Deep.AppendLies
import Derived.Deep.RegionLaw
namespace Go.Proofs.Ytilpbbpdchbdfaa.Bit
open Go.RowKit
set_option maxRecDepth 100000

theorem block2_set {w : World} {b : Nat} {x y u : Value} {t : TypeId} (h : w.heap[b]? = some (.cells #[x, y] t (0, 0))) :
    (w.setCell ⟨b, 0, none⟩ u).heap[b]? = some (.cells #[u, y] t (0, 0)) ∧ (w.setCell ⟨b, 1, none⟩ u).heap[b]? = some (.cells #[x, u] t (0, 0)) :=
  ⟨heap_setCell_same w b 0 _ t u h, heap_setCell_same w b 1 _ t u h⟩
theorem block2_cell {w : World} {b : Nat} {x y : Value} {t : TypeId} (h : w.heap[b]? = some (.cells #[x, y] t (0, 0))) :
    w.cell? ⟨b, 0, none⟩ = some x ∧ w.cell? ⟨b, 1, none⟩ = some y ∧ w.frozen? ⟨b, 0, none⟩ = false ∧ w.frozen? ⟨b, 1, none⟩ = false := by
  simp [World.cell?, World.frozen?, h]

/-- The reference's writer at block a: a byte for each bit, and the error; d: the block of its bytes, if it has one. -/
def Wr2 (w : World) (a : Nat) (st : List Nat × Int) (d : Option Nat) : Prop :=
  Bits st.1 ∧ st.1.length ≤ 524288 ∧ ∃ v, w.heap[a]? = some (.cells #[v, .int .i64 st.2] 88 (0, 0)) ∧ w.ownsRow 0 5 1 v st.1.length (u8s st.1) ∧ v.ownBlock = d ∧ d ≠ some a
def WrTo2 (w : World) (a : Nat) (d : Option Nat) (st : List Nat × Int) (w' : World) : Prop :=
  ∃ d', Wr2 w' a st d' ∧ Keeps (fun k => k = a ∨ d = some k) w w' ∧ ∀ g, d' = some g → d = some g ∨ w.heap.size ≤ g
theorem Wr2.keep {S : Nat → Prop} {w w' : World} {a : Nat} {st : List Nat × Int} {d : Option Nat} (h : Wr2 w a st d) (k : Keeps S w w') (ha : ¬ S a) (hd : ∀ g, d = some g → ¬ S g) : Wr2 w' a st d := by
  obtain ⟨hb, hl, v, h1, h2, h3, h4⟩ := h
  exact ⟨hb, hl, v, k.at h1 ha, k.row h2 (fun g hg => hd g (h3 ▸ hg)), h3, h4⟩
theorem Wr2.lt {w : World} {a : Nat} {st : List Nat × Int} {d : Option Nat} (h : Wr2 w a st d) : a < w.heap.size := by
  obtain ⟨_, _, v, h1, _⟩ := h; exact lt_of_block h1
theorem WrTo2.step {w w1 w2 : World} {a : Nat} {d : Option Nat} {st2 : List Nat × Int} {d1 : Option Nat} (hk : Keeps (fun k => k = a ∨ d = some k) w w1) (hd : ∀ g, d1 = some g → d = some g ∨ w.heap.size ≤ g) (h2 : WrTo2 w1 a d1 st2 w2) : WrTo2 w a d st2 w2 := by
  obtain ⟨d2, h, k2, hd2⟩ := h2
  refine ⟨d2, h, hk.trans k2 (fun _ h => h) ?_, ?_⟩
  · rintro i hi (rfl | h)
    · exact Or.inl rfl
    · rcases hd i h with h' | h'
      · exact Or.inr h'
      · omega
  · intro g hg
    rcases hd2 g hg with h' | h'
    · exact hd g h'
    · have := hk.size; exact Or.inr (by omega)

theorem and_one64 (y : Int) : bits .and .i64 y 1 = y % 2 := by
  show IntKind.i64.wrap ((BitVec.ofInt 64 y &&& BitVec.ofInt 64 ((1 : Nat) : Int)).toNat : Int) = _
  rw [BitVec.toNat_and, ofInt_i64 1 (by omega), BitVec.toNat_ofInt, nat_mask1]
  simp only [IntKind.wrap, IntKind.bits, IntKind.signed]
  simp
  omega

theorem bit_u8 (y : Int) : IntKind.u8.wrap (bits .and .i64 y 1) = (((y % 2).toNat : Nat) : Int) := by
  rw [and_one64]
  simp only [IntKind.wrap, IntKind.bits, IntKind.signed]
  simp
  omega

/-- One bit more: the row has grown, and its slice is stored. -/
theorem more_bit2 {w w1 : World} {a : Nat} {bs : List Nat} {v : Value} {d : Option Nat} {g cap b : Nat} (hb : Bits bs) (hl : bs.length < 524288) (hb1 : b ≤ 1)
    (h1 : w.heap[a]? = some (.cells #[v, .int .i64 0] 88 (0, 0))) (hd : v.ownBlock = d) (hda : d ≠ some a) {o : Obj}
    (hg : (w.alloc o).grownBy w1 v.ownBlock) (h2 : w1.ownsRow 0 5 1 (.slice (some ⟨g, 0, none⟩) (bs.length + 1) cap) (bs.length + 1) (u8s bs ++ [.int .u8 (b : Int)])) (hgd : d = some g ∨ w.heap.size < g) :
    WrTo2 w a d (bs ++ [b], 0) (w1.setCell ⟨a, 0, none⟩ (.slice (some ⟨g, 0, none⟩) (bs.length + 1) cap)) := by
  have halt := lt_of_block h1
  have hga : g ≠ a := by
    rcases hgd with h | h
    · intro e; subst e; exact hda h
    · omega
  have hk1 : Keeps (fun k => k = a ∨ d = some k) w w1 := ((Keeps.refl _ w).alloc o).grown hg (fun k hk _ => Or.inr (hd ▸ hk))
  have ha1 : w1.heap[a]? = some (.cells #[v, .int .i64 0] 88 (0, 0)) := by
    rw [hg.block a (by simp; omega) (by rw [hd]; exact fun e => hda e.symm), Below.heap_alloc _ _ _ halt]; exact h1
  refine ⟨some g, ⟨hb.append (by intro x hx; simp at hx; omega), by simp; omega, .slice (some ⟨g, 0, none⟩) (bs.length + 1) cap, (block2_set ha1).1, ?_, rfl, by simpa using hga⟩, hk1.setCell (fun _ => Or.inl rfl) _, ?_⟩
  · have hs := ownsRow_setCell_other h2 (a := ⟨a, 0, none⟩) (by simp [Value.ownBlock]; exact hga) (.slice (some ⟨g, 0, none⟩) (bs.length + 1) cap)
    have e : u8s (bs ++ [b]) = u8s bs ++ [.int .u8 (b : Int)] := by simp [u8s]
    rw [e, show (bs ++ [b]).length = bs.length + 1 by simp]
    exact hs
  · intro g' h
    simp at h; subst h
    rcases hgd with h | h
    · exact Or.inl h
    · exact Or.inr (by omega)

def PutAt2 (w : World) (a : Nat) (d : Option Nat) (bs : List Nat) (n : Nat) (x : Int) (i : Value) (wr : World) : Prop :=
  ∃ j : Nat, j ≤ n ∧ i = .int .i64 ((n : Int) - 1 - j) ∧ WrTo2 w a d (bs ++ (enc n x).take j, 0) wr

set_option maxHeartbeats 800000 in
theorem put2_any (w : World) (a : Nat) (bs : List Nat) (d : Option Nat) (h : Wr2 w a (bs, 0) d) (n : Nat) (x : Int) (hn : n ≤ 63) (hroom : bs.length + n ≤ 524288) :
    Calls Try.prog 72 #[.pointer (some ⟨a, 0, none⟩), .int .i64 n, .int .i64 x] w fun e w' => e = .returned (.tuple #[]) ∧ WrTo2 w a d (bs ++ enc n x, 0) w' := by
  obtain ⟨i0, hi, hz0, hz1, hz2⟩ := info_parts Try.infoU8
  have H := Lib.hid h; clear h
  go_enter Try.func72, Try.ntmps72
  go_wp2
  go_loopw [6] (fun i wr => PutAt2 w a d bs n x i wr) (fun i wr => (intOf i + 1).toNat)
  case atStart => exact ⟨0, Nat.zero_le _, by go_num, d, by simpa using H.out, Keeps.refl _ _, fun g hg => Or.inl hg⟩
  case round =>
    obtain ⟨j, hj, rfl, d1, ⟨hb, hl, v, h1, h2, h3, h4⟩, hk1, hd1⟩ := hrel
    by_cases hlt : j < n
    · obtain ⟨m, hm⟩ : ∃ m, m = n - 1 - j := ⟨_, rfl⟩
      have hmi : (n : Int) - 1 - j = m := by omega
      have hm63 : m ≤ 62 := by omega
      rw [hmi]
      have hlen : (bs ++ (enc n x).take j).length = bs.length + j := by simp [enc_length]; omega
      have hsn : bs ++ (enc n x).take (j + 1) = (bs ++ (enc n x).take j) ++ [((x / 2 ^ m) % 2).toNat] := by rw [enc_snoc _ _ _ hlt, List.append_assoc, hm]; rfl
      have HS := Lib.hid hsn; clear hsn
      generalize bs ++ (enc n x).take j = bj at *
      dsimp only at hb hl h1 h2
      obtain ⟨k0, k1, f0, f1⟩ := block2_cell h1
      have hb2 : bj.length < 524288 := by omega
      have halt := lt_of_block h1
      clear hlen hl
      have HK := Lib.hid hk1; clear hk1
      have HD := Lib.hid hd1; clear hd1
      have H1 := Lib.hid h1; clear h1
      have H3 := Lib.hid h3; clear h3
      have H4 := Lib.hid h4; clear h4
      have HM := Lib.hid hm; clear hm
      have HMI := Lib.hid hmi; clear hmi
      go_wp2
      go_region_law (first
        | (refine step_append_lies _ rfl (.tmp 17) (.tmp 23) 41 rfl 0 5 i0 (.int .u8 0) 1 1 Try.underlying41 hi hz0 hz1 hz2 rfl (by decide) v bj.length (u8s bj) (by simp [Act.eval]) (by exact h2.alloc _) ⟨wr.heap.size, 0, none⟩ 1 1 [.int .u8 (IntKind.u8.wrap (bits .and .i64 (x / 2 ^ m) 1))] (by simp [Act.eval]) rfl (World.news_of_block (by exact heap_alloc_new wr _)) (by intro u hu; simp at hu; subst hu; rfl) (by decide) (by unfold maxLen; omega) (by omega) (Nat.zero_le _) (wr.heap.size + 1) (by simp) ?_
           intro g cap w1 hown hgrow hgd hglt
           have ha1 : w1.heap[a]? = some (.cells #[v, .int .i64 0] 88 (0, 0)) := by
             rw [hgrow.block a (by simp; omega) (by rw [H3.out]; exact fun e => H4.out e.symm)]
             exact (Below.heap_alloc _ _ _ halt).trans H1.out
           obtain ⟨q0, q1, r0, r1⟩ := block2_cell ha1
           have HO := Lib.hid hown
           have HG := Lib.hid hgrow
           have HGD := Lib.hid hgd
           clear hown hgrow hgd ha1))
      all_goals
        go_wp2
        go_roundw
        case rel =>
          refine ⟨j + 1, by omega, ?_, ?_⟩
          · rw [show ((n : Int) - 1 - ((j + 1 : Nat) : Int)) = (m : Int) - 1 by have := HMI.out; omega]
          · rw [HS.out]
            have ho := HO.out
            rw [bit_u8] at ho
            exact WrTo2.step HK.out.drew HD.out (more_bit2 (w := wr.drew) hb hb2 (by omega) H1.out H3.out H4.out HG.out ho (by
              rcases HGD.out with hh | hh
              · exact Or.inl (H3.out ▸ hh)
              · exact Or.inr (by show wr.heap.size < g; omega)))
        case measure => simp [intOf]
    · have hjn : j = n := by omega
      subst hjn
      have hneg : (j : Int) - 1 - j = -1 := by omega
      rw [hneg]
      have HW := Lib.hid (⟨d1, ⟨hb, hl, v, h1, h2, h3, h4⟩, hk1, hd1⟩ : WrTo2 w a d (bs ++ (enc j x).take j, 0) wr)
      clear hb hl h1 h2 h3 h4 hk1 hd1
      go_wp2
      go_end0
      have hw := HW.out
      rw [List.take_of_length_le (by rw [enc_length]; exact Nat.le_refl _)] at hw
      exact ⟨rfl, hw⟩
end Go.Proofs.Ytilpbbpdchbdfaa.Bit
