
/- The writer's inner calls: one number of a given width is written bit by bit. -/
import Derived.Test.YtilpbbpdchbdfaaBWorld
import Derived.WalkLawsBesides
import Derived.WalkSpells
import Derived.BigRegion
import Derived.Outline
import Derived.Handy
import Derived.Lib.Hide
namespace Go.Proofs.Ytilpbbpdchbdfaa.Bit
open Go.RowKit

theorem Try.infoU8 : (Try.prog.info? 5).map (fun i => (i.zero, i.size, i.bytes)) = some (some (.int .u8 0), 1, 1) := by kernel_rfl

/-- What a call of the writer at a leaves: the bits bs, all else kept. -/
def WrGrew (w : World) (a : Nat) (d : Option Nat) (bs : List Nat) (w' : World) : Prop :=
  ∃ d', WrOk w' a bs d' ∧ Keeps (fun k => k = a ∨ d = some k) w w' ∧ ∀ g, d' = some g → d = some g ∨ w.heap.size ≤ g

theorem WrGrew.step {w w1 w2 : World} {a : Nat} {d : Option Nat} {bs2 : List Nat} {d1 : Option Nat} (hk : Keeps (fun k => k = a ∨ d = some k) w w1) (hd : ∀ g, d1 = some g → d = some g ∨ w.heap.size ≤ g) (h2 : WrGrew w1 a d1 bs2 w2) : WrGrew w a d bs2 w2 := by
  obtain ⟨d2, h, k2, hd2⟩ := h2
  refine ⟨d2, h, hk.trans k2 (fun _ h => h) ?_, ?_⟩
  · rintro i hi (rfl | h)
    · exact Or.inl rfl
    · rcases hd i h with h' | h'
      · exact Or.inr h'
      · omega
  · intro g hg
    rcases hd2 g hg with h' | h'
    · exact hd g h'
    · have := hk.size; exact Or.inr (by omega)

/-- One bit more within a byte that is begun: what the three stores leave. -/
theorem more_bit {w : World} {a : Nat} {bs : List Nat} {g cap : Nat} {y : Int} (hb : Bits bs)
    (h1 : w.heap[a]? = some (.cells #[.slice (some ⟨g, 0, none⟩) (nby bs.length) cap, .int .i64 bs.length, .int .i64 0] 105 (0, 0)))
    (h2 : w.ownsRow 0 5 1 (.slice (some ⟨g, 0, none⟩) (nby bs.length) cap) (nby bs.length) (u8s (pack bs))) (hga : g ≠ a) (h8 : bs.length % 8 ≠ 0) :
    WrGrew w a (some g) (bs ++ [(y % 2).toNat]) (((w.setCell ⟨g, bs.length / 8, none⟩ (.int .u8 (bits .or .u8 (byteAt bs (bs.length / 8) : Int) (bits .and .u8 (y % 256) 1 * 2 ^ (7 - bs.length % 8) % 256)))).setCell ⟨a, 1, none⟩ (.int .i64 ((bs.length : Int) + 1))).drew) := by
  have e1 : nby (bs ++ [(y % 2).toNat]).length = nby bs.length := by simp [nby]; omega
  rw [or_bit _ y _ (Nat.mod_lt _ (by omega)) (byteAt_lt hb _) (byteAt_low bs)]
  refine ⟨some g, ⟨hb.append (by intro b hb; simp at hb; omega), .slice (some ⟨g, 0, none⟩) (nby bs.length) cap, ?_, ?_, rfl, by simpa using hga⟩, ?_, fun g' h => Or.inl h⟩
  · have h1' : (w.setCell ⟨g, bs.length / 8, none⟩ (.int .u8 ((byteAt bs (bs.length / 8) + (y % 2).toNat * 2 ^ (7 - bs.length % 8) : Nat) : Int))).heap[a]? = some (.cells #[.slice (some ⟨g, 0, none⟩) (nby bs.length) cap, .int .i64 bs.length, .int .i64 0] 105 (0, 0)) := by
      rw [Below.heap_setCell _ _ _ _ (fun e => hga e.symm)]; exact h1
    have := (block3_set (u := .int .i64 ((bs.length : Int) + 1)) h1').2.1
    rw [show (((bs ++ [(y % 2).toNat]).length : Nat) : Int) = (bs.length : Int) + 1 by simp]
    exact this
  · have hs := (h2.stored (bs.length / 8) (.int .u8 ((byteAt bs (bs.length / 8) + (y % 2).toNat * 2 ^ (7 - bs.length % 8) : Nat) : Int))).1
    have hs2 := ownsRow_setCell_other hs (a := ⟨a, 1, none⟩) (by simp [Value.ownBlock]; exact hga) (.int .i64 ((bs.length : Int) + 1))
    rw [e1, pack_more _ _ h8]
    have e3 : u8s ((pack bs).set (bs.length / 8) (byteAt bs (bs.length / 8) + (y % 2).toNat * 2 ^ (7 - bs.length % 8))) = (u8s (pack bs)).set (bs.length / 8) (.int .u8 ((byteAt bs (bs.length / 8) + (y % 2).toNat * 2 ^ (7 - bs.length % 8) : Nat) : Int)) := by
      simp [u8s, List.map_set]
    rw [e3]
    exact hs2
  · exact ((((Keeps.refl _ w).setCell (fun _ => Or.inr rfl) _).setCell (fun _ => Or.inl rfl) _).drew)

/-- One bit more behind whole bytes: a new byte 0 has been appended (world w1), then the four stores. -/
theorem new_bit {w w1 : World} {a : Nat} {bs : List Nat} {v : Value} {d : Option Nat} {g cap : Nat} {y : Int} (hb : Bits bs)
    (h1 : w.heap[a]? = some (.cells #[v, .int .i64 bs.length, .int .i64 0] 105 (0, 0))) (hd : v.ownBlock = d) (hda : d ≠ some a) {o : Obj}
    (hg : (w.alloc o).grownBy w1 v.ownBlock) (h2 : w1.ownsRow 0 5 1 (.slice (some ⟨g, 0, none⟩) (nby bs.length + 1) cap) (nby bs.length + 1) (u8s (pack bs) ++ [.int .u8 0])) (hgd : d = some g ∨ w.heap.size < g) (h8 : bs.length % 8 = 0) :
    WrGrew w a d (bs ++ [(y % 2).toNat]) ((((w1.setCell ⟨a, 0, none⟩ (.slice (some ⟨g, 0, none⟩) (nby bs.length + 1) cap)).setCell ⟨g, bs.length / 8, none⟩ (.int .u8 (bits .or .u8 0 (bits .and .u8 (y % 256) 1 * 2 ^ (7 - bs.length % 8) % 256)))).setCell ⟨a, 1, none⟩ (.int .i64 ((bs.length : Int) + 1))).drew) := by
  have halt := lt_of_block h1
  have hga : g ≠ a := by
    rcases hgd with h | h
    · intro e; subst e; exact hda h
    · omega
  have e1 : nby (bs ++ [(y % 2).toNat]).length = nby bs.length + 1 := by simp [nby]; omega
  have ho := or_bit 0 y (bs.length % 8) (Nat.mod_lt _ (by omega)) (by omega) (by simp)
  rw [show (((0 : Nat) : Int)) = 0 from rfl, Nat.zero_add] at ho
  rw [ho]
  have hk1 : Keeps (fun k => k = a ∨ d = some k) w w1 := ((Keeps.refl _ w).alloc o).grown hg (fun k hk _ => Or.inr (hd ▸ hk))
  have ha1 : w1.heap[a]? = some (.cells #[v, .int .i64 bs.length, .int .i64 0] 105 (0, 0)) := by
    rw [hg.block a (by simp; omega) (by rw [hd]; exact fun e => hda e.symm), Below.heap_alloc _ _ _ halt]; exact h1
  refine ⟨some g, ⟨hb.append (by intro b hb; simp at hb; omega), .slice (some ⟨g, 0, none⟩) (nby bs.length + 1) cap, ?_, ?_, rfl, by simpa using hga⟩, ?_, ?_⟩
  · have h1' := (block3_set (u := .slice (some ⟨g, 0, none⟩) (nby bs.length + 1) cap) ha1).1
    have h1'' : ((w1.setCell ⟨a, 0, none⟩ (.slice (some ⟨g, 0, none⟩) (nby bs.length + 1) cap)).setCell ⟨g, bs.length / 8, none⟩ (.int .u8 (((y % 2).toNat * 2 ^ (7 - bs.length % 8) : Nat) : Int))).heap[a]? = some (.cells #[.slice (some ⟨g, 0, none⟩) (nby bs.length + 1) cap, .int .i64 bs.length, .int .i64 0] 105 (0, 0)) := by
      rw [Below.heap_setCell _ _ _ _ (fun e => hga e.symm)]; exact h1'
    have := (block3_set (u := .int .i64 ((bs.length : Int) + 1)) h1'').2.1
    rw [show (((bs ++ [(y % 2).toNat]).length : Nat) : Int) = (bs.length : Int) + 1 by simp]
    exact this
  · have hs0 := ownsRow_setCell_other h2 (a := ⟨a, 0, none⟩) (by simp [Value.ownBlock]; exact hga) (.slice (some ⟨g, 0, none⟩) (nby bs.length + 1) cap)
    have hs := (hs0.stored (bs.length / 8) (.int .u8 (((y % 2).toNat * 2 ^ (7 - bs.length % 8) : Nat) : Int))).1
    have hs2 := ownsRow_setCell_other hs (a := ⟨a, 1, none⟩) (by simp [Value.ownBlock]; exact hga) (.int .i64 ((bs.length : Int) + 1))
    rw [e1, pack_new _ _ h8]
    have e3 : u8s ((pack bs ++ [0]).set (bs.length / 8) ((y % 2).toNat * 2 ^ (7 - bs.length % 8))) = (u8s (pack bs) ++ [Value.int .u8 0]).set (bs.length / 8) (.int .u8 (((y % 2).toNat * 2 ^ (7 - bs.length % 8) : Nat) : Int)) := by
      simp [u8s, List.map_set]
    rw [e3]
    exact hs2
  · refine ((((hk1.setCell (fun _ => Or.inl rfl) _).setCell ?_ _).setCell (fun _ => Or.inl rfl) _).drew)
    intro hlt
    rcases hgd with h | h
    · exact Or.inr h
    · simp at hlt; omega
  · intro g' h
    simp at h; subst h
    rcases hgd with h | h
    · exact Or.inl h
    · exact Or.inr (by omega)

/-- Inside the loop: i bits of the number are written. -/
def PutAt (w : World) (a : Nat) (d : Option Nat) (bs : List Nat) (n : Nat) (x : Int) (i : Value) (wr : World) : Prop :=
  ∃ j : Nat, j ≤ n ∧ i = .int .i64 j ∧ WrGrew w a d (bs ++ (enc n x).take j) wr

set_option maxHeartbeats 800000 in
theorem put_any (w : World) (a : Nat) (bs : List Nat) (d : Option Nat) (h : WrOk w a bs d) (n : Nat) (x : Int) (hn : n ≤ 63) (hroom : bs.length + n ≤ 524288) :
    Calls Try.prog 99 #[.pointer (some ⟨a, 0, none⟩), .int .i64 n, .int .i64 x] w fun e w' => e = .returned (.tuple #[]) ∧ WrGrew w a d (bs ++ enc n x) w' := by
  obtain ⟨i0, hi, hz0, hz1, hz2⟩ := info_parts Try.infoU8
  have H := Lib.hid h; clear h
  go_enter Try.func99, Try.ntmps99
  go_wp2
  go_loopw [9] (fun i wr => PutAt w a d bs n x i wr) (fun i wr => n - (intOf i).toNat)
  case atStart => exact ⟨0, Nat.zero_le _, rfl, d, by simpa using H.out, Keeps.refl _ _, fun g hg => Or.inl hg⟩
  case round =>
    obtain ⟨j, hj, rfl, d1, ⟨hb, v, h1, h2, h3, h4⟩, hk1, hd1⟩ := hrel
    by_cases hlt : j < n
    · have hlen : (bs ++ (enc n x).take j).length = bs.length + j := by simp [enc_length]; omega
      have hsn : bs ++ (enc n x).take (j + 1) = (bs ++ (enc n x).take j) ++ [((x / 2 ^ (n - 1 - j)) % 2).toNat] := by rw [enc_snoc _ _ _ hlt, List.append_assoc]; rfl
      have HS := Lib.hid hsn; clear hsn
      generalize bs ++ (enc n x).take j = bj at *
      obtain ⟨k0, k1, k2, f0, f1, f2⟩ := block3_cell h1
      have hb2 : bj.length < 524288 := by omega
      have halt := lt_of_block h1
      clear hlen
      have HK := Lib.hid hk1; clear hk1
      have HD := Lib.hid hd1; clear hd1
      have H1 := Lib.hid h1; clear h1
      have H3 := Lib.hid h3; clear h3
      have H4 := Lib.hid h4; clear h4
      by_cases h8 : bj.length % 8 = 0
      · have h8' : ((bj.length : Int) % 8 == 0) = true := by rw [beq_iff_eq]; omega
        have hnb : bj.length / 8 = nby bj.length := by unfold nby; omega
        have HN := Lib.hid hnb; clear hnb
        have H8 := Lib.hid h8; clear h8
        have hup : nby bj.length ≤ 65536 := by unfold nby; omega
        go_wp2_with (at_builtin; refine wpList_append_row _ rfl _ _ 41 rfl 5 i0 (.int .u8 0) 1 Try.underlying41 hi hz0 hz1 hz2 rfl _ _ _ rfl (h2.alloc _) ⟨wr.heap.size, 0, none⟩ 1 (.int .u8 0) rfl ?c1 rfl ?c3 ?c4 ?_)
        case c1 => simp [Addr.add]
        case c3 => unfold maxLen; omega
        case c4 => omega
        · intro g cap w1 hown' hgrow hgd
          have hga : g ≠ a := by
            rcases hgd with hh | hh
            · intro e; subst e; exact H4.out (H3.out ▸ hh)
            · have : wr.heap.size + 1 ≤ g := by simpa using hh
              omega
          have ha1 : w1.heap[a]? = some (.cells #[v, .int .i64 bj.length, .int .i64 0] 105 (0, 0)) := by
            rw [hgrow.block a (by simp; omega) (by rw [H3.out]; exact fun e => H4.out e.symm), Below.heap_alloc _ _ _ halt]; exact H1.out
          obtain ⟨q0, q1, q2, r0, r1, r2⟩ := block3_cell ha1
          have qc : w1.cell? ⟨g, bj.length / 8, none⟩ = some (.int .u8 0) := by
            have hN := HN.out
            rw [hown'.cellAt _ (by omega), hN, List.getElem?_append_right (by simp [u8s, pack_length])]
            simp [u8s, pack_length]
          have qf : w1.frozen? ⟨g, bj.length / 8, none⟩ = false := hown'.frozenAt _
          have hlt8 : bj.length / 8 < nby bj.length + 1 := by have := HN.out; omega
          have hgd' : d1 = some g ∨ wr.heap.size < g := by
            rcases hgd with hh | hh
            · exact Or.inl (H3.out ▸ hh)
            · exact Or.inr (by have : wr.heap.size + 1 ≤ g := by simpa using hh
                               omega)
          have HGD := Lib.hid hgd'; clear hgd hgd'
          have HO := Lib.hid hown'; clear hown'
          have HG := Lib.hid hgrow; clear hgrow
          clear ha1 k0 k1 k2 f0 f1 f2
          go_wp2
          go_region
          all_goals
            go_wp2
            go_roundw
            case rel =>
              refine ⟨j + 1, by omega, by go_num, ?_⟩
              rw [HS.out]
              exact WrGrew.step HK.out HD.out (new_bit (y := x / 2 ^ (n - 1 - j)) hb H1.out H3.out H4.out HG.out HO.out HGD.out H8.out)
            case measure => simp [intOf]; omega
      · have h8' : ((bj.length : Int) % 8 == 0) = false := by rw [beq_eq_false_iff_ne]; omega
        have hnb : bj.length / 8 < nby bj.length := by unfold nby; omega
        obtain ⟨g, cap, rfl⟩ : ∃ g cap, v = .slice (some ⟨g, 0, none⟩) (nby bj.length) cap := by
          rcases h2.2 with ⟨_, h⟩ | ⟨g, cap', _, h, _⟩
          · omega
          · exact ⟨g, cap', h⟩
        have hdg : d1 = some g := by rw [← H3.out]; rfl
        have hga : g ≠ a := by intro e; subst e; exact H4.out hdg
        have qc : wr.cell? ⟨g, bj.length / 8, none⟩ = some (.int .u8 (byteAt bj (bj.length / 8) : Int)) := by
          rw [h2.cellAt _ (by omega)]
          simp [u8s, pack_get _ _ hnb]
        have qf : wr.frozen? ⟨g, bj.length / 8, none⟩ = false := h2.frozenAt _
        have H2 := Lib.hid h2; clear h2
        have H8 := Lib.hid h8; clear h8
        have HDG := Lib.hid hdg; clear hdg
        generalize hby : byteAt bj (bj.length / 8) = by8 at *
        have HBY := Lib.hid hby; clear hby
        go_wp2
        go_region
        all_goals
          go_wp2
          go_roundw
          case rel =>
            refine ⟨j + 1, by omega, by go_num, ?_⟩
            rw [HS.out]
            have hm := more_bit (y := x / 2 ^ (n - 1 - j)) hb H1.out H2.out hga H8.out
            rw [HBY.out] at hm
            exact WrGrew.step HK.out HD.out (HDG.out ▸ hm)
          case measure => simp [intOf]; omega
    · go_wp2
      go_end0
      have hjn : j = n := by omega
      subst hjn
      have e : (enc j x).take j = enc j x := List.take_of_length_le (by rw [enc_length]; exact Nat.le_refl _)
      rw [e] at hb h1 h2
      exact ⟨rfl, d1, ⟨hb, v, h1, h2, h3, h4⟩, hk1, hd1⟩
end Go.Proofs.Ytilpbbpdchbdfaa.Bit
