
/- The reference reader: a text that is there. -/
import Derived.Test.YtilpbbpdchbdfaaBRef3
namespace Go.Proofs.Ytilpbbpdchbdfaa.Bit
open Go.RowKit
set_option maxRecDepth 100000

theorem Re2.other {w : World} {a : Nat} {s : ByteArray} {st : Nat × Int} (h : Re2 w a s st) {p : Addr} (hp : p.block ≠ a) (u : Value) : Re2 (w.setCell p u) a s st := by
  rcases h with ⟨h0, h1, h2, h⟩ | ⟨h0, h⟩
  · exact .inl ⟨h0, h1, h2, by rw [Below.heap_setCell _ _ _ _ (fun e => hp e.symm)]; exact h⟩
  · exact .inr ⟨h0, by rw [Below.heap_setCell _ _ _ _ (fun e => hp e.symm)]; exact h⟩
def JoinAt2 (w : World) (a : Nat) (s : ByteArray) (k n g : Nat) (i : Value) (wr : World) : Prop :=
  ∃ j : Nat, j ≤ n ∧ i = .int .i64 j ∧ wr.ownsRow 0 5 1 (.slice (some ⟨g, 0, none⟩) n n) n (u8s (rrow s k n j)) ∧ Re2 wr a s (k + 8 * j, 0) ∧ Keeps (fun i => i = a) w wr

theorem text2_ok (w : World) (a : Nat) (s : ByteArray) (st : Nat × Int) (h : Re2 w a s st) (most : Int) (h1 : 1 ≤ most) (h2 : most ≤ 4095) (hs0 : st.2 = 0) (q v : Nat) (hr : rget s (wid most) st = ((q, 0), v)) (hv : (v : Int) ≤ most) (hq : q ≤ 8 * s.size) (hl : 8 * v ≤ 8 * s.size - q) :
    Calls Try.prog 49 #[.pointer (some ⟨a, 0, none⟩), .int .i64 most] w fun e w' => e = .returned (.string (strB (rbytes s q v))) ∧ ReTo2 w a s (q + 8 * v, 0) w' := by
  obtain ⟨i0, hi, hz0, hz1, hz2⟩ := info_parts Try.infoU8
  obtain ⟨x, y, hc⟩ := h.block
  obtain ⟨k0, k1, k2, f0, f1, f2⟩ := block3_cell hc
  have halt := lt_of_block hc
  rw [hs0] at k2
  have hg := get2_any w a s st h (wid most) (by have := (wid_text most h1 h2).2.1; omega)
  rw [hr] at hg
  have HWC := Lib.hid (width2_any w most (by omega))
  generalize wid most = wd at *
  have HG := Lib.hid hg
  have hl2 : ∀ w1, Re2 w1 a s (q, 0) → Calls Try.prog 87 #[.pointer (some ⟨a, 0, none⟩)] w1 fun e w' => e = .returned (.int .i64 ((8 * s.size - q : Nat) : Int)) ∧ w' = w1.drew := fun w1 h => left2_any w1 a s (q, 0) h
  have hqv : q + 8 * v ≤ 8 * s.size := by omega
  have HQV := Lib.hid hqv
  generalize 8 * s.size - q = m at *
  have HL := Lib.hid hl2
  have hv2 : v ≤ 4095 := by omega
  clear hc h hg hs0 hr hl2 hqv hq
  go_enter Try.func49, Try.ntmps49
  go_wp2_with (first | (go_at_call 73; refine (HWC.out).mono ?_; rintro e w1 ⟨rfl, rfl⟩) | (go_at_call 86; refine (HG.out).mono ?_; rintro e w1 ⟨rfl, hf⟩; obtain ⟨x2, y2, hc2⟩ := hf.1.block; obtain ⟨k0', k1', k2', f0', f1', f2'⟩ := block3_cell hc2; clear hc2; have HR := Lib.hid hf; clear hf) | (go_at_call 87; refine (HL.out _ HR.out.1).mono ?_; rintro e w2 ⟨rfl, rfl⟩) | (at_make; refine wpList_make_full _ rfl _ _ 41 rfl 0 5 i0 (.int .u8 0) 1 Try.underlying41 hi hz0 hz1 _ _ _ _ v rfl rfl rfl rfl ?c1 ?c2 ?c3 ?_))
  case c1 => rw [hz2]; omega
  case c2 => unfold maxLen; omega
  case c3 => omega
  · intro w1' hown hgrow
    have hrow : w1'.ownsRow 0 5 1 (.slice (some ⟨w1.heap.size, 0, none⟩) v v) v (u8s (rrow s q v 0)) := by
      have e : u8s (rrow s q v 0) = (madeCells (Value.int .u8 0).cells (v * 1)).toList := by
        show _ = (madeCells #[Value.int .u8 0] (v * 1)).toList
        rw [toList_madeCells_one]
        simp [u8s, rrow, rbytes]
      rw [e, Nat.mul_one]; exact hown
    have hla : a < w1.heap.size := by
      obtain ⟨x4, y4, hc4⟩ := HR.out.1.block
      exact lt_of_block hc4
    have hge : w.heap.size ≤ w1.heap.size := HR.out.2.size
    have hk1 : Keeps (fun _ => False) w1 w1' := ((Keeps.refl _ w1).drew).grown hgrow (fun _ h => by cases h)
    have hks : Keeps (fun i => i = a) w w1' := HR.out.2.trans hk1 (fun _ h => h) (fun _ _ h => False.elim h)
    have hre : Re2 w1' a s (q + 8 * 0, 0) := HR.out.1.keep hk1 (fun h => h)
    have HA := Lib.hid (⟨0, Nat.zero_le _, rfl, hrow, hre, hks⟩ : JoinAt2 w a s q v w1.heap.size (.int .i64 0) w1')
    clear hown hgrow hrow hks hre hk1 k0 k1 k2 f0 f1 f2 k0' k1' k2' f0' f1' f2'
    generalize w1.heap.size = g at *
    go_wp2
    go_loopw [7] (fun i wr => JoinAt2 w a s q v g i wr) (fun i wr => v - (intOf i).toNat)
    case atStart => exact HA.out
    case round =>
      obtain ⟨j, hj, rfl, hr, hre, hks⟩ := hrel
      have hga : g ≠ a := by omega
      by_cases hlt : j < v
      · have HS := Lib.hid (rrow_set s q v j hlt)
        have hv8 : val (sbits s (q + 8 * j) 8) < 256 := val_sbits_lt s (q + 8 * j) 8
        have ht := get2_ok wr a s (q + 8 * j) 8 hre (by omega) (by have := HQV.out; omega)
        generalize hvv : val (sbits s (q + 8 * j) 8) = b at *
        have HT := Lib.hid ht; clear ht
        have HV := Lib.hid hvv; clear hvv
        have HRO := Lib.hid hr; clear hr
        have HK := Lib.hid hks; clear hks
        clear hre
        go_wp2_with (go_at_call 86; refine (HT.out).mono ?_; rintro e w2 ⟨rfl, hre2, hk2⟩; have hr2 := hk2.row HRO.out (fun b hb hc => hga (by simp [Value.ownBlock] at hb; omega)); have qc := hr2.cellAt j (by omega); rw [u8s_get _ _ (by rw [rrow_length _ _ _ _ (by omega)]; exact hlt)] at qc; have qf := hr2.frozenAt j; have HR2 := Lib.hid hr2; clear hr2; have HRE2 := Lib.hid hre2; clear hre2; have HK2 := Lib.hid hk2; clear hk2)
        go_roundw
        case rel =>
          refine ⟨j + 1, by omega, by go_num, ?_, ?_, ?_⟩
          · rw [HS.out, u8s_set]
            have := (HR2.out.stored j (.int .u8 (b : Int))).1
            exact this
          · have := HRE2.out
            rw [show q + 8 * (j + 1) = q + 8 * j + 8 by omega]
            exact this.other (fun e => hga e) _
          · exact (HK.out.trans HK2.out (fun _ h => h) (fun _ _ h => h)).setCell (fun hlt => by simp at hlt; omega) _
        case measure => simp [intOf]; omega
      · have hjn : j = v := by omega
        subst hjn
        have e : rrow s q j j = rbytes s q j := by simp [rrow]
        rw [e] at hr
        have hconv := conv_row hr
        have HRE := Lib.hid hre; clear hre
        have HK := Lib.hid hks; clear hks hr e
        go_wp2
        go_ret
        exact ⟨rfl, HRE.out, HK.out⟩
theorem text2_any (w : World) (a : Nat) (s : ByteArray) (st : Nat × Int) (h : Re2 w a s st) (most : Int) (hm : most ≤ 9223372036854775807) :
    Calls Try.prog 49 #[.pointer (some ⟨a, 0, none⟩), .int .i64 most] w fun e w' => e = .returned (.string (rtext s most st).2) ∧ ReTo2 w a s (rtext s most st).1 w' := by
  unfold rtext
  by_cases h0 : st.2 ≠ 0
  · rw [if_pos h0]
    exact text2_bad w a s st h most hm h0
  · rw [if_neg h0]
    have hs0 : st.2 = 0 := by simpa using h0
    by_cases h1 : most < 1 ∨ 4095 < most
    · rw [if_pos h1]
      obtain ⟨k, er⟩ := st
      obtain rfl : er = 0 := hs0
      exact text2_limit w a s k h most hm h1
    · rw [if_neg h1]
      have hw := wid_text most (by omega) (by omega)
      have hw1 := wid_spec most (by omega) hm
      have e : rnum s 1 (wid most) st = rget s (wid most) st := rget_rnum (least := 1) (by omega) (by omega)
      simp only []
      rw [e]
      by_cases h2 : (rget s (wid most) st).1.2 ≠ 0
      · rw [if_pos h2]
        exact text2_short w a s st h most (by omega) (by omega) hs0 h2
      · rw [if_neg h2]
        have hk : (rget s (wid most) st).1.1 ≤ 8 * s.size := by
          have hst : st.1 ≤ 8 * s.size := by
            rcases h with ⟨_, h, _⟩ | ⟨h, _⟩
            · exact h
            · exact absurd hs0 h
          unfold rget at h2 ⊢
          rw [if_neg h0] at h2 ⊢
          by_cases h3 : 8 * s.size - st.1 < wid most
          · rw [if_pos h3] at h2; simp at h2
          · rw [if_neg h3]; simp only []; omega
        generalize hr : rget s (wid most) st = r at *
        obtain ⟨⟨q, er⟩, v⟩ := r
        obtain rfl : er = 0 := by simpa using h2
        simp only at hk ⊢
        by_cases h3 : most < (v : Int)
        · rw [if_pos h3]
          exact text2_range w a s st h most (by omega) (by omega) hs0 q v hr h3
        · rw [if_neg h3]
          by_cases h4 : 8 * s.size - q < 8 * v
          · rw [if_pos h4]
            exact text2_less w a s st h most (by omega) (by omega) hs0 q v hr (by omega) h4
          · rw [if_neg h4]
            exact text2_ok w a s st h most (by omega) (by omega) hs0 q v hr (by omega) hk (by omega)
end Go.Proofs.Ytilpbbpdchbdfaa.Bit
