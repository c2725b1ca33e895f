/- FrameFinds: for every frame and numbers the law returns true: one wrong bit or two are found. No condition on the input. -/
import Derived.Test.YtilpbbpdchbdfaaFB
import Derived.Test.YtilpbbpdchbdfaaFAw
import Derived.Test.YtilpbbpdchbdfaaFArg
import Derived.Test.YtilpbbpdchbdfaaCFlip
namespace Go.Proofs.Ytilpbbpdchbdfaa
open Go.RowKit

namespace frameFinds
/-- The bytes l with bit i turned, counted from the front, a byte's lowest bit first. -/
def flipF (l : List UInt8) (i : Nat) : List UInt8 := l.set (i / 8) (l.getD (i / 8) 0 ^^^ UInt8.ofNat (2 ^ (i % 8)))
theorem flipF_length (l : List UInt8) (i : Nat) : (flipF l i).length = l.length := List.length_set ..
def pos (n i : Nat) : Nat := 8 * (n - 1 - i / 8) + i % 8
theorem pos_lt {n i : Nat} (h : i < 8 * n) : pos n i < 8 * n := by unfold pos; omega
theorem pos_inj {n i j : Nat} (hi : i < 8 * n) (hj : j < 8 * n) (h : pos n i = pos n j) : i = j := by unfold pos at h; omega
theorem flipF_eq (l : List UInt8) (i : Nat) (h : i < 8 * l.length) : flipF l i = Cr.flipL l (pos l.length i) := by
  unfold flipF Cr.flipL
  have e1 : l.length - 1 - pos l.length i / 8 = i / 8 := by unfold pos; omega
  have e2 : pos l.length i % 8 = i % 8 := by unfold pos; omega
  rw [e1, e2]
theorem flipF_twice (l : List UInt8) (i : Nat) (h : i < 8 * l.length) : flipF (flipF l i) i = l := by
  have hk : i / 8 < l.length := by omega
  unfold flipF
  rw [List.set_set]
  have e : (l.set (i / 8) (l.getD (i / 8) 0 ^^^ UInt8.ofNat (2 ^ (i % 8)))).getD (i / 8) 0 = l.getD (i / 8) 0 ^^^ UInt8.ofNat (2 ^ (i % 8)) := by
    simp [List.getD_eq_getElem?_getD, hk]
  rw [e, UInt8.xor_assoc, UInt8.xor_self, UInt8.xor_zero]
  simp [List.getD_eq_getElem?_getD, hk]
theorem flipB_eq (D : ByteArray) (i : Nat) (h : i < 8 * D.size) : (⟨(flipF D.data.toList i).toArray⟩ : ByteArray) = Cr.flipB D (pos D.size i) := by
  have hl : D.data.toList.length = D.size := by rw [Array.length_toList]; rfl
  unfold Cr.flipB
  rw [flipF_eq _ _ (by rw [hl]; exact h), hl]
theorem dec_bad (D : ByteArray) (h1 : 2 ≤ D.size) (h2 : D.size ≤ 127) (h : Cr.syn D ≠ 0) : decR D = (fr0, 10) := by
  have e : cut D = (⟨#[]⟩, 10) := by unfold cut; rw [if_neg (by omega), if_pos h]
  unfold decR
  rw [if_neg (by omega), e]
  rfl
theorem dec_one (S : ByteArray) (h1 : 2 ≤ S.size) (h2 : S.size ≤ 127) (h0 : Cr.syn S = 0) (i : Nat) (hi : i < 8 * S.size) : decR ⟨(flipF S.data.toList i).toArray⟩ = (fr0, 10) := by
  rw [flipB_eq S i hi]
  refine dec_bad _ (by rw [Cr.flipB_size]; exact h1) (by rw [Cr.flipB_size]; exact h2) ?_
  have hp := pos_lt hi
  rw [Cr.syn_flip S h1 _ hp, h0]
  exact Cr.xs_ne (l := [pos S.size i]) (by simp) (by simp; omega) (.inr rfl)
theorem two_list (D : ByteArray) (i : Nat) : (⟨(flipF D.data.toList i).toArray⟩ : ByteArray).data.toList = flipF D.data.toList i := rfl
theorem dec_two (S : ByteArray) (h1 : 2 ≤ S.size) (h2 : S.size ≤ 127) (h0 : Cr.syn S = 0) (i j : Nat) (hi : i < 8 * S.size) (hj : j < 8 * S.size) (hn : i ≠ j) : decR ⟨(flipF (flipF S.data.toList i) j).toArray⟩ = (fr0, 10) := by
  have e1 := flipB_eq S i hi
  have hz : (⟨(flipF S.data.toList i).toArray⟩ : ByteArray).size = S.size := by rw [e1, Cr.flipB_size]
  have e2 := flipB_eq (⟨(flipF S.data.toList i).toArray⟩ : ByteArray) j (by rw [hz]; exact hj)
  rw [two_list, hz, e1] at e2
  rw [e2]
  have hp := pos_lt hi
  have hq := pos_lt hj
  refine dec_bad _ (by rw [Cr.flipB_size, Cr.flipB_size]; exact h1) (by rw [Cr.flipB_size, Cr.flipB_size]; exact h2) ?_
  rw [Cr.syn_flip _ (by rw [Cr.flipB_size]; exact h1) _ (by rw [Cr.flipB_size]; exact hq), Cr.syn_flip S h1 _ hp, h0]
  exact Cr.xs_ne (l := [pos S.size j, pos S.size i]) (by simp; exact fun e => hn (pos_inj hi hj e.symm)) (by simp; omega) (.inl rfl)
theorem cell_lt {w : World} {g k : Nat} {v : Value} (h : w.cell? ⟨g, k, none⟩ = some v) : g < w.heap.size := by
  cases hh : w.heap[g]? with
  | none => simp [World.cell?, hh] at h
  | some o => exact lt_of_block hh
theorem pow_256 (k : Nat) (h : (2 ^ k : Nat) < 256) : ((2 : Int) ^ k) % 256 = ((2 ^ k : Nat) : Int) := by
  have e : ((2 : Int) ^ k) = ((2 ^ k : Nat) : Int) := (Int.natCast_pow 2 k).symm
  rw [e]
  generalize 2 ^ k = m at *
  omega
theorem xor_bit (c : UInt8) (i : Nat) : bits .xor .u8 (c.toNat : Int) (2 ^ (i % 8) % 256) = ((c ^^^ UInt8.ofNat (2 ^ (i % 8))).toNat : Int) := by
  have h2 : (2 ^ (i % 8) : Nat) < 256 := Nat.lt_of_lt_of_le (Nat.pow_lt_pow_right (by decide) (Nat.mod_lt i (by decide : 0 < 8))) (by decide)
  rw [pow_256 (i % 8) h2, Cr.bits_xor_u8 _ _ c.toNat_lt h2, UInt8.toNat_xor, UInt8.toNat_ofNat_of_lt' h2]
set_option maxRecDepth 100000 in
theorem short (f : Fr) (x y : Int) (hd : f.d.size ≤ 9223372036854775807) (h : decide ((100 : Int) < (f.d.size : Int)) = true ∨ (decide ((100 : Int) < (f.d.size : Int)) = false ∧ ((encR f).2 != 0) = true ∧ (encR f).1 = ⟨#[]⟩)) (w : World) :
    Calls Try.prog 8 #[frV f, .int .u16 x, .int .u16 y] w fun e w' => e = .returned (.bool true) ∧ Same w w' := by
  have k1 := fun w1 => encode_any f hd w1
  have HS := Lib.hid ((Same.refl w).alloc (.cells (frC f) 23))
  have HB := Lib.hid (fun (w1 : World) (h : Same (w.alloc (.cells (frC f) 23)) w1) => fr_cells (h.at (heap_alloc_new w _)))
  rcases h with h | ⟨h, h1, h2⟩
  · clear k1 hd
    go_enter Try.func8, Try.ntmps8
    go_wp2_with (go_at_call 11; (with_reducible refine (awake_any _).mono ?_); rintro E1 w1 ⟨rfl, hw⟩; obtain ⟨c0, c1, c2, c3, c4, c5, c6, c7, c8, c9, c10, c11⟩ := HB.out _ hw; have HX := Lib.hid hw; clear hw)
    go_ret
    exact ⟨rfl, HS.out.trans HX.out⟩
  · rw [h2] at k1
    generalize (encR f).2 = E at *
    have K1 := Lib.hid k1
    clear k1 hd h2
    go_enter Try.func8, Try.ntmps8
    go_wp2_with (first
      | (go_at_call 11; (with_reducible refine (awake_any _).mono ?_); rintro E1 w1 ⟨rfl, hw⟩; obtain ⟨c0, c1, c2, c3, c4, c5, c6, c7, c8, c9, c10, c11⟩ := HB.out _ hw; have HX := Lib.hid hw; clear hw)
      | (go_at_call 12; (with_reducible refine (K1.out _).mono ?_); rintro E1 w2 ⟨rfl, hw⟩; have hw0 := HX.out.trans hw; clear hw c0 c1 c2 c3 c4 c5 c6 c7 c8 c9 c10 c11; obtain ⟨c0, c1, c2, c3, c4, c5, c6, c7, c8, c9, c10, c11⟩ := HB.out _ hw0; have HX := Lib.hid hw0; clear hw0))
    go_ret
    exact ⟨rfl, HS.out.trans HX.out⟩
set_option maxRecDepth 100000 in
set_option maxHeartbeats 3200000 in
theorem main (f : Fr) (hd : f.d.size ≤ 9223372036854775807) (h : decide ((100 : Int) < (f.d.size : Int)) = false) (S : ByteArray) (he : encR f = (S, 0)) (n : Nat) (hn : S.size = n) (h1 : 1 ≤ n) (h2 : n ≤ 127) (x y i j : Nat) (hx : x ≤ 65535) (hy : y ≤ 65535) (hi : x % (8 * n) = i) (hj : y % (8 * n) = j)
    (l1 l2 : List UInt8) (hl1 : flipF S.data.toList i = l1) (hl2 : flipF l1 j = l2) (hD1 : decR ⟨l1.toArray⟩ = (fr0, 10)) (g : Fr) (E : Int) (hD2 : decR ⟨l2.toArray⟩ = (g, E)) (b : Bool) (hb : (E == 10) = b) (hb2 : ((i : Int) != (j : Int)) = b) (w : World) :
    Calls Try.prog 8 #[frV f, .int .u16 x, .int .u16 y] w fun e w' => e = .returned (.bool true) ∧ Same w w' := by
  obtain ⟨C, F, hrun, hrow, hcap⟩ := Cr.row_made S
  rw [hn] at hrun hcap
  have k1 := fun w1 => encode_any f hd w1
  have k2 := fun w1 => decode_any ⟨l1.toArray⟩ w1
  have k3 := fun w1 => decode_any ⟨l2.toArray⟩ w1
  rw [he] at k1
  rw [hD1] at k2
  rw [hD2] at k3
  dsimp only at k1 k2 k3
  have K1 := Lib.hid k1; have K2 := Lib.hid k2; have K3 := Lib.hid k3
  have HROW := Lib.hid hrow; have HCAP := Lib.hid hcap
  have hll : S.data.toList.length = n := by rw [Array.length_toList]; exact hn
  have HLL := Lib.hid hll
  have hl1l : l1.length = n := by rw [← hl1, flipF_length]; exact hll
  have hl2l : l2.length = n := by rw [← hl2, flipF_length]; exact hl1l
  have HL1 := Lib.hid hl1; have HL2 := Lib.hid hl2; have HL1L := Lib.hid hl1l; have HL2L := Lib.hid hl2l
  have hi8 : i < 8 * n := by rw [← hi]; exact Nat.mod_lt _ (by omega)
  have hj8 : j < 8 * n := by rw [← hj]; exact Nat.mod_lt _ (by omega)
  have HI8 := Lib.hid hi8; have HJ8 := Lib.hid hj8
  have cx : ((x % (8 * n) : Nat) : Int) = (x : Int) % (8 * (n : Int)) := by simp
  have cy : ((y % (8 * n) : Nat) : Int) = (y : Int) % (8 * (n : Int)) := by simp
  have mx : (x : Int).tmod (8 * (n : Int)) = (i : Int) := by rw [← hi, cx, Int.tmod_eq_emod_of_nonneg (by omega)]
  have my : (y : Int).tmod (8 * (n : Int)) = (j : Int) := by rw [← hj, cy, Int.tmod_eq_emod_of_nonneg (by omega)]
  have ex : (x : Int) % (8 * (n : Int)) = (i : Int) := by rw [← hi, cx]
  have ey : (y : Int) % (8 * (n : Int)) = (j : Int) := by rw [← hj, cy]
  have m1 : IntKind.i64.wrap (x : Int) = (x : Int) := IntWalk.i64_in _ (by omega)
  have m2 : IntKind.i64.wrap (y : Int) = (y : Int) := IntWalk.i64_in _ (by omega)
  have m3 : IntKind.i64.wrap (8 * (n : Int)) = 8 * (n : Int) := IntWalk.i64_in _ (by omega)
  have m4 : (8 * (n : Int) == 0) = false := by simp; omega
  have m5 : IntKind.i64.wrap (i : Int) = (i : Int) := IntWalk.i64_in _ (by omega)
  have m6 : IntKind.i64.wrap (j : Int) = (j : Int) := IntWalk.i64_in _ (by omega)
  have nz : ((n : Int) == 0) = false := by simp; omega
  clear cx cy k1 k2 k3 hd he hD1 hD2 hrow hcap hi hj hl1 hl2 hll hl1l hl2l hi8 hj8
  have HS := Lib.hid ((Same.refl w).alloc (.cells (frC f) 23))
  have HB := Lib.hid (fun (w1 : World) (h : Same (w.alloc (.cells (frC f) 23)) w1) => fr_cells (h.at (heap_alloc_new w _)))
  go_enter Try.func8, Try.ntmps8
  go_wp2_with (first
    | (go_at_call 11; (with_reducible refine (awake_any _).mono ?_); rintro E1 w1 ⟨rfl, hw⟩; obtain ⟨c0, c1, c2, c3, c4, c5, c6, c7, c8, c9, c10, c11⟩ := HB.out _ hw; have HX := Lib.hid hw; clear hw)
    | (go_at_call 12; (with_reducible refine (K1.out _).mono ?_); rintro E1 w2 ⟨rfl, hw⟩; have HX := Lib.hid (HS.out.trans (HX.out.trans hw)); clear hw c0 c1 c2 c3 c4 c5 c6 c7 c8 c9 c10 c11))
  go_region
  all_goals go_wp2
  have hst : Cr.Row (F w2.drew) w2.heap.size S.data.toList ∧ Cr.Same w2.drew (F w2.drew) := HROW.out w2.drew
  have hcp := HCAP.out w2.drew
  have hsz := HX.out.size
  have hx2 : Same w2 w2.drew := (Same.refl w2).drew
  generalize F w2.drew = w3 at *
  generalize C w2.drew = cap at *
  obtain ⟨hr3, hs3⟩ := hst
  have hs3' : Same w2 w3 := hx2.trans (Same.ofCr hs3)
  have hS3 := HX.out.trans hs3'
  have HI := Lib.hid (show (i : Int) / 8 = ((i / 8 : Nat) : Int) by omega)
  have hil : i / 8 < S.data.toList.length := by rw [HLL.out]; have := HI8.out; omega
  obtain ⟨hc, hf⟩ := hr3 _ hil
  have hks : ((i / 8 : Nat) : Int) < (n : Int) := by have := HI8.out; omega
  have hid := HI.out
  have m7 : IntKind.i64.wrap ((i / 8 : Nat) : Int) = ((i / 8 : Nat) : Int) := IntWalk.i64_in _ (by omega)
  have hrow1 := hr3.store hil (S.data.toList.getD (i / 8) 0 ^^^ UInt8.ofNat (2 ^ (i % 8))) (xor_bit _ i)
  have e1 : S.data.toList.set (i / 8) (S.data.toList.getD (i / 8) 0 ^^^ UInt8.ofNat (2 ^ (i % 8))) = l1 := HL1.out
  rw [e1] at hrow1
  have HR1 := Lib.hid hrow1
  have HSS := Lib.hid (hS3.setCell (p := ⟨w2.heap.size, i / 8, none⟩) hsz (.int .u8 (bits .xor .u8 ((S.data.toList.getD (i / 8) 0).toNat : Int) (2 ^ (i % 8) % 256))))
  have hconv := Cr.Row.conv (cap := cap) (hrow1.same (w' := (w3.setCell ⟨w2.heap.size, i / 8, none⟩ (.int .u8 (bits .xor .u8 ((S.data.toList.getD (i / 8) 0).toNat : Int) (2 ^ (i % 8) % 256)))).drew) rfl)
  rw [HL1L.out] at hconv
  clear e1 hrow1 hr3 hs3 hs3' hS3 hil hx2
  generalize S.data.toList.getD (i / 8) 0 = c at *
  generalize i / 8 = k at *
  go_region
  go_wp2_with (go_at_call 20; (with_reducible refine (K2.out _).mono ?_); rintro E1 w5 ⟨rfl, hw⟩; have HP := Lib.hid hw; clear hw)
  have hlt : w2.heap.size < (w3.setCell ⟨w2.heap.size, k, none⟩ (.int .u8 (bits .xor .u8 (c.toNat : Int) (2 ^ (i % 8) % 256)))).drew.heap.size := by
    have := cell_lt hc
    simpa using this
  have hb5 := HP.out.block _ hlt
  have hlt5 : w2.heap.size < w5.heap.size := Nat.lt_of_lt_of_le hlt HP.out.size
  have hrow6 : Cr.Row (w5.alloc (.cells (frC fr0) 23)) w2.heap.size l1 :=
    Cr.Row.same (Cr.Row.same (w' := (w3.setCell ⟨w2.heap.size, k, none⟩ (.int .u8 (bits .xor .u8 (c.toNat : Int) (2 ^ (i % 8) % 256)))).drew) HR1.out rfl) ((Below.heap_alloc _ _ _ hlt5).trans hb5)
  have hS6 : Same w (w5.alloc (.cells (frC fr0) 23)) := (HSS.out.drew.trans HP.out).alloc _
  clear hconv hb5 hlt hlt5 hc hf hks hid m7
  generalize w5.alloc (.cells (frC fr0) 23) = w6 at *
  have HI := Lib.hid (show (j : Int) / 8 = ((j / 8 : Nat) : Int) by omega)
  have hil : j / 8 < l1.length := by rw [HL1L.out]; have := HJ8.out; omega
  obtain ⟨hc, hf⟩ := hrow6 _ hil
  have hks : ((j / 8 : Nat) : Int) < (n : Int) := by have := HJ8.out; omega
  have hid := HI.out
  have m7 : IntKind.i64.wrap ((j / 8 : Nat) : Int) = ((j / 8 : Nat) : Int) := IntWalk.i64_in _ (by omega)
  have hrow1 := hrow6.store hil (l1.getD (j / 8) 0 ^^^ UInt8.ofNat (2 ^ (j % 8))) (xor_bit _ j)
  have e1 : l1.set (j / 8) (l1.getD (j / 8) 0 ^^^ UInt8.ofNat (2 ^ (j % 8))) = l2 := HL2.out
  rw [e1] at hrow1
  have HSS2 := Lib.hid (hS6.setCell (p := ⟨w2.heap.size, j / 8, none⟩) hsz (.int .u8 (bits .xor .u8 ((l1.getD (j / 8) 0).toNat : Int) (2 ^ (j % 8) % 256))))
  have hconv := Cr.Row.conv (cap := cap) (hrow1.same (w' := (w6.setCell ⟨w2.heap.size, j / 8, none⟩ (.int .u8 (bits .xor .u8 ((l1.getD (j / 8) 0).toNat : Int) (2 ^ (j % 8) % 256)))).drew) rfl)
  rw [HL2L.out] at hconv
  have bb : (b == b) = true := by simp
  clear e1 hrow1 hrow6 hS6 hil
  generalize l1.getD (j / 8) 0 = c2 at *
  generalize j / 8 = k2 at *
  go_region
  go_wp2_with (go_at_call 20; (with_reducible refine (K3.out _).mono ?_); rintro E1 w7 ⟨rfl, hw⟩; have HP2 := Lib.hid hw; clear hw)
  all_goals
    go_ret
    exact ⟨by first | rfl | simp [bb], (HSS2.out.drew.trans HP2.out).alloc _⟩
theorem enc_cases (f : Fr) : (((encR f).2 != 0) = true ∧ (encR f).1 = ⟨#[]⟩) ∨ (∃ S, encR f = (S, 0) ∧ 2 ≤ S.size ∧ S.size ≤ 127 ∧ Cr.syn S = 0 ∧ decR S = (f, 0)) := by
  rcases encR_cases f with ⟨h1, h2, _⟩ | ⟨h1, h2, h3⟩
  · exact .inl ⟨by simpa using h1, h2⟩
  · have hz := encR_size f
    rw [h3] at hz
    refine .inr ⟨_, h3, ?_, hz, Cr.syn_prot _, decR_back h1 h2⟩
    rw [Cr.prot_size]; omega
theorem walk (f : Fr) (hf : f.d.size ≤ 9223372036854775807) (x : Int) (hx : 0 ≤ x ∧ x ≤ 65535) (y : Int) (hy : 0 ≤ y ∧ y ≤ 65535) (w : World) :
    Calls Try.prog 8 #[frV f, .int .u16 x, .int .u16 y] w fun e w' => e = .returned (.bool true) ∧ Same w w' := by
  cases hu : decide ((100 : Int) < (f.d.size : Int)) with
  | true => exact short f x y hf (.inl hu) w
  | false =>
    rcases enc_cases f with h | ⟨S, h1, h2, h3, h4, h5⟩
    · exact short f x y hf (.inr ⟨hu, h⟩) w
    · obtain ⟨X, rfl⟩ := Int.eq_ofNat_of_zero_le hx.1
      obtain ⟨Y, rfl⟩ := Int.eq_ofNat_of_zero_le hy.1
      have hi : X % (8 * S.size) < 8 * S.size := Nat.mod_lt _ (by omega)
      have hj : Y % (8 * S.size) < 8 * S.size := Nat.mod_lt _ (by omega)
      have hl : S.data.toList.length = S.size := by rw [Array.length_toList]; rfl
      by_cases hn : X % (8 * S.size) = Y % (8 * S.size)
      · refine main f hf hu S h1 S.size rfl (by omega) h3 X Y _ _ (by omega) (by omega) rfl rfl _ _ rfl rfl (dec_one S h2 h3 h4 _ hi) f 0 ?_ false rfl (by rw [hn]; simp) w
        rw [hn, flipF_twice _ _ (by rw [hl]; exact hj)]
        exact h5
      · exact main f hf hu S h1 S.size rfl (by omega) h3 X Y _ _ (by omega) (by omega) rfl rfl _ _ rfl rfl (dec_one S h2 h3 h4 _ hi) fr0 10 (dec_two S h2 h3 h4 _ _ hi hj hn) true rfl (by rw [bne_iff_ne]; omega) w

open Go.ChangeShapes Go.WideShapes Go.ChangeAt
theorem own : ownKnob Try.prog.godebug = none := by kernel_rfl

set_option maxRecDepth 100000 in
theorem lifted (os : Os) (started : os.Started) (H : Type) (enc : TypeId × Value → H) :
    ReturnsInHanded {} Try.checked os 8 .any (Rows.frameFindsSpec.pre6 enc Try.prog Try.f8 Rows.frameFindsRow.domain false) (Rows.frameFindsSpec.post enc Try.prog Try.f8 false true false false) := by
  refine returnsInHanded_of_change (C := Try.checked) own started (by kernel_rfl) Try.func8
    (ChangeSpec.witness6 (enc := enc) (C := Try.checked) false ⟨#[], #[.agg #[.int .i64 0, .int .i64 0, .int .i64 0, .int .i64 0, .int .i64 0, .int .i64 0, .int .i64 0, .int .i64 0, .int .i64 0, .int .i64 0, .int .i64 0, .string ⟨#[]⟩], .int .u16 0, .int .u16 0], []⟩ 8 (by kernel_rfl) (by kernel_rfl) (by kernel_rfl) (by kernel_rfl)) ?_
  intro W base args ds gs before hval0 hW hcnd _
  have hval : ∀ (j : Nat) t v, Try.f8.params[j]? = some t → args[j]? = some v → Value.okWide Try.prog W .any base t v := hval0
  have hW' := hW
  obtain ⟨p, q, hA0, hV, rfl, hfz, hnd⟩ := hW
  have hA : DataW.TrodAll enc Try.prog W 0 (fun _ => true) true Try.f8.params.toList args.toList ds p := hA0
  rw [Try.params8] at hA hval
  obtain ⟨v0, vs0, d0, ds0, p0, q0, hargs, rfl, rfl, h0, r0⟩ := trodAll_cons hA
  obtain ⟨v1, vs1, d1, ds1, p1, q1, rfl, rfl, rfl, h1, r1⟩ := trodAll_cons r0
  obtain ⟨v2, vs2, d2, ds2, p2, q2, rfl, rfl, rfl, h2, r2⟩ := trodAll_cons r1
  obtain ⟨rfl, rfl, rfl⟩ := trodAll_nil r2
  obtain rfl : args = #[v0, v1, v2] := by cases args; simp_all
  obtain ⟨rfl, rfl⟩ := trodVars_none hV
  obtain ⟨f0, rfl, fz0, fe0, fl0⟩ := open_frame (hval 0 23 v0 rfl rfl) h0
  obtain ⟨a1, rfl, rfl, rfl, w1⟩ := open_int Try.underlying40 (hval 1 40 v1 rfl rfl) h1
  obtain ⟨a2, rfl, rfl, rfl, w2⟩ := open_int Try.underlying40 (hval 2 40 v2 rfl rfl) h2
  clear hA0 hval0
  try simp only [List.append_nil] at hW'
  try simp only [List.nil_append] at hW'
  have hlt : ∀ x ∈ p0, x.block < W.heap.size := fun x hx => by
    have := hW'.lt x (by simpa using hx)
    simpa using this
  refine (walk f0 fz0 a1 (bounds_u16 w1) a2 (bounds_u16 w2) W).mono fun e W' ⟨he, hg⟩ => ?_
  subst he
  exact ⟨_, rfl, _, _, _, [], _, [], hW', trodAll_cons_mk (shut_bool Try.underlying4 _) trodAll_mk0, trodAll_cons_mk (Below.trod Try.laidOut (by kernel_rfl) (of_decide_eq_true (by kernel_rfl)) h0 (Same.toBelow hg) (fun x hx => hlt x (by simp [hx]))) (trodAll_cons_mk (shut_int Try.underlying40 w1) (trodAll_cons_mk (shut_int Try.underlying40 w2) trodAll_mk0)), rfl, (Same.toBelow hg).frame _, fun h => by cases h⟩

theorem over : Rows.frameFindsRow.holds Try.pinned (OpenSpec.ofChange Rows.frameFindsSpec) :=
  OpenClaim.holds_of_wide 8 Try.f8 rfl rfl rfl rfl rfl rfl rfl ⟨rfl, rfl, rfl, rfl, rfl⟩ rfl rfl rfl rfl rfl (by kernel_rfl) Try.func8 (by kernel_rfl)
    (of_decide_eq_true (by kernel_rfl)) (by unfold Func.isWrapper; first | (rw [if_pos (by decide +kernel)]; kernel_rfl) | (rw [if_neg (by decide +kernel)]; exact ⟨rfl, rfl⟩))
    (fun os started H enc _ => lifted os started H enc)

theorem proved : Rows.FrameFindsSaid :=
  over
end frameFinds
end Go.Proofs.Ytilpbbpdchbdfaa
