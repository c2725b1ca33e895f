/- CrcFinds: for all inputs the law returns true: one and two wrong bits, an odd number of them, and bursts are found. No condition on the input. -/
import Derived.Test.YtgeodffcbphepaaFindsMap
import Derived.Test.YtgeodffcbphepaaAwake
import Derived.Test.YtgeodffcbphepaaLocates
import Derived.Lib.Strings
import Derived.ProofKit
import Derived.OpenShut
import Derived.Carry
namespace Go.Proofs.Ytgeodffcbphepaa
open Go.RowKit
open Crc

/-- A box of two cells, made ahead of what keeps all that was there. -/
theorem box2 {w w1 : World} {x y : Value} {T : TypeId} (h : Same (w.alloc (.cells #[x, y] T)) w1) :
    w1.cell? ⟨w.heap.size, 0, none⟩ = some x ∧ w1.cell? ⟨w.heap.size, 1, none⟩ = some y ∧ Same w w1 := by
  have hb := h.block w.heap.size (by simp)
  rw [heap_alloc_new] at hb
  exact ⟨by rw [cell_of_row _ _ _ _ _ _ hb]; rfl, by rw [cell_of_row _ _ _ _ _ _ hb]; rfl, ((Same.refl w).alloc _).trans h⟩

namespace crcFinds
theorem lookup_bool {P : Program} {w : World} {k e t : TypeId} {b n : Nat} {D : DataW Unit} (h : w.ownsMap P k (plainElem P e) b n D) (K : Maps.Keyed P k) (ht : P.underlying t = some (.map k e)) (he : P.underlying e = some .bool) (hz : (zeroValue e).run P w = .ok (.bool false) w)
    {key : Value} {kl : Lit} (hkey : keyOf P k key = some kl) {c : Bool} (hat : D.atKey kl (.lit (.bool false)) = .lit (.bool c)) : (Instr.lookup t (.map (some b)) key false).run P w = .ok (.bool c) w := by
  obtain ⟨v, ps, hrun, hv⟩ := h.lookup K ht hz (plainElem_bool he false) hkey
  obtain ⟨c', rfl, hc⟩ := plainElem_bool_inv he hv
  simp only [Prod.mk.injEq] at hc
  rw [hat] at hc
  have hcc : c' = c := by
    have := hc.1
    injection this with h1
    injection h1 with h2
    exact h2.symm
  rw [hrun, hcc]
theorem zero_bool (w : World) : (zeroValue 4).run Try.prog w = .ok (.bool false) w := by kernel_rfl
theorem one (p : ByteArray) (h2 : 2 ≤ p.size) (h0 : syn p = 0) (i : Nat) (hi : i < 8 * p.size) : syn (flipB p i) = X i := by
  rw [syn_flip p h2 i hi, h0, Nat.zero_xor]
theorem hbit (y k : Nat) (hy : y < 65536) : (bits .and .u16 ((y : Int) / 2 ^ k) 1 == 1) = decide (y / 2 ^ k % 2 = 1) := by
  rw [bit_val y k hy]
  rcases Nat.mod_two_eq_zero_or_one (y / 2 ^ k) with h | h <;> rw [h] <;> rfl

theorem check_w (p M : ByteArray) (N : Nat) (hM : M.size = N) (h2 : 2 ≤ N) (h3 : N ≤ 302) (hiff : syn M = 0 ↔ M = p) : ∃ (T : ByteArray) (E : Int) (q : Bool), (∀ w, Calls Try.prog 23 #[.string M] w fun e w' => e = .returned (.tuple #[.string T, .int .i64 E]) ∧ Same w w') ∧ (E == 0) = q ∧ (M.toList == p.toList) = q := by
  by_cases h : syn M = 0
  · refine ⟨M.extract 0 (M.size - 2), 0, true, fun w => check_ok M (by unfold maxLen; omega) (M.size - 2) (by omega) h w, rfl, ?_⟩
    rw [hiff.1 h]; simp
  · refine ⟨⟨#[]⟩, 10, false, fun w => check_bad M (by unfold maxLen; omega) (by omega) h w, rfl, ?_⟩
    rw [beq_eq_false_iff_ne, Lib.toList_data, Lib.toList_data]
    exact fun e => h (hiff.2 (bytes_eq e))
theorem check_m (M : ByteArray) (l : List Nat) (N : Nat) (hM : M.size = N) (h2 : 2 ≤ N) (h3 : N ≤ 302) (hs : syn M = xs l) (hd : l.Nodup) (hl : ∀ k ∈ l, k < 8 * N) : ∃ (T : ByteArray) (E : Int), (∀ w, Calls Try.prog 23 #[.string M] w fun e w' => e = .returned (.tuple #[.string T, .int .i64 E]) ∧ Same w w') ∧
    ((((l.length : Int) != 2) = false ∧ (E == 10) = true) ∨ (((l.length : Int) != 2) = true ∧ ((l.length : Int) % 2 == 0) = false ∧ (E == 10) = true) ∨ (((l.length : Int) != 2) = true ∧ ((l.length : Int) % 2 == 0) = true)) := by
  by_cases h : l.length = 2 ∨ l.length % 2 = 1
  · have hne := xs_ne hd (fun k hk => by have := hl k hk; omega) h
    rw [← hs] at hne
    refine ⟨⟨#[]⟩, 10, fun w => check_bad M (by unfold maxLen; omega) (by omega) hne w, ?_⟩
    by_cases e : l.length = 2
    · exact .inl ⟨by rw [e]; rfl, rfl⟩
    · exact .inr (.inl ⟨by simp; omega, by simp; omega, rfl⟩)
  · have hh : ((l.length : Int) != 2) = true ∧ ((l.length : Int) % 2 == 0) = true := ⟨by simp; omega, by simp; omega⟩
    by_cases h0 : syn M = 0
    · exact ⟨_, _, fun w => check_ok M (by unfold maxLen; omega) (M.size - 2) (by omega) h0 w, .inr (.inr hh)⟩
    · exact ⟨_, _, fun w => check_bad M (by unfold maxLen; omega) (by omega) h0 w, .inr (.inr hh)⟩
theorem hit_or (y i n k : Nat) (hy : y < 65536) : (hit y i n k = true ∧ (bits .and .u16 ((y : Int) / 2 ^ k) 1 == 1) = true ∧ i + k < n) ∨ (hit y i n k = false ∧ (bits .and .u16 ((y : Int) / 2 ^ k) 1 == 1) = true ∧ ¬ i + k < n) ∨ (hit y i n k = false ∧ (bits .and .u16 ((y : Int) / 2 ^ k) 1 == 1) = false) := by
  rw [hbit y k hy]
  unfold hit
  by_cases h1 : y / 2 ^ k % 2 = 1 <;> by_cases h2 : i + k < n <;> simp [h1, h2]

set_option linter.unusedVariables false in
set_option maxRecDepth 100000 in
set_option maxHeartbeats 6400000 in
theorem main (data p : ByteArray) (hd : data.size ≤ 300) (N : Nat) (hN : p.size = N) (hNd : N = data.size + 2) (hpr : ∀ w, Calls Try.prog 22 #[.string data] w fun e w' => e = .returned (.string p) ∧ Same w w') (hsyn : syn p = 0)
    (x y : Nat) (hx : x < 65536) (hy : y < 65536) (sl : Value) (zs : List Nat) (w : World) (hzs : U16s w sl zs) (hl : zs.length ≤ 15) :
    Calls Try.prog 9 #[.string data, .agg #[.int .u16 (x : Int), .int .u16 (y : Int)], sl] w fun e w' => e = .returned (.bool true) ∧ Same w w' := by
  obtain ⟨i, hi⟩ : ∃ i : Nat, i = x % (8 * N) := ⟨_, rfl⟩
  have hn : 0 < 8 * N := by omega
  have hin : i < 8 * N := by rw [hi]; exact Nat.mod_lt _ hn
  have hix : (x : Int) % (8 * (N : Int)) = (i : Int) := by rw [hi]; simp
  have hN2 : (2 : Int) ≤ (N : Int) := by omega
  have hN3 : (N : Int) ≤ 302 := by omega
  have hini : (i : Int) < 8 * (N : Int) := by omega
  have hx2 : (x : Int) ≤ 65535 := by omega
  have hpm : p.size ≤ maxLen := by unfold maxLen; omega
  have hb : ((N : Int) != (data.size : Int) + 2) = false := by rw [hNd]; simp
  have c1 := fun w => flip_any p hpm i (by omega) w
  have c2 := fun w => syndrome_any (flipB p i) (by rw [flipB_size]; exact hpm) (by rw [flipB_size]; omega) w
  rw [one p (by omega) hsyn i (by omega)] at c2
  have c3 : ∀ w, Calls Try.prog 26 #[.int .u16 (X i : Nat), .int .i64 (8 * (N : Int))] w fun e w' => e = .returned (.tuple #[.int .i64 (i : Int), .bool true]) ∧ w' = w := fun w => locate_yes (X i) (8 * (N : Int)) i (by omega) (by omega) rfl w
  have c4 := fun w => crcLocates.pw i (by omega) w
  obtain ⟨T5, E5, q5, c5, hE5, hq5⟩ := check_w p (bw p y i (8 * N) 16) N (by rw [bw_size, hN]) (by omega) (by omega) (burst p (by omega) hsyn y i (8 * N) (by omega))
  have hqq : (q5 != q5) = false := by simp
  obtain ⟨ob, cap, hsl⟩ : ∃ ob cap, sl = .slice ob zs.length cap := by
    rcases hzs.2 with ⟨b, off, cap, h1, _⟩ | ⟨ao, cap, h1, rfl⟩
    · exact ⟨_, cap, h1⟩
    · exact ⟨ao, cap, h1⟩
  subst hsl
  have HZS := Lib.hid hzs; clear hzs
  have HY := Lib.hid hy; clear hy
  have HX := Lib.hid hx; clear hx
  have HI := Lib.hid hi; clear hi
  have HIN := Lib.hid hin; clear hin
  have HPM := Lib.hid hpm; clear hpm
  have HS0 := Lib.hid hsyn; clear hsyn
  have HND := Lib.hid hNd; clear hNd
  have CP := Lib.hid hpr; clear hpr
  have C1 := Lib.hid c1; clear c1
  have C2 := Lib.hid c2; clear c2
  have C3 := Lib.hid c3; clear c3
  have C4 := Lib.hid c4; clear c4
  have C5 := Lib.hid c5; clear c5
  have HE5 := Lib.hid (And.intro hE5 (And.intro hq5 hqq)); clear hE5 hq5 hqq
  clear hn
  have hmm := @run_makeMap Try.prog
  have HMM := Lib.hid hmm; clear hmm
  go_enter Try.func9, Try.ntmps9
  go_wp2_with (go_at_call 11; refine (awake_any _).mono ?_; rintro e w1 ⟨rfl, h⟩; obtain ⟨k0, k1, hs⟩ := box2 h; have H := Lib.hid hs; clear h hs)
  go_quiet (fail)
  clear k0 k1
  have H' := Lib.hid (H.out.drewN nq); clear H; have H := H'; clear H'
  generalize World.drewN w1 nq = w2 at H ⊢
  go_wp2_with (first
    | (go_at_call 22; with_reducible refine (CP.out _).mono ?_; rintro e w3 ⟨rfl, h⟩; have H' := Lib.hid (H.out.trans h); clear h H; have H := H'; clear H')
    | (go_at_call 25; with_reducible refine (C1.out _).mono ?_; rintro e w3 ⟨rfl, h⟩; have H' := Lib.hid (H.out.trans h); clear h H; have H := H'; clear H')
    | (go_at_call 24; with_reducible refine (C2.out _).mono ?_; rintro e w3 ⟨rfl, h⟩; have H' := Lib.hid (H.out.trans h); clear h H; have H := H'; clear H')
    | (go_at_call 26; with_reducible refine (C3.out _).mono ?_; rintro e w3 ⟨rfl, rfl⟩)
    | (go_at_call 20; with_reducible refine (C4.out _).mono ?_; rintro e w3 ⟨rfl, h⟩; have H' := Lib.hid (H.out.trans h); clear h H; have H := H'; clear H'))
  go_loopw [17, 87] (fun v c wr => ∃ k : Nat, k ≤ 16 ∧ c = .int .i64 k ∧ v = .string (bw p y i (8 * N) k) ∧ Same w wr) (fun _ c _ => 16 - (intOf c).toNat)
  case atStart => exact ⟨0, by omega, rfl, rfl, H.out⟩
  case round =>
    obtain ⟨k, hk, rfl, rfl, hsm⟩ := hrel
    have HSM := Lib.hid hsm; clear hsm
    by_cases hlt : k < 16
    · rcases hit_or y i (8 * N) k HY.out with ⟨g1, ht, g3⟩ | ⟨g1, ht, g3⟩ | ⟨g1, ht⟩
      · have hw1 : bw p y i (8 * N) (k + 1) = flipB (bw p y i (8 * N) k) (i + k) := by show (if _ then _ else _) = _; rw [if_pos g1]
        have cf : ∀ w, Calls Try.prog 25 #[.string (bw p y i (8 * N) k), .int .i64 ((i : Int) + (k : Int))] w fun e w' => e = .returned (.string (bw p y i (8 * N) (k + 1))) ∧ Same w w' := fun w => by
          rw [hw1]
          exact flip_any (bw p y i (8 * N) k) (by rw [bw_size]; exact HPM.out) (i + k) (by rw [bw_size, hN]; exact g3) w
        have g3' : (i : Int) + (k : Int) < 8 * (N : Int) := by omega
        have CF := Lib.hid cf; clear cf hw1 g1 g3
        generalize bw p y i (8 * N) k = b0 at *
        generalize hb1 : bw p y i (8 * N) (k + 1) = b1 at *
        have HB1 := Lib.hid hb1; clear hb1
        go_wp2_with (go_at_call 25; with_reducible refine (CF.out _).mono ?_; rintro e w4 ⟨rfl, h⟩; have H' := Lib.hid (HSM.out.trans h); clear h HSM; have HSM := H'; clear H')
        go_roundw
        case rel => exact ⟨k + 1, by omega, by go_num, by rw [HB1.out], HSM.out⟩
        case measure => simp [intOf]; omega
      · have hw1 : bw p y i (8 * N) (k + 1) = bw p y i (8 * N) k := by show (if _ then _ else _) = _; rw [if_neg (by rw [g1]; decide)]
        have g3' : ¬ (i : Int) + (k : Int) < 8 * (N : Int) := by omega
        have HB1 := Lib.hid hw1; clear hw1 g1 g3
        generalize bw p y i (8 * N) k = b0 at *
        go_wp2
        go_roundw
        case rel => exact ⟨k + 1, by omega, by go_num, by rw [HB1.out], HSM.out⟩
        case measure => simp [intOf]; omega
      · have hw1 : bw p y i (8 * N) (k + 1) = bw p y i (8 * N) k := by show (if _ then _ else _) = _; rw [if_neg (by rw [g1]; decide)]
        have HB1 := Lib.hid hw1; clear hw1 g1
        generalize bw p y i (8 * N) k = b0 at *
        go_wp2
        go_roundw
        case rel => exact ⟨k + 1, by omega, by go_num, by rw [HB1.out], HSM.out⟩
        case measure => simp [intOf]; omega
    · obtain rfl : k = 16 := by omega
      generalize bw p y i (8 * N) 16 = W at *
      obtain ⟨e1, e2, e3⟩ := HE5.out
      have hmm := HMM.out
      go_wp2_with (go_at_call 23; with_reducible refine (C5.out _).mono ?_; rintro e w4 ⟨rfl, h⟩; have H' := Lib.hid (HSM.out.trans h); clear h HSM; have HSM := H'; clear H')
      clear hmm e1 e2 e3
      have HG := Lib.hid HSM.out.size
      have HOWN := Lib.hid (World.ownsMap_made w4 Try.prog 3 (plainElem (H := Unit) Try.prog 4))
      have HS5 := Lib.hid (HSM.out.alloc (.map #[] 0))
      generalize w4.alloc (.map #[] 0) = w5 at *
      generalize w4.heap.size = g at *
      go_loopw [22, 123] (fun v c wr => ∃ (k : Nat) (l : List Nat) (M : ByteArray) (D : DataW Unit), k ≤ zs.length ∧ c = .int .i64 k ∧ v = .string M ∧ M.size = N ∧ syn M = xs l ∧ l.Nodup ∧ (∀ j ∈ l, j < 8 * N) ∧ Holds D l ∧ wr.ownsMap Try.prog 3 (plainElem Try.prog 4) g k D ∧ Same w wr) (fun _ c _ => zs.length - (intOf c).toNat)
      case atStart => exact ⟨0, [], p, .map [], Nat.zero_le _, rfl, rfl, hN, HS0.out, List.nodup_nil, by simp, Holds.none, HOWN.out, HS5.out⟩
      case round =>
        obtain ⟨k, l, M, D, hk, rfl, rfl, hM, hsM, hnd, hlb, hD, hown, hsm⟩ := hrel
        have HSM2 := Lib.hid hsm; clear hsm
        have HM := Lib.hid hM; clear hM
        have HQ := Lib.hid (And.intro hsM (And.intro hnd hlb)); clear hsM hnd hlb
        have HD := Lib.hid hD; clear hD
        have HO := Lib.hid hown; clear hown
        by_cases hlt : k < zs.length
        · obtain ⟨hz0, ⟨b, off, cap', e1, e2, hcell⟩ | ⟨_, _, _, e2⟩⟩ := HZS.out
          · obtain ⟨rfl, _, rfl⟩ : ob = some ⟨b, off, none⟩ ∧ zs.length = zs.length ∧ cap = cap' := by simpa using e1
            have hc := HSM2.out.cell (hcell k hlt)
            have hz := hz0 (zs.getD k 0) (by rw [List.getD_eq_getElem?_getD, List.getElem?_eq_getElem hlt]; exact List.getElem_mem hlt)
            have HC := Lib.hid hcell; clear hcell
            clear e1 e2
            have HZ0 := Lib.hid hz0; clear hz0
            generalize zs.getD k 0 = z at *
            obtain ⟨j, hj⟩ : ∃ j : Nat, j = z % (8 * N) := ⟨_, rfl⟩
            have hjn : j < 8 * N := by rw [hj]; exact Nat.mod_lt _ (by omega)
            have hjx : (z : Int) % (8 * (N : Int)) = (j : Int) := by rw [hj]; simp
            have hz2 : (z : Int) ≤ 65535 := by omega
            have HKEY := Lib.hid (key_of j (by omega))
            have hat := HD.out.at j
            by_cases hjl : j ∈ l
            · rw [decide_eq_true hjl] at hat
              have HAT := Lib.hid hat; clear hat
              clear hz hj hjl
              have HJN := Lib.hid hjn; clear hjn
              have hlook := lookup_bool HO.out law_int Try.underlying49 Try.underlying4 (zero_bool _) HKEY.out HAT.out
              go_wp2
              go_roundw
              case rel => exact ⟨k + 1, l, M, D, by omega, by go_num, rfl, HM.out, HQ.out.1, HQ.out.2.1, HQ.out.2.2, HD.out, HO.out.mono (by omega), HSM2.out⟩
              case measure => simp [intOf]; omega
            · rw [decide_eq_false hjl] at hat
              have HAT := Lib.hid hat; clear hat
              have HJL := Lib.hid hjl; clear hjl
              clear hz hj
              have HJN := Lib.hid hjn; clear hjn
              have cf := fun w => flip_any M (by rw [HM.out]; unfold maxLen; omega) j (by rw [HM.out]; exact HJN.out) w
              have CF := Lib.hid cf; clear cf
              have hlook := lookup_bool HO.out law_int Try.underlying49 Try.underlying4 (zero_bool _) HKEY.out HAT.out
              obtain ⟨w6, hupd, hown1, hgrow1⟩ := HO.out.update law_int Try.underlying49 (by unfold maxLen; omega) HKEY.out (plainElem_bool Try.underlying4 true)
              have HO1 := Lib.hid hown1
              have HS6 := Lib.hid (HSM2.out.grown hgrow1 HG.out)
              clear hown1 hgrow1
              go_wp2_with (first
                | (go_at_call 25; with_reducible refine (CF.out _).mono ?_; rintro e w7 ⟨rfl, h⟩; have HS7 := Lib.hid (HS6.out.trans h); have HO7 := Lib.hid (ownsMap_same HO1.out h); clear h)
                | go_in)
              go_roundw
              case rel =>
                refine ⟨k + 1, j :: l, flipB M j, _, by omega, by go_num, rfl, by rw [flipB_size, HM.out], ?_, List.nodup_cons.2 ⟨HJL.out, HQ.out.2.1⟩, ?_, HD.out.put HJL.out, HO7.out, HS7.out⟩
                · rw [syn_flip M (by rw [HM.out]; omega) j (by rw [HM.out]; exact HJN.out), HQ.out.1]; rfl
                · intro i' hi'
                  rcases List.mem_cons.1 hi' with rfl | h
                  · exact HJN.out
                  · exact HQ.out.2.2 _ h
              case measure => simp [intOf]; omega
          · rw [e2] at hlt; exact absurd hlt (by simp)
        · obtain rfl : k = zs.length := by omega
          obtain ⟨T6, E6, c6, hE6⟩ := check_m M l N HM.out (by omega) (by omega) HQ.out.1 HQ.out.2.1 HQ.out.2.2
          have hsz := HD.out.size
          rw [← hsz] at hE6
          have C6 := Lib.hid c6; clear c6 hsz
          generalize hL : Maps.size D = L at *
          have HL := Lib.hid hL; clear hL
          rcases hE6 with ⟨f1, f2⟩ | ⟨f1, f2, f3⟩ | ⟨f1, f2⟩
          all_goals
            go_wp2_with (first
              | (go_at_call 23; with_reducible refine (C6.out _).mono ?_; rintro e w6 ⟨rfl, h⟩; have HS6 := Lib.hid (HSM2.out.trans h); have hlen := (ownsMap_same HO.out h).len Try.underlying49 3; rw [HL.out] at hlen; clear h)
              | go_in)
            go_ret
            exact ⟨rfl, HS6.out⟩
set_option linter.unusedVariables false in
set_option maxRecDepth 100000 in
theorem walk (w : World) (data : ByteArray) (hd : data.size ≤ maxLen) (x y : Int) (hx : 0 ≤ x ∧ x ≤ 65535) (hy : 0 ≤ y ∧ y ≤ 65535) (sl : Value) (zs : List Nat) (hzl : zs.length ≤ maxLen) (hzs : U16s w sl zs) :
    Calls Try.prog 9 #[.string data, .agg #[.int .u16 x, .int .u16 y], sl] w fun e w' => e = .returned (.bool true) ∧ Same w w' := by
  obtain ⟨x, rfl⟩ := Int.eq_ofNat_of_zero_le hx.1
  obtain ⟨y, rfl⟩ := Int.eq_ofNat_of_zero_le hy.1
  by_cases h1 : data.size ≤ 300 ∧ zs.length ≤ 15
  · exact main data (prot data) h1.1 (data.size + 2) (prot_size data) rfl (fun w => protect_any data (by omega) w) (syn_prot data) x y (by omega) (by omega) sl zs w hzs h1.2
  · obtain ⟨ob, cap, hsl⟩ : ∃ ob cap, sl = .slice ob zs.length cap := by
      rcases hzs.2 with ⟨b, off, cap, e1, _⟩ | ⟨ao, cap, e1, rfl⟩
      · exact ⟨_, cap, e1⟩
      · exact ⟨ao, cap, e1⟩
    subst hsl
    clear hzs
    unfold maxLen at hd hzl
    have hor : (300 : Int) < (data.size : Int) ∨ (¬ (300 : Int) < (data.size : Int) ∧ (15 : Int) < (zs.length : Int)) := by omega
    clear h1 hx hy
    rcases hor with g | ⟨g1, g2⟩
    all_goals
      go_enter Try.func9, Try.ntmps9
      go_wp2_with (go_at_call 11; refine (awake_any _).mono ?_; rintro e w1 ⟨rfl, h⟩; obtain ⟨k0, k1, hs⟩ := box2 h; have H := Lib.hid hs; clear h hs)
      go_ret
      exact ⟨rfl, H.out⟩
open Go.ChangeShapes Go.WideShapes Go.ChangeAt
open Go.ChangeMaps (shut_string open_string)
theorem own : ownKnob Try.prog.godebug = none := by kernel_rfl

set_option maxRecDepth 100000 in
theorem lifted (os : Os) (started : os.Started) (H : Type) (enc : TypeId × Value → H) :
    ReturnsInHanded {} Try.checked os 9 .any (Rows.crcFindsSpec.pre6 enc Try.prog Try.f9 Rows.crcFindsRow.domain false) (Rows.crcFindsSpec.post enc Try.prog Try.f9 false true false false) := by
  refine returnsInHanded_of_change (C := Try.checked) own started (by kernel_rfl) Try.func9
    (ChangeSpec.witness6 (enc := enc) (C := Try.checked) false ⟨#[], #[.string ⟨#[]⟩, .agg #[.int .u16 0, .int .u16 0], .slice none 0 0], []⟩ 8 (by kernel_rfl) (by kernel_rfl) (by kernel_rfl) (by kernel_rfl)) ?_
  intro W base args ds gs before hval0 hW hcnd _
  have hval : ∀ (j : Nat) t v, Try.f9.params[j]? = some t → args[j]? = some v → Value.okWide Try.prog W .any base t v := hval0
  have hW' := hW
  obtain ⟨p, q, hA0, hV, rfl, hfz, hnd⟩ := hW
  have hA : DataW.TrodAll enc Try.prog W 0 (fun _ => true) true Try.f9.params.toList args.toList ds p := hA0
  rw [Try.params9] at hA hval
  obtain ⟨v0, vs0, d0, ds0, p0, q0, hargs, rfl, rfl, h0, r0⟩ := trodAll_cons hA
  obtain ⟨v1, vs1, d1, ds1, p1, q1, rfl, rfl, rfl, h1, r1⟩ := trodAll_cons r0
  obtain ⟨v2, vs2, d2, ds2, p2, q2, rfl, rfl, rfl, h2, r2⟩ := trodAll_cons r1
  obtain ⟨rfl, rfl, rfl⟩ := trodAll_nil r2
  obtain rfl : args = #[v0, v1, v2] := by cases args; simp_all
  obtain ⟨rfl, rfl⟩ := trodVars_none hV
  obtain ⟨a0, rfl, rfl, rfl, w0⟩ := open_string Try.underlying9 (hval 0 9 v0 rfl rfl) h0
  obtain ⟨x1, y1, rfl, bx1, be1⟩ := open_two16 (hval 1 44 v1 rfl rfl) h1
  obtain ⟨zs2, hzl2, hz2⟩ := open_u16list (hval 2 45 v2 rfl rfl) h2
  clear hA0 hval0
  try simp only [List.append_nil] at hW'
  try simp only [List.nil_append] at hW'
  have hlt : ∀ x ∈ p1 ++ p2, x.block < W.heap.size := fun x hx => by
    have := hW'.lt x (by simpa using hx)
    simpa using this
  refine (walk W a0 w0 x1 y1 bx1 be1 v2 zs2 hzl2 hz2).mono fun e W' ⟨he, hg⟩ => ?_
  subst he
  exact ⟨_, rfl, _, _, _, [], _, [], hW', trodAll_cons_mk (shut_bool Try.underlying4 _) trodAll_mk0, trodAll_cons_mk (shut_string Try.underlying9 w0) (trodAll_cons_mk (Below.trod Try.laidOut (by kernel_rfl) (of_decide_eq_true (by kernel_rfl)) h1 (Same.toBelow hg) (fun x hx => hlt x (by simp [hx]))) (trodAll_cons_mk (Below.trod Try.laidOut (by kernel_rfl) (of_decide_eq_true (by kernel_rfl)) h2 (Same.toBelow hg) (fun x hx => hlt x (by simp [hx]))) trodAll_mk0)), rfl, (Same.toBelow hg).frame _, fun h => by cases h⟩

theorem over : Rows.crcFindsRow.holds Try.pinned (OpenSpec.ofChange Rows.crcFindsSpec) :=
  OpenClaim.holds_of_wide 9 Try.f9 rfl rfl rfl rfl rfl rfl rfl ⟨rfl, rfl, rfl, rfl, rfl⟩ rfl rfl rfl rfl rfl (by kernel_rfl) Try.func9 (by kernel_rfl)
    (of_decide_eq_true (by kernel_rfl)) (by unfold Func.isWrapper; first | (rw [if_pos (by decide +kernel)]; kernel_rfl) | (rw [if_neg (by decide +kernel)]; exact ⟨rfl, rfl⟩))
    (fun os started H enc _ => lifted os started H enc)

theorem proved : Rows.CrcFindsSaid :=
  over
end crcFinds
end Go.Proofs.Ytgeodffcbphepaa
