/- FrameDecodes: for all bytes the law returns true: package and reference read the same. No condition on the input. -/
import Derived.Test.YtilpbbpdchbdfaaFGa
import Derived.Test.YtilpbbpdchbdfaaFGb
import Derived.Test.YtilpbbpdchbdfaaFGc
import Derived.Test.YtilpbbpdchbdfaaFGd
import Derived.Test.YtilpbbpdchbdfaaFAw
namespace Go.Proofs.Ytilpbbpdchbdfaa
open Go.RowKit

theorem dec_out {data : ByteArray} (h : ¬ 127 < data.size) (h2 : (cut data).2 = 0) {st : Nat × Int} {g : Fr} (hX : rdX (cut data).1 = (st, g)) (E : Int) (hE : Bit.rclose (cut data).1 st = E) :
    ((E != 0) = true ∧ decR data = (fr0, 10)) ∨ (E = 0 ∧ chk g = 1 ∧ decR data = (fr0, 10)) ∨ (E = 0 ∧ chk g = 0 ∧ decR data = (g, 0)) := by
  unfold decR
  rw [if_neg h, if_neg (by simp [h2]), hX]
  simp only
  rw [hE]
  by_cases h3 : E = 0
  · rcases chk_01 g with ⟨g1, g2⟩ | ⟨g1, g2⟩
    · rw [if_pos ⟨h3, g1⟩]; exact .inr (.inr ⟨h3, g2, rfl⟩)
    · rw [if_neg (by rw [g1]; simp)]; exact .inr (.inl ⟨h3, g2, rfl⟩)
  · rw [if_neg (fun x => h3 x.1)]; exact .inl ⟨by simpa using h3, rfl⟩
theorem other_chk (g : Fr) (h : ¬ (g.k = 1 ∨ g.k = 2 ∨ g.k = 3 ∨ g.k = 4)) : chk g = 1 := by
  rcases chk_01 g with ⟨g1, _⟩ | ⟨_, g2⟩
  · exact absurd (by have := (okB_iff g).1 g1; unfold Ok at this; omega) h
  · exact g2
theorem own1 {S : ByteArray} {x : (Nat × Int) × Fr} (h : x.2.k = 1) : stOwn (Rc.rU S) (Rc.rS S) (Rc.rT S) x = stT (Rc.rT S) (stU (Rc.rU S) 6 16 (stU (Rc.rU S) 5 8 x)) := by unfold stOwn; rw [if_pos h]
theorem own2 {S : ByteArray} {x : (Nat × Int) × Fr} (h : x.2.k = 2) : stOwn (Rc.rU S) (Rc.rS S) (Rc.rT S) x = stS (Rc.rS S) 16 x := by unfold stOwn; rw [if_neg (by omega), if_pos h]
theorem own3 {S : ByteArray} {x : (Nat × Int) × Fr} (h : x.2.k = 3) : stOwn (Rc.rU S) (Rc.rS S) (Rc.rT S) x = stT (Rc.rT S) (stU (Rc.rU S) 10 16 (stU (Rc.rU S) 9 16 (stU (Rc.rU S) 8 27 x))) := by unfold stOwn; rw [if_neg (by omega), if_neg (by omega), if_pos h]
theorem own4 {S : ByteArray} {x : (Nat × Int) × Fr} (h : x.2.k = 4) : stOwn (Rc.rU S) (Rc.rS S) (Rc.rT S) x = stT (Rc.rT S) x := by unfold stOwn; rw [if_neg (by omega), if_neg (by omega), if_neg (by omega), if_pos h]
theorem own9 {S : ByteArray} {x : (Nat × Int) × Fr} (h : ¬ (x.2.k = 1 ∨ x.2.k = 2 ∨ x.2.k = 3 ∨ x.2.k = 4)) : stOwn (Rc.rU S) (Rc.rS S) (Rc.rT S) x = x := by unfold stOwn; rw [if_neg (by omega), if_neg (by omega), if_neg (by omega), if_neg (by omega)]
theorem rdX_eq (S : ByteArray) : rdX S = stOwn (Rc.rU S) (Rc.rS S) (Rc.rT S) (stU (Rc.rU S) 4 8 (stU (Rc.rU S) 3 8 (stG (Rc.rU S) (stU (Rc.rU S) 1 5 (stU (Rc.rU S) 0 3 ((0, 0), fr0)))))) := rfl
theorem decode2_t (data : ByteArray) (h : ¬ 127 < data.size) (h2 : (cut data).2 = 0) {s1 s2 s3 s4 s5 s6 : Nat × Int} {k s t l q : Int} (e1 : Rc.rU (cut data).1 3 0 (0, 0) = (s1, k)) (e2 : Rc.rU (cut data).1 5 0 s1 = (s2, s)) (e3 : Bit.rflag (cut data).1 s2 = (s3, true)) (e4 : Rc.rU (cut data).1 5 0 s3 = (s4, t)) (e5 : Rc.rU (cut data).1 8 0 s4 = (s5, l)) (e6 : Rc.rU (cut data).1 8 0 s5 = (s6, q)) (w : World) :
    Calls Try.prog 21 #[.string data] w fun e w' => e = .returned (.tuple #[frV (decR data).1, .int .i64 (decR data).2]) ∧ Same w w' := by
  have k1 := fun w1 => cCheck2_any data (by unfold maxLen; omega) w1
  rw [h2] at k1
  have hz : (cut data).1.size ≤ 300 := by have := cut_size data; omega
  have hd : decide ((127 : Int) < (data.size : Int)) = false := decide_eq_false (by omega)
  by_cases hk1 : k = 1
  · subst hk1
    rcases e7 : Rc.rU (cut data).1 8 0 s6 with ⟨s7, fl⟩
    rcases e8 : Rc.rU (cut data).1 16 0 s7 with ⟨s8, n⟩
    rcases e9 : Rc.rT (cut data).1 127 ⟨#[]⟩ s8 with ⟨s9, d⟩
    have hX : rdX (cut data).1 = (s9, ⟨1, s, t, l, q, fl, n, 0, 0, 0, 0, d⟩) := by
      rw [rdX_eq, stU_eq e1 rfl, stU_eq e2 rfl, stG_yes e3 e4 rfl, stU_eq e5 rfl, stU_eq e6 rfl, own1 rfl, stU_eq e7 rfl, stU_eq e8 rfl, stT_eq e9 rfl]
      rfl
    exact decode2_k1t data hd _ hz k1 s1 s2 s3 s4 s5 s6 s7 s8 s9 s l q t fl n d e1 e2 e3 e4 e5 e6 e7 e8 e9 _ rfl _ rfl _ (dec_out h h2 hX _ rfl) w
  · by_cases hk2 : k = 2
    · subst hk2
      rcases e7 : Rc.rS (cut data).1 16 0 s6 with ⟨s7, e⟩
      have hX : rdX (cut data).1 = (s7, ⟨2, s, t, l, q, 0, 0, e, 0, 0, 0, ⟨#[]⟩⟩) := by
        rw [rdX_eq, stU_eq e1 rfl, stU_eq e2 rfl, stG_yes e3 e4 rfl, stU_eq e5 rfl, stU_eq e6 rfl, own2 rfl, stS_eq e7 rfl]
        rfl
      exact decode2_k2t data hd _ hz k1 s1 s2 s3 s4 s5 s6 s7 s l q t e e1 e2 e3 e4 e5 e6 e7 _ rfl _ rfl _ (dec_out h h2 hX _ rfl) w
    · by_cases hk3 : k = 3
      · subst hk3
        rcases e7 : Rc.rU (cut data).1 27 0 s6 with ⟨s7, sl⟩
        rcases e8 : Rc.rU (cut data).1 16 0 s7 with ⟨s8, r⟩
        rcases e9 : Rc.rU (cut data).1 16 0 s8 with ⟨s9, ep⟩
        rcases e10 : Rc.rT (cut data).1 127 ⟨#[]⟩ s9 with ⟨s10, d⟩
        have hX : rdX (cut data).1 = (s10, ⟨3, s, t, l, q, 0, 0, 0, sl, r, ep, d⟩) := by
          rw [rdX_eq, stU_eq e1 rfl, stU_eq e2 rfl, stG_yes e3 e4 rfl, stU_eq e5 rfl, stU_eq e6 rfl, own3 rfl, stU_eq e7 rfl, stU_eq e8 rfl, stU_eq e9 rfl, stT_eq e10 rfl]
          rfl
        exact decode2_k3t data hd _ hz k1 s1 s2 s3 s4 s5 s6 s7 s8 s9 s10 s l q t sl r ep d e1 e2 e3 e4 e5 e6 e7 e8 e9 e10 _ rfl _ rfl _ (dec_out h h2 hX _ rfl) w
      · by_cases hk4 : k = 4
        · subst hk4
          rcases e7 : Rc.rT (cut data).1 127 ⟨#[]⟩ s6 with ⟨s7, d⟩
          have hX : rdX (cut data).1 = (s7, ⟨4, s, t, l, q, 0, 0, 0, 0, 0, 0, d⟩) := by
            rw [rdX_eq, stU_eq e1 rfl, stU_eq e2 rfl, stG_yes e3 e4 rfl, stU_eq e5 rfl, stU_eq e6 rfl, own4 rfl, stT_eq e7 rfl]
            rfl
          exact decode2_k4t data hd _ hz k1 s1 s2 s3 s4 s5 s6 s7 s l q t d e1 e2 e3 e4 e5 e6 e7 _ rfl _ rfl _ (dec_out h h2 hX _ rfl) w
        · have hn : ¬ (k = 1 ∨ k = 2 ∨ k = 3 ∨ k = 4) := by omega
          have hX : rdX (cut data).1 = (s6, ⟨k, s, t, l, q, 0, 0, 0, 0, 0, 0, ⟨#[]⟩⟩) := by
            rw [rdX_eq, stU_eq e1 rfl, stU_eq e2 rfl, stG_yes e3 e4 rfl, stU_eq e5 rfl, stU_eq e6 rfl, own9 hn]
            rfl
          have hR : decR data = (fr0, 10) := by
            rcases dec_out h h2 hX _ rfl with ⟨_, g⟩ | ⟨_, _, g⟩ | ⟨_, g, _⟩
            · exact g
            · exact g
            · rw [other_chk _ hn] at g; exact absurd g (by decide)
          rw [hR]
          rcases e7 : Rc.rT (cut data).1 127 ⟨#[]⟩ s6 with ⟨s7, d⟩
          refine decode2_k9t k (by simpa using hk1) (by simpa using hk2) (by simpa using hk3) (by simpa using hk2) data hd _ hz k1 s1 s2 s3 s4 s5 s6 s7 s l q t d e1 e2 e3 e4 e5 e6 e7 _ rfl _ (other_chk _ hn) (fr0, 10) ?_ w
          by_cases h0 : Bit.rclose (cut data).1 s7 = 0
          · exact .inr (.inl ⟨h0, rfl, rfl⟩)
          · exact .inl ⟨by simpa using h0, rfl⟩
theorem decode2_n (data : ByteArray) (h : ¬ 127 < data.size) (h2 : (cut data).2 = 0) {s1 s2 s3 s4 s5 : Nat × Int} {k s l q : Int} (e1 : Rc.rU (cut data).1 3 0 (0, 0) = (s1, k)) (e2 : Rc.rU (cut data).1 5 0 s1 = (s2, s)) (e3 : Bit.rflag (cut data).1 s2 = (s3, false)) (e4 : Rc.rU (cut data).1 8 0 s3 = (s4, l)) (e5 : Rc.rU (cut data).1 8 0 s4 = (s5, q)) (w : World) :
    Calls Try.prog 21 #[.string data] w fun e w' => e = .returned (.tuple #[frV (decR data).1, .int .i64 (decR data).2]) ∧ Same w w' := by
  have k1 := fun w1 => cCheck2_any data (by unfold maxLen; omega) w1
  rw [h2] at k1
  have hz : (cut data).1.size ≤ 300 := by have := cut_size data; omega
  have hd : decide ((127 : Int) < (data.size : Int)) = false := decide_eq_false (by omega)
  by_cases hk1 : k = 1
  · subst hk1
    rcases e6 : Rc.rU (cut data).1 8 0 s5 with ⟨s6, fl⟩
    rcases e7 : Rc.rU (cut data).1 16 0 s6 with ⟨s7, n⟩
    rcases e8 : Rc.rT (cut data).1 127 ⟨#[]⟩ s7 with ⟨s8, d⟩
    have hX : rdX (cut data).1 = (s8, ⟨1, s, (-1), l, q, fl, n, 0, 0, 0, 0, d⟩) := by
      rw [rdX_eq, stU_eq e1 rfl, stU_eq e2 rfl, stG_no e3 rfl, stU_eq e4 rfl, stU_eq e5 rfl, own1 rfl, stU_eq e6 rfl, stU_eq e7 rfl, stT_eq e8 rfl]
      rfl
    exact decode2_k1n data hd _ hz k1 s1 s2 s3 s4 s5 s6 s7 s8 s l q fl n d e1 e2 e3 e4 e5 e6 e7 e8 _ rfl _ rfl _ (dec_out h h2 hX _ rfl) w
  · by_cases hk2 : k = 2
    · subst hk2
      rcases e6 : Rc.rS (cut data).1 16 0 s5 with ⟨s6, e⟩
      have hX : rdX (cut data).1 = (s6, ⟨2, s, (-1), l, q, 0, 0, e, 0, 0, 0, ⟨#[]⟩⟩) := by
        rw [rdX_eq, stU_eq e1 rfl, stU_eq e2 rfl, stG_no e3 rfl, stU_eq e4 rfl, stU_eq e5 rfl, own2 rfl, stS_eq e6 rfl]
        rfl
      exact decode2_k2n data hd _ hz k1 s1 s2 s3 s4 s5 s6 s l q e e1 e2 e3 e4 e5 e6 _ rfl _ rfl _ (dec_out h h2 hX _ rfl) w
    · by_cases hk3 : k = 3
      · subst hk3
        rcases e6 : Rc.rU (cut data).1 27 0 s5 with ⟨s6, sl⟩
        rcases e7 : Rc.rU (cut data).1 16 0 s6 with ⟨s7, r⟩
        rcases e8 : Rc.rU (cut data).1 16 0 s7 with ⟨s8, ep⟩
        rcases e9 : Rc.rT (cut data).1 127 ⟨#[]⟩ s8 with ⟨s9, d⟩
        have hX : rdX (cut data).1 = (s9, ⟨3, s, (-1), l, q, 0, 0, 0, sl, r, ep, d⟩) := by
          rw [rdX_eq, stU_eq e1 rfl, stU_eq e2 rfl, stG_no e3 rfl, stU_eq e4 rfl, stU_eq e5 rfl, own3 rfl, stU_eq e6 rfl, stU_eq e7 rfl, stU_eq e8 rfl, stT_eq e9 rfl]
          rfl
        exact decode2_k3n data hd _ hz k1 s1 s2 s3 s4 s5 s6 s7 s8 s9 s l q sl r ep d e1 e2 e3 e4 e5 e6 e7 e8 e9 _ rfl _ rfl _ (dec_out h h2 hX _ rfl) w
      · by_cases hk4 : k = 4
        · subst hk4
          rcases e6 : Rc.rT (cut data).1 127 ⟨#[]⟩ s5 with ⟨s6, d⟩
          have hX : rdX (cut data).1 = (s6, ⟨4, s, (-1), l, q, 0, 0, 0, 0, 0, 0, d⟩) := by
            rw [rdX_eq, stU_eq e1 rfl, stU_eq e2 rfl, stG_no e3 rfl, stU_eq e4 rfl, stU_eq e5 rfl, own4 rfl, stT_eq e6 rfl]
            rfl
          exact decode2_k4n data hd _ hz k1 s1 s2 s3 s4 s5 s6 s l q d e1 e2 e3 e4 e5 e6 _ rfl _ rfl _ (dec_out h h2 hX _ rfl) w
        · have hn : ¬ (k = 1 ∨ k = 2 ∨ k = 3 ∨ k = 4) := by omega
          have hX : rdX (cut data).1 = (s5, ⟨k, s, (-1), l, q, 0, 0, 0, 0, 0, 0, ⟨#[]⟩⟩) := by
            rw [rdX_eq, stU_eq e1 rfl, stU_eq e2 rfl, stG_no e3 rfl, stU_eq e4 rfl, stU_eq e5 rfl, own9 hn]
            rfl
          have hR : decR data = (fr0, 10) := by
            rcases dec_out h h2 hX _ rfl with ⟨_, g⟩ | ⟨_, _, g⟩ | ⟨_, g, _⟩
            · exact g
            · exact g
            · rw [other_chk _ hn] at g; exact absurd g (by decide)
          rw [hR]
          rcases e6 : Rc.rT (cut data).1 127 ⟨#[]⟩ s5 with ⟨s6, d⟩
          refine decode2_k9n k (by simpa using hk1) (by simpa using hk2) (by simpa using hk3) (by simpa using hk2) data hd _ hz k1 s1 s2 s3 s4 s5 s6 s l q d e1 e2 e3 e4 e5 e6 _ rfl _ (other_chk _ hn) (fr0, 10) ?_ w
          by_cases h0 : Bit.rclose (cut data).1 s6 = 0
          · exact .inr (.inl ⟨h0, rfl, rfl⟩)
          · exact .inl ⟨by simpa using h0, rfl⟩
theorem decode2_any (data : ByteArray) (w : World) : Calls Try.prog 21 #[.string data] w fun e w' => e = .returned (.tuple #[frV (decR data).1, .int .i64 (decR data).2]) ∧ Same w w' := by
  by_cases h : 127 < data.size
  · have e : decR data = (fr0, 8) := by unfold decR; rw [if_pos h]
    rw [e]
    exact decode2_1 data (decide_eq_true (by omega)) w
  · by_cases h2 : (cut data).2 = 0
    · rcases e1 : Rc.rU (cut data).1 3 0 (0, 0) with ⟨s1, k⟩
      rcases e2 : Rc.rU (cut data).1 5 0 s1 with ⟨s2, s⟩
      rcases e3 : Bit.rflag (cut data).1 s2 with ⟨s3, b⟩
      cases b with
      | true =>
        rcases e4 : Rc.rU (cut data).1 5 0 s3 with ⟨s4, t⟩
        rcases e5 : Rc.rU (cut data).1 8 0 s4 with ⟨s5, l⟩
        rcases e6 : Rc.rU (cut data).1 8 0 s5 with ⟨s6, q⟩
        exact decode2_t data h h2 e1 e2 e3 e4 e5 e6 w
      | false =>
        rcases e4 : Rc.rU (cut data).1 8 0 s3 with ⟨s4, l⟩
        rcases e5 : Rc.rU (cut data).1 8 0 s4 with ⟨s5, q⟩
        exact decode2_n data h h2 e1 e2 e3 e4 e5 w
    · have e : decR data = (fr0, (cut data).2) := by unfold decR; rw [if_neg h, if_pos h2]
      rw [e]
      exact decode2_2 data (decide_eq_false (by omega)) _ _ (by simpa using h2) (fun w1 => cCheck2_any data (by unfold maxLen; omega) w1) w
namespace frameDecodes
theorem two_at {w2 w' : World} {b : Nat} {f a : Fr} (hb : w2.heap[b]? = some (.cells (frC f) 23 (0, 0))) (k : Same (w2.alloc (.cells (frC a) 23)) w') :
    w'.heap[b]? = some (.cells (frC f) 23 (0, 0)) ∧ w'.heap[w2.heap.size]? = some (.cells (frC a) 23 (0, 0)) := by
  refine ⟨k.at ?_, k.at (heap_alloc_new w2 _)⟩
  rw [Below.heap_alloc _ _ _ (lt_of_block hb)]; exact hb
set_option maxRecDepth 100000 in
set_option maxHeartbeats 1600000 in
theorem walk (data : ByteArray) (_hd : data.size ≤ 9223372036854775807) (w : World) :
    Calls Try.prog 4 #[.string data] w fun e w' => e = .returned (.bool true) ∧ Same w w' := by
  have k1 := fun w1 => decode_any data w1
  have k2 := fun w1 => decode2_any data w1
  generalize decR data = R at *
  obtain ⟨f, E⟩ := R
  dsimp only at k1 k2
  have b0 : (f.d.toList == f.d.toList) = true := by simp
  have b1 : (E == E) = true := by simp
  have K1 := Lib.hid k1; have K2 := Lib.hid k2
  clear k1 k2
  cases hu : decide ((300 : Int) < (data.size : Int)) with
  | true =>
    go_enter Try.func4, Try.ntmps4
    go_wp2_with (go_at_call 11; (with_reducible refine (awake_any _).mono ?_); rintro E1 w1 ⟨rfl, hw⟩; have HX := Lib.hid hw; clear hw)
    go_ret
    exact ⟨rfl, HX.out⟩
  | false =>
    go_enter Try.func4, Try.ntmps4
    go_wp2_with (first
      | (go_at_call 11; (with_reducible refine (awake_any _).mono ?_); rintro E1 w1 ⟨rfl, hw⟩; have HX := Lib.hid hw; clear hw)
      | (go_at_call 20; (with_reducible refine (K1.out _).mono ?_); rintro E1 w2 ⟨rfl, hw⟩; have HY := Lib.hid ((HX.out.trans hw).alloc (.cells (frC f) 23)); clear hw)
      | (go_at_call 21; (with_reducible refine (K2.out _).mono ?_); rintro E1 w3 ⟨rfl, hw⟩; have HT := two_at (f := f) (a := f) (hw.at (heap_alloc_new w2 (.cells (frC f) 23))) (Same.refl _); obtain ⟨c0, c1, c2, c3, c4, c5, c6, c7, c8, c9, c10, c11⟩ := fr_cells HT.1; obtain ⟨d0, d1, d2, d3, d4, d5, d6, d7, d8, d9, d10, d11⟩ := fr_cells HT.2; have HZ := Lib.hid ((HY.out.trans hw).alloc (.cells (frC f) 23)); clear hw HT))
    all_goals
      go_ret
      exact ⟨rfl, HZ.out⟩

open Go.ChangeShapes Go.WideShapes Go.ChangeAt
open Go.ChangeMaps (shut_string open_string)
theorem own : ownKnob Try.prog.godebug = none := by kernel_rfl

set_option maxRecDepth 100000 in
theorem lifted (os : Os) (started : os.Started) (H : Type) (enc : TypeId × Value → H) :
    ReturnsInHanded {} Try.checked os 4 .any (Rows.frameDecodesSpec.pre6 enc Try.prog Try.f4 Rows.frameDecodesRow.domain false) (Rows.frameDecodesSpec.post enc Try.prog Try.f4 false true false false) := by
  refine returnsInHanded_of_change (C := Try.checked) own started (by kernel_rfl) Try.func4
    (ChangeSpec.witness6 (enc := enc) (C := Try.checked) false ⟨#[], #[.string ⟨#[]⟩], []⟩ 8 (by kernel_rfl) (by kernel_rfl) (by kernel_rfl) (by kernel_rfl)) ?_
  intro W base args ds gs before hval0 hW hcnd _
  have hval : ∀ (j : Nat) t v, Try.f4.params[j]? = some t → args[j]? = some v → Value.okWide Try.prog W .any base t v := hval0
  have hW' := hW
  obtain ⟨p, q, hA0, hV, rfl, hfz, hnd⟩ := hW
  have hA : DataW.TrodAll enc Try.prog W 0 (fun _ => true) true Try.f4.params.toList args.toList ds p := hA0
  rw [Try.params4] at hA hval
  obtain ⟨v0, vs0, d0, ds0, p0, q0, hargs, rfl, rfl, h0, r0⟩ := trodAll_cons hA
  obtain ⟨rfl, rfl, rfl⟩ := trodAll_nil r0
  obtain rfl : args = #[v0] := by cases args; simp_all
  obtain ⟨rfl, rfl⟩ := trodVars_none hV
  obtain ⟨a0, rfl, rfl, rfl, w0⟩ := open_string Try.underlying9 (hval 0 9 v0 rfl rfl) h0
  clear hA0 hval0
  try simp only [List.append_nil] at hW'
  try simp only [List.nil_append] at hW'
  refine (walk a0 w0 W).mono fun e W' ⟨he, hg⟩ => ?_
  subst he
  exact ⟨_, rfl, _, _, _, [], _, [], hW', trodAll_cons_mk (shut_bool Try.underlying4 _) trodAll_mk0, trodAll_cons_mk (shut_string Try.underlying9 w0) trodAll_mk0, rfl, (Same.toBelow hg).frame _, fun h => by cases h⟩

theorem over : Rows.frameDecodesRow.holds Try.pinned (OpenSpec.ofChange Rows.frameDecodesSpec) :=
  OpenClaim.holds_of_wide 4 Try.f4 rfl rfl rfl rfl rfl rfl rfl ⟨rfl, rfl, rfl, rfl, rfl⟩ rfl rfl rfl rfl rfl (by kernel_rfl) Try.func4 (by kernel_rfl)
    (of_decide_eq_true (by kernel_rfl)) (by unfold Func.isWrapper; first | (rw [if_pos (by decide +kernel)]; kernel_rfl) | (rw [if_neg (by decide +kernel)]; exact ⟨rfl, rfl⟩))
    (fun os started H enc _ => lifted os started H enc)

theorem proved : Rows.FrameDecodesSaid :=
  over
end frameDecodes
end Go.Proofs.Ytilpbbpdchbdfaa
