/- The bytes of a frame by the reference; its time and its room. -/
import Derived.Test.YtilpbbpdchbdfaaFS
import Derived.Test.YtilpbbpdchbdfaaF7
import Derived.Test.YtilpbbpdchbdfaaBRefW6
namespace Go.Proofs.Ytilpbbpdchbdfaa
open Go.RowKit

/-- The reference's writer at a, which the call has made. -/
def W2I (w0 : World) (a : Nat) (st : List Nat × Int) (w : World) : Prop :=
  ∃ d, Bit.Wr2 w a st d ∧ Same w0 w ∧ w0.heap.size ≤ a ∧ ∀ g, d = some g → w0.heap.size ≤ g
theorem W2I.call {w0 w1 : World} {a : Nat} {st st2 : List Nat × Int} {f : FuncId} {args : Array Value} {v : Ending} (h : W2I w0 a st w1)
    (hc : ∀ d, Bit.Wr2 w1 a st d → Calls Try.prog f args w1 fun e w' => e = v ∧ Bit.WrTo2 w1 a d st2 w') : Calls Try.prog f args w1 fun e w' => e = v ∧ W2I w0 a st2 w' := by
  obtain ⟨d, h1, h2, h3, h4⟩ := h
  refine (hc d h1).mono fun e w' ⟨he, d2, g1, g2, g3⟩ => ⟨he, d2, g1, ?_, h3, ?_⟩
  · refine Same.ofKeeps (h2.keeps.trans g2 (fun _ h => h) ?_)
    rintro i hi (rfl | hd)
    · omega
    · have := h4 i hd; omega
  · intro g hg
    rcases g3 g hg with h | h
    · exact h4 g h
    · have := h2.size; omega
theorem w2_new (w : World) : Calls Try.prog 31 #[] w fun e w' => e = .returned (.pointer (some ⟨w.heap.size, 0, none⟩)) ∧ W2I w w.heap.size ([], 0) w' :=
  (Bit.newWriter2_any w).mono fun e w' ⟨he, hw, hk⟩ => ⟨he, none, hw, Same.ofKeeps hk, Nat.le_refl _, fun g hg => by cases hg⟩
theorem w2_uns {w0 w1 : World} {a : Nat} {st : List Nat × Int} (wd x : Int) (hx : x ≤ 9223372036854775807) (h : W2I w0 a st w1) : Calls Try.prog 32 #[.pointer (some ⟨a, 0, none⟩), .int .i64 wd, .int .i64 x] w1 fun e w' => e = .returned (.tuple #[]) ∧ W2I w0 a (Bit.wuns wd x st) w' :=
  h.call fun d hd => Bit.unsigned2w_any w1 a st d hd wd x hx
theorem w2_sig {w0 w1 : World} {a : Nat} {st : List Nat × Int} (wd x : Int) (h : W2I w0 a st w1) : Calls Try.prog 34 #[.pointer (some ⟨a, 0, none⟩), .int .i64 wd, .int .i64 x] w1 fun e w' => e = .returned (.tuple #[]) ∧ W2I w0 a (Bit.wsig wd x st) w' :=
  h.call fun d hd => Bit.signed2w_any w1 a st d hd wd x
theorem w2_flag {w0 w1 : World} {a : Nat} {st : List Nat × Int} (b : Bool) (h : W2I w0 a st w1) : Calls Try.prog 33 #[.pointer (some ⟨a, 0, none⟩), .bool b] w1 fun e w' => e = .returned (.tuple #[]) ∧ W2I w0 a (Bit.wflag b st) w' :=
  h.call fun d hd => Bit.flag2w_any w1 a st d hd b
theorem w2_text {w0 w1 : World} {a : Nat} {st : List Nat × Int} (most : Int) (s : ByteArray) (h : W2I w0 a st w1) : Calls Try.prog 35 #[.pointer (some ⟨a, 0, none⟩), .int .i64 most, .string s] w1 fun e w' => e = .returned (.tuple #[]) ∧ W2I w0 a (Bit.wtext most s st) w' :=
  h.call fun d hd => Bit.text2w_any w1 a st d hd most s
theorem w2_bytes {w0 w1 : World} {a : Nat} {st st2 : List Nat × Int} (e : st = st2) (h : W2I w0 a st w1) : Calls Try.prog 36 #[.pointer (some ⟨a, 0, none⟩)] w1 fun e w' => e = .returned (.tuple #[.string (Bit.wbytes st2), .int .i64 st2.2]) ∧ Same w0 w' := by
  subst e
  obtain ⟨d, h1, h2, h3, h4⟩ := h
  exact (Bit.bytes2_any w1 a st d h1).mono fun _ _ ⟨he, hs⟩ => ⟨he, h2.trans (Same.ofKeeps hs)⟩
theorem W2I.same {w0 w1 : World} {a : Nat} {st : List Nat × Int} (h : W2I w0 a st w1) : Same w0 w1 := h.choose_spec.2.1
set_option maxRecDepth 100000 in
theorem encode2_1 (k s t l q fl n e sl r ep : Int) (d : ByteArray) (hc : chk ⟨k, s, t, l, q, fl, n, e, sl, r, ep, d⟩ = 1) (w : World) : Calls Try.prog 13 #[frV ⟨k, s, t, l, q, fl, n, e, sl, r, ep, d⟩] w fun e w' => e = .returned (.tuple #[.string ⟨#[]⟩, .int .i64 1]) ∧ Same w w' := by
  have hA := fun w1 => check2_any ⟨k, s, t, l, q, fl, n, e, sl, r, ep, d⟩ w1
  rw [hc] at hA
  have HA := Lib.hid hA
  clear hA hc
  have HS := Lib.hid ((Same.refl w).alloc (.cells (frC ⟨k, s, t, l, q, fl, n, e, sl, r, ep, d⟩) 23))
  have HB := Lib.hid (fun (w1 : World) (h : Same (w.alloc (.cells (frC ⟨k, s, t, l, q, fl, n, e, sl, r, ep, d⟩) 23)) w1) => fr_cells (fr_box h))
  go_enter Try.func13, Try.ntmps13
  go_wp2_with (go_at_call 19; (with_reducible refine (HA.out _).mono ?_); rintro E1 w1 ⟨rfl, hw⟩; obtain ⟨c0, c1, c2, c3, c4, c5, c6, c7, c8, c9, c10, c11⟩ := HB.out _ hw; have HX := Lib.hid (HS.out.trans hw); clear hw)
  go_ret2
  exact ⟨rfl, HX.out⟩
set_option maxRecDepth 100000 in
theorem encode2_2 (k s t l q fl n e sl r ep : Int) (d : ByteArray) (hc : chk ⟨k, s, t, l, q, fl, n, e, sl, r, ep, d⟩ = 0) (hd : decide ((127 : Int) < (d.size : Int)) = true) (w : World) : Calls Try.prog 13 #[frV ⟨k, s, t, l, q, fl, n, e, sl, r, ep, d⟩] w fun e w' => e = .returned (.tuple #[.string ⟨#[]⟩, .int .i64 8]) ∧ Same w w' := by
  have hA := fun w1 => check2_any ⟨k, s, t, l, q, fl, n, e, sl, r, ep, d⟩ w1
  rw [hc] at hA
  have HA := Lib.hid hA
  clear hA hc
  have HS := Lib.hid ((Same.refl w).alloc (.cells (frC ⟨k, s, t, l, q, fl, n, e, sl, r, ep, d⟩) 23))
  have HB := Lib.hid (fun (w1 : World) (h : Same (w.alloc (.cells (frC ⟨k, s, t, l, q, fl, n, e, sl, r, ep, d⟩) 23)) w1) => fr_cells (fr_box h))
  go_enter Try.func13, Try.ntmps13
  go_wp2_with (go_at_call 19; (with_reducible refine (HA.out _).mono ?_); rintro E1 w1 ⟨rfl, hw⟩; obtain ⟨c0, c1, c2, c3, c4, c5, c6, c7, c8, c9, c10, c11⟩ := HB.out _ hw; have HX := Lib.hid (HS.out.trans hw); clear hw)
  go_ret2
  exact ⟨rfl, HX.out⟩
theorem wst_pos (f : Fr) (h : f.t ≠ -1) : wst f = wOwn f (Bit.wuns 8 f.q (Bit.wuns 8 f.l (Bit.wuns 5 f.t (Bit.wflag true (Bit.wuns 5 f.s (Bit.wuns 3 f.k ([], 0))))))) := by
  rw [wst_eq]; unfold wHead; rw [if_neg h]; rfl
theorem wst_neg (f : Fr) (h : f.t = -1) : wst f = wOwn f (Bit.wuns 8 f.q (Bit.wuns 8 f.l (Bit.wflag false (Bit.wuns 5 f.s (Bit.wuns 3 f.k ([], 0)))))) := by
  rw [wst_eq]; unfold wHead; rw [if_pos h]; rfl
theorem own_1 (f : Fr) (h : f.k = 1) (st : List Nat × Int) : wOwn f st = Bit.wtext 127 f.d (Bit.wuns 16 f.n (Bit.wuns 8 f.fl st)) := by unfold wOwn; rw [if_pos h]
theorem own_2 (f : Fr) (h : f.k = 2) (st : List Nat × Int) : wOwn f st = Bit.wsig 16 f.e st := by unfold wOwn; rw [if_neg (by omega), if_pos h]
theorem own_3 (f : Fr) (h : f.k = 3) (st : List Nat × Int) : wOwn f st = Bit.wtext 127 f.d (Bit.wuns 16 f.ep (Bit.wuns 16 f.r (Bit.wuns 27 f.sl st))) := by unfold wOwn; rw [if_neg (by omega), if_neg (by omega), if_pos h]
theorem own_4 (f : Fr) (h : f.k = 4) (st : List Nat × Int) : wOwn f st = Bit.wtext 127 f.d st := by unfold wOwn; rw [if_neg (by omega), if_neg (by omega), if_neg (by omega), if_pos h]
set_option maxRecDepth 100000 in
set_option maxHeartbeats 3200000 in
theorem encode2_k1 (s t l q fl n e sl r ep : Int) (d : ByteArray) (hc : chk ⟨1, s, t, l, q, fl, n, e, sl, r, ep, d⟩ = 0) (ho : Ok ⟨1, s, t, l, q, fl, n, e, sl, r, ep, d⟩) (hd : d.size ≤ 127) (ht : decide (0 ≤ t) = true) (S : ByteArray) (hS : Bit.wbytes (wst ⟨1, s, t, l, q, fl, n, e, sl, r, ep, d⟩) = S) (P : ByteArray) (hP : Cr.prot S = P) (R : ByteArray × Int) (hR : (P.size ≤ 127 ∧ R = (P, 0)) ∨ (127 < P.size ∧ R = (⟨#[]⟩, 8))) (w : World) : Calls Try.prog 13 #[frV ⟨1, s, t, l, q, fl, n, e, sl, r, ep, d⟩] w fun e w' => e = .returned (.tuple #[.string R.1, .int .i64 R.2]) ∧ Same w w' := by
  have hA := fun w1 => check2_any ⟨1, s, t, l, q, fl, n, e, sl, r, ep, d⟩ w1
  rw [hc] at hA
  have hsz : S.size ≤ 1000 := by
    rw [← hS, wbytes_size _ (by rw [wst_ok ho hd]), wst_ok ho hd]
    have := bits_len ho
    have h1 := nHead_le ⟨1, s, t, l, q, fl, n, e, sl, r, ep, d⟩
    unfold nBase at this
    simp only at this ⊢
    rw [this]
    split <;> split <;> (try split) <;> (try split) <;> omega
  have htm : t ≠ -1 := by have := of_decide_eq_true ht; omega
  have hn : Bit.wtext 127 d (Bit.wuns 16 n (Bit.wuns 8 fl (Bit.wuns 8 q (Bit.wuns 8 l (Bit.wuns 5 t (Bit.wflag true (Bit.wuns 5 s (Bit.wuns 3 1 ([], 0))))))))) = wst ⟨1, s, t, l, q, fl, n, e, sl, r, ep, d⟩ := by
    rw [wst_pos _ htm, own_1 _ rfl]
  have h2 : (wst ⟨1, s, t, l, q, fl, n, e, sl, r, ep, d⟩).2 = 0 := by rw [wst_ok ho hd]
  have hb := fun (w0 w1 : World) (a : Nat) (h : W2I w0 a (Bit.wtext 127 d (Bit.wuns 16 n (Bit.wuns 8 fl (Bit.wuns 8 q (Bit.wuns 8 l (Bit.wuns 5 t (Bit.wflag true (Bit.wuns 5 s (Bit.wuns 3 1 ([], 0)))))))))) w1) => w2_bytes hn h
  rw [hS, h2] at hb
  have hp := fun w1 => protect2_any S hsz w1
  rw [hP] at hp
  unfold Ok at ho
  dsimp only at ho
  have HO := Lib.hid ho
  have hdd : decide ((127 : Int) < (d.size : Int)) = false := decide_eq_false (by omega)
  have HA := Lib.hid hA; have HBY := Lib.hid hb; have HP := Lib.hid hp
  clear htm hA hb hp hn h2 hsz hS hP ho hd hc
  have HS := Lib.hid ((Same.refl w).alloc (.cells (frC ⟨1, s, t, l, q, fl, n, e, sl, r, ep, d⟩) 23))
  have HB := Lib.hid (fun (w1 : World) (h : Same (w.alloc (.cells (frC ⟨1, s, t, l, q, fl, n, e, sl, r, ep, d⟩) 23)) w1) => fr_cells (fr_box h))
  rcases hR with ⟨hz, rfl⟩ | ⟨hz, rfl⟩
  case' inl => have hzz : decide ((127 : Int) < (P.size : Int)) = false := decide_eq_false (by omega)
  case' inr => have hzz : decide ((127 : Int) < (P.size : Int)) = true := decide_eq_true (by omega)
  all_goals
    clear hz
    go_enter Try.func13, Try.ntmps13
    go_wp2_with (first
      | (go_at_call 19; (with_reducible refine (HA.out _).mono ?_); rintro E1 w1 ⟨rfl, hw⟩; obtain ⟨c0, c1, c2, c3, c4, c5, c6, c7, c8, c9, c10, c11⟩ := HB.out _ hw; have HX := Lib.hid hw; clear hw)
      | (go_at_call 31; (with_reducible refine (w2_new _).mono ?_); rintro E1 w2 ⟨rfl, h⟩; have hs := HX.out.trans h.same; clear c0 c1 c2 c3 c4 c5 c6 c7 c8 c9 c10 c11; obtain ⟨c0, c1, c2, c3, c4, c5, c6, c7, c8, c9, c10, c11⟩ := HB.out _ hs; clear hs; have HB := Lib.hid (fun (w3 : World) (k : Same w1 w3) => HB.out _ (HX.out.trans k)); have H := Lib.hid h; clear h)
      | (go_at_call 32; (with_reducible refine (w2_uns _ _ (by have := HO.out; omega) H.out).mono ?_); rintro E1 w3 ⟨rfl, h⟩; clear c0 c1 c2 c3 c4 c5 c6 c7 c8 c9 c10 c11; have hs := h.same; obtain ⟨c0, c1, c2, c3, c4, c5, c6, c7, c8, c9, c10, c11⟩ := HB.out _ hs; clear hs; have H := Lib.hid h; clear h)
      | (go_at_call 33; (with_reducible refine (w2_flag _ H.out).mono ?_); rintro E1 w3 ⟨rfl, h⟩; clear c0 c1 c2 c3 c4 c5 c6 c7 c8 c9 c10 c11; have hs := h.same; obtain ⟨c0, c1, c2, c3, c4, c5, c6, c7, c8, c9, c10, c11⟩ := HB.out _ hs; clear hs; have H := Lib.hid h; clear h)
      | (go_at_call 34; (with_reducible refine (w2_sig _ _ H.out).mono ?_); rintro E1 w3 ⟨rfl, h⟩; clear c0 c1 c2 c3 c4 c5 c6 c7 c8 c9 c10 c11; have hs := h.same; obtain ⟨c0, c1, c2, c3, c4, c5, c6, c7, c8, c9, c10, c11⟩ := HB.out _ hs; clear hs; have H := Lib.hid h; clear h)
      | (go_at_call 35; (with_reducible refine (w2_text _ _ H.out).mono ?_); rintro E1 w3 ⟨rfl, h⟩; clear c0 c1 c2 c3 c4 c5 c6 c7 c8 c9 c10 c11; have hs := h.same; obtain ⟨c0, c1, c2, c3, c4, c5, c6, c7, c8, c9, c10, c11⟩ := HB.out _ hs; clear hs; have H := Lib.hid h; clear h)
      | (go_at_call 36; (with_reducible refine (HBY.out _ _ _ H.out).mono ?_); rintro E1 w4 ⟨rfl, hw⟩; have HY := Lib.hid hw; clear hw)
      | (go_at_call 37; (with_reducible refine (HP.out _).mono ?_); rintro E1 w5 ⟨rfl, hw⟩; have HZ := Lib.hid (HS.out.trans (HX.out.trans (HY.out.trans hw))); clear hw))
    go_ret2
    exact ⟨rfl, HZ.out⟩
set_option maxRecDepth 100000 in
set_option maxHeartbeats 3200000 in
theorem encode2_k2 (s t l q fl n e sl r ep : Int) (d : ByteArray) (hc : chk ⟨2, s, t, l, q, fl, n, e, sl, r, ep, d⟩ = 0) (ho : Ok ⟨2, s, t, l, q, fl, n, e, sl, r, ep, d⟩) (hd : d.size ≤ 127) (ht : decide (0 ≤ t) = true) (S : ByteArray) (hS : Bit.wbytes (wst ⟨2, s, t, l, q, fl, n, e, sl, r, ep, d⟩) = S) (P : ByteArray) (hP : Cr.prot S = P) (R : ByteArray × Int) (hR : (P.size ≤ 127 ∧ R = (P, 0)) ∨ (127 < P.size ∧ R = (⟨#[]⟩, 8))) (w : World) : Calls Try.prog 13 #[frV ⟨2, s, t, l, q, fl, n, e, sl, r, ep, d⟩] w fun e w' => e = .returned (.tuple #[.string R.1, .int .i64 R.2]) ∧ Same w w' := by
  have hA := fun w1 => check2_any ⟨2, s, t, l, q, fl, n, e, sl, r, ep, d⟩ w1
  rw [hc] at hA
  have hsz : S.size ≤ 1000 := by
    rw [← hS, wbytes_size _ (by rw [wst_ok ho hd]), wst_ok ho hd]
    have := bits_len ho
    have h1 := nHead_le ⟨2, s, t, l, q, fl, n, e, sl, r, ep, d⟩
    unfold nBase at this
    simp only at this ⊢
    rw [this]
    split <;> split <;> (try split) <;> (try split) <;> omega
  have htm : t ≠ -1 := by have := of_decide_eq_true ht; omega
  have hn : Bit.wsig 16 e (Bit.wuns 8 q (Bit.wuns 8 l (Bit.wuns 5 t (Bit.wflag true (Bit.wuns 5 s (Bit.wuns 3 2 ([], 0))))))) = wst ⟨2, s, t, l, q, fl, n, e, sl, r, ep, d⟩ := by
    rw [wst_pos _ htm, own_2 _ rfl]
  have h2 : (wst ⟨2, s, t, l, q, fl, n, e, sl, r, ep, d⟩).2 = 0 := by rw [wst_ok ho hd]
  have hb := fun (w0 w1 : World) (a : Nat) (h : W2I w0 a (Bit.wsig 16 e (Bit.wuns 8 q (Bit.wuns 8 l (Bit.wuns 5 t (Bit.wflag true (Bit.wuns 5 s (Bit.wuns 3 2 ([], 0)))))))) w1) => w2_bytes hn h
  rw [hS, h2] at hb
  have hp := fun w1 => protect2_any S hsz w1
  rw [hP] at hp
  unfold Ok at ho
  dsimp only at ho
  have HO := Lib.hid ho
  have hdd : decide ((127 : Int) < (d.size : Int)) = false := decide_eq_false (by omega)
  have HA := Lib.hid hA; have HBY := Lib.hid hb; have HP := Lib.hid hp
  clear htm hA hb hp hn h2 hsz hS hP ho hd hc
  have HS := Lib.hid ((Same.refl w).alloc (.cells (frC ⟨2, s, t, l, q, fl, n, e, sl, r, ep, d⟩) 23))
  have HB := Lib.hid (fun (w1 : World) (h : Same (w.alloc (.cells (frC ⟨2, s, t, l, q, fl, n, e, sl, r, ep, d⟩) 23)) w1) => fr_cells (fr_box h))
  rcases hR with ⟨hz, rfl⟩ | ⟨hz, rfl⟩
  case' inl => have hzz : decide ((127 : Int) < (P.size : Int)) = false := decide_eq_false (by omega)
  case' inr => have hzz : decide ((127 : Int) < (P.size : Int)) = true := decide_eq_true (by omega)
  all_goals
    clear hz
    go_enter Try.func13, Try.ntmps13
    go_wp2_with (first
      | (go_at_call 19; (with_reducible refine (HA.out _).mono ?_); rintro E1 w1 ⟨rfl, hw⟩; obtain ⟨c0, c1, c2, c3, c4, c5, c6, c7, c8, c9, c10, c11⟩ := HB.out _ hw; have HX := Lib.hid hw; clear hw)
      | (go_at_call 31; (with_reducible refine (w2_new _).mono ?_); rintro E1 w2 ⟨rfl, h⟩; have hs := HX.out.trans h.same; clear c0 c1 c2 c3 c4 c5 c6 c7 c8 c9 c10 c11; obtain ⟨c0, c1, c2, c3, c4, c5, c6, c7, c8, c9, c10, c11⟩ := HB.out _ hs; clear hs; have HB := Lib.hid (fun (w3 : World) (k : Same w1 w3) => HB.out _ (HX.out.trans k)); have H := Lib.hid h; clear h)
      | (go_at_call 32; (with_reducible refine (w2_uns _ _ (by have := HO.out; omega) H.out).mono ?_); rintro E1 w3 ⟨rfl, h⟩; clear c0 c1 c2 c3 c4 c5 c6 c7 c8 c9 c10 c11; have hs := h.same; obtain ⟨c0, c1, c2, c3, c4, c5, c6, c7, c8, c9, c10, c11⟩ := HB.out _ hs; clear hs; have H := Lib.hid h; clear h)
      | (go_at_call 33; (with_reducible refine (w2_flag _ H.out).mono ?_); rintro E1 w3 ⟨rfl, h⟩; clear c0 c1 c2 c3 c4 c5 c6 c7 c8 c9 c10 c11; have hs := h.same; obtain ⟨c0, c1, c2, c3, c4, c5, c6, c7, c8, c9, c10, c11⟩ := HB.out _ hs; clear hs; have H := Lib.hid h; clear h)
      | (go_at_call 34; (with_reducible refine (w2_sig _ _ H.out).mono ?_); rintro E1 w3 ⟨rfl, h⟩; clear c0 c1 c2 c3 c4 c5 c6 c7 c8 c9 c10 c11; have hs := h.same; obtain ⟨c0, c1, c2, c3, c4, c5, c6, c7, c8, c9, c10, c11⟩ := HB.out _ hs; clear hs; have H := Lib.hid h; clear h)
      | (go_at_call 35; (with_reducible refine (w2_text _ _ H.out).mono ?_); rintro E1 w3 ⟨rfl, h⟩; clear c0 c1 c2 c3 c4 c5 c6 c7 c8 c9 c10 c11; have hs := h.same; obtain ⟨c0, c1, c2, c3, c4, c5, c6, c7, c8, c9, c10, c11⟩ := HB.out _ hs; clear hs; have H := Lib.hid h; clear h)
      | (go_at_call 36; (with_reducible refine (HBY.out _ _ _ H.out).mono ?_); rintro E1 w4 ⟨rfl, hw⟩; have HY := Lib.hid hw; clear hw)
      | (go_at_call 37; (with_reducible refine (HP.out _).mono ?_); rintro E1 w5 ⟨rfl, hw⟩; have HZ := Lib.hid (HS.out.trans (HX.out.trans (HY.out.trans hw))); clear hw))
    go_ret2
    exact ⟨rfl, HZ.out⟩
set_option maxRecDepth 100000 in
set_option maxHeartbeats 3200000 in
theorem encode2_k3 (s l q fl n e sl r ep : Int) (d : ByteArray) (hc : chk ⟨3, s, (-1), l, q, fl, n, e, sl, r, ep, d⟩ = 0) (ho : Ok ⟨3, s, (-1), l, q, fl, n, e, sl, r, ep, d⟩) (hd : d.size ≤ 127) (S : ByteArray) (hS : Bit.wbytes (wst ⟨3, s, (-1), l, q, fl, n, e, sl, r, ep, d⟩) = S) (P : ByteArray) (hP : Cr.prot S = P) (R : ByteArray × Int) (hR : (P.size ≤ 127 ∧ R = (P, 0)) ∨ (127 < P.size ∧ R = (⟨#[]⟩, 8))) (w : World) : Calls Try.prog 13 #[frV ⟨3, s, (-1), l, q, fl, n, e, sl, r, ep, d⟩] w fun e w' => e = .returned (.tuple #[.string R.1, .int .i64 R.2]) ∧ Same w w' := by
  have hA := fun w1 => check2_any ⟨3, s, (-1), l, q, fl, n, e, sl, r, ep, d⟩ w1
  rw [hc] at hA
  have hsz : S.size ≤ 1000 := by
    rw [← hS, wbytes_size _ (by rw [wst_ok ho hd]), wst_ok ho hd]
    have := bits_len ho
    have h1 := nHead_le ⟨3, s, (-1), l, q, fl, n, e, sl, r, ep, d⟩
    unfold nBase at this
    simp only at this ⊢
    rw [this]
    split <;> split <;> (try split) <;> (try split) <;> omega
  have hn : Bit.wtext 127 d (Bit.wuns 16 ep (Bit.wuns 16 r (Bit.wuns 27 sl (Bit.wuns 8 q (Bit.wuns 8 l (Bit.wflag false (Bit.wuns 5 s (Bit.wuns 3 3 ([], 0))))))))) = wst ⟨3, s, (-1), l, q, fl, n, e, sl, r, ep, d⟩ := by
    rw [wst_neg _ rfl, own_3 _ rfl]
  have h2 : (wst ⟨3, s, (-1), l, q, fl, n, e, sl, r, ep, d⟩).2 = 0 := by rw [wst_ok ho hd]
  have hb := fun (w0 w1 : World) (a : Nat) (h : W2I w0 a (Bit.wtext 127 d (Bit.wuns 16 ep (Bit.wuns 16 r (Bit.wuns 27 sl (Bit.wuns 8 q (Bit.wuns 8 l (Bit.wflag false (Bit.wuns 5 s (Bit.wuns 3 3 ([], 0)))))))))) w1) => w2_bytes hn h
  rw [hS, h2] at hb
  have hp := fun w1 => protect2_any S hsz w1
  rw [hP] at hp
  unfold Ok at ho
  dsimp only at ho
  have HO := Lib.hid ho
  have hdd : decide ((127 : Int) < (d.size : Int)) = false := decide_eq_false (by omega)
  have HA := Lib.hid hA; have HBY := Lib.hid hb; have HP := Lib.hid hp
  clear hA hb hp hn h2 hsz hS hP ho hd hc
  have HS := Lib.hid ((Same.refl w).alloc (.cells (frC ⟨3, s, (-1), l, q, fl, n, e, sl, r, ep, d⟩) 23))
  have HB := Lib.hid (fun (w1 : World) (h : Same (w.alloc (.cells (frC ⟨3, s, (-1), l, q, fl, n, e, sl, r, ep, d⟩) 23)) w1) => fr_cells (fr_box h))
  rcases hR with ⟨hz, rfl⟩ | ⟨hz, rfl⟩
  case' inl => have hzz : decide ((127 : Int) < (P.size : Int)) = false := decide_eq_false (by omega)
  case' inr => have hzz : decide ((127 : Int) < (P.size : Int)) = true := decide_eq_true (by omega)
  all_goals
    clear hz
    go_enter Try.func13, Try.ntmps13
    go_wp2_with (first
      | (go_at_call 19; (with_reducible refine (HA.out _).mono ?_); rintro E1 w1 ⟨rfl, hw⟩; obtain ⟨c0, c1, c2, c3, c4, c5, c6, c7, c8, c9, c10, c11⟩ := HB.out _ hw; have HX := Lib.hid hw; clear hw)
      | (go_at_call 31; (with_reducible refine (w2_new _).mono ?_); rintro E1 w2 ⟨rfl, h⟩; have hs := HX.out.trans h.same; clear c0 c1 c2 c3 c4 c5 c6 c7 c8 c9 c10 c11; obtain ⟨c0, c1, c2, c3, c4, c5, c6, c7, c8, c9, c10, c11⟩ := HB.out _ hs; clear hs; have HB := Lib.hid (fun (w3 : World) (k : Same w1 w3) => HB.out _ (HX.out.trans k)); have H := Lib.hid h; clear h)
      | (go_at_call 32; (with_reducible refine (w2_uns _ _ (by have := HO.out; omega) H.out).mono ?_); rintro E1 w3 ⟨rfl, h⟩; clear c0 c1 c2 c3 c4 c5 c6 c7 c8 c9 c10 c11; have hs := h.same; obtain ⟨c0, c1, c2, c3, c4, c5, c6, c7, c8, c9, c10, c11⟩ := HB.out _ hs; clear hs; have H := Lib.hid h; clear h)
      | (go_at_call 33; (with_reducible refine (w2_flag _ H.out).mono ?_); rintro E1 w3 ⟨rfl, h⟩; clear c0 c1 c2 c3 c4 c5 c6 c7 c8 c9 c10 c11; have hs := h.same; obtain ⟨c0, c1, c2, c3, c4, c5, c6, c7, c8, c9, c10, c11⟩ := HB.out _ hs; clear hs; have H := Lib.hid h; clear h)
      | (go_at_call 34; (with_reducible refine (w2_sig _ _ H.out).mono ?_); rintro E1 w3 ⟨rfl, h⟩; clear c0 c1 c2 c3 c4 c5 c6 c7 c8 c9 c10 c11; have hs := h.same; obtain ⟨c0, c1, c2, c3, c4, c5, c6, c7, c8, c9, c10, c11⟩ := HB.out _ hs; clear hs; have H := Lib.hid h; clear h)
      | (go_at_call 35; (with_reducible refine (w2_text _ _ H.out).mono ?_); rintro E1 w3 ⟨rfl, h⟩; clear c0 c1 c2 c3 c4 c5 c6 c7 c8 c9 c10 c11; have hs := h.same; obtain ⟨c0, c1, c2, c3, c4, c5, c6, c7, c8, c9, c10, c11⟩ := HB.out _ hs; clear hs; have H := Lib.hid h; clear h)
      | (go_at_call 36; (with_reducible refine (HBY.out _ _ _ H.out).mono ?_); rintro E1 w4 ⟨rfl, hw⟩; have HY := Lib.hid hw; clear hw)
      | (go_at_call 37; (with_reducible refine (HP.out _).mono ?_); rintro E1 w5 ⟨rfl, hw⟩; have HZ := Lib.hid (HS.out.trans (HX.out.trans (HY.out.trans hw))); clear hw))
    go_ret2
    exact ⟨rfl, HZ.out⟩
set_option maxRecDepth 100000 in
set_option maxHeartbeats 3200000 in
theorem encode2_k4 (s t l q fl n e sl r ep : Int) (d : ByteArray) (hc : chk ⟨4, s, t, l, q, fl, n, e, sl, r, ep, d⟩ = 0) (ho : Ok ⟨4, s, t, l, q, fl, n, e, sl, r, ep, d⟩) (hd : d.size ≤ 127) (ht : decide (0 ≤ t) = true) (S : ByteArray) (hS : Bit.wbytes (wst ⟨4, s, t, l, q, fl, n, e, sl, r, ep, d⟩) = S) (P : ByteArray) (hP : Cr.prot S = P) (R : ByteArray × Int) (hR : (P.size ≤ 127 ∧ R = (P, 0)) ∨ (127 < P.size ∧ R = (⟨#[]⟩, 8))) (w : World) : Calls Try.prog 13 #[frV ⟨4, s, t, l, q, fl, n, e, sl, r, ep, d⟩] w fun e w' => e = .returned (.tuple #[.string R.1, .int .i64 R.2]) ∧ Same w w' := by
  have hA := fun w1 => check2_any ⟨4, s, t, l, q, fl, n, e, sl, r, ep, d⟩ w1
  rw [hc] at hA
  have hsz : S.size ≤ 1000 := by
    rw [← hS, wbytes_size _ (by rw [wst_ok ho hd]), wst_ok ho hd]
    have := bits_len ho
    have h1 := nHead_le ⟨4, s, t, l, q, fl, n, e, sl, r, ep, d⟩
    unfold nBase at this
    simp only at this ⊢
    rw [this]
    split <;> split <;> (try split) <;> (try split) <;> omega
  have htm : t ≠ -1 := by have := of_decide_eq_true ht; omega
  have hn : Bit.wtext 127 d (Bit.wuns 8 q (Bit.wuns 8 l (Bit.wuns 5 t (Bit.wflag true (Bit.wuns 5 s (Bit.wuns 3 4 ([], 0))))))) = wst ⟨4, s, t, l, q, fl, n, e, sl, r, ep, d⟩ := by
    rw [wst_pos _ htm, own_4 _ rfl]
  have h2 : (wst ⟨4, s, t, l, q, fl, n, e, sl, r, ep, d⟩).2 = 0 := by rw [wst_ok ho hd]
  have hb := fun (w0 w1 : World) (a : Nat) (h : W2I w0 a (Bit.wtext 127 d (Bit.wuns 8 q (Bit.wuns 8 l (Bit.wuns 5 t (Bit.wflag true (Bit.wuns 5 s (Bit.wuns 3 4 ([], 0)))))))) w1) => w2_bytes hn h
  rw [hS, h2] at hb
  have hp := fun w1 => protect2_any S hsz w1
  rw [hP] at hp
  unfold Ok at ho
  dsimp only at ho
  have HO := Lib.hid ho
  have hdd : decide ((127 : Int) < (d.size : Int)) = false := decide_eq_false (by omega)
  have HA := Lib.hid hA; have HBY := Lib.hid hb; have HP := Lib.hid hp
  clear htm hA hb hp hn h2 hsz hS hP ho hd hc
  have HS := Lib.hid ((Same.refl w).alloc (.cells (frC ⟨4, s, t, l, q, fl, n, e, sl, r, ep, d⟩) 23))
  have HB := Lib.hid (fun (w1 : World) (h : Same (w.alloc (.cells (frC ⟨4, s, t, l, q, fl, n, e, sl, r, ep, d⟩) 23)) w1) => fr_cells (fr_box h))
  rcases hR with ⟨hz, rfl⟩ | ⟨hz, rfl⟩
  case' inl => have hzz : decide ((127 : Int) < (P.size : Int)) = false := decide_eq_false (by omega)
  case' inr => have hzz : decide ((127 : Int) < (P.size : Int)) = true := decide_eq_true (by omega)
  all_goals
    clear hz
    go_enter Try.func13, Try.ntmps13
    go_wp2_with (first
      | (go_at_call 19; (with_reducible refine (HA.out _).mono ?_); rintro E1 w1 ⟨rfl, hw⟩; obtain ⟨c0, c1, c2, c3, c4, c5, c6, c7, c8, c9, c10, c11⟩ := HB.out _ hw; have HX := Lib.hid hw; clear hw)
      | (go_at_call 31; (with_reducible refine (w2_new _).mono ?_); rintro E1 w2 ⟨rfl, h⟩; have hs := HX.out.trans h.same; clear c0 c1 c2 c3 c4 c5 c6 c7 c8 c9 c10 c11; obtain ⟨c0, c1, c2, c3, c4, c5, c6, c7, c8, c9, c10, c11⟩ := HB.out _ hs; clear hs; have HB := Lib.hid (fun (w3 : World) (k : Same w1 w3) => HB.out _ (HX.out.trans k)); have H := Lib.hid h; clear h)
      | (go_at_call 32; (with_reducible refine (w2_uns _ _ (by have := HO.out; omega) H.out).mono ?_); rintro E1 w3 ⟨rfl, h⟩; clear c0 c1 c2 c3 c4 c5 c6 c7 c8 c9 c10 c11; have hs := h.same; obtain ⟨c0, c1, c2, c3, c4, c5, c6, c7, c8, c9, c10, c11⟩ := HB.out _ hs; clear hs; have H := Lib.hid h; clear h)
      | (go_at_call 33; (with_reducible refine (w2_flag _ H.out).mono ?_); rintro E1 w3 ⟨rfl, h⟩; clear c0 c1 c2 c3 c4 c5 c6 c7 c8 c9 c10 c11; have hs := h.same; obtain ⟨c0, c1, c2, c3, c4, c5, c6, c7, c8, c9, c10, c11⟩ := HB.out _ hs; clear hs; have H := Lib.hid h; clear h)
      | (go_at_call 34; (with_reducible refine (w2_sig _ _ H.out).mono ?_); rintro E1 w3 ⟨rfl, h⟩; clear c0 c1 c2 c3 c4 c5 c6 c7 c8 c9 c10 c11; have hs := h.same; obtain ⟨c0, c1, c2, c3, c4, c5, c6, c7, c8, c9, c10, c11⟩ := HB.out _ hs; clear hs; have H := Lib.hid h; clear h)
      | (go_at_call 35; (with_reducible refine (w2_text _ _ H.out).mono ?_); rintro E1 w3 ⟨rfl, h⟩; clear c0 c1 c2 c3 c4 c5 c6 c7 c8 c9 c10 c11; have hs := h.same; obtain ⟨c0, c1, c2, c3, c4, c5, c6, c7, c8, c9, c10, c11⟩ := HB.out _ hs; clear hs; have H := Lib.hid h; clear h)
      | (go_at_call 36; (with_reducible refine (HBY.out _ _ _ H.out).mono ?_); rintro E1 w4 ⟨rfl, hw⟩; have HY := Lib.hid hw; clear hw)
      | (go_at_call 37; (with_reducible refine (HP.out _).mono ?_); rintro E1 w5 ⟨rfl, hw⟩; have HZ := Lib.hid (HS.out.trans (HX.out.trans (HY.out.trans hw))); clear hw))
    go_ret2
    exact ⟨rfl, HZ.out⟩
set_option maxRecDepth 100000 in
set_option maxHeartbeats 3200000 in
theorem encode2_k5 (s l q fl n e sl r ep : Int) (d : ByteArray) (hc : chk ⟨4, s, (-1), l, q, fl, n, e, sl, r, ep, d⟩ = 0) (ho : Ok ⟨4, s, (-1), l, q, fl, n, e, sl, r, ep, d⟩) (hd : d.size ≤ 127) (S : ByteArray) (hS : Bit.wbytes (wst ⟨4, s, (-1), l, q, fl, n, e, sl, r, ep, d⟩) = S) (P : ByteArray) (hP : Cr.prot S = P) (R : ByteArray × Int) (hR : (P.size ≤ 127 ∧ R = (P, 0)) ∨ (127 < P.size ∧ R = (⟨#[]⟩, 8))) (w : World) : Calls Try.prog 13 #[frV ⟨4, s, (-1), l, q, fl, n, e, sl, r, ep, d⟩] w fun e w' => e = .returned (.tuple #[.string R.1, .int .i64 R.2]) ∧ Same w w' := by
  have hA := fun w1 => check2_any ⟨4, s, (-1), l, q, fl, n, e, sl, r, ep, d⟩ w1
  rw [hc] at hA
  have hsz : S.size ≤ 1000 := by
    rw [← hS, wbytes_size _ (by rw [wst_ok ho hd]), wst_ok ho hd]
    have := bits_len ho
    have h1 := nHead_le ⟨4, s, (-1), l, q, fl, n, e, sl, r, ep, d⟩
    unfold nBase at this
    simp only at this ⊢
    rw [this]
    split <;> split <;> (try split) <;> (try split) <;> omega
  have hn : Bit.wtext 127 d (Bit.wuns 8 q (Bit.wuns 8 l (Bit.wflag false (Bit.wuns 5 s (Bit.wuns 3 4 ([], 0)))))) = wst ⟨4, s, (-1), l, q, fl, n, e, sl, r, ep, d⟩ := by
    rw [wst_neg _ rfl, own_4 _ rfl]
  have h2 : (wst ⟨4, s, (-1), l, q, fl, n, e, sl, r, ep, d⟩).2 = 0 := by rw [wst_ok ho hd]
  have hb := fun (w0 w1 : World) (a : Nat) (h : W2I w0 a (Bit.wtext 127 d (Bit.wuns 8 q (Bit.wuns 8 l (Bit.wflag false (Bit.wuns 5 s (Bit.wuns 3 4 ([], 0))))))) w1) => w2_bytes hn h
  rw [hS, h2] at hb
  have hp := fun w1 => protect2_any S hsz w1
  rw [hP] at hp
  unfold Ok at ho
  dsimp only at ho
  have HO := Lib.hid ho
  have hdd : decide ((127 : Int) < (d.size : Int)) = false := decide_eq_false (by omega)
  have HA := Lib.hid hA; have HBY := Lib.hid hb; have HP := Lib.hid hp
  clear hA hb hp hn h2 hsz hS hP ho hd hc
  have HS := Lib.hid ((Same.refl w).alloc (.cells (frC ⟨4, s, (-1), l, q, fl, n, e, sl, r, ep, d⟩) 23))
  have HB := Lib.hid (fun (w1 : World) (h : Same (w.alloc (.cells (frC ⟨4, s, (-1), l, q, fl, n, e, sl, r, ep, d⟩) 23)) w1) => fr_cells (fr_box h))
  rcases hR with ⟨hz, rfl⟩ | ⟨hz, rfl⟩
  case' inl => have hzz : decide ((127 : Int) < (P.size : Int)) = false := decide_eq_false (by omega)
  case' inr => have hzz : decide ((127 : Int) < (P.size : Int)) = true := decide_eq_true (by omega)
  all_goals
    clear hz
    go_enter Try.func13, Try.ntmps13
    go_wp2_with (first
      | (go_at_call 19; (with_reducible refine (HA.out _).mono ?_); rintro E1 w1 ⟨rfl, hw⟩; obtain ⟨c0, c1, c2, c3, c4, c5, c6, c7, c8, c9, c10, c11⟩ := HB.out _ hw; have HX := Lib.hid hw; clear hw)
      | (go_at_call 31; (with_reducible refine (w2_new _).mono ?_); rintro E1 w2 ⟨rfl, h⟩; have hs := HX.out.trans h.same; clear c0 c1 c2 c3 c4 c5 c6 c7 c8 c9 c10 c11; obtain ⟨c0, c1, c2, c3, c4, c5, c6, c7, c8, c9, c10, c11⟩ := HB.out _ hs; clear hs; have HB := Lib.hid (fun (w3 : World) (k : Same w1 w3) => HB.out _ (HX.out.trans k)); have H := Lib.hid h; clear h)
      | (go_at_call 32; (with_reducible refine (w2_uns _ _ (by have := HO.out; omega) H.out).mono ?_); rintro E1 w3 ⟨rfl, h⟩; clear c0 c1 c2 c3 c4 c5 c6 c7 c8 c9 c10 c11; have hs := h.same; obtain ⟨c0, c1, c2, c3, c4, c5, c6, c7, c8, c9, c10, c11⟩ := HB.out _ hs; clear hs; have H := Lib.hid h; clear h)
      | (go_at_call 33; (with_reducible refine (w2_flag _ H.out).mono ?_); rintro E1 w3 ⟨rfl, h⟩; clear c0 c1 c2 c3 c4 c5 c6 c7 c8 c9 c10 c11; have hs := h.same; obtain ⟨c0, c1, c2, c3, c4, c5, c6, c7, c8, c9, c10, c11⟩ := HB.out _ hs; clear hs; have H := Lib.hid h; clear h)
      | (go_at_call 34; (with_reducible refine (w2_sig _ _ H.out).mono ?_); rintro E1 w3 ⟨rfl, h⟩; clear c0 c1 c2 c3 c4 c5 c6 c7 c8 c9 c10 c11; have hs := h.same; obtain ⟨c0, c1, c2, c3, c4, c5, c6, c7, c8, c9, c10, c11⟩ := HB.out _ hs; clear hs; have H := Lib.hid h; clear h)
      | (go_at_call 35; (with_reducible refine (w2_text _ _ H.out).mono ?_); rintro E1 w3 ⟨rfl, h⟩; clear c0 c1 c2 c3 c4 c5 c6 c7 c8 c9 c10 c11; have hs := h.same; obtain ⟨c0, c1, c2, c3, c4, c5, c6, c7, c8, c9, c10, c11⟩ := HB.out _ hs; clear hs; have H := Lib.hid h; clear h)
      | (go_at_call 36; (with_reducible refine (HBY.out _ _ _ H.out).mono ?_); rintro E1 w4 ⟨rfl, hw⟩; have HY := Lib.hid hw; clear hw)
      | (go_at_call 37; (with_reducible refine (HP.out _).mono ?_); rintro E1 w5 ⟨rfl, hw⟩; have HZ := Lib.hid (HS.out.trans (HX.out.trans (HY.out.trans hw))); clear hw))
    go_ret2
    exact ⟨rfl, HZ.out⟩
theorem encR_long {f : Fr} (h : okB f = true) (hd : 127 < f.d.size) : encR f = (⟨#[]⟩, 8) := by
  have ho := (okB_iff f).1 h
  unfold encR
  rw [if_pos h, wrR_not ho]
  · rfl
  · unfold fits
    have := nBase_ge f
    unfold Ok at ho
    split <;> omega
theorem encR_short {f : Fr} (h : okB f = true) (hd : f.d.size ≤ 127) (P : ByteArray) (hP : Cr.prot (Bit.wbytes (wst f)) = P) : (P.size ≤ 127 ∧ encR f = (P, 0)) ∨ (127 < P.size ∧ encR f = (⟨#[]⟩, 8)) := by
  have ho := (okB_iff f).1 h
  have hz : P.size = (nBase f + (if f.k = 2 then 0 else 8 * f.d.size) + 7) / 8 + 2 := by
    rw [← hP, Cr.prot_size, wbytes_size _ (by rw [wst_ok ho hd]), wst_ok ho hd]
    simp only
    rw [bits_len ho]
  unfold encR
  rw [if_pos h]
  by_cases hf : fits f
  · left
    rw [wrR_fit ho hf, ← hP, wst_ok ho hd]
    refine ⟨?_, rfl⟩
    rw [← wst_ok ho hd, hP]
    unfold fits at hf
    omega
  · right
    rw [wrR_not ho hf]
    refine ⟨?_, rfl⟩
    unfold fits at hf
    omega
theorem encode2_any (f : Fr) (w : World) : Calls Try.prog 13 #[frV f] w fun e w' => e = .returned (.tuple #[.string (encR f).1, .int .i64 (encR f).2]) ∧ Same w w' := by
  rcases chk_01 f with ⟨h1, h2⟩ | ⟨h1, h2⟩
  · have ho := (okB_iff f).1 h1
    by_cases hd : f.d.size ≤ 127
    · have hR := encR_short h1 hd _ rfl
      have hk := ok_kind ho
      have ho0 := ho
      unfold Ok at ho0
      obtain ⟨k, s, t, l, q, fl, n, e, sl, r, ep, d⟩ := f
      dsimp only at hd hk ho0
      rcases hk with rfl | rfl | rfl | rfl
      · exact encode2_k1 s t l q fl n e sl r ep d h2 ho hd (decide_eq_true (by omega)) _ rfl _ rfl _ hR w
      · exact encode2_k2 s t l q fl n e sl r ep d h2 ho hd (decide_eq_true (by omega)) _ rfl _ rfl _ hR w
      · obtain rfl : t = -1 := by omega
        exact encode2_k3 s l q fl n e sl r ep d h2 ho hd _ rfl _ rfl _ hR w
      · by_cases ht : t = -1
        · subst ht
          exact encode2_k5 s l q fl n e sl r ep d h2 ho hd _ rfl _ rfl _ hR w
        · exact encode2_k4 s t l q fl n e sl r ep d h2 ho hd (decide_eq_true (by omega)) _ rfl _ rfl _ hR w
    · rw [encR_long h1 (by omega)]
      obtain ⟨k, s, t, l, q, fl, n, e, sl, r, ep, d⟩ := f
      dsimp only at hd
      exact encode2_2 k s t l q fl n e sl r ep d h2 (decide_eq_true (by omega)) w
  · have : encR f = (⟨#[]⟩, 1) := by unfold encR; rw [if_neg (by rw [h1]; decide)]
    rw [this]
    obtain ⟨k, s, t, l, q, fl, n, e, sl, r, ep, d⟩ := f
    exact encode2_1 k s t l q fl n e sl r ep d h2 w
set_option maxRecDepth 100000 in
theorem time2_core (k s t l q fl n e sl r ep : Int) (d : ByteArray) (S : ByteArray) (E : Int) (he : encR ⟨k, s, t, l, q, fl, n, e, sl, r, ep, d⟩ = (S, E)) (hS : S.size ≤ 127) (R : Int × Int) (hR : timR ⟨k, s, t, l, q, fl, n, e, sl, r, ep, d⟩ = R) (w : World) : Calls Try.prog 15 #[frV ⟨k, s, t, l, q, fl, n, e, sl, r, ep, d⟩] w fun e w' => e = .returned (.tuple #[.int .i64 R.1, .int .i64 R.2]) ∧ Same w w' := by
  have hA := fun w1 => encode2_any ⟨k, s, t, l, q, fl, n, e, sl, r, ep, d⟩ w1
  unfold timR at hR
  rw [he] at hA hR
  dsimp only at hR
  have HA := Lib.hid hA
  clear hA he
  have HS := Lib.hid ((Same.refl w).alloc (.cells (frC ⟨k, s, t, l, q, fl, n, e, sl, r, ep, d⟩) 23))
  have HB0 := Lib.hid (fun (w1 : World) (h : Same (w.alloc (.cells (frC ⟨k, s, t, l, q, fl, n, e, sl, r, ep, d⟩) 23)) w1) => fr_cells (fr_box h))
  by_cases h0 : E = 0
  · subst h0
    rw [if_neg (by simp)] at hR
    by_cases h2 : k = 2
    · subst h2
      rw [if_pos rfl] at hR
      have HR := Lib.hid hR; clear hR
      go_enter Try.func15, Try.ntmps15
      go_wp2_with (go_at_call 13; (with_reducible refine (HA.out _).mono ?_); rintro E1 w1 ⟨rfl, hw⟩; obtain ⟨c0, c1, c2, c3, c4, c5, c6, c7, c8, c9, c10, c11⟩ := HB0.out _ hw; have HXw1 := Lib.hid hw; have HWw1 := Lib.hid (HS.out.trans hw); clear hw)
      go_ret2
      exact ⟨by rw [← HR.out]; rfl, HWw1.out⟩
    · rw [if_neg h2] at hR
      have h2' : (k == 2) = false := by simpa using h2
      have m1 : IntKind.i64.wrap ((S.size : Int) + 6) = (S.size : Int) + 6 := IntWalk.i64_in _ (by omega)
      have m2 : IntKind.i64.wrap (32 * ((S.size : Int) + 6)) = 32 * ((S.size : Int) + 6) := IntWalk.i64_in _ (by omega)
      have p1 : wrap64 ((S.size : Int) + 6) = (S.size : Int) + 6 := IntWalk.wrap64_in _ (by omega)
      have p2 : wrap64 (32 * ((S.size : Int) + 6)) = 32 * ((S.size : Int) + 6) := IntWalk.wrap64_in _ (by omega)
      have HR := Lib.hid hR; clear hR h2
      generalize hz : S.size = z at *
      have HZ := Lib.hid hz; clear hz
      go_enter Try.func15, Try.ntmps15
      go_wp2_with (go_at_call 13; (with_reducible refine (HA.out _).mono ?_); rintro E1 w1 ⟨rfl, hw⟩; obtain ⟨c0, c1, c2, c3, c4, c5, c6, c7, c8, c9, c10, c11⟩ := HB0.out _ hw; have HXw1 := Lib.hid hw; have HWw1 := Lib.hid (HS.out.trans hw); clear hw)
      go_ret2
      exact ⟨by rw [← HR.out]; first | rfl | (rw [← HZ.out]; rfl) | (simp [HZ.out, p1, p2]), HWw1.out⟩
  · rw [if_pos h0] at hR
    have h0' : (E != 0) = true := by simpa using h0
    have HR := Lib.hid hR; clear hR h0
    go_enter Try.func15, Try.ntmps15
    go_wp2_with (go_at_call 13; (with_reducible refine (HA.out _).mono ?_); rintro E1 w1 ⟨rfl, hw⟩; obtain ⟨c0, c1, c2, c3, c4, c5, c6, c7, c8, c9, c10, c11⟩ := HB0.out _ hw; have HXw1 := Lib.hid hw; have HWw1 := Lib.hid (HS.out.trans hw); clear hw)
    go_ret2
    exact ⟨by rw [← HR.out]; rfl, HWw1.out⟩
theorem time2_any (f : Fr) (w : World) : Calls Try.prog 15 #[frV f] w fun e w' => e = .returned (.tuple #[.int .i64 (timR f).1, .int .i64 (timR f).2]) ∧ Same w w' := by
  have hz := encR_size f
  obtain ⟨k, s, t, l, q, fl, n, e, sl, r, ep, d⟩ := f
  exact time2_core k s t l q fl n e sl r ep d _ _ rfl hz _ rfl w
theorem romR_bad {f : Fr} (h : ¬ (okB f = true ∧ f.k ≠ 2)) : romR f = (0, 1) := by unfold romR; rw [if_neg h]
theorem romR_good {f : Fr} (h1 : okB f = true) (h2 : f.k ≠ 2) : ((encR f).2 = 8 ∧ romR f = (0, 8)) ∨ ((encR f).2 = 0 ∧ romR f = (127 - ((encR f).1.size : Int), 0)) := by
  have ho := (okB_iff f).1 h1
  have g1 : romR f = if (wrR f).2.2 ≠ 0 then (0, (wrR f).2.2) else ((1000 - ((wrR f).2.1 : Int)) / 8, 0) := by unfold romR; rw [if_pos ⟨h1, h2⟩]
  have g2 : encR f = if (wrR f).2.2 ≠ 0 then (⟨#[]⟩, (wrR f).2.2) else (Cr.prot (wrR f).1, 0) := by unfold encR; rw [if_pos h1]
  rw [g1, g2]
  by_cases hf : fits f
  · right
    rw [wrR_fit ho hf]
    refine ⟨rfl, ?_⟩
    simp only [ne_eq, not_true_eq_false, if_false]
    have hz : (Bit.wbytes (headL f ++ ownL f, 0)).size = (nBase f + 8 * f.d.size + 7) / 8 := by
      rw [wbytes_size _ rfl]; simp only; rw [bits_len ho, if_neg h2]
    rw [Cr.prot_size, hz]
    try rw [if_neg h2]
    unfold fits at hf
    rw [if_neg h2] at hf
    refine Prod.ext ?_ rfl
    generalize nBase f + 8 * f.d.size = L at *
    show (1000 - (L : Int)) / 8 = 127 - (((L + 7) / 8 + 2 : Nat) : Int)
    omega
  · left
    rw [wrR_not ho hf]
    exact ⟨rfl, rfl⟩
set_option maxRecDepth 100000 in
theorem room2_bad (k s t l q fl n e sl r ep : Int) (d : ByteArray) (c : Int) (hc : chk ⟨k, s, t, l, q, fl, n, e, sl, r, ep, d⟩ = c) (hx : c = 1 ∨ (c = 0 ∧ k = 2)) (w : World) : Calls Try.prog 17 #[frV ⟨k, s, t, l, q, fl, n, e, sl, r, ep, d⟩] w fun e w' => e = .returned (.tuple #[.int .i64 0, .int .i64 1]) ∧ Same w w' := by
  have hA := fun w1 => check2_any ⟨k, s, t, l, q, fl, n, e, sl, r, ep, d⟩ w1
  rw [hc] at hA
  have HA := Lib.hid hA
  clear hA hc
  have HS := Lib.hid ((Same.refl w).alloc (.cells (frC ⟨k, s, t, l, q, fl, n, e, sl, r, ep, d⟩) 23))
  have HB0 := Lib.hid (fun (w1 : World) (h : Same (w.alloc (.cells (frC ⟨k, s, t, l, q, fl, n, e, sl, r, ep, d⟩) 23)) w1) => fr_cells (fr_box h))
  rcases hx with rfl | ⟨rfl, rfl⟩
  all_goals
    go_enter Try.func17, Try.ntmps17
    go_wp2_with (go_at_call 19; (with_reducible refine (HA.out _).mono ?_); rintro E1 w1 ⟨rfl, hw⟩; obtain ⟨c0, c1, c2, c3, c4, c5, c6, c7, c8, c9, c10, c11⟩ := HB0.out _ hw; have HXw1 := Lib.hid hw; have HWw1 := Lib.hid (HS.out.trans hw); clear hw)
    go_ret2
    exact ⟨rfl, HWw1.out⟩
set_option maxRecDepth 100000 in
theorem room2_good (k s t l q fl n e sl r ep : Int) (d : ByteArray) (hc : chk ⟨k, s, t, l, q, fl, n, e, sl, r, ep, d⟩ = 0) (h2 : (k == 2) = false) (S : ByteArray) (E : Int) (he : encR ⟨k, s, t, l, q, fl, n, e, sl, r, ep, d⟩ = (S, E)) (hS : S.size ≤ 127) (R : Int) (hE : (E = 8 ∧ R = 0) ∨ (E = 0 ∧ R = 127 - (S.size : Int))) (w : World) : Calls Try.prog 17 #[frV ⟨k, s, t, l, q, fl, n, e, sl, r, ep, d⟩] w fun e w' => e = .returned (.tuple #[.int .i64 R, .int .i64 E]) ∧ Same w w' := by
  have hA := fun w1 => check2_any ⟨k, s, t, l, q, fl, n, e, sl, r, ep, d⟩ w1
  have hW := fun w1 => encode2_any ⟨k, s, t, l, q, fl, n, e, sl, r, ep, d⟩ w1
  rw [hc] at hA
  rw [he] at hW
  have HA := Lib.hid hA
  have HW := Lib.hid hW
  clear hA hc hW he
  have HS := Lib.hid ((Same.refl w).alloc (.cells (frC ⟨k, s, t, l, q, fl, n, e, sl, r, ep, d⟩) 23))
  have HB0 := Lib.hid (fun (w1 : World) (h : Same (w.alloc (.cells (frC ⟨k, s, t, l, q, fl, n, e, sl, r, ep, d⟩) 23)) w1) => fr_cells (fr_box h))
  rcases hE with ⟨rfl, rfl⟩ | ⟨rfl, hR⟩
  · go_enter Try.func17, Try.ntmps17
    go_wp2_with (first
      | (go_at_call 19; (with_reducible refine (HA.out _).mono ?_); rintro E1 w1 ⟨rfl, hw⟩; obtain ⟨c0, c1, c2, c3, c4, c5, c6, c7, c8, c9, c10, c11⟩ := HB0.out _ hw; have HXw1 := Lib.hid hw; have HWw1 := Lib.hid (HS.out.trans hw); clear hw)
      | (go_at_call 13; (with_reducible refine (HW.out _).mono ?_); rintro E1 w2 ⟨rfl, hw⟩; have hw0 := HXw1.out.trans hw; clear hw; have hw := hw0; clear hw0; obtain ⟨c0, c1, c2, c3, c4, c5, c6, c7, c8, c9, c10, c11⟩ := HB0.out _ hw; have HXw2 := Lib.hid hw; have HWw2 := Lib.hid (HS.out.trans hw); clear hw))
    go_ret2
    exact ⟨rfl, HWw2.out⟩
  · have q2 : IntKind.i64.wrap (127 - (S.size : Int)) = 127 - (S.size : Int) := IntWalk.i64_in _ (by omega)
    have HRR := Lib.hid hR
    clear hS hR
    go_enter Try.func17, Try.ntmps17
    go_wp2_with (first
      | (go_at_call 19; (with_reducible refine (HA.out _).mono ?_); rintro E1 w1 ⟨rfl, hw⟩; obtain ⟨c0, c1, c2, c3, c4, c5, c6, c7, c8, c9, c10, c11⟩ := HB0.out _ hw; have HXw1 := Lib.hid hw; have HWw1 := Lib.hid (HS.out.trans hw); clear hw)
      | (go_at_call 13; (with_reducible refine (HW.out _).mono ?_); rintro E1 w2 ⟨rfl, hw⟩; have hw0 := HXw1.out.trans hw; clear hw; have hw := hw0; clear hw0; obtain ⟨c0, c1, c2, c3, c4, c5, c6, c7, c8, c9, c10, c11⟩ := HB0.out _ hw; have HXw2 := Lib.hid hw; have HWw2 := Lib.hid (HS.out.trans hw); clear hw))
    go_ret2
    exact ⟨by first | rfl | (rw [HRR.out]; rfl), HWw2.out⟩
theorem room2_any (f : Fr) (w : World) : Calls Try.prog 17 #[frV f] w fun e w' => e = .returned (.tuple #[.int .i64 (romR f).1, .int .i64 (romR f).2]) ∧ Same w w' := by
  have hz := encR_size f
  rcases chk_01 f with ⟨h1, h2⟩ | ⟨h1, h2⟩
  · by_cases h3 : f.k = 2
    · rw [romR_bad (fun x => x.2 h3)]
      obtain ⟨k, s, t, l, q, fl, n, e, sl, r, ep, d⟩ := f
      exact room2_bad k s t l q fl n e sl r ep d _ h2 (.inr ⟨rfl, h3⟩) w
    · rcases romR_good h1 h3 with ⟨g1, g2⟩ | ⟨g1, g2⟩
      · rw [g2]
        obtain ⟨k, s, t, l, q, fl, n, e, sl, r, ep, d⟩ := f
        exact room2_good k s t l q fl n e sl r ep d h2 (by simpa using h3) _ _ (by rw [← g1]) hz _ (.inl ⟨rfl, rfl⟩) w
      · rw [g2]
        obtain ⟨k, s, t, l, q, fl, n, e, sl, r, ep, d⟩ := f
        exact room2_good k s t l q fl n e sl r ep d h2 (by simpa using h3) _ _ (by rw [← g1]) hz _ (.inr ⟨rfl, rfl⟩) w
  · rw [romR_bad (fun x => by rw [h1] at x; exact absurd x.1 (by decide))]
    obtain ⟨k, s, t, l, q, fl, n, e, sl, r, ep, d⟩ := f
    exact room2_bad k s t l q fl n e sl r ep d _ h2 (.inl rfl) w
end Go.Proofs.Ytilpbbpdchbdfaa
