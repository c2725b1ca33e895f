/- What the bytes of a frame are read as, by the reference. -/
import Derived.Test.YtilpbbpdchbdfaaFD
import Derived.Test.YtilpbbpdchbdfaaF7
import Derived.Test.YtilpbbpdchbdfaaBRef4
namespace Go.Proofs.Ytilpbbpdchbdfaa
open Go.RowKit

theorem fr_all {w : World} {b : Nat} {T : TypeId} {f : Fr} (h : w.heap[b]? = some (.cells (frC f) T (0, 0))) :
    (w.cell? ⟨b, 0, none⟩ = some (.int .i64 f.k) ∧ w.cell? ⟨b, 1, none⟩ = some (.int .i64 f.s) ∧ w.cell? ⟨b, 2, none⟩ = some (.int .i64 f.t) ∧ w.cell? ⟨b, 3, none⟩ = some (.int .i64 f.l) ∧ w.cell? ⟨b, 4, none⟩ = some (.int .i64 f.q) ∧ w.cell? ⟨b, 5, none⟩ = some (.int .i64 f.fl) ∧ w.cell? ⟨b, 6, none⟩ = some (.int .i64 f.n) ∧ w.cell? ⟨b, 7, none⟩ = some (.int .i64 f.e) ∧ w.cell? ⟨b, 8, none⟩ = some (.int .i64 f.sl) ∧ w.cell? ⟨b, 9, none⟩ = some (.int .i64 f.r) ∧ w.cell? ⟨b, 10, none⟩ = some (.int .i64 f.ep) ∧ w.cell? ⟨b, 11, none⟩ = some (.string f.d)) ∧ (w.frozen? ⟨b, 0, none⟩ = false ∧ w.frozen? ⟨b, 1, none⟩ = false ∧ w.frozen? ⟨b, 2, none⟩ = false ∧ w.frozen? ⟨b, 3, none⟩ = false ∧ w.frozen? ⟨b, 4, none⟩ = false ∧ w.frozen? ⟨b, 5, none⟩ = false ∧ w.frozen? ⟨b, 6, none⟩ = false ∧ w.frozen? ⟨b, 7, none⟩ = false ∧ w.frozen? ⟨b, 8, none⟩ = false ∧ w.frozen? ⟨b, 9, none⟩ = false ∧ w.frozen? ⟨b, 10, none⟩ = false ∧ w.frozen? ⟨b, 11, none⟩ = false) := by
  simp [World.cell?, World.frozen?, h, frC]
/-- The reference's reader at rb, which the call has made. -/
def RD (W0 : World) (rb : Nat) (s : ByteArray) (st : Nat × Int) (w : World) : Prop := Bit.Re2 w rb s st ∧ Same W0 w ∧ W0.heap.size ≤ rb
/-- The reference's reader at rb and its frame at fb. -/
structure DI (W0 : World) (rb fb : Nat) (s : ByteArray) (st : Nat × Int) (g : Fr) (w : World) : Prop where
  re : Bit.Re2 w rb s st
  hf : w.heap[fb]? = some (.cells (frC g) 23 (0, 0))
  hs : Same W0 w
  lr : W0.heap.size ≤ rb
  lf : W0.heap.size ≤ fb
  ne : ¬ fb = rb
theorem re2_lt {w : World} {a : Nat} {s : ByteArray} {st : Nat × Int} (h : Bit.Re2 w a s st) : a < w.heap.size := by
  obtain ⟨x, y, hc⟩ := h.block
  exact lt_of_block hc
theorem same_keeps {W0 w w' : World} {a : Nat} (h : Same W0 w) (k : Bit.Keeps (fun i => i = a) w w') (ha : W0.heap.size ≤ a) : Same W0 w' :=
  Same.ofKeeps ((Bit.Keeps.ofBelow h.toBelow).trans k (fun _ h => h) (fun i hi e => by omega))
theorem RD.to {W0 w w' : World} {rb : Nat} {s : ByteArray} {st st' : Nat × Int} (h : RD W0 rb s st w) (k : Bit.ReTo2 w rb s st' w') : RD W0 rb s st' w' :=
  ⟨k.1, same_keeps h.2.1 k.2 h.2.2, h.2.2⟩
theorem DI.to {W0 w w' : World} {rb fb : Nat} {s : ByteArray} {st st' : Nat × Int} {g : Fr} (h : DI W0 rb fb s st g w) (k : Bit.ReTo2 w rb s st' w') : DI W0 rb fb s st' g w' :=
  ⟨k.1, k.2.at h.hf h.ne, same_keeps h.hs k.2 h.lr, h.lr, h.lf, h.ne⟩
theorem rd_new {W0 w : World} {s : ByteArray} (k : Same W0 w) (hs : s.size ≤ 300) : Calls Try.prog 45 #[.string s] w fun e w' => e = .returned (.pointer (some ⟨w.heap.size, 0, none⟩)) ∧ RD W0 w.heap.size s (0, 0) w' :=
  (Bit.newReader2_any w s hs).mono fun _ _ ⟨he, hr, hk⟩ => ⟨he, hr, k.trans (Same.ofKeeps hk), k.size⟩
theorem rd_un {W0 w : World} {rb : Nat} {s : ByteArray} {st st' : Nat × Int} {wd v : Int} (e : Rc.rU s wd 0 st = (st', v)) (h : RD W0 rb s st w) : Calls Try.prog 46 #[.pointer (some ⟨rb, 0, none⟩), .int .i64 wd] w fun e w' => e = .returned (.int .i64 v) ∧ RD W0 rb s st' w' := by
  have e1 : (Bit.rnum s 1 wd st).1 = st' := congrArg Prod.fst e
  have e2 : ((Bit.rnum s 1 wd st).2 : Int) = v := congrArg Prod.snd e
  have := Bit.unsigned2_any w rb s st h.1 wd
  rw [e1, e2] at this
  exact this.mono fun _ _ ⟨he, hr⟩ => ⟨he, h.to hr⟩
theorem di_un {W0 w : World} {rb fb : Nat} {s : ByteArray} {st st' : Nat × Int} {g : Fr} {wd v : Int} (e : Rc.rU s wd 0 st = (st', v)) (h : DI W0 rb fb s st g w) : Calls Try.prog 46 #[.pointer (some ⟨rb, 0, none⟩), .int .i64 wd] w fun e w' => e = .returned (.int .i64 v) ∧ DI W0 rb fb s st' g w' := by
  have e1 : (Bit.rnum s 1 wd st).1 = st' := congrArg Prod.fst e
  have e2 : ((Bit.rnum s 1 wd st).2 : Int) = v := congrArg Prod.snd e
  have := Bit.unsigned2_any w rb s st h.re wd
  rw [e1, e2] at this
  exact this.mono fun _ _ ⟨he, hr⟩ => ⟨he, h.to hr⟩
theorem di_sig {W0 w : World} {rb fb : Nat} {s : ByteArray} {st st' : Nat × Int} {g : Fr} {wd v : Int} (e : Rc.rS s wd 0 st = (st', v)) (h : DI W0 rb fb s st g w) : Calls Try.prog 48 #[.pointer (some ⟨rb, 0, none⟩), .int .i64 wd] w fun e w' => e = .returned (.int .i64 v) ∧ DI W0 rb fb s st' g w' := by
  have e1 : (Bit.rsig s wd st).1 = st' := congrArg Prod.fst e
  have e2 : (Bit.rsig s wd st).2 = v := congrArg Prod.snd e
  have := Bit.signed2_any w rb s st h.re wd
  rw [e1, e2] at this
  exact this.mono fun _ _ ⟨he, hr⟩ => ⟨he, h.to hr⟩
theorem di_flag {W0 w : World} {rb fb : Nat} {s : ByteArray} {st st' : Nat × Int} {g : Fr} {b : Bool} (e : Bit.rflag s st = (st', b)) (h : DI W0 rb fb s st g w) : Calls Try.prog 47 #[.pointer (some ⟨rb, 0, none⟩)] w fun e w' => e = .returned (.bool b) ∧ DI W0 rb fb s st' g w' := by
  have := Bit.flag2_any w rb s st h.re
  rw [e] at this
  exact this.mono fun _ _ ⟨he, hr⟩ => ⟨he, h.to hr⟩
theorem di_text {W0 w : World} {rb fb : Nat} {s : ByteArray} {st st' : Nat × Int} {g : Fr} {v : ByteArray} (e : Rc.rT s 127 ⟨#[]⟩ st = (st', v)) (h : DI W0 rb fb s st g w) : Calls Try.prog 49 #[.pointer (some ⟨rb, 0, none⟩), .int .i64 127] w fun e w' => e = .returned (.string v) ∧ DI W0 rb fb s st' g w' := by
  have e1 : (Bit.rtext s 127 st).1 = st' := congrArg Prod.fst e
  have e2 : (Bit.rtext s 127 st).2 = v := congrArg Prod.snd e
  have := Bit.text2_any w rb s st h.re 127 (by decide)
  rw [e1, e2] at this
  exact this.mono fun _ _ ⟨he, hr⟩ => ⟨he, h.to hr⟩
theorem di_close {W0 w : World} {rb fb : Nat} {s : ByteArray} {st : Nat × Int} {g : Fr} {E : Int} (e : Bit.rclose s st = E) (h : DI W0 rb fb s st g w) : Calls Try.prog 50 #[.pointer (some ⟨rb, 0, none⟩)] w fun e w' => e = .returned (.int .i64 E) ∧ DI W0 rb fb s st g w' := by
  have := Bit.close2_any w rb s st h.re
  rw [e] at this
  refine this.mono fun _ _ ⟨he, hr⟩ => ⟨he, ?_⟩
  have hr' : Bit.Keeps (fun _ => False) w _ := hr
  exact ⟨h.re.keep hr' (fun x => x), hr'.at h.hf (fun x => x), h.hs.trans (Same.ofKeeps hr'), h.lr, h.lf, h.ne⟩
theorem DI.set {W0 w : World} {rb fb : Nat} {s : ByteArray} {st : Nat × Int} {g g' : Fr} (h : DI W0 rb fb s st g w) (i : Nat) (u : Value) (hi : (frC g).setIfInBounds i u = frC g') : DI W0 rb fb s st g' (w.setCell ⟨fb, i, none⟩ u) := by
  have k : Bit.Keeps (fun j => j = fb) w (w.setCell ⟨fb, i, none⟩ u) := Bit.Keeps.setCell (S := fun j => j = fb) (Bit.Keeps.refl _ w) (p := ⟨fb, i, none⟩) (fun _ => rfl) _
  have hx := heap_setCell_same w fb i _ 23 u h.hf
  rw [hi] at hx
  exact ⟨h.re.keep k (fun e => h.ne (Eq.symm e)), hx, same_keeps h.hs k h.lf, h.lr, h.lf, h.ne⟩
theorem DI.st2 {W0 w : World} {rb fb : Nat} {S : ByteArray} {st : Nat × Int} {k s t l q fl n e sl r ep : Int} {d : ByteArray} (h : DI W0 rb fb S st ⟨k, s, t, l, q, fl, n, e, sl, r, ep, d⟩ w) (v : Int) : DI W0 rb fb S st ⟨k, s, v, l, q, fl, n, e, sl, r, ep, d⟩ (w.setCell ⟨fb, 2, none⟩ (.int .i64 v)) :=
  h.set 2 _ rfl
theorem DI.st3 {W0 w : World} {rb fb : Nat} {S : ByteArray} {st : Nat × Int} {k s t l q fl n e sl r ep : Int} {d : ByteArray} (h : DI W0 rb fb S st ⟨k, s, t, l, q, fl, n, e, sl, r, ep, d⟩ w) (v : Int) : DI W0 rb fb S st ⟨k, s, t, v, q, fl, n, e, sl, r, ep, d⟩ (w.setCell ⟨fb, 3, none⟩ (.int .i64 v)) :=
  h.set 3 _ rfl
theorem DI.st4 {W0 w : World} {rb fb : Nat} {S : ByteArray} {st : Nat × Int} {k s t l q fl n e sl r ep : Int} {d : ByteArray} (h : DI W0 rb fb S st ⟨k, s, t, l, q, fl, n, e, sl, r, ep, d⟩ w) (v : Int) : DI W0 rb fb S st ⟨k, s, t, l, v, fl, n, e, sl, r, ep, d⟩ (w.setCell ⟨fb, 4, none⟩ (.int .i64 v)) :=
  h.set 4 _ rfl
theorem DI.st5 {W0 w : World} {rb fb : Nat} {S : ByteArray} {st : Nat × Int} {k s t l q fl n e sl r ep : Int} {d : ByteArray} (h : DI W0 rb fb S st ⟨k, s, t, l, q, fl, n, e, sl, r, ep, d⟩ w) (v : Int) : DI W0 rb fb S st ⟨k, s, t, l, q, v, n, e, sl, r, ep, d⟩ (w.setCell ⟨fb, 5, none⟩ (.int .i64 v)) :=
  h.set 5 _ rfl
theorem DI.st6 {W0 w : World} {rb fb : Nat} {S : ByteArray} {st : Nat × Int} {k s t l q fl n e sl r ep : Int} {d : ByteArray} (h : DI W0 rb fb S st ⟨k, s, t, l, q, fl, n, e, sl, r, ep, d⟩ w) (v : Int) : DI W0 rb fb S st ⟨k, s, t, l, q, fl, v, e, sl, r, ep, d⟩ (w.setCell ⟨fb, 6, none⟩ (.int .i64 v)) :=
  h.set 6 _ rfl
theorem DI.st7 {W0 w : World} {rb fb : Nat} {S : ByteArray} {st : Nat × Int} {k s t l q fl n e sl r ep : Int} {d : ByteArray} (h : DI W0 rb fb S st ⟨k, s, t, l, q, fl, n, e, sl, r, ep, d⟩ w) (v : Int) : DI W0 rb fb S st ⟨k, s, t, l, q, fl, n, v, sl, r, ep, d⟩ (w.setCell ⟨fb, 7, none⟩ (.int .i64 v)) :=
  h.set 7 _ rfl
theorem DI.st8 {W0 w : World} {rb fb : Nat} {S : ByteArray} {st : Nat × Int} {k s t l q fl n e sl r ep : Int} {d : ByteArray} (h : DI W0 rb fb S st ⟨k, s, t, l, q, fl, n, e, sl, r, ep, d⟩ w) (v : Int) : DI W0 rb fb S st ⟨k, s, t, l, q, fl, n, e, v, r, ep, d⟩ (w.setCell ⟨fb, 8, none⟩ (.int .i64 v)) :=
  h.set 8 _ rfl
theorem DI.st9 {W0 w : World} {rb fb : Nat} {S : ByteArray} {st : Nat × Int} {k s t l q fl n e sl r ep : Int} {d : ByteArray} (h : DI W0 rb fb S st ⟨k, s, t, l, q, fl, n, e, sl, r, ep, d⟩ w) (v : Int) : DI W0 rb fb S st ⟨k, s, t, l, q, fl, n, e, sl, v, ep, d⟩ (w.setCell ⟨fb, 9, none⟩ (.int .i64 v)) :=
  h.set 9 _ rfl
theorem DI.st10 {W0 w : World} {rb fb : Nat} {S : ByteArray} {st : Nat × Int} {k s t l q fl n e sl r ep : Int} {d : ByteArray} (h : DI W0 rb fb S st ⟨k, s, t, l, q, fl, n, e, sl, r, ep, d⟩ w) (v : Int) : DI W0 rb fb S st ⟨k, s, t, l, q, fl, n, e, sl, r, v, d⟩ (w.setCell ⟨fb, 10, none⟩ (.int .i64 v)) :=
  h.set 10 _ rfl
theorem DI.st11 {W0 w : World} {rb fb : Nat} {S : ByteArray} {st : Nat × Int} {k s t l q fl n e sl r ep : Int} {d : ByteArray} (h : DI W0 rb fb S st ⟨k, s, t, l, q, fl, n, e, sl, r, ep, d⟩ w) (v : ByteArray) : DI W0 rb fb S st ⟨k, s, t, l, q, fl, n, e, sl, r, ep, v⟩ (w.setCell ⟨fb, 11, none⟩ (.string v)) :=
  h.set 11 _ rfl
theorem RD.born {W0 w : World} {rb : Nat} {S : ByteArray} {st : Nat × Int} (h : RD W0 rb S st w) (k s : Int) : DI W0 rb w.heap.size S st ⟨k, s, (-1), 0, 0, 0, 0, 0, 0, 0, 0, ⟨#[]⟩⟩ (w.alloc (.cells #[.int .i64 k, .int .i64 s, .int .i64 (-1), .int .i64 0, .int .i64 0, .int .i64 0, .int .i64 0, .int .i64 0, .int .i64 0, .int .i64 0, .int .i64 0, .string ⟨#[]⟩] 23)) := by
  have hl := re2_lt h.1
  exact ⟨h.1.keep (S := fun _ => False) ((Bit.Keeps.refl _ w).alloc _) (fun x => x), heap_alloc_new w _, h.2.1.alloc _, h.2.2, h.2.1.size, by omega⟩
theorem stU_eq {S : ByteArray} {i : Nat} {wd v : Int} {st st' : Nat × Int} {g g' : Fr} (e : Rc.rU S wd 0 st = (st', v)) (hg : g.set i v = g') : stU (Rc.rU S) i wd (st, g) = (st', g') := by
  unfold stU
  show ((Rc.rU S wd 0 st).1, g.set i (Rc.rU S wd 0 st).2) = _
  rw [e, ← hg]
theorem stS_eq {S : ByteArray} {v : Int} {st st' : Nat × Int} {g g' : Fr} (e : Rc.rS S 16 0 st = (st', v)) (hg : { g with e := v } = g') : stS (Rc.rS S) 16 (st, g) = (st', g') := by
  unfold stS
  show ((Rc.rS S 16 0 st).1, { g with e := (Rc.rS S 16 0 st).2 }) = _
  rw [e, ← hg]
theorem stT_eq {S : ByteArray} {v : ByteArray} {st st' : Nat × Int} {g g' : Fr} (e : Rc.rT S 127 ⟨#[]⟩ st = (st', v)) (hg : { g with d := v } = g') : stT (Rc.rT S) (st, g) = (st', g') := by
  unfold stT
  show ((Rc.rT S 127 ⟨#[]⟩ st).1, { g with d := (Rc.rT S 127 ⟨#[]⟩ st).2 }) = _
  rw [e, ← hg]
theorem stG_no {S : ByteArray} {st st' : Nat × Int} {g g' : Fr} (e : Bit.rflag S st = (st', false)) (hg : { g with t := -1 } = g') : stG (Rc.rU S) (st, g) = (st', g') := by
  have e1 : (Bit.rnum S 1 1 st).1 = st' := congrArg Prod.fst e
  have e2 : ((Bit.rnum S 1 1 st).2 == 1) = false := congrArg Prod.snd e
  have e3 : ¬ ((Bit.rnum S 1 1 st).2 : Int) = 1 := by have := beq_eq_false_iff_ne.1 e2; omega
  unfold stG Rc.rU
  rw [if_neg e3, ← hg]
  simp only [e1]
theorem stG_yes {S : ByteArray} {st st' st2 : Nat × Int} {v : Int} {g g' : Fr} (e : Bit.rflag S st = (st', true)) (e4 : Rc.rU S 5 0 st' = (st2, v)) (hg : g.set 2 v = g') : stG (Rc.rU S) (st, g) = (st2, g') := by
  have e1 : (Bit.rnum S 1 1 st).1 = st' := congrArg Prod.fst e
  have e2 : ((Bit.rnum S 1 1 st).2 == 1) = true := congrArg Prod.snd e
  have e3 : ((Bit.rnum S 1 1 st).2 : Int) = 1 := by have := beq_iff_eq.1 e2; omega
  have hq : (if (Rc.rU S 1 (if g.t = -1 then 0 else 1) st).2 = 1 then stU (Rc.rU S) 2 5 ((Rc.rU S 1 (if g.t = -1 then 0 else 1) st).1, g) else ((Rc.rU S 1 (if g.t = -1 then 0 else 1) st).1, { g with t := -1 })) = stU (Rc.rU S) 2 5 ((Rc.rU S 1 (if g.t = -1 then 0 else 1) st).1, g) := if_pos e3
  have h1 : (Rc.rU S 1 (if g.t = -1 then 0 else 1) st).1 = st' := e1
  rw [h1] at hq
  unfold stG
  simp only
  rw [h1, hq]
  exact stU_eq e4 hg
set_option maxRecDepth 100000 in
theorem decode2_1 (data : ByteArray) (h : decide ((127 : Int) < (data.size : Int)) = true) (w : World) : Calls Try.prog 21 #[.string data] w fun e w' => e = .returned (.tuple #[frV fr0, .int .i64 8]) ∧ Same w w' := by
  obtain ⟨⟨z0, z1, z2, z3, z4, z5, z6, z7, z8, z9, z10, z11⟩, ⟨g0, g1, g2, g3, g4, g5, g6, g7, g8, g9, g10, g11⟩⟩ := z_cells (heap_alloc_new w (.cells (frC fr0) 23))
  go_enter Try.func21, Try.ntmps21
  go_wp2
  exact bodyPost_ret (v := .tuple #[frV fr0, .int .i64 8]) (by simp [results, Try.results21, go_sem, z0, z1, z2, z3, z4, z5, z6, z7, z8, z9, z10, z11]) rfl ⟨rfl, (Same.refl w).alloc _⟩
set_option maxRecDepth 100000 in
set_option maxHeartbeats 1600000 in
theorem decode2_2 (data : ByteArray) (h : decide ((127 : Int) < (data.size : Int)) = false) (S : ByteArray) (C : Int) (hC : (C != 0) = true) (k1 : ∀ w1, Calls Try.prog 44 #[.string data] w1 fun e w' => e = .returned (.tuple #[.string S, .int .i64 C]) ∧ Same w1 w') (w : World) : Calls Try.prog 21 #[.string data] w fun e w' => e = .returned (.tuple #[frV fr0, .int .i64 C]) ∧ Same w w' := by
  have K1 := Lib.hid k1
  clear k1
  have HS := Lib.hid ((Same.refl w).alloc (.cells (frC fr0) 23))
  have HZ := Lib.hid (fun (w1 : World) (h : Same (w.alloc (.cells (frC fr0) 23)) w1) => z_cells (h.at (heap_alloc_new w _)))
  go_enter Try.func21, Try.ntmps21
  go_wp2_with (go_at_call 44; (with_reducible refine (K1.out _).mono ?_); rintro E1 w1 ⟨rfl, hw⟩; obtain ⟨⟨z0, z1, z2, z3, z4, z5, z6, z7, z8, z9, z10, z11⟩, ⟨g0, g1, g2, g3, g4, g5, g6, g7, g8, g9, g10, g11⟩⟩ := HZ.out _ hw; have HX := Lib.hid hw; clear hw)
  exact bodyPost_ret (v := .tuple #[frV fr0, .int .i64 C]) (by simp [results, Try.results21, go_sem, z0, z1, z2, z3, z4, z5, z6, z7, z8, z9, z10, z11]) rfl ⟨rfl, by first | exact done12 (HS.out.trans HX.out) (Nat.le_refl _) _ _ _ _ _ _ _ _ _ _ _ _ | exact HS.out.trans HX.out⟩
end Go.Proofs.Ytilpbbpdchbdfaa
