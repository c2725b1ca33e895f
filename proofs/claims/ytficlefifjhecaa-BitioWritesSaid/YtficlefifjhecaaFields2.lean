/- The law's own read and write. -/
import Derived.Test.YtficlefifjhecaaFields
namespace Go.Proofs.Ytficlefifjhecaa
open Go.RowKit

theorem block4_cell {w : World} {b : Nat} {x y z u : Value} {t : TypeId} (h : w.heap[b]? = some (.cells #[x, y, z, u] t (0, 0))) :
    w.cell? ⟨b, 0, none⟩ = some x ∧ w.cell? ⟨b, 1, none⟩ = some y ∧ w.cell? ⟨b, 2, none⟩ = some z ∧ w.cell? ⟨b, 3, none⟩ = some u ∧ w.frozen? ⟨b, 0, none⟩ = false ∧ w.frozen? ⟨b, 1, none⟩ = false ∧ w.frozen? ⟨b, 2, none⟩ = false ∧ w.frozen? ⟨b, 3, none⟩ = false := by
  simp [World.cell?, World.frozen?, h]

/-- The two boxes of read. -/
def boxes (w : World) (f : Fld) : World := (w.alloc (.cells #[.int .i64 f.kind, .int .i64 f.width, .int .i64 f.n, .string f.s] 30)).alloc (.cells #[.int .i64 0, .int .i64 0, .int .i64 0, .string ⟨#[]⟩] 30)
theorem boxes_keep (w : World) (f : Fld) : Keeps (fun _ => False) w (boxes w f) := ((Keeps.refl _ w).alloc _).alloc _
/-- What the boxes hold in a world behind a call that keeps them. -/
theorem boxes_at {w w' : World} {f : Fld} {a : Nat} (ha : a < w.heap.size) (k : Keeps (fun i => i = a) (boxes w f) w') :
    w'.heap[w.heap.size]? = some (.cells #[.int .i64 f.kind, .int .i64 f.width, .int .i64 f.n, .string f.s] 30 (0, 0)) ∧ w'.heap[w.heap.size + 1]? = some (.cells #[.int .i64 0, .int .i64 0, .int .i64 0, .string ⟨#[]⟩] 30 (0, 0)) := by
  have h1 : (boxes w f).heap[w.heap.size]? = some (.cells #[.int .i64 f.kind, .int .i64 f.width, .int .i64 f.n, .string f.s] 30 (0, 0)) := by
    unfold boxes
    rw [Below.heap_alloc _ _ _ (by simp)]
    exact heap_alloc_new w _
  have h2 : (boxes w f).heap[w.heap.size + 1]? = some (.cells #[.int .i64 0, .int .i64 0, .int .i64 0, .string ⟨#[]⟩] 30 (0, 0)) := by
    unfold boxes
    have := heap_alloc_new (w.alloc (.cells #[.int .i64 f.kind, .int .i64 f.width, .int .i64 f.n, .string f.s] 30)) (.cells #[.int .i64 0, .int .i64 0, .int .i64 0, .string ⟨#[]⟩] 30)
    simpa using this
  exact ⟨k.at h1 (by omega), k.at h2 (by omega)⟩

/-- Behind the stores into the two boxes. -/
theorem read_end {w w1 w2 : World} {a : Nat} {s : ByteArray} {st : Nat × Int} {ff : Fld} (ha : a < w.heap.size) (hr : ReTo (boxes w ff) a s st w1)
    (hk : ∀ S : Nat → Prop, S w.heap.size → S (w.heap.size + 1) → Keeps S w1 w2) : ReTo w a s st w2 := by
  have k := hk (fun i => i = w.heap.size ∨ i = w.heap.size + 1) (Or.inl rfl) (Or.inr rfl)
  refine ⟨hr.1.keep k (by omega), ?_⟩
  refine ((boxes_keep w ff).trans hr.2 (U := fun i => i = a) (fun _ h => h.elim) (fun _ _ h => h)).trans k (fun _ h => h) ?_
  intro i hi h; omega

theorem set4 {w : World} {g : Nat} {x0 y0 z0 u0 : Value} {t : TypeId} (x y z u : Value) (h : w.heap[g]? = some (.cells #[x0, y0, z0, u0] t (0, 0))) :
    ((((w.setCell ⟨g, 0, none⟩ x).setCell ⟨g, 1, none⟩ y).setCell ⟨g, 2, none⟩ z).setCell ⟨g, 3, none⟩ u).heap[g]? = some (.cells #[x, y, z, u] t (0, 0)) :=
  heap_setCell_same _ g 3 _ t u (heap_setCell_same _ g 2 _ t z (heap_setCell_same _ g 1 _ t y (heap_setCell_same _ g 0 _ t x h)))
theorem set_other {w : World} {g b o : Nat} {x : Obj} (v : Value) (h : w.heap[g]? = some x) (hb : g ≠ b) : (w.setCell ⟨b, o, none⟩ v).heap[g]? = some x := by
  rw [Below.heap_setCell _ _ _ _ hb]; exact h
/-- The end of read: what the result's cell holds is returned. -/
theorem read_ret {w5 : World} {g : Nat} {x y z u : Value} {act : Act} {Q : Ending → World → Prop} (h4 : act.tmps[4]?.getD undef = .pointer (some ⟨g, 0, none⟩)) (hd : act.defers = []) (h : w5.heap[g]? = some (.cells #[x, y, z, u] 30 (0, 0)))
    (hQ : Q (.returned (.agg #[x, y, z, u])) w5) : bodyPost Try.prog Try.f23 Q Exit.ret act w5 := by
  obtain ⟨c0, c1, c2, c3, _⟩ := block4_cell h
  exact bodyPost_ret (v := .agg #[x, y, z, u]) (by simp [results, Try.results23, go_sem, h4, c0, c1, c2, c3]) hd hQ

theorem lread_0 (w : World) (a : Nat) (s : ByteArray) (st : Nat × Int) (h : Re w a s st) (ha : a < w.heap.size) (wd n : Int) (t : ByteArray) :
    Calls Try.prog 23 #[.pointer (some ⟨a, 0, none⟩), .agg #[.int .i64 0, .int .i64 wd, .int .i64 n, .string t]] w fun e w' => e = .returned (.agg #[.int .i64 0, .int .i64 wd, .int .i64 (rnum s 1 wd st).2, .string ⟨#[]⟩]) ∧ ReTo w a s (rnum s 1 wd st).1 w' := by
  have hc : Calls Try.prog 40 #[.pointer (some ⟨a, 0, none⟩), .int .i64 wd] (boxes w ⟨0, wd, n, t⟩) fun e w' => e = .returned (.int .i64 (rnum s 1 wd st).2) ∧ ReTo (boxes w ⟨0, wd, n, t⟩) a s (rnum s 1 wd st).1 w' :=
    runsigned_any _ a s st (h.keep (boxes_keep _ _) (fun h => h)) wd
  have hb := fun w' k => boxes_at (w := w) (w' := w') (f := ⟨0, wd, n, t⟩) ha k
  generalize rnum s 1 wd st = r at *
  have HC := Lib.hid hc; clear hc h
  have HB := Lib.hid hb; clear hb
  go_enter Try.func23, Try.ntmps23
  go_wp2_with (go_at_call 40; refine (HC.out).mono ?_; rintro e w1 ⟨rfl, hr⟩; obtain ⟨b3, b4⟩ := HB.out _ hr.2; obtain ⟨p0, p1, p2, p3, q0, q1, q2, q3⟩ := block4_cell b3; obtain ⟨s0, s1, s2, s3, t0, t1, t2, t3⟩ := block4_cell b4; have B4 := Lib.hid b4; clear b3 b4; have HR := Lib.hid hr; clear hr)
  refine read_ret (g := w.heap.size + 1) (x := .int .i64 0) (y := .int .i64 wd) (z := .int .i64 r.2) (u := .string ⟨#[]⟩) ?h4 ?hd ?hX ?hQ
  case h4 => rfl
  case hd => rfl
  case hX => exact set4 _ _ _ _ (set_other _ (set_other _ B4.out (Nat.succ_ne_self _)) (Nat.succ_ne_self _))
  refine ⟨rfl, ?_⟩
  refine read_end (ff := ⟨0, wd, n, t⟩) ha HR.out ?_
  intro S hS hS'
  exact ((((((Keeps.refl S w1).setCell (p := ⟨w.heap.size, 2, none⟩) (fun _ => hS) _).setCell (p := ⟨w.heap.size, 3, none⟩) (fun _ => hS) _).setCell (p := ⟨w.heap.size + 1, 0, none⟩) (fun _ => hS') _).setCell (p := ⟨w.heap.size + 1, 1, none⟩) (fun _ => hS') _).setCell (p := ⟨w.heap.size + 1, 2, none⟩) (fun _ => hS') _).setCell (p := ⟨w.heap.size + 1, 3, none⟩) (fun _ => hS') _
theorem lread_1 (w : World) (a : Nat) (s : ByteArray) (st : Nat × Int) (h : Re w a s st) (ha : a < w.heap.size) (wd n : Int) (t : ByteArray) :
    Calls Try.prog 23 #[.pointer (some ⟨a, 0, none⟩), .agg #[.int .i64 1, .int .i64 wd, .int .i64 n, .string t]] w fun e w' => e = .returned (.agg #[.int .i64 1, .int .i64 wd, .int .i64 (rsig s wd st).2, .string ⟨#[]⟩]) ∧ ReTo w a s (rsig s wd st).1 w' := by
  have hc : Calls Try.prog 37 #[.pointer (some ⟨a, 0, none⟩), .int .i64 wd] (boxes w ⟨1, wd, n, t⟩) fun e w' => e = .returned (.int .i64 (rsig s wd st).2) ∧ ReTo (boxes w ⟨1, wd, n, t⟩) a s (rsig s wd st).1 w' :=
    rsigned_any _ a s st (h.keep (boxes_keep _ _) (fun h => h)) wd
  have hb := fun w' k => boxes_at (w := w) (w' := w') (f := ⟨1, wd, n, t⟩) ha k
  generalize rsig s wd st = r at *
  have HC := Lib.hid hc; clear hc h
  have HB := Lib.hid hb; clear hb
  go_enter Try.func23, Try.ntmps23
  go_wp2_with (go_at_call 37; refine (HC.out).mono ?_; rintro e w1 ⟨rfl, hr⟩; obtain ⟨b3, b4⟩ := HB.out _ hr.2; obtain ⟨p0, p1, p2, p3, q0, q1, q2, q3⟩ := block4_cell b3; obtain ⟨s0, s1, s2, s3, t0, t1, t2, t3⟩ := block4_cell b4; have B4 := Lib.hid b4; clear b3 b4; have HR := Lib.hid hr; clear hr)
  refine read_ret (g := w.heap.size + 1) (x := .int .i64 1) (y := .int .i64 wd) (z := .int .i64 r.2) (u := .string ⟨#[]⟩) ?h4 ?hd ?hX ?hQ
  case h4 => rfl
  case hd => rfl
  case hX => exact set4 _ _ _ _ (set_other _ (set_other _ B4.out (Nat.succ_ne_self _)) (Nat.succ_ne_self _))
  refine ⟨rfl, ?_⟩
  refine read_end (ff := ⟨1, wd, n, t⟩) ha HR.out ?_
  intro S hS hS'
  exact ((((((Keeps.refl S w1).setCell (p := ⟨w.heap.size, 2, none⟩) (fun _ => hS) _).setCell (p := ⟨w.heap.size, 3, none⟩) (fun _ => hS) _).setCell (p := ⟨w.heap.size + 1, 0, none⟩) (fun _ => hS') _).setCell (p := ⟨w.heap.size + 1, 1, none⟩) (fun _ => hS') _).setCell (p := ⟨w.heap.size + 1, 2, none⟩) (fun _ => hS') _).setCell (p := ⟨w.heap.size + 1, 3, none⟩) (fun _ => hS') _
theorem lread_3 (w : World) (a : Nat) (s : ByteArray) (st : Nat × Int) (h : Re w a s st) (ha : a < w.heap.size) (wd n : Int) (hwd : wd ≤ 9223372036854775807) (t : ByteArray) :
    Calls Try.prog 23 #[.pointer (some ⟨a, 0, none⟩), .agg #[.int .i64 3, .int .i64 wd, .int .i64 n, .string t]] w fun e w' => e = .returned (.agg #[.int .i64 3, .int .i64 wd, .int .i64 0, .string (rtext s wd st).2]) ∧ ReTo w a s (rtext s wd st).1 w' := by
  have hc : Calls Try.prog 42 #[.pointer (some ⟨a, 0, none⟩), .int .i64 wd] (boxes w ⟨3, wd, n, t⟩) fun e w' => e = .returned (.string (rtext s wd st).2) ∧ ReTo (boxes w ⟨3, wd, n, t⟩) a s (rtext s wd st).1 w' :=
    rtext_any _ a s st (h.keep (boxes_keep _ _) (fun h => h)) wd hwd
  have hb := fun w' k => boxes_at (w := w) (w' := w') (f := ⟨3, wd, n, t⟩) ha k
  generalize rtext s wd st = r at *
  have HC := Lib.hid hc; clear hc h
  have HB := Lib.hid hb; clear hb
  go_enter Try.func23, Try.ntmps23
  go_wp2_with (go_at_call 42; refine (HC.out).mono ?_; rintro e w1 ⟨rfl, hr⟩; obtain ⟨b3, b4⟩ := HB.out _ hr.2; obtain ⟨p0, p1, p2, p3, q0, q1, q2, q3⟩ := block4_cell b3; obtain ⟨s0, s1, s2, s3, t0, t1, t2, t3⟩ := block4_cell b4; have B4 := Lib.hid b4; clear b3 b4; have HR := Lib.hid hr; clear hr)
  refine read_ret (g := w.heap.size + 1) (x := .int .i64 3) (y := .int .i64 wd) (z := .int .i64 0) (u := .string r.2) ?h4 ?hd ?hX ?hQ
  case h4 => rfl
  case hd => rfl
  case hX => exact set4 _ _ _ _ (set_other _ (set_other _ B4.out (Nat.succ_ne_self _)) (Nat.succ_ne_self _))
  refine ⟨rfl, ?_⟩
  refine read_end (ff := ⟨3, wd, n, t⟩) ha HR.out ?_
  intro S hS hS'
  exact ((((((Keeps.refl S w1).setCell (p := ⟨w.heap.size, 2, none⟩) (fun _ => hS) _).setCell (p := ⟨w.heap.size, 3, none⟩) (fun _ => hS) _).setCell (p := ⟨w.heap.size + 1, 0, none⟩) (fun _ => hS') _).setCell (p := ⟨w.heap.size + 1, 1, none⟩) (fun _ => hS') _).setCell (p := ⟨w.heap.size + 1, 2, none⟩) (fun _ => hS') _).setCell (p := ⟨w.heap.size + 1, 3, none⟩) (fun _ => hS') _
theorem lread_2t (w : World) (a : Nat) (s : ByteArray) (st2 : Nat × Int) (ha : a < w.heap.size) (wd n : Int) (t : ByteArray)
    (hc : Calls Try.prog 41 #[.pointer (some ⟨a, 0, none⟩)] (boxes w ⟨2, 0, 0, ⟨#[]⟩⟩) fun e w' => e = .returned (.bool true) ∧ ReTo (boxes w ⟨2, 0, 0, ⟨#[]⟩⟩) a s st2 w') :
    Calls Try.prog 23 #[.pointer (some ⟨a, 0, none⟩), .agg #[.int .i64 2, .int .i64 wd, .int .i64 n, .string t]] w fun e w' => e = .returned (.agg #[.int .i64 2, .int .i64 0, .int .i64 1, .string ⟨#[]⟩]) ∧ ReTo w a s st2 w' := by
  have hb := fun w' k => boxes_at (w := w) (w' := w') (f := ⟨2, 0, 0, ⟨#[]⟩⟩) ha k
  have HC := Lib.hid hc; clear hc
  have HB := Lib.hid hb; clear hb
  go_enter Try.func23, Try.ntmps23
  go_wp2_with (go_at_call 41; refine (HC.out).mono ?_; rintro e w1 ⟨rfl, hr⟩; obtain ⟨b3, b4⟩ := HB.out _ hr.2; obtain ⟨p0, p1, p2, p3, q0, q1, q2, q3⟩ := block4_cell b3; obtain ⟨s0, s1, s2, s3, t0, t1, t2, t3⟩ := block4_cell b4; have B4 := Lib.hid b4; clear b3 b4; have HR := Lib.hid hr; clear hr)
  refine read_ret (g := w.heap.size + 1) (x := .int .i64 2) (y := .int .i64 0) (z := .int .i64 1) (u := .string ⟨#[]⟩) ?h4 ?hd ?hX ?hQ
  case h4 => rfl
  case hd => rfl
  case hX => exact set4 _ _ _ _ (set_other _ B4.out (Nat.succ_ne_self _))
  refine ⟨rfl, ?_⟩
  refine read_end (ff := ⟨2, 0, 0, ⟨#[]⟩⟩) ha HR.out ?_
  intro S hS hS'
  exact ((((((Keeps.refl S w1).setCell (p := ⟨w.heap.size, 2, none⟩) (fun _ => hS) _).setCell (p := ⟨w.heap.size + 1, 0, none⟩) (fun _ => hS') _).setCell (p := ⟨w.heap.size + 1, 1, none⟩) (fun _ => hS') _).setCell (p := ⟨w.heap.size + 1, 2, none⟩) (fun _ => hS') _).setCell (p := ⟨w.heap.size + 1, 3, none⟩) (fun _ => hS') _)
theorem lread_2f (w : World) (a : Nat) (s : ByteArray) (st2 : Nat × Int) (ha : a < w.heap.size) (wd n : Int) (t : ByteArray)
    (hc : Calls Try.prog 41 #[.pointer (some ⟨a, 0, none⟩)] (boxes w ⟨2, 0, 0, ⟨#[]⟩⟩) fun e w' => e = .returned (.bool false) ∧ ReTo (boxes w ⟨2, 0, 0, ⟨#[]⟩⟩) a s st2 w') :
    Calls Try.prog 23 #[.pointer (some ⟨a, 0, none⟩), .agg #[.int .i64 2, .int .i64 wd, .int .i64 n, .string t]] w fun e w' => e = .returned (.agg #[.int .i64 2, .int .i64 0, .int .i64 0, .string ⟨#[]⟩]) ∧ ReTo w a s st2 w' := by
  have hb := fun w' k => boxes_at (w := w) (w' := w') (f := ⟨2, 0, 0, ⟨#[]⟩⟩) ha k
  have HC := Lib.hid hc; clear hc
  have HB := Lib.hid hb; clear hb
  go_enter Try.func23, Try.ntmps23
  go_wp2_with (go_at_call 41; refine (HC.out).mono ?_; rintro e w1 ⟨rfl, hr⟩; obtain ⟨b3, b4⟩ := HB.out _ hr.2; obtain ⟨p0, p1, p2, p3, q0, q1, q2, q3⟩ := block4_cell b3; obtain ⟨s0, s1, s2, s3, t0, t1, t2, t3⟩ := block4_cell b4; have B4 := Lib.hid b4; clear b3 b4; have HR := Lib.hid hr; clear hr)
  refine read_ret (g := w.heap.size + 1) (x := .int .i64 2) (y := .int .i64 0) (z := .int .i64 0) (u := .string ⟨#[]⟩) ?h4 ?hd ?hX ?hQ
  case h4 => rfl
  case hd => rfl
  case hX => exact set4 _ _ _ _ (B4.out)
  refine ⟨rfl, ?_⟩
  refine read_end (ff := ⟨2, 0, 0, ⟨#[]⟩⟩) ha HR.out ?_
  intro S hS hS'
  exact (((((Keeps.refl S w1).setCell (p := ⟨w.heap.size + 1, 0, none⟩) (fun _ => hS') _).setCell (p := ⟨w.heap.size + 1, 1, none⟩) (fun _ => hS') _).setCell (p := ⟨w.heap.size + 1, 2, none⟩) (fun _ => hS') _).setCell (p := ⟨w.heap.size + 1, 3, none⟩) (fun _ => hS') _)
theorem lread_2 (w : World) (a : Nat) (s : ByteArray) (st : Nat × Int) (h : Re w a s st) (ha : a < w.heap.size) (wd n : Int) (t : ByteArray) :
    Calls Try.prog 23 #[.pointer (some ⟨a, 0, none⟩), .agg #[.int .i64 2, .int .i64 wd, .int .i64 n, .string t]] w fun e w' => e = .returned (.agg #[.int .i64 2, .int .i64 0, .int .i64 (if (rflag s st).2 then 1 else 0), .string ⟨#[]⟩]) ∧ ReTo w a s (rflag s st).1 w' := by
  have hc := rflag_any (boxes w ⟨2, 0, 0, ⟨#[]⟩⟩) a s st (h.keep (boxes_keep _ _) (fun h => h))
  generalize hr : rflag s st = r at *
  obtain ⟨st2, b⟩ := r
  cases b
  · exact lread_2f w a s st2 ha wd n t hc
  · exact lread_2t w a s st2 ha wd n t hc

theorem Re.lt {w : World} {a : Nat} {s : ByteArray} {st : Nat × Int} (h : Re w a s st) : a < w.heap.size := by
  obtain ⟨x, y, h⟩ := h.err
  exact lt_of_block h
theorem lread_9 (w : World) (a : Nat) (s : ByteArray) (st : Nat × Int) (h : Re w a s st) (k wd n : Int) (hk : k < 0 ∨ 3 < k) (t : ByteArray) :
    Calls Try.prog 23 #[.pointer (some ⟨a, 0, none⟩), .agg #[.int .i64 k, .int .i64 wd, .int .i64 n, .string t]] w fun e w' => e = .returned (.agg #[.int .i64 k, .int .i64 wd, .int .i64 n, .string t]) ∧ ReTo w a s st w' := by
  have k0 : (k == 0) = false := by rw [beq_eq_false_iff_ne]; omega
  have k1 : (k == 1) = false := by rw [beq_eq_false_iff_ne]; omega
  have k2 : (k == 2) = false := by rw [beq_eq_false_iff_ne]; omega
  have k3 : (k == 3) = false := by rw [beq_eq_false_iff_ne]; omega
  have H := Lib.hid h; clear h hk
  go_enter Try.func23, Try.ntmps23
  go_wp2
  have hn := heap_alloc_new (w.alloc (.cells #[.int .i64 k, .int .i64 wd, .int .i64 n, .string t] 30)) (.cells #[.int .i64 k, .int .i64 wd, .int .i64 n, .string t] 30)
  have hkp : Keeps (fun _ => False) w ((w.alloc (.cells #[.int .i64 k, .int .i64 wd, .int .i64 n, .string t] 30)).alloc (.cells #[.int .i64 k, .int .i64 wd, .int .i64 n, .string t] 30)) := ((Keeps.refl _ w).alloc _).alloc _
  rw [show (w.alloc (.cells #[.int .i64 k, .int .i64 wd, .int .i64 n, .string t] 30)).heap.size = w.heap.size + 1 by simp] at hn
  exact read_ret rfl rfl hn ⟨rfl, H.out.keep hkp (fun h => h), hkp.mono (fun _ _ h => h.elim)⟩
/-- A field is read: what it reads as, and the state behind it. -/
theorem lread_any (w : World) (a : Nat) (s : ByteArray) (st : Nat × Int) (h : Re w a s st) (f : Fld) (hf : f.ok) :
    Calls Try.prog 23 #[.pointer (some ⟨a, 0, none⟩), fldV f] w fun e w' => e = .returned (fldV (rdF s f st)) ∧ ReTo w a s (rdSt s f st) w' := by
  obtain ⟨k, wd, n, t⟩ := f
  obtain ⟨_, hwd, _, _⟩ := hf
  have ha := h.lt
  by_cases k0 : k = 0
  · subst k0; exact lread_0 w a s st h ha wd n t
  by_cases k1 : k = 1
  · subst k1; exact lread_1 w a s st h ha wd n t
  by_cases k2 : k = 2
  · subst k2; exact lread_2 w a s st h ha wd n t
  by_cases k3 : k = 3
  · subst k3; exact lread_3 w a s st h ha wd n hwd.2 t
  have e1 : rdF s ⟨k, wd, n, t⟩ st = ⟨k, wd, n, t⟩ := by unfold rdF; rw [if_neg k0, if_neg k1, if_neg k2, if_neg k3]
  have e2 : rdSt s ⟨k, wd, n, t⟩ st = st := by unfold rdSt; rw [if_neg k0, if_neg k1, if_neg k2, if_neg k3]
  rw [e1, e2]
  exact lread_9 w a s st h k wd n (by omega) t
end Go.Proofs.Ytficlefifjhecaa
