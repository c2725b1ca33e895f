/- How the fields of a frame are passed on, one behind the other: a writer takes them. -/
import Derived.Test.YtilpbbpdchbdfaaF9
namespace Go.Proofs.Ytilpbbpdchbdfaa.Wc
open Go.RowKit

/-- The list of functions by which fields are passed on, in its box. -/
abbrev pCs (fb cb : Nat) : Array Value := #[.pointer (some ⟨fb, 0, none⟩), .func (.func 62) #[] #[.pointer (some ⟨cb, 0, none⟩)], .func (.func 64) #[] #[.pointer (some ⟨cb, 0, none⟩)], .func (.func 66) #[] #[.pointer (some ⟨cb, 0, none⟩)]]
/-- Who takes the fields: a state, and what the three functions do to it and to the field. -/
structure Coder (σ : Type) (fb cb : Nat) where
  inv : σ × Fr → List (Nat × Obj) → World → Prop
  U : Int → Int → σ → σ × Int
  Sg : Int → Int → σ → σ × Int
  Tx : Int → ByteArray → σ → σ × ByteArray
  frm : ∀ {x P w}, inv x P w → w.heap[fb]? = some (.cells (frC x.2) 23 (0, 0))
  bnd : ∀ {x P w}, inv x P w → -9223372036854775808 ≤ x.2.k ∧ x.2.k ≤ 9223372036854775807
  mem : ∀ {x P w}, inv x P w → ∀ p ∈ P, w.heap[p.1]? = some p.2
  same : ∀ {x P w w'}, inv x P w → Same w w' → inv x P w'
  alloc : ∀ {x P w} (cs : Array Value) (T : TypeId), inv x P w → inv x ((w.heap.size, .cells cs T (0, 0)) :: P) (w.alloc (.cells cs T))
  drop : ∀ {x p P w}, inv x (p :: P) w → inv x P w
  setBox : ∀ {x b v T P w} (u : Value), inv x ((b, .cells #[v] T (0, 0)) :: P) w → inv x ((b, .cells #[u] T (0, 0)) :: P) (w.setCell ⟨b, 0, none⟩ u)
  setT : ∀ {x P w}, inv x P w → inv (x.1, { x.2 with t := -1 }) P (w.setCell ⟨fb, 2, none⟩ (.int .i64 (-1)))
  cU : ∀ {x P w} (i : Nat) (wd : Int), i < 11 → inv x P w → Calls Try.prog 62 #[.int .i64 wd, .pointer (some ⟨fb, i, none⟩), .pointer (some ⟨cb, 0, none⟩)] w fun e w' => e = .returned (.tuple #[]) ∧ inv (stU U i wd x) P w'
  cB : ∀ {x b n P w} (wd : Int), inv x ((b, .cells #[.int .i64 n] 3 (0, 0)) :: P) w → Calls Try.prog 62 #[.int .i64 wd, .pointer (some ⟨b, 0, none⟩), .pointer (some ⟨cb, 0, none⟩)] w fun e w' => e = .returned (.tuple #[]) ∧ inv ((U wd n x.1).1, x.2) ((b, .cells #[.int .i64 (U wd n x.1).2] 3 (0, 0)) :: P) w'
  cS : ∀ {x P w} (wd : Int), inv x P w → Calls Try.prog 64 #[.int .i64 wd, .pointer (some ⟨fb, 7, none⟩), .pointer (some ⟨cb, 0, none⟩)] w fun e w' => e = .returned (.tuple #[]) ∧ inv (stS Sg wd x) P w'
  cT : ∀ {x P w}, inv x P w → Calls Try.prog 66 #[.int .i64 127, .pointer (some ⟨fb, 11, none⟩), .pointer (some ⟨cb, 0, none⟩)] w fun e w' => e = .returned (.tuple #[]) ∧ inv (stT Tx x) P w'

section
variable {σ : Type} {fb cb : Nat} (C : Coder σ fb cb)
theorem Coder.pbox {x : σ × Fr} {P : List (Nat × Obj)} {w : World} {b : Nat} (h : C.inv x ((b, .cells (pCs fb cb) 86 (0, 0)) :: P) w) :
    w.cell? ⟨b, 0, none⟩ = some (.pointer (some ⟨fb, 0, none⟩)) ∧ w.cell? ⟨b, 1, none⟩ = some (.func (.func 62) #[] #[.pointer (some ⟨cb, 0, none⟩)]) ∧ w.cell? ⟨b, 2, none⟩ = some (.func (.func 64) #[] #[.pointer (some ⟨cb, 0, none⟩)]) ∧ w.cell? ⟨b, 3, none⟩ = some (.func (.func 66) #[] #[.pointer (some ⟨cb, 0, none⟩)]) := by
  have hb := C.mem h _ (List.mem_cons_self ..)
  simp only at hb
  simp [World.cell?, hb]
set_option maxRecDepth 100000 in
theorem message_any {x : σ × Fr} {P : List (Nat × Obj)} {w : World} (h : C.inv x P w) : Calls Try.prog 118 #[.agg (pCs fb cb)] w fun e w' => e = .returned (.tuple #[]) ∧ C.inv (stT C.Tx x) P w' := by
  have h0 := C.alloc (pCs fb cb) 86 h
  clear h
  have HK := Lib.hid (fun (x : σ × Fr) (w : World) (b : Nat) (h : C.inv x ((b, .cells (pCs fb cb) 86 (0, 0)) :: P) w) => C.pbox h)
  have hd := C.same h0 ((Same.refl _).drew)
  have hcall := C.cT hd
  have HC0 := Lib.hid hcall; clear hcall
  have q0 := HK.out _ _ _ h0; have qd := HK.out _ _ _ hd
  clear h0 hd
  obtain ⟨p0, p1, p2, p3⟩ := q0
  go_enter Try.func118, Try.ntmps118
  go_wp2
  go_region_held3 (fun w' => w'.cell? ⟨w.heap.size, 0, none⟩ = some (.pointer (some ⟨fb, 0, none⟩)) ∧ w'.cell? ⟨w.heap.size, 3, none⟩ = some (.func (.func 66) #[] #[.pointer (some ⟨cb, 0, none⟩)]))
    (first | exact ⟨qd.1, qd.2.2.2⟩ | exact ⟨(HK.out _ _ _ h1).1, (HK.out _ _ _ h1).2.2.2⟩ | assumption)
    (first | (go_at_call 66; (with_reducible refine (HC0.out).mono ?_); rintro e w1 ⟨rfl, h1⟩) | fail)
  clear qd HC0
  try clear p0 p1 p2 p3
  have HF := Lib.hid (C.drop h1)
  clear h1
  go_wp2
  go_end0
  exact ⟨rfl, HF.out⟩
set_option maxRecDepth 100000 in
theorem ack_any {x : σ × Fr} {P : List (Nat × Obj)} {w : World} (h : C.inv x P w) : Calls Try.prog 116 #[.agg (pCs fb cb)] w fun e w' => e = .returned (.tuple #[]) ∧ C.inv (stS C.Sg 16 x) P w' := by
  have h0 := C.alloc (pCs fb cb) 86 h
  clear h
  have HK := Lib.hid (fun (x : σ × Fr) (w : World) (b : Nat) (h : C.inv x ((b, .cells (pCs fb cb) 86 (0, 0)) :: P) w) => C.pbox h)
  have hd := C.same h0 ((Same.refl _).drew)
  have hcall := C.cS 16 hd
  have HC0 := Lib.hid hcall; clear hcall
  have q0 := HK.out _ _ _ h0; have qd := HK.out _ _ _ hd
  clear h0 hd
  obtain ⟨p0, p1, p2, p3⟩ := q0
  go_enter Try.func116, Try.ntmps116
  go_wp2
  go_region_held3 (fun w' => w'.cell? ⟨w.heap.size, 0, none⟩ = some (.pointer (some ⟨fb, 0, none⟩)) ∧ w'.cell? ⟨w.heap.size, 2, none⟩ = some (.func (.func 64) #[] #[.pointer (some ⟨cb, 0, none⟩)]))
    (first | exact ⟨qd.1, qd.2.2.1⟩ | exact ⟨(HK.out _ _ _ h1).1, (HK.out _ _ _ h1).2.2.1⟩ | assumption)
    (first | (go_at_call 64; (with_reducible refine (HC0.out).mono ?_); rintro e w1 ⟨rfl, h1⟩) | fail)
  clear qd HC0
  try clear p0 p1 p2 p3
  have HF := Lib.hid (C.drop h1)
  clear h1
  go_wp2
  go_end0
  exact ⟨rfl, HF.out⟩
set_option maxRecDepth 100000 in
theorem data_any {x : σ × Fr} {P : List (Nat × Obj)} {w : World} (h : C.inv x P w) : Calls Try.prog 115 #[.agg (pCs fb cb)] w fun e w' => e = .returned (.tuple #[]) ∧ C.inv (stT C.Tx (stU C.U 6 16 (stU C.U 5 8 x))) P w' := by
  have h0 := C.alloc (pCs fb cb) 86 h
  clear h
  have HK := Lib.hid (fun (x : σ × Fr) (w : World) (b : Nat) (h : C.inv x ((b, .cells (pCs fb cb) 86 (0, 0)) :: P) w) => C.pbox h)
  have hd := C.same h0 ((Same.refl _).drew)
  have hcall := C.cU 5 8 (by decide) hd
  have HC0 := Lib.hid hcall; clear hcall
  have q0 := HK.out _ _ _ h0; have qd := HK.out _ _ _ hd
  clear h0 hd
  obtain ⟨p0, p1, p2, p3⟩ := q0
  go_enter Try.func115, Try.ntmps115
  go_wp2
  go_region_held3 (fun w' => w'.cell? ⟨w.heap.size, 0, none⟩ = some (.pointer (some ⟨fb, 0, none⟩)) ∧ w'.cell? ⟨w.heap.size, 1, none⟩ = some (.func (.func 62) #[] #[.pointer (some ⟨cb, 0, none⟩)]))
    (first | exact ⟨qd.1, qd.2.1⟩ | exact ⟨(HK.out _ _ _ h1).1, (HK.out _ _ _ h1).2.1⟩ | assumption)
    (first | (go_at_call 62; (with_reducible refine (HC0.out).mono ?_); rintro e w1 ⟨rfl, h1⟩) | fail)
  clear qd HC0
  try clear p0 p1 p2 p3
  have hd := C.same h1 ((Same.refl _).drew)
  have hcall := C.cU 6 16 (by decide) hd
  have HC1 := Lib.hid hcall; clear hcall
  have q0 := HK.out _ _ _ h1; have qd := HK.out _ _ _ hd
  clear h1 hd
  obtain ⟨p0, p1, p2, p3⟩ := q0
  go_wp2
  go_region_held3 (fun w' => w'.cell? ⟨w.heap.size, 0, none⟩ = some (.pointer (some ⟨fb, 0, none⟩)) ∧ w'.cell? ⟨w.heap.size, 1, none⟩ = some (.func (.func 62) #[] #[.pointer (some ⟨cb, 0, none⟩)]))
    (first | exact ⟨qd.1, qd.2.1⟩ | exact ⟨(HK.out _ _ _ h2).1, (HK.out _ _ _ h2).2.1⟩ | assumption)
    (first | (go_at_call 62; (with_reducible refine (HC1.out).mono ?_); rintro e w2 ⟨rfl, h2⟩) | fail)
  clear qd HC1
  try clear p0 p1 p2 p3
  have hd := C.same h2 ((Same.refl _).drew)
  have hcall := C.cT hd
  have HC2 := Lib.hid hcall; clear hcall
  have q0 := HK.out _ _ _ h2; have qd := HK.out _ _ _ hd
  clear h2 hd
  obtain ⟨p0, p1, p2, p3⟩ := q0
  go_wp2
  go_region_held3 (fun w' => w'.cell? ⟨w.heap.size, 0, none⟩ = some (.pointer (some ⟨fb, 0, none⟩)) ∧ w'.cell? ⟨w.heap.size, 3, none⟩ = some (.func (.func 66) #[] #[.pointer (some ⟨cb, 0, none⟩)]))
    (first | exact ⟨qd.1, qd.2.2.2⟩ | exact ⟨(HK.out _ _ _ h3).1, (HK.out _ _ _ h3).2.2.2⟩ | assumption)
    (first | (go_at_call 66; (with_reducible refine (HC2.out).mono ?_); rintro e w3 ⟨rfl, h3⟩) | fail)
  clear qd HC2
  try clear p0 p1 p2 p3
  have HF := Lib.hid (C.drop h3)
  clear h3
  go_wp2
  go_end0
  exact ⟨rfl, HF.out⟩
set_option maxRecDepth 100000 in
theorem beacon_any {x : σ × Fr} {P : List (Nat × Obj)} {w : World} (h : C.inv x P w) : Calls Try.prog 117 #[.agg (pCs fb cb)] w fun e w' => e = .returned (.tuple #[]) ∧ C.inv (stT C.Tx (stU C.U 10 16 (stU C.U 9 16 (stU C.U 8 27 x)))) P w' := by
  have h0 := C.alloc (pCs fb cb) 86 h
  clear h
  have HK := Lib.hid (fun (x : σ × Fr) (w : World) (b : Nat) (h : C.inv x ((b, .cells (pCs fb cb) 86 (0, 0)) :: P) w) => C.pbox h)
  go_enter Try.func117, Try.ntmps117
  have hd := C.same h0 ((Same.refl _).drew)
  have hcall := C.cU 8 27 (by decide) hd
  have HC0 := Lib.hid hcall; clear hcall
  have q0 := HK.out _ _ _ h0; have qd := HK.out _ _ _ hd
  clear h0 hd
  obtain ⟨p0, p1, p2, p3⟩ := q0
  go_wp2
  go_region_held3 (fun w' => w'.cell? ⟨w.heap.size, 0, none⟩ = some (.pointer (some ⟨fb, 0, none⟩)) ∧ w'.cell? ⟨w.heap.size, 1, none⟩ = some (.func (.func 62) #[] #[.pointer (some ⟨cb, 0, none⟩)]))
    (first | exact ⟨qd.1, qd.2.1⟩ | exact ⟨(HK.out _ _ _ h1).1, (HK.out _ _ _ h1).2.1⟩ | assumption)
    (first | (go_at_call 62; (with_reducible refine (HC0.out).mono ?_); rintro e w1 ⟨rfl, h1⟩) | fail)
  clear qd HC0
  try clear p0 p1 p2 p3
  have hd := C.same h1 ((Same.refl _).drew)
  have hcall := C.cU 9 16 (by decide) hd
  have HC1 := Lib.hid hcall; clear hcall
  have q0 := HK.out _ _ _ h1; have qd := HK.out _ _ _ hd
  clear h1 hd
  obtain ⟨p0, p1, p2, p3⟩ := q0
  go_wp2
  go_region_held3 (fun w' => w'.cell? ⟨w.heap.size, 0, none⟩ = some (.pointer (some ⟨fb, 0, none⟩)) ∧ w'.cell? ⟨w.heap.size, 1, none⟩ = some (.func (.func 62) #[] #[.pointer (some ⟨cb, 0, none⟩)]))
    (first | exact ⟨qd.1, qd.2.1⟩ | exact ⟨(HK.out _ _ _ h2).1, (HK.out _ _ _ h2).2.1⟩ | assumption)
    (first | (go_at_call 62; (with_reducible refine (HC1.out).mono ?_); rintro e w2 ⟨rfl, h2⟩) | fail)
  clear qd HC1
  try clear p0 p1 p2 p3
  have hd := C.same h2 ((Same.refl _).drew)
  have hcall := C.cU 10 16 (by decide) hd
  have HC2 := Lib.hid hcall; clear hcall
  have q0 := HK.out _ _ _ h2; have qd := HK.out _ _ _ hd
  clear h2 hd
  obtain ⟨p0, p1, p2, p3⟩ := q0
  go_wp2
  go_region_held3 (fun w' => w'.cell? ⟨w.heap.size, 0, none⟩ = some (.pointer (some ⟨fb, 0, none⟩)) ∧ w'.cell? ⟨w.heap.size, 1, none⟩ = some (.func (.func 62) #[] #[.pointer (some ⟨cb, 0, none⟩)]))
    (first | exact ⟨qd.1, qd.2.1⟩ | exact ⟨(HK.out _ _ _ h3).1, (HK.out _ _ _ h3).2.1⟩ | assumption)
    (first | (go_at_call 62; (with_reducible refine (HC2.out).mono ?_); rintro e w3 ⟨rfl, h3⟩) | fail)
  clear qd HC2
  try clear p0 p1 p2 p3
  have hd := C.same h3 ((Same.refl _).drew)
  have hcall := C.cT hd
  have HC3 := Lib.hid hcall; clear hcall
  have q0 := HK.out _ _ _ h3; have qd := HK.out _ _ _ hd
  clear h3 hd
  obtain ⟨p0, p1, p2, p3⟩ := q0
  go_wp2
  go_region_held3 (fun w' => w'.cell? ⟨w.heap.size, 0, none⟩ = some (.pointer (some ⟨fb, 0, none⟩)) ∧ w'.cell? ⟨w.heap.size, 3, none⟩ = some (.func (.func 66) #[] #[.pointer (some ⟨cb, 0, none⟩)]))
    (first | exact ⟨qd.1, qd.2.2.2⟩ | exact ⟨(HK.out _ _ _ h4).1, (HK.out _ _ _ h4).2.2.2⟩ | assumption)
    (first | (go_at_call 66; (with_reducible refine (HC3.out).mono ?_); rintro e w4 ⟨rfl, h4⟩) | fail)
  clear qd HC3
  try clear p0 p1 p2 p3
  have HF := Lib.hid (C.drop h4)
  clear h4
  go_wp2
  go_end0
  exact ⟨rfl, HF.out⟩
theorem Coder.tcell {x : σ × Fr} {P : List (Nat × Obj)} {w : World} (h : C.inv x P w) : w.cell? ⟨fb, 2, none⟩ = some (.int .i64 x.2.t) ∧ w.frozen? ⟨fb, 2, none⟩ = false ∧ w.cell? ⟨fb, 0, none⟩ = some (.int .i64 x.2.k) := by
  have hb := C.frm h
  simp [World.cell?, World.frozen?, hb]
theorem Coder.sbox {x : σ × Fr} {P : List (Nat × Obj)} {w : World} {b : Nat} {v : Value} (h : C.inv x ((b, .cells #[v] 3 (0, 0)) :: P) w) : w.cell? ⟨b, 0, none⟩ = some v := by
  have hb := C.mem h _ (List.mem_cons_self ..)
  simp only at hb
  simp [World.cell?, hb]
theorem Coder.pbox2 {x : σ × Fr} {P : List (Nat × Obj)} {w : World} {b : Nat} {p : Nat × Obj} (h : C.inv x (p :: (b, .cells (pCs fb cb) 86 (0, 0)) :: P) w) :
    w.cell? ⟨b, 0, none⟩ = some (.pointer (some ⟨fb, 0, none⟩)) ∧ w.cell? ⟨b, 1, none⟩ = some (.func (.func 62) #[] #[.pointer (some ⟨cb, 0, none⟩)]) ∧ w.cell? ⟨b, 2, none⟩ = some (.func (.func 64) #[] #[.pointer (some ⟨cb, 0, none⟩)]) ∧ w.cell? ⟨b, 3, none⟩ = some (.func (.func 66) #[] #[.pointer (some ⟨cb, 0, none⟩)]) := C.pbox (C.drop h)
set_option maxRecDepth 100000 in
set_option maxHeartbeats 1600000 in
theorem target_any {x : σ × Fr} {P : List (Nat × Obj)} {w : World} (h : C.inv x P w) : Calls Try.prog 101 #[.agg (pCs fb cb)] w fun e w' => e = .returned (.tuple #[]) ∧ C.inv (stG C.U x) P w' := by
  have h0 := C.alloc (pCs fb cb) 86 h
  have hs1 : (w.alloc (.cells (pCs fb cb) 86)).heap.size = w.heap.size + 1 := by simp
  have HK := Lib.hid (fun (x : σ × Fr) (w : World) (b : Nat) (h : C.inv x ((b, .cells (pCs fb cb) 86 (0, 0)) :: P) w) => C.pbox h)
  have ha := C.alloc #[.int .i64 0] 3 h0
  have hb := C.alloc #[.int .i64 1] 3 h0
  rw [hs1] at ha hb
  have ta := C.tcell ha
  have pa := C.pbox2 ha
  obtain ⟨p0, p1, p2, p3⟩ := pa
  obtain ⟨t0, t1, t2⟩ := ta
  have pb := C.pbox2 hb
  obtain ⟨u0, u1, u2, u3⟩ := pb
  clear h h0 hs1
  have hG : stG C.U x = stG C.U x := rfl
  conv at hG => rhs; unfold stG
  generalize stG C.U x = y at *
  by_cases ht : x.2.t = -1
  case' pos =>
    rw [if_pos ht] at hG
    have e1 : (x.2.t != -1) = false := by simpa using ht
    have hc := C.cB 1 ha
    generalize C.U 1 0 x.1 = R at *
  case' neg =>
    rw [if_neg ht] at hG
    have e1 : (x.2.t != -1) = true := by simpa using ht
    have hc := C.cB 1 hb
    generalize C.U 1 1 x.1 = R at *
  all_goals
    have HC0 := Lib.hid hc
    clear hc ha hb ht
    by_cases hr : R.2 = 1
    · rw [if_pos hr] at hG
      have HG := Lib.hid hG; clear hG
      have e2 : (R.2 == 1) = true := by simpa using hr
      clear hr
      go_enter Try.func101, Try.ntmps101
      go_wp2_with (go_at_call 62; (with_reducible refine (HC0.out).mono ?_); rintro e w1 ⟨rfl, h1⟩; have sb := C.sbox h1; have h2 := C.drop h1; clear h1 p0 p1 p2 p3 u0 u1 u2 u3 t0 t1 t2 e1 HC0; have hd := C.same h2 ((Same.refl _).drew); have hcall := C.cU 2 5 (by decide) hd; have HC1 := Lib.hid hcall; clear hcall; have q0 := HK.out _ _ _ h2; have qd := HK.out _ _ _ hd; clear h2 hd; obtain ⟨p0, p1, p2, p3⟩ := q0)
      go_region_held3 (fun w' => w'.cell? ⟨w.heap.size, 0, none⟩ = some (.pointer (some ⟨fb, 0, none⟩)) ∧ w'.cell? ⟨w.heap.size, 1, none⟩ = some (.func (.func 62) #[] #[.pointer (some ⟨cb, 0, none⟩)]))
        (first | exact ⟨qd.1, qd.2.1⟩ | exact ⟨(HK.out _ _ _ h3).1, (HK.out _ _ _ h3).2.1⟩ | assumption)
        (first | (go_at_call 62; (with_reducible refine (HC1.out).mono ?_); rintro e w3 ⟨rfl, h3⟩) | fail)
      clear qd HC1
      try clear p0 p1 p2 p3
      have HF := Lib.hid (C.drop h3)
      clear h3
      go_wp2
      go_end0
      exact ⟨rfl, by rw [HG.out]; exact HF.out⟩
    · rw [if_neg hr] at hG
      have HG := Lib.hid hG; clear hG
      have e2 : (R.2 == 1) = false := by simpa using hr
      clear hr
      go_enter Try.func101, Try.ntmps101
      go_wp2_with (go_at_call 62; (with_reducible refine (HC0.out).mono ?_); rintro e w1 ⟨rfl, h1⟩; have sb := C.sbox h1; have h2 := C.drop h1; clear h1 p0 p1 p2 p3 u0 u1 u2 u3 t0 t1 t2 e1 HC0; have q0 := HK.out _ _ _ h2; have fz := C.tcell h2; obtain ⟨f0, f1, f2⟩ := fz; have HF := Lib.hid (C.setT (C.drop h2)); clear h2; obtain ⟨p0, p1, p2, p3⟩ := q0)
      go_end0
      exact ⟨rfl, by rw [HG.out]; exact HF.out⟩
set_option maxRecDepth 100000 in
set_option maxHeartbeats 1600000 in
theorem all_any {x : σ × Fr} {P : List (Nat × Obj)} {w : World} (h : C.inv x P w) : Calls Try.prog 68 #[.agg (pCs fb cb)] w fun e w' => e = .returned (.tuple #[]) ∧ C.inv (stAll C.U C.Sg C.Tx x) P w' := by
  have h0 := C.alloc (pCs fb cb) 86 h
  clear h
  have HK := Lib.hid (fun (x : σ × Fr) (w : World) (b : Nat) (h : C.inv x ((b, .cells (pCs fb cb) 86 (0, 0)) :: P) w) => C.pbox h)
  have HY := Lib.hid (show stAll C.U C.Sg C.Tx x = stOwn C.U C.Sg C.Tx (stU C.U 4 8 (stU C.U 3 8 (stG C.U (stU C.U 1 5 (stU C.U 0 3 x))))) from rfl)
  generalize stAll C.U C.Sg C.Tx x = y at *
  go_enter Try.func68, Try.ntmps68
  have hd := C.same h0 ((Same.refl _).drew)
  have hcall := C.cU 0 3 (by decide) hd
  have HC0 := Lib.hid hcall; clear hcall
  have q0 := HK.out _ _ _ h0; have qd := HK.out _ _ _ hd
  clear h0 hd
  obtain ⟨p0, p1, p2, p3⟩ := q0
  go_wp2
  go_region_held3 (fun w' => w'.cell? ⟨w.heap.size, 0, none⟩ = some (.pointer (some ⟨fb, 0, none⟩)) ∧ w'.cell? ⟨w.heap.size, 1, none⟩ = some (.func (.func 62) #[] #[.pointer (some ⟨cb, 0, none⟩)]))
    (first | exact ⟨qd.1, qd.2.1⟩ | exact ⟨(HK.out _ _ _ h1).1, (HK.out _ _ _ h1).2.1⟩ | assumption)
    (first | (go_at_call 62; (with_reducible refine (HC0.out).mono ?_); rintro e w1 ⟨rfl, h1⟩) | fail)
  clear qd HC0
  try clear p0 p1 p2 p3
  generalize stU C.U 0 3 x = x1 at *
  have hd := C.same h1 ((Same.refl _).drew)
  have hcall := C.cU 1 5 (by decide) hd
  have HC1 := Lib.hid hcall; clear hcall
  have q0 := HK.out _ _ _ h1; have qd := HK.out _ _ _ hd
  clear h1 hd
  obtain ⟨p0, p1, p2, p3⟩ := q0
  go_wp2
  go_region_held3 (fun w' => w'.cell? ⟨w.heap.size, 0, none⟩ = some (.pointer (some ⟨fb, 0, none⟩)) ∧ w'.cell? ⟨w.heap.size, 1, none⟩ = some (.func (.func 62) #[] #[.pointer (some ⟨cb, 0, none⟩)]))
    (first | exact ⟨qd.1, qd.2.1⟩ | exact ⟨(HK.out _ _ _ h2).1, (HK.out _ _ _ h2).2.1⟩ | assumption)
    (first | (go_at_call 62; (with_reducible refine (HC1.out).mono ?_); rintro e w2 ⟨rfl, h2⟩) | fail)
  clear qd HC1
  try clear p0 p1 p2 p3
  generalize stU C.U 1 5 x1 = x2 at *
  have q0 := HK.out _ _ _ h2
  obtain ⟨p0, p1, p2, p3⟩ := q0
  have HT := Lib.hid (target_any C h2)
  clear h2
  go_wp2_with (go_at_call 101; (with_reducible refine (HT.out).mono ?_); rintro e w3 ⟨rfl, h3⟩; clear p0 p1 p2 p3 HT; generalize stG C.U x2 = x3 at *; have hd := C.same h3 ((Same.refl _).drew); have hcall := C.cU 3 8 (by decide) hd; have HC3 := Lib.hid hcall; clear hcall; have q0 := HK.out _ _ _ h3; have qd := HK.out _ _ _ hd; clear h3 hd; obtain ⟨p0, p1, p2, p3⟩ := q0)
  go_region_held3 (fun w' => w'.cell? ⟨w.heap.size, 0, none⟩ = some (.pointer (some ⟨fb, 0, none⟩)) ∧ w'.cell? ⟨w.heap.size, 1, none⟩ = some (.func (.func 62) #[] #[.pointer (some ⟨cb, 0, none⟩)]))
    (first | exact ⟨qd.1, qd.2.1⟩ | exact ⟨(HK.out _ _ _ h4).1, (HK.out _ _ _ h4).2.1⟩ | assumption)
    (first | (go_at_call 62; (with_reducible refine (HC3.out).mono ?_); rintro e w4 ⟨rfl, h4⟩) | fail)
  clear qd HC3
  try clear p0 p1 p2 p3
  generalize stU C.U 3 8 x3 = x4 at *
  have hd := C.same h4 ((Same.refl _).drew)
  have hcall := C.cU 4 8 (by decide) hd
  have HC4 := Lib.hid hcall; clear hcall
  have q0 := HK.out _ _ _ h4; have qd := HK.out _ _ _ hd
  clear h4 hd
  obtain ⟨p0, p1, p2, p3⟩ := q0
  go_wp2
  go_region_held3 (fun w' => w'.cell? ⟨w.heap.size, 0, none⟩ = some (.pointer (some ⟨fb, 0, none⟩)) ∧ w'.cell? ⟨w.heap.size, 1, none⟩ = some (.func (.func 62) #[] #[.pointer (some ⟨cb, 0, none⟩)]))
    (first | exact ⟨qd.1, qd.2.1⟩ | exact ⟨(HK.out _ _ _ h5).1, (HK.out _ _ _ h5).2.1⟩ | assumption)
    (first | (go_at_call 62; (with_reducible refine (HC4.out).mono ?_); rintro e w5 ⟨rfl, h5⟩) | fail)
  clear qd HC4
  try clear p0 p1 p2 p3
  generalize stU C.U 4 8 x4 = x5 at *
  have hd := C.same h5 ((Same.refl _).drew)
  have q0 := HK.out _ _ _ h5; have qd := HK.out _ _ _ hd
  have f5 := (C.tcell h5).2.2; have fd := (C.tcell hd).2.2
  have HT := Lib.hid (fun (w' : World) (h : C.inv x5 ((w.heap.size, .cells (pCs fb cb) 86 (0, 0)) :: P) w') => C.tcell h)
  have HD := Lib.hid hd
  have hbd := C.bnd h5
  clear h5 hd
  obtain ⟨p0, p1, p2, p3⟩ := q0
  have hk : (x5.2.k = 1 ∨ x5.2.k = 2 ∨ x5.2.k = 3 ∨ x5.2.k = 4) ∨ (x5.2.k ≠ 1 ∧ x5.2.k ≠ 2 ∧ x5.2.k ≠ 3 ∧ x5.2.k ≠ 4) := by omega
  have HW := Lib.hid hbd; clear hbd
  go_wp2
  rcases hk with (hk | hk | hk | hk) | hk
  · have hy : y = stT C.Tx (stU C.U 6 16 (stU C.U 5 8 x5)) := by
      rw [HY.out]
      unfold stOwn
      simp [hk]
    have HYY := Lib.hid hy; clear hy
    have HHK := Lib.hid hk; clear hk
    go_region_held3 (fun w' => w'.cell? ⟨w.heap.size, 0, none⟩ = some (.pointer (some ⟨fb, 0, none⟩)) ∧ w'.cell? ⟨fb, 0, none⟩ = some (.int .i64 x5.2.k))
      (first | exact ⟨qd.1, fd⟩ | exact ⟨(HK.out _ _ _ (C.same HD.out hs6)).1, (HT.out _ (C.same HD.out hs6)).2.2⟩ | assumption)
      (first | (go_at_call 102; (with_reducible refine (kinds_any _).mono ?_); rintro e w6 ⟨rfl, hs6, hk6⟩; have L : (Instr.lookup 110 (.map (some w5.heap.size)) (.int .i64 x5.2.k) true).run Try.prog w6 = .ok (.tuple #[.func (.func 115) #[] #[], .bool true]) w6 := kinds_look hk6 x5.2.k 115 (by have hk := HHK.out; exact .inl ⟨hk, rfl⟩)) | fail)
    have h6 := C.same HD.out hs6
    have q0 := HK.out _ _ _ h6
    clear qd f5 fd p0 p1 p2 p3
    obtain ⟨p0, p1, p2, p3⟩ := q0
    have HO := Lib.hid (data_any C h6)
    clear h6 hk6
    go_wp2_with (go_at_call 115; (with_reducible refine (HO.out).mono ?_); rintro e w7 ⟨rfl, h7⟩; have HF := Lib.hid (C.drop h7); clear h7)
    go_end0
    exact ⟨rfl, by rw [HYY.out]; exact HF.out⟩
  · have hy : y = stS C.Sg 16 x5 := by
      rw [HY.out]
      unfold stOwn
      simp [hk]
    have HYY := Lib.hid hy; clear hy
    have HHK := Lib.hid hk; clear hk
    go_region_held3 (fun w' => w'.cell? ⟨w.heap.size, 0, none⟩ = some (.pointer (some ⟨fb, 0, none⟩)) ∧ w'.cell? ⟨fb, 0, none⟩ = some (.int .i64 x5.2.k))
      (first | exact ⟨qd.1, fd⟩ | exact ⟨(HK.out _ _ _ (C.same HD.out hs6)).1, (HT.out _ (C.same HD.out hs6)).2.2⟩ | assumption)
      (first | (go_at_call 102; (with_reducible refine (kinds_any _).mono ?_); rintro e w6 ⟨rfl, hs6, hk6⟩; have L : (Instr.lookup 110 (.map (some w5.heap.size)) (.int .i64 x5.2.k) true).run Try.prog w6 = .ok (.tuple #[.func (.func 116) #[] #[], .bool true]) w6 := kinds_look hk6 x5.2.k 116 (by have hk := HHK.out; exact .inr (.inl ⟨hk, rfl⟩))) | fail)
    have h6 := C.same HD.out hs6
    have q0 := HK.out _ _ _ h6
    clear qd f5 fd p0 p1 p2 p3
    obtain ⟨p0, p1, p2, p3⟩ := q0
    have HO := Lib.hid (ack_any C h6)
    clear h6 hk6
    go_wp2_with (go_at_call 116; (with_reducible refine (HO.out).mono ?_); rintro e w7 ⟨rfl, h7⟩; have HF := Lib.hid (C.drop h7); clear h7)
    go_end0
    exact ⟨rfl, by rw [HYY.out]; exact HF.out⟩
  · have hy : y = stT C.Tx (stU C.U 10 16 (stU C.U 9 16 (stU C.U 8 27 x5))) := by
      rw [HY.out]
      unfold stOwn
      simp [hk]
    have HYY := Lib.hid hy; clear hy
    have HHK := Lib.hid hk; clear hk
    go_region_held3 (fun w' => w'.cell? ⟨w.heap.size, 0, none⟩ = some (.pointer (some ⟨fb, 0, none⟩)) ∧ w'.cell? ⟨fb, 0, none⟩ = some (.int .i64 x5.2.k))
      (first | exact ⟨qd.1, fd⟩ | exact ⟨(HK.out _ _ _ (C.same HD.out hs6)).1, (HT.out _ (C.same HD.out hs6)).2.2⟩ | assumption)
      (first | (go_at_call 102; (with_reducible refine (kinds_any _).mono ?_); rintro e w6 ⟨rfl, hs6, hk6⟩; have L : (Instr.lookup 110 (.map (some w5.heap.size)) (.int .i64 x5.2.k) true).run Try.prog w6 = .ok (.tuple #[.func (.func 117) #[] #[], .bool true]) w6 := kinds_look hk6 x5.2.k 117 (by have hk := HHK.out; exact .inr (.inr (.inl ⟨hk, rfl⟩)))) | fail)
    have h6 := C.same HD.out hs6
    have q0 := HK.out _ _ _ h6
    clear qd f5 fd p0 p1 p2 p3
    obtain ⟨p0, p1, p2, p3⟩ := q0
    have HO := Lib.hid (beacon_any C h6)
    clear h6 hk6
    go_wp2_with (go_at_call 117; (with_reducible refine (HO.out).mono ?_); rintro e w7 ⟨rfl, h7⟩; have HF := Lib.hid (C.drop h7); clear h7)
    go_end0
    exact ⟨rfl, by rw [HYY.out]; exact HF.out⟩
  · have hy : y = stT C.Tx x5 := by
      rw [HY.out]
      unfold stOwn
      simp [hk]
    have HYY := Lib.hid hy; clear hy
    have HHK := Lib.hid hk; clear hk
    go_region_held3 (fun w' => w'.cell? ⟨w.heap.size, 0, none⟩ = some (.pointer (some ⟨fb, 0, none⟩)) ∧ w'.cell? ⟨fb, 0, none⟩ = some (.int .i64 x5.2.k))
      (first | exact ⟨qd.1, fd⟩ | exact ⟨(HK.out _ _ _ (C.same HD.out hs6)).1, (HT.out _ (C.same HD.out hs6)).2.2⟩ | assumption)
      (first | (go_at_call 102; (with_reducible refine (kinds_any _).mono ?_); rintro e w6 ⟨rfl, hs6, hk6⟩; have L : (Instr.lookup 110 (.map (some w5.heap.size)) (.int .i64 x5.2.k) true).run Try.prog w6 = .ok (.tuple #[.func (.func 118) #[] #[], .bool true]) w6 := kinds_look hk6 x5.2.k 118 (by have hk := HHK.out; exact .inr (.inr (.inr ⟨hk, rfl⟩)))) | fail)
    have h6 := C.same HD.out hs6
    have q0 := HK.out _ _ _ h6
    clear qd f5 fd p0 p1 p2 p3
    obtain ⟨p0, p1, p2, p3⟩ := q0
    have HO := Lib.hid (message_any C h6)
    clear h6 hk6
    go_wp2_with (go_at_call 118; (with_reducible refine (HO.out).mono ?_); rintro e w7 ⟨rfl, h7⟩; have HF := Lib.hid (C.drop h7); clear h7)
    go_end0
    exact ⟨rfl, by rw [HYY.out]; exact HF.out⟩
  · have hy : y = x5 := by
      rw [HY.out]
      unfold stOwn
      simp [hk]
    have HYY := Lib.hid hy; clear hy
    have HHK := Lib.hid hk; clear hk
    go_region_held3 (fun w' => w'.cell? ⟨w.heap.size, 0, none⟩ = some (.pointer (some ⟨fb, 0, none⟩)) ∧ w'.cell? ⟨fb, 0, none⟩ = some (.int .i64 x5.2.k))
      (first | exact ⟨qd.1, fd⟩ | exact ⟨(HK.out _ _ _ (C.same HD.out hs6)).1, (HT.out _ (C.same HD.out hs6)).2.2⟩ | assumption)
      (first | (go_at_call 102; (with_reducible refine (kinds_any _).mono ?_); rintro e w6 ⟨rfl, hs6, hk6⟩; have hL : ∃ v, (Instr.lookup 110 (.map (some w5.heap.size)) (.int .i64 x5.2.k) true).run Try.prog w6 = .ok (.tuple #[v, .bool false]) w6 := kinds_none hk6 x5.2.k HHK.out HW.out; obtain ⟨v, L⟩ := hL) | fail)
    have HF := Lib.hid (C.drop (C.same HD.out hs6))
    clear qd f5 fd p0 p1 p2 p3 hk6
    go_wp2
    go_end0
    exact ⟨rfl, by rw [HYY.out]; exact HF.out⟩
end
end Go.Proofs.Ytilpbbpdchbdfaa.Wc
