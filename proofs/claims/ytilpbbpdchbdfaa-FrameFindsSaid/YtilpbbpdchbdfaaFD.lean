/- What the bytes of a frame are read as, by package frame. -/
import Derived.Test.YtilpbbpdchbdfaaFRI
import Derived.Test.YtilpbbpdchbdfaaF4
import Derived.Test.YtilpbbpdchbdfaaFA
import Derived.Test.YtilpbbpdchbdfaaFE2
import Derived.Test.YtilpbbpdchbdfaaBClose
import Derived.Deep.RegionWith
namespace Go.Proofs.Ytilpbbpdchbdfaa
open Go.RowKit

/-- The reader's state and the frame behind all fields. -/
def rdX (s : ByteArray) : (Nat × Int) × Fr := stAll (Rc.rU s) (Rc.rS s) (Rc.rT s) ((0, 0), fr0)
theorem RI_init {w0 w2 : World} {s : ByteArray} (h : Bit.Re w2 w0.heap.size s (0, 0)) (k : Same w0 w2) :
    Rc.RI w0 (w2.heap.size + 1) w2.heap.size w0.heap.size s ((0, 0), fr0) [] ((w2.alloc (.cells #[.pointer (some ⟨w0.heap.size, 0, none⟩)] 91)).alloc (.cells (frC fr0) 23)) := by
  have hl := h.lt
  have hs := k.size
  refine ⟨h.keep (S := fun _ => False) (((Bit.Keeps.refl _ w2).alloc _).alloc _) (fun x => x), ?_⟩
  refine { hf := ?_, hc := ?_, hs := ((k.alloc _).alloc _), lo := ⟨by omega, by omega, Nat.le_refl _⟩, ne := ⟨by omega, by omega, by omega⟩, bd := ⟨by decide, by decide⟩, sz := by decide, at' := fun p hp => (by cases hp), pw := List.Pairwise.nil }
  · have := heap_alloc_new (w2.alloc (.cells #[.pointer (some ⟨w0.heap.size, 0, none⟩)] 91)) (.cells (frC fr0) 23)
    simpa using this
  · rw [Below.heap_alloc _ _ _ (by simp)]
    exact heap_alloc_new w2 _
theorem RI_end {w0 w : World} {fb cb a : Nat} {s : ByteArray} {x : (Nat × Int) × Fr} (h : Rc.RI w0 fb cb a s x [] w) :
    Same w0 w ∧ (∀ w', Same w w' → (w'.cell? ⟨fb, 0, none⟩ = some (.int .i64 x.2.k) ∧ w'.cell? ⟨fb, 1, none⟩ = some (.int .i64 x.2.s) ∧ w'.cell? ⟨fb, 2, none⟩ = some (.int .i64 x.2.t) ∧ w'.cell? ⟨fb, 3, none⟩ = some (.int .i64 x.2.l) ∧ w'.cell? ⟨fb, 4, none⟩ = some (.int .i64 x.2.q) ∧ w'.cell? ⟨fb, 5, none⟩ = some (.int .i64 x.2.fl) ∧ w'.cell? ⟨fb, 6, none⟩ = some (.int .i64 x.2.n) ∧ w'.cell? ⟨fb, 7, none⟩ = some (.int .i64 x.2.e) ∧ w'.cell? ⟨fb, 8, none⟩ = some (.int .i64 x.2.sl) ∧ w'.cell? ⟨fb, 9, none⟩ = some (.int .i64 x.2.r) ∧ w'.cell? ⟨fb, 10, none⟩ = some (.int .i64 x.2.ep) ∧ w'.cell? ⟨fb, 11, none⟩ = some (.string x.2.d)) ∧ w'.cell? ⟨cb, 0, none⟩ = some (.pointer (some ⟨a, 0, none⟩))) ∧ (∀ w', Same w w' → Calls Try.prog 83 #[.pointer (some ⟨a, 0, none⟩)] w' fun e w2 => e = .returned (.int .i64 (Bit.rclose s x.1)) ∧ Same w' w2) := by
  obtain ⟨h1, h2⟩ := h
  exact ⟨h2.hs, fun w' k => ⟨fr_cells (k.at h2.hf), by have hc := k.at h2.hc; simp [World.cell?, hc]⟩, fun w' k => (Bit.rclose_any w' a s x.1 (h1.keep (S := fun _ => False) k.keeps (fun x => x))).mono fun _ _ ⟨he, hs⟩ => ⟨he, Same.ofKeeps hs⟩⟩
theorem newReader (s : ByteArray) (hs : s.size ≤ 65536) (w : World) : Calls Try.prog 76 #[.string s] w fun e w' => e = .returned (.pointer (some ⟨w.heap.size, 0, none⟩)) ∧ Bit.Re w' w.heap.size s (0, 0) ∧ Same w w' :=
  (Bit.newReader_any w s (by omega)).mono fun _ _ ⟨he, hr, hk⟩ => ⟨he, by rwa [if_pos hs] at hr, Same.ofKeeps hk⟩
set_option maxRecDepth 100000 in
set_option maxHeartbeats 3200000 in
theorem read_core (s : ByteArray) (hs : s.size ≤ 65536) (st : Nat × Int) (f : Fr) (hx : rdX s = (st, f)) (E : Int) (hE : Bit.rclose s st = E) (w : World) :
    Calls Try.prog 43 #[.string s] w fun e w' => e = .returned (.tuple #[frV f, .int .i64 E]) ∧ Same w w' := by
  have hs1 : (w.alloc (.cells (frC fr0) 23)).heap.size = w.heap.size + 1 := by simp
  have h1 := newReader s hs (w.alloc (.cells (frC fr0) 23))
  have h2 : ∀ w2, Bit.Re w2 (w.alloc (.cells (frC fr0) 23)).heap.size s (0, 0) → Same (w.alloc (.cells (frC fr0) 23)) w2 → Calls Try.prog 68 #[.agg (Rc.pCs (w2.heap.size + 1) w2.heap.size)] ((w2.alloc (.cells #[.pointer (some ⟨w.heap.size + 1, 0, none⟩)] 91)).alloc (.cells (frC fr0) 23)) fun e w' => e = .returned (.tuple #[]) ∧ Same (w.alloc (.cells (frC fr0) 23)) w' ∧ (∀ w3, Same w' w3 → (w3.cell? ⟨w2.heap.size + 1, 0, none⟩ = some (.int .i64 f.k) ∧ w3.cell? ⟨w2.heap.size + 1, 1, none⟩ = some (.int .i64 f.s) ∧ w3.cell? ⟨w2.heap.size + 1, 2, none⟩ = some (.int .i64 f.t) ∧ w3.cell? ⟨w2.heap.size + 1, 3, none⟩ = some (.int .i64 f.l) ∧ w3.cell? ⟨w2.heap.size + 1, 4, none⟩ = some (.int .i64 f.q) ∧ w3.cell? ⟨w2.heap.size + 1, 5, none⟩ = some (.int .i64 f.fl) ∧ w3.cell? ⟨w2.heap.size + 1, 6, none⟩ = some (.int .i64 f.n) ∧ w3.cell? ⟨w2.heap.size + 1, 7, none⟩ = some (.int .i64 f.e) ∧ w3.cell? ⟨w2.heap.size + 1, 8, none⟩ = some (.int .i64 f.sl) ∧ w3.cell? ⟨w2.heap.size + 1, 9, none⟩ = some (.int .i64 f.r) ∧ w3.cell? ⟨w2.heap.size + 1, 10, none⟩ = some (.int .i64 f.ep) ∧ w3.cell? ⟨w2.heap.size + 1, 11, none⟩ = some (.string f.d)) ∧ w3.cell? ⟨w2.heap.size, 0, none⟩ = some (.pointer (some ⟨w.heap.size + 1, 0, none⟩))) ∧ (∀ w3, Same w' w3 → Calls Try.prog 83 #[.pointer (some ⟨w.heap.size + 1, 0, none⟩)] w3 fun e w4 => e = .returned (.int .i64 E) ∧ Same w3 w4) := by
    intro w2 hr hk
    have hi := RI_init hr hk
    have ha := Rc.all_any (Rc.coder (w.alloc (.cells (frC fr0) 23)) (w2.heap.size + 1) w2.heap.size (w.alloc (.cells (frC fr0) 23)).heap.size s) hi
    rw [hs1] at ha
    refine ha.mono fun e1 w' ⟨he, hw⟩ => ⟨he, ?_⟩
    have hh := RI_end hw
    have e0 : stAll (Rc.rU s) (Rc.rS s) (Rc.rT s) ((0, 0), fr0) = (st, f) := hx
    have e1 : stAll (Rc.coder (w.alloc (.cells (frC fr0) 23)) (w2.heap.size + 1) w2.heap.size (w.heap.size + 1) s).U (Rc.coder (w.alloc (.cells (frC fr0) 23)) (w2.heap.size + 1) w2.heap.size (w.heap.size + 1) s).Sg (Rc.coder (w.alloc (.cells (frC fr0) 23)) (w2.heap.size + 1) w2.heap.size (w.heap.size + 1) s).Tx ((0, 0), fr0) = (st, f) := e0
    rw [e1] at hh
    simp only at hh
    rw [hE] at hh
    exact hh
  rw [hs1] at h1 h2
  have H1 := Lib.hid h1; have H2 := Lib.hid h2
  have HZ := Lib.hid (fun (w1 : World) (h : Same (w.alloc (.cells (frC fr0) 23)) w1) => z_cells (h.at (heap_alloc_new w _)))
  have HS := Lib.hid ((Same.refl w).alloc (.cells (frC fr0) 23))
  clear h1 h2 hx hE hs hs1
  go_enter Try.func43, Try.ntmps43
  go_wp2_with (first
    | (go_at_call 76; (with_reducible refine (H1.out).mono ?_); rintro E1 w2 ⟨rfl, hr, hk⟩; have HA := Lib.hid (H2.out _ hr hk); clear hr hk)
    | (go_at_call 68; (with_reducible refine (HA.out).mono ?_); rintro E1 w3 ⟨rfl, hs3, hc3, hl3⟩; have HS3 := Lib.hid hs3; have HC3 := Lib.hid hc3; have HL3 := Lib.hid hl3; obtain ⟨⟨c0, c1, c2, c3, c4, c5, c6, c7, c8, c9, c10, c11⟩, ca⟩ := hc3 _ (Same.refl w3).drew; clear hs3 hc3 hl3)
    )
  go_region_with (first
    | (go_at_call 83; (with_reducible refine (HL3.out _ (Same.refl w3).drew).mono ?_); rintro E1 w4 ⟨rfl, h4⟩; obtain ⟨⟨b0, b1, b2, b3, b4, b5, b6, b7, b8, b9, b10, b11⟩, cb⟩ := HC3.out _ ((Same.refl w3).drew.trans h4); obtain ⟨⟨z0, z1, z2, z3, z4, z5, z6, z7, z8, z9, z10, z11⟩, ⟨g0, g1, g2, g3, g4, g5, g6, g7, g8, g9, g10, g11⟩⟩ := HZ.out _ (HS3.out.trans ((Same.refl w3).drew.trans h4)); have H4 := Lib.hid (HS.out.trans (HS3.out.trans ((Same.refl w3).drew.trans h4))); clear h4))
  all_goals go_wp2
  all_goals
    exact bodyPost_ret (v := .tuple #[frV f, .int .i64 E]) (by simp [results, Try.results43, go_sem, Act.put, z0, z1, z2, z3, z4, z5, z6, z7, z8, z9, z10, z11]) rfl ⟨rfl, done12 H4.out (Nat.le_refl _) _ _ _ _ _ _ _ _ _ _ _ _⟩
theorem read_any (s : ByteArray) (hs : s.size ≤ 65536) (w : World) : Calls Try.prog 43 #[.string s] w fun e w' => e = .returned (.tuple #[frV (rdX s).2, .int .i64 (Bit.rclose s (rdX s).1)]) ∧ Same w w' :=
  read_core s hs _ _ rfl _ rfl w
/-- What is decoded. -/
def decR (data : ByteArray) : Fr × Int := if 127 < data.size then (fr0, 8) else if (cut data).2 ≠ 0 then (fr0, (cut data).2) else if Bit.rclose (cut data).1 (rdX (cut data).1).1 = 0 ∧ okB (rdX (cut data).1).2 = true then ((rdX (cut data).1).2, 0) else (fr0, 10)
set_option maxRecDepth 100000 in
theorem decode_1 (data : ByteArray) (h : decide ((127 : Int) < (data.size : Int)) = true) (w : World) : Calls Try.prog 20 #[.string data] w fun e w' => e = .returned (.tuple #[frV fr0, .int .i64 8]) ∧ Same w w' := by
  have HS := Lib.hid ((Same.refl w).alloc (.cells (frC fr0) 23))
  obtain ⟨⟨z0, z1, z2, z3, z4, z5, z6, z7, z8, z9, z10, z11⟩, ⟨g0, g1, g2, g3, g4, g5, g6, g7, g8, g9, g10, g11⟩⟩ := z_cells (heap_alloc_new w (.cells (frC fr0) 23))
  go_enter Try.func20, Try.ntmps20
  go_wp2
  exact bodyPost_ret (v := .tuple #[frV fr0, .int .i64 8]) (by simp [results, Try.results20, go_sem, z0, z1, z2, z3, z4, z5, z6, z7, z8, z9, z10, z11]) rfl ⟨rfl, (Same.refl w).alloc _⟩
set_option maxRecDepth 100000 in
set_option maxHeartbeats 1600000 in
theorem decode_2 (data : ByteArray) (h : decide ((127 : Int) < (data.size : Int)) = false) (S : ByteArray) (C : Int) (hC : (C != 0) = true) (k1 : ∀ w1, Calls Try.prog 42 #[.string data] w1 fun e w' => e = .returned (.tuple #[.string S, .int .i64 C]) ∧ Same w1 w') (w : World) : Calls Try.prog 20 #[.string data] w fun e w' => e = .returned (.tuple #[frV fr0, .int .i64 C]) ∧ Same w w' := by
  have K1 := Lib.hid k1
  clear k1
  have HS := Lib.hid ((Same.refl w).alloc (.cells (frC fr0) 23))
  have HZ := Lib.hid (fun (w1 : World) (h : Same (w.alloc (.cells (frC fr0) 23)) w1) => z_cells (h.at (heap_alloc_new w _)))
  go_enter Try.func20, Try.ntmps20
  go_wp2_with (go_at_call 42; (with_reducible refine (K1.out _).mono ?_); rintro E1 w1 ⟨rfl, hw⟩; obtain ⟨⟨z0, z1, z2, z3, z4, z5, z6, z7, z8, z9, z10, z11⟩, ⟨g0, g1, g2, g3, g4, g5, g6, g7, g8, g9, g10, g11⟩⟩ := HZ.out _ hw; have HX := Lib.hid hw; clear hw)
  exact bodyPost_ret (v := .tuple #[frV fr0, .int .i64 C]) (by simp [results, Try.results20, go_sem, z0, z1, z2, z3, z4, z5, z6, z7, z8, z9, z10, z11]) rfl ⟨rfl, by first | exact done12 (HS.out.trans HX.out) (Nat.le_refl _) _ _ _ _ _ _ _ _ _ _ _ _ | exact HS.out.trans HX.out⟩
set_option maxRecDepth 100000 in
set_option maxHeartbeats 3200000 in
theorem decode_3 (data : ByteArray) (h : decide ((127 : Int) < (data.size : Int)) = false) (S : ByteArray) (k1 : ∀ w1, Calls Try.prog 42 #[.string data] w1 fun e w' => e = .returned (.tuple #[.string S, .int .i64 0]) ∧ Same w1 w') (f : Fr) (E : Int) (k2 : ∀ w1, Calls Try.prog 43 #[.string S] w1 fun e w' => e = .returned (.tuple #[frV f, .int .i64 E]) ∧ Same w1 w') (c : Int) (k3 : ∀ w1, Calls Try.prog 18 #[frV f] w1 fun e w' => e = .returned (.int .i64 c) ∧ Same w1 w')
    (R : Fr × Int) (hx : ((E != 0) = true ∧ R = (fr0, 10)) ∨ (E = 0 ∧ c = 1 ∧ R = (fr0, 10)) ∨ (E = 0 ∧ c = 0 ∧ R = (f, 0))) (w : World) : Calls Try.prog 20 #[.string data] w fun e w' => e = .returned (.tuple #[frV R.1, .int .i64 R.2]) ∧ Same w w' := by
  have K1 := Lib.hid k1; have K2 := Lib.hid k2; have K3 := Lib.hid k3
  clear k1 k2 k3
  have HS := Lib.hid ((Same.refl w).alloc (.cells (frC fr0) 23))
  have HZ := Lib.hid (fun (w1 : World) (h : Same (w.alloc (.cells (frC fr0) 23)) w1) => z_cells (h.at (heap_alloc_new w _)))
  rcases hx with ⟨hE, rfl⟩ | ⟨rfl, rfl, rfl⟩ | ⟨rfl, rfl, rfl⟩
  · go_enter Try.func20, Try.ntmps20
    go_wp2_with (first
      | (go_at_call 42; (with_reducible refine (K1.out _).mono ?_); rintro E1 w1 ⟨rfl, hw⟩; obtain ⟨⟨z0, z1, z2, z3, z4, z5, z6, z7, z8, z9, z10, z11⟩, ⟨g0, g1, g2, g3, g4, g5, g6, g7, g8, g9, g10, g11⟩⟩ := HZ.out _ hw; have HX := Lib.hid hw; clear hw)
      | (go_at_call 43; (with_reducible refine (K2.out _).mono ?_); rintro E1 w2 ⟨rfl, hw⟩; have hx := (HX.out.trans hw).alloc (.cells (frC f) 23); clear hw z0 z1 z2 z3 z4 z5 z6 z7 z8 z9 z10 z11 g0 g1 g2 g3 g4 g5 g6 g7 g8 g9 g10 g11; obtain ⟨⟨z0, z1, z2, z3, z4, z5, z6, z7, z8, z9, z10, z11⟩, ⟨g0, g1, g2, g3, g4, g5, g6, g7, g8, g9, g10, g11⟩⟩ := HZ.out _ hx; obtain ⟨c0, c1, c2, c3, c4, c5, c6, c7, c8, c9, c10, c11⟩ := fr_cells (heap_alloc_new w2 (.cells (frC f) 23)); have HY := Lib.hid hx; clear hx))
    exact bodyPost_ret (v := .tuple #[frV fr0, .int .i64 10]) (by simp [results, Try.results20, go_sem, z0, z1, z2, z3, z4, z5, z6, z7, z8, z9, z10, z11]) rfl ⟨rfl, by first | exact done12 (HS.out.trans HY.out) (Nat.le_refl _) _ _ _ _ _ _ _ _ _ _ _ _ | exact HS.out.trans HY.out⟩
  · go_enter Try.func20, Try.ntmps20
    go_wp2_with (first
      | (go_at_call 42; (with_reducible refine (K1.out _).mono ?_); rintro E1 w1 ⟨rfl, hw⟩; obtain ⟨⟨z0, z1, z2, z3, z4, z5, z6, z7, z8, z9, z10, z11⟩, ⟨g0, g1, g2, g3, g4, g5, g6, g7, g8, g9, g10, g11⟩⟩ := HZ.out _ hw; have HX := Lib.hid hw; clear hw)
      | (go_at_call 43; (with_reducible refine (K2.out _).mono ?_); rintro E1 w2 ⟨rfl, hw⟩; have hx := (HX.out.trans hw).alloc (.cells (frC f) 23); clear hw z0 z1 z2 z3 z4 z5 z6 z7 z8 z9 z10 z11 g0 g1 g2 g3 g4 g5 g6 g7 g8 g9 g10 g11; obtain ⟨⟨z0, z1, z2, z3, z4, z5, z6, z7, z8, z9, z10, z11⟩, ⟨g0, g1, g2, g3, g4, g5, g6, g7, g8, g9, g10, g11⟩⟩ := HZ.out _ hx; obtain ⟨c0, c1, c2, c3, c4, c5, c6, c7, c8, c9, c10, c11⟩ := fr_cells (heap_alloc_new w2 (.cells (frC f) 23)); have HY := Lib.hid hx; clear hx)
      | (go_at_call 18; (with_reducible refine (K3.out _).mono ?_); rintro E1 w3 ⟨rfl, hw⟩; clear z0 z1 z2 z3 z4 z5 z6 z7 z8 z9 z10 z11 g0 g1 g2 g3 g4 g5 g6 g7 g8 g9 g10 g11 c0 c1 c2 c3 c4 c5 c6 c7 c8 c9 c10 c11; obtain ⟨⟨z0, z1, z2, z3, z4, z5, z6, z7, z8, z9, z10, z11⟩, ⟨g0, g1, g2, g3, g4, g5, g6, g7, g8, g9, g10, g11⟩⟩ := HZ.out _ (HY.out.trans hw); obtain ⟨c0, c1, c2, c3, c4, c5, c6, c7, c8, c9, c10, c11⟩ := fr_cells (hw.at (heap_alloc_new w2 (.cells (frC f) 23))); have HW := Lib.hid (HY.out.trans hw); clear hw))
    exact bodyPost_ret (v := .tuple #[frV fr0, .int .i64 10]) (by simp [results, Try.results20, go_sem, z0, z1, z2, z3, z4, z5, z6, z7, z8, z9, z10, z11]) rfl ⟨rfl, by first | exact done12 (HS.out.trans HW.out) (Nat.le_refl _) _ _ _ _ _ _ _ _ _ _ _ _ | exact HS.out.trans HW.out⟩
  · go_enter Try.func20, Try.ntmps20
    go_wp2_with (first
      | (go_at_call 42; (with_reducible refine (K1.out _).mono ?_); rintro E1 w1 ⟨rfl, hw⟩; obtain ⟨⟨z0, z1, z2, z3, z4, z5, z6, z7, z8, z9, z10, z11⟩, ⟨g0, g1, g2, g3, g4, g5, g6, g7, g8, g9, g10, g11⟩⟩ := HZ.out _ hw; have HX := Lib.hid hw; clear hw)
      | (go_at_call 43; (with_reducible refine (K2.out _).mono ?_); rintro E1 w2 ⟨rfl, hw⟩; have hx := (HX.out.trans hw).alloc (.cells (frC f) 23); clear hw z0 z1 z2 z3 z4 z5 z6 z7 z8 z9 z10 z11 g0 g1 g2 g3 g4 g5 g6 g7 g8 g9 g10 g11; obtain ⟨⟨z0, z1, z2, z3, z4, z5, z6, z7, z8, z9, z10, z11⟩, ⟨g0, g1, g2, g3, g4, g5, g6, g7, g8, g9, g10, g11⟩⟩ := HZ.out _ hx; obtain ⟨c0, c1, c2, c3, c4, c5, c6, c7, c8, c9, c10, c11⟩ := fr_cells (heap_alloc_new w2 (.cells (frC f) 23)); have HY := Lib.hid hx; clear hx)
      | (go_at_call 18; (with_reducible refine (K3.out _).mono ?_); rintro E1 w3 ⟨rfl, hw⟩; clear z0 z1 z2 z3 z4 z5 z6 z7 z8 z9 z10 z11 g0 g1 g2 g3 g4 g5 g6 g7 g8 g9 g10 g11 c0 c1 c2 c3 c4 c5 c6 c7 c8 c9 c10 c11; obtain ⟨⟨z0, z1, z2, z3, z4, z5, z6, z7, z8, z9, z10, z11⟩, ⟨g0, g1, g2, g3, g4, g5, g6, g7, g8, g9, g10, g11⟩⟩ := HZ.out _ (HY.out.trans hw); obtain ⟨c0, c1, c2, c3, c4, c5, c6, c7, c8, c9, c10, c11⟩ := fr_cells (hw.at (heap_alloc_new w2 (.cells (frC f) 23))); have HW := Lib.hid (HY.out.trans hw); clear hw))
    exact bodyPost_ret (v := .tuple #[frV f, .int .i64 0]) (by simp [results, Try.results20, go_sem, z0, z1, z2, z3, z4, z5, z6, z7, z8, z9, z10, z11]) rfl ⟨rfl, by first | exact done12 (HS.out.trans HW.out) (Nat.le_refl _) _ _ _ _ _ _ _ _ _ _ _ _ | exact HS.out.trans HW.out⟩
theorem cut_size (data : ByteArray) : (cut data).1.size ≤ data.size := by
  unfold cut
  split
  · exact Nat.zero_le _
  · split
    · exact Nat.zero_le _
    · show (data.extract 0 (data.size - 2)).size ≤ data.size
      rw [ByteArray.size_extract]; omega
theorem decode_any (data : ByteArray) (w : World) : Calls Try.prog 20 #[.string data] w fun e w' => e = .returned (.tuple #[frV (decR data).1, .int .i64 (decR data).2]) ∧ Same w w' := by
  unfold decR
  by_cases h : 127 < data.size
  · rw [if_pos h]
    exact decode_1 data (decide_eq_true (by omega)) w
  · rw [if_neg h]
    have hm : data.size ≤ maxLen := by unfold maxLen; omega
    have k1 := fun w1 => cCheck_any data hm w1
    have hz := cut_size data
    by_cases h2 : (cut data).2 ≠ 0
    · rw [if_pos h2]
      exact decode_2 data (decide_eq_false (by omega)) _ _ (by simpa using h2) k1 w
    · rw [if_neg h2]
      have h2' : (cut data).2 = 0 := by simpa using h2
      rw [h2'] at k1
      refine decode_3 data (decide_eq_false (by omega)) _ k1 _ _ (fun w1 => read_any (cut data).1 (by omega) w1) _ (fun w1 => check_any _ w1) _ ?_ w
      by_cases h3 : Bit.rclose (cut data).1 (rdX (cut data).1).1 = 0
      · rcases chk_01 (rdX (cut data).1).2 with ⟨g1, g2⟩ | ⟨g1, g2⟩
        · rw [if_pos ⟨h3, g1⟩]; exact .inr (.inr ⟨h3, g2, rfl⟩)
        · rw [if_neg (by rw [g1]; simp)]; exact .inr (.inl ⟨h3, g2, rfl⟩)
      · rw [if_neg (fun x => h3 x.1)]; exact .inl ⟨by simpa using h3, rfl⟩
end Go.Proofs.Ytilpbbpdchbdfaa
