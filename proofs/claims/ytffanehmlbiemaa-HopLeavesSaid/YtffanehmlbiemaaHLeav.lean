/- HopLeaves: Without and Next return what the definitions specify, or the specified errors, for every list, blacklist and bound. No conditions. -/
import Derived.Test.YtffanehmlbiemaaHNil
import Derived.Test.YtffanehmlbiemaaHNewA
namespace Go.Proofs.Ytffanehmlbiemaa
open Go.RowKit Go.Deep

theorem Next2_all (w : World) (v f u : Int) (s : Value) (zs : List Int) (til : Int) (s2 : Value) (cs : List Int) (h : IL w s zs) (h2 : IL w s2 cs) (hl : zs.length ≤ 1000) (hl2 : cs.length ≤ 1000) :
    Calls Try.prog 29 #[hopV v f u s, .int .i64 til, s2] w (NextP w (nextS v f u zs til cs)) := by
  by_cases hp : 0 < cs.length
  · exact Next2_any w v f u s zs til s2 cs h h2 hl hl2 hp
  · obtain rfl : cs = [] := List.length_eq_zero_iff.1 (by omega)
    obtain ⟨a2, k2, rfl⟩ := h2.shape
    rw [nextS_nil]
    exact Next2_nil w v f u s zs til a2 k2 h hl
theorem withoutS_le (ch bl : List Int) (least : Int) : (withoutS ch bl least).1.length ≤ ch.length := by
  unfold withoutS
  split
  · split
    · exact outL_le _ _ _
    · simp
  · simp
theorem nextS_le (v f u : Int) (zs : List Int) (til : Int) (cs : List Int) : (nextS v f u zs til cs).1.2.2.2.length ≤ cs.length := by
  unfold nextS
  split <;> simp
namespace hopLeaves
theorem box {w w1 : World} {v f u l : Int} {ao a1 a2 : Option Addr} {nz cap n1 c1 n2 c2 : Nat} (hs : Same ((w.alloc (.cells #[.int .i64 v, .int .i64 f, .int .i64 u, .slice ao nz cap] 24)).alloc (.cells #[.slice a1 n1 c1, .slice a2 n2 c2, .int .i64 l] 43)) w1) : w1.cell? ⟨w.heap.size, 0, none⟩ = some (.int .i64 v) ∧ w1.cell? ⟨w.heap.size, 1, none⟩ = some (.int .i64 f) ∧ w1.cell? ⟨w.heap.size, 2, none⟩ = some (.int .i64 u) ∧ w1.cell? ⟨w.heap.size, 3, none⟩ = some (.slice ao nz cap) ∧ w1.cell? ⟨w.heap.size + 1, 0, none⟩ = some (.slice a1 n1 c1) ∧ w1.cell? ⟨w.heap.size + 1, 1, none⟩ = some (.slice a2 n2 c2) ∧ w1.cell? ⟨w.heap.size + 1, 2, none⟩ = some (.int .i64 l) :=
  ⟨hs.cell (by go_simp), hs.cell (by go_simp), hs.cell (by go_simp), hs.cell (by go_simp), hs.cell (by go_simp), hs.cell (by go_simp), hs.cell (by go_simp)⟩
set_option maxHeartbeats 6400000 in
set_option maxRecDepth 100000 in
theorem early (w : World) (v f u : Int) (s : Value) (zs : List Int) (h : IL w s zs) (s1 s2 : Value) (l : Int) (ch bl : List Int) (h1 : IL w s1 ch) (h2 : IL w s2 bl) (til : Int) (hl : 20 < zs.length ∨ (zs.length ≤ 20 ∧ 20 < ch.length) ∨ (zs.length ≤ 20 ∧ ch.length ≤ 20 ∧ 70 < bl.length)) : Calls Try.prog 5 #[hopV v f u s, .agg #[s1, s2, .int .i64 l], .int .i64 til] w fun e w' => e = .returned (.bool true) ∧ Same w w' := by
  have HAW := Lib.hid (fun w => hawake_any w)
  obtain ⟨ao, cap, rfl⟩ := h.shape
  obtain ⟨a1, c1, rfl⟩ := h1.shape
  obtain ⟨a2, c2, rfl⟩ := h2.shape
  clear h h1 h2
  generalize zs.length = n at *
  generalize ch.length = n1 at *
  generalize bl.length = n2 at *
  have HS := Lib.hid (((Same.refl w).alloc (.cells #[.int .i64 v, .int .i64 f, .int .i64 u, .slice ao n cap] 24)).alloc (.cells #[.slice a1 n1 c1, .slice a2 n2 c2, .int .i64 l] 43))
  have HB := Lib.hid (fun (w1 : World) (hs : Same ((w.alloc (.cells #[.int .i64 v, .int .i64 f, .int .i64 u, .slice ao n cap] 24)).alloc (.cells #[.slice a1 n1 c1, .slice a2 n2 c2, .int .i64 l] 43)) w1) => box hs)
  rcases hl with hl | ⟨ha, hl⟩ | ⟨ha, hb, hl⟩
  · have hl' : (20 : Int) < (n : Int) := by omega
    go_enter Try.func5, Try.ntmps5
    go_wp2_with (go_at_call 11; (with_reducible refine (HAW.out _).mono ?_); rintro e w1 ⟨rfl, hw⟩; obtain ⟨k0, k1, k2, k3, k4, k5, k6⟩ := HB.out _ hw; have HW := Lib.hid (HS.out.trans hw); clear hw)
    go_ret
    exact ⟨rfl, HW.out⟩
  · have hl' : (20 : Int) < (n1 : Int) := by omega
    have ha' : (n : Int) ≤ 20 := by omega
    go_enter Try.func5, Try.ntmps5
    go_wp2_with (go_at_call 11; (with_reducible refine (HAW.out _).mono ?_); rintro e w1 ⟨rfl, hw⟩; obtain ⟨k0, k1, k2, k3, k4, k5, k6⟩ := HB.out _ hw; have HW := Lib.hid (HS.out.trans hw); clear hw)
    go_ret
    exact ⟨rfl, HW.out⟩
  · have hl' : (70 : Int) < (n2 : Int) := by omega
    have ha' : (n : Int) ≤ 20 := by omega
    have hb' : (n1 : Int) ≤ 20 := by omega
    go_enter Try.func5, Try.ntmps5
    go_wp2_with (go_at_call 11; (with_reducible refine (HAW.out _).mono ?_); rintro e w1 ⟨rfl, hw⟩; obtain ⟨k0, k1, k2, k3, k4, k5, k6⟩ := HB.out _ hw; have HW := Lib.hid (HS.out.trans hw); clear hw)
    go_ret
    exact ⟨rfl, HW.out⟩
theorem keepB {w0 w w1 w2 : World} {a b c : Value} {g : Nat} (h : w1.cell? ⟨g, 0, none⟩ = some a ∧ w1.cell? ⟨g, 1, none⟩ = some b ∧ w1.cell? ⟨g, 2, none⟩ = some c ∧ Same w0 w1 ∧ Same w w1) (k : Same w1 w2) : w2.cell? ⟨g, 0, none⟩ = some a ∧ w2.cell? ⟨g, 1, none⟩ = some b ∧ w2.cell? ⟨g, 2, none⟩ = some c ∧ Same w0 w2 ∧ Same w w2 := ⟨k.cell h.1, k.cell h.2.1, k.cell h.2.2.1, h.2.2.2.1.trans k, h.2.2.2.2.trans k⟩
theorem keepC {w0 w w1 w2 : World} {a b c d x : Value} {g g' : Nat} (h : w1.cell? ⟨g, 0, none⟩ = some a ∧ w1.cell? ⟨g, 1, none⟩ = some b ∧ w1.cell? ⟨g, 2, none⟩ = some c ∧ w1.cell? ⟨g, 3, none⟩ = some d ∧ w1.cell? ⟨g', 0, none⟩ = some x ∧ Same w0 w1 ∧ Same w w1) (k : Same w1 w2) : w2.cell? ⟨g, 0, none⟩ = some a ∧ w2.cell? ⟨g, 1, none⟩ = some b ∧ w2.cell? ⟨g, 2, none⟩ = some c ∧ w2.cell? ⟨g, 3, none⟩ = some d ∧ w2.cell? ⟨g', 0, none⟩ = some x ∧ Same w0 w2 ∧ Same w w2 := ⟨k.cell h.1, k.cell h.2.1, k.cell h.2.2.1, k.cell h.2.2.2.1, k.cell h.2.2.2.2.1, h.2.2.2.2.2.1.trans k, h.2.2.2.2.2.2.trans k⟩
theorem newH2 {w2 w4 : World} {x y z : Int} {ad : Option Addr} {n cap : Nat} {T : TypeId} (h : Same (w2.alloc (.cells #[.int .i64 x, .int .i64 y, .int .i64 z, .slice ad n cap] T)) w4) : w4.cell? ⟨w2.heap.size, 0, none⟩ = some (.int .i64 x) ∧ w4.cell? ⟨w2.heap.size, 1, none⟩ = some (.int .i64 y) ∧ w4.cell? ⟨w2.heap.size, 2, none⟩ = some (.int .i64 z) ∧ w4.cell? ⟨w2.heap.size, 3, none⟩ = some (.slice ad n cap) ∧
    w4.frozen? ⟨w2.heap.size, 0, none⟩ = false ∧ w4.frozen? ⟨w2.heap.size, 1, none⟩ = false ∧ w4.frozen? ⟨w2.heap.size, 2, none⟩ = false ∧ w4.frozen? ⟨w2.heap.size, 3, none⟩ = false :=
  rowH (h.heap (heap_alloc_new w2 _))
set_option maxHeartbeats 6400000 in
set_option maxRecDepth 100000 in
theorem late (w : World) (v f u : Int) (s : Value) (zs : List Int) (h : IL w s zs) (s1 s2 : Value) (l : Int) (ch bl : List Int) (h1 : IL w s1 ch) (h2 : IL w s2 bl) (til : Int) (hl : zs.length ≤ 20) (hl1 : ch.length ≤ 20) (hl2 : bl.length ≤ 70) : Calls Try.prog 5 #[hopV v f u s, .agg #[s1, s2, .int .i64 l], .int .i64 til] w fun e w' => e = .returned (.bool true) ∧ Same w w' := by
  have HAW := Lib.hid (fun w => hawake_any w)
  have HC1 := Lib.hid (fun (w1 : World) (hs : Same w w1) => CloneI_own w1 s1 ch (h1.same hs) (by omega))
  have HC2 := Lib.hid (fun (w1 : World) (hs : Same w w1) => CloneI_own w1 s2 bl (h2.same hs) (by omega))
  have HWI := Lib.hid (fun (w1 : World) (v1 v2 : Value) (q1 : IL w1 v1 ch) (q2 : IL w1 v2 bl) => Without_any w1 v1 v2 ch bl l q1 q2 (by omega) (by omega))
  have HWJ := Lib.hid (fun (w1 : World) (hs : Same w w1) => Without2_any w1 s1 s2 ch bl l (h1.same hs) (h2.same hs) (by omega) (by omega))
  have HNX := Lib.hid (fun (w1 : World) (hs : Same w w1) (x : Value) (q : IL w1 x ch) => Next_any w1 v f u s zs til x ch (h.same hs) q (by omega) (by omega))
  have HNY := Lib.hid (fun (w1 : World) (hs : Same w w1) => Next2_all w1 v f u s zs til s1 ch (h.same hs) (h1.same hs) (by omega) (by omega))
  obtain ⟨ao, cap, rfl⟩ := h.shape
  obtain ⟨a1, c1, rfl⟩ := h1.shape
  obtain ⟨a2, c2, rfl⟩ := h2.shape
  clear h h1 h2
  have HS := Lib.hid (((Same.refl w).alloc (.cells #[.int .i64 v, .int .i64 f, .int .i64 u, .slice ao zs.length cap] 24)).alloc (.cells #[.slice a1 ch.length c1, .slice a2 bl.length c2, .int .i64 l] 43))
  have HB := Lib.hid (fun (w1 : World) (hs : Same ((w.alloc (.cells #[.int .i64 v, .int .i64 f, .int .i64 u, .slice ao zs.length cap] 24)).alloc (.cells #[.slice a1 ch.length c1, .slice a2 bl.length c2, .int .i64 l] 43)) w1) => box hs)
  have r1 : decide ((20 : Int) < (zs.length : Int)) = false := decide_eq_false (by omega)
  have r2 : decide ((20 : Int) < (ch.length : Int)) = false := decide_eq_false (by omega)
  have r3 : decide ((70 : Int) < (bl.length : Int)) = false := decide_eq_false (by omega)
  have HLE := Lib.hid (show (nextS v f u zs til ch).1.2.2.2.length ≤ 1000 from by have := nextS_le v f u zs til ch; omega)
  have HLW := Lib.hid (show (withoutS ch bl l).1.length ≤ 1000 from by have := withoutS_le ch bl l; omega)
  unfold WithP at HWI HWJ
  unfold NextP at HNX HNY
  generalize withoutS ch bl l = WS at *
  obtain ⟨WL, WE⟩ := WS
  generalize nextS v f u zs til ch = R at *
  obtain ⟨⟨R0, R1, R2, R3⟩, RE⟩ := R
  dsimp only at HLE HLW HWI HWJ HNX HNY
  go_enter Try.func5, Try.ntmps5
  go_wp2_with (go_at_call 11; (with_reducible refine (HAW.out _).mono ?_); rintro e w2 ⟨rfl, hw⟩; obtain ⟨d0, d1, d2, d3, d4, d5, d6⟩ := HB.out _ hw; have HW := Lib.hid hw; clear hw)
  clear d0 d1 d2 d3
  have hK := And.intro d4 (And.intro d5 (And.intro d6 (And.intro (HS.out.trans HW.out) (Same.refl w2))))
  have hr := (Same.refl w2).drew
  have hs2 := (HS.out.trans HW.out).drew
  go_region_held3 (fun w' => w'.cell? ⟨w.heap.size + 1, 0, none⟩ = some (.slice a1 ch.length c1) ∧ w'.cell? ⟨w.heap.size + 1, 1, none⟩ = some (.slice a2 bl.length c2) ∧ w'.cell? ⟨w.heap.size + 1, 2, none⟩ = some (.int .i64 l) ∧ Same w w' ∧ Same w2 w')
    (first | exact keepB hK hr | exact keepB (by assumption) (by assumption) | assumption)
    (first
      | (go_at_call 26; refine (HC1.out _ (by first | exact hs2 | exact (by assumption : _ ∧ _ ∧ _ ∧ Same w _ ∧ _).2.2.2.1)).mono ?_; rintro e w4 ⟨u4, rfl, hk4, hL4⟩; replace hL4 := IL.of_own (zs := ch) hL4)
      | (go_at_call 26; refine (HC2.out _ (by first | exact hs2 | exact (by assumption : _ ∧ _ ∧ _ ∧ Same w _ ∧ _).2.2.2.1)).mono ?_; rintro e w5 ⟨u5, rfl, hk5, hL5⟩; replace hL5 := IL.of_own (zs := bl) hL5)
      | (go_at_call 25; refine (HWI.out _ _ _ (by first | exact hL4 | exact hL4.same hk5) (by first | exact hL5 | exact hL5.same hk4)).mono ?_; rintro e w6 ⟨u6, rfl, hk6, hL6⟩)
      | fail)
  obtain ⟨d4', d5', d6', q1, q2⟩ := (by assumption : w6.cell? ⟨w.heap.size + 1, 0, none⟩ = some (.slice a1 ch.length c1) ∧ w6.cell? ⟨w.heap.size + 1, 1, none⟩ = some (.slice a2 bl.length c2) ∧ w6.cell? ⟨w.heap.size + 1, 2, none⟩ = some (.int .i64 l) ∧ Same w w6 ∧ Same w2 w6)
  have HS6 := Lib.hid q1
  have HW6 := Lib.hid (HW.out.trans q2)
  have HL6 := Lib.hid hL6
  clear q1 q2 hL6 hk6 hK hr hs2 d4 d5 d6 HC2 HWI
  try clear hk4 hk5 hL4 hL5
  go_wp2_with (go_at_call 27; (with_reducible refine (HWJ.out _ HS6.out).mono ?_); rintro e w8 ⟨u8, rfl, hw, hL8⟩; have HL8 := Lib.hid hL8; have HS8 := Lib.hid hw; clear hL8; obtain ⟨e0, e1, e2, e3, e4, _, _⟩ := HB.out _ (HW6.out.trans hw); clear hw)
  have HWC := Lib.hid (HW6.out.trans HS8.out)
  have hKc := And.intro e0 (And.intro e1 (And.intro e2 (And.intro e3 (And.intro e4 (And.intro (HS.out.trans HWC.out) (Same.refl w8))))))
  have hrc := (Same.refl w8).drew
  clear d4' d5' d6' HWJ
  go_region_held3 (fun w' => w'.cell? ⟨w.heap.size, 0, none⟩ = some (.int .i64 v) ∧ w'.cell? ⟨w.heap.size, 1, none⟩ = some (.int .i64 f) ∧ w'.cell? ⟨w.heap.size, 2, none⟩ = some (.int .i64 u) ∧ w'.cell? ⟨w.heap.size, 3, none⟩ = some (.slice ao zs.length cap) ∧ w'.cell? ⟨w.heap.size + 1, 0, none⟩ = some (.slice a1 ch.length c1) ∧ Same w w' ∧ Same w8 w')
    (first
      | exact keepC hKc hrc
      | exact keepC (by assumption) (by assumption)
      | exact keepC hKc (((Same.refl _).alloc _).drew)
      | exact keepC hK10 ((Same.refl _).alloc _)
      | exact keepC hK9 ((Same.refl _).alloc _)
      | exact keepC hKc (((((hK10.2.2.2.2.2.2).setCell (p := ⟨w8.heap.size, 0, none⟩) (Nat.le_refl _) _).setCell (p := ⟨w8.heap.size, 1, none⟩) (Nat.le_refl _) _).setCell (p := ⟨w8.heap.size, 2, none⟩) (Nat.le_refl _) _).setCell (p := ⟨w8.heap.size, 3, none⟩) (Nat.le_refl _) _)
      | exact keepC hKc (((((hK10.2.2.2.2.2.2).setCell (p := ⟨w9.heap.size, 0, none⟩) hK9.2.2.2.2.2.2.size _).setCell (p := ⟨w9.heap.size, 1, none⟩) hK9.2.2.2.2.2.2.size _).setCell (p := ⟨w9.heap.size, 2, none⟩) hK9.2.2.2.2.2.2.size _).setCell (p := ⟨w9.heap.size, 3, none⟩) hK9.2.2.2.2.2.2.size _)
      | assumption)
    (first
      | (go_at_call 26; refine (HC1.out _ (by first | exact (keepC hKc hrc).2.2.2.2.2.1 | exact (by assumption : _ ∧ _ ∧ _ ∧ _ ∧ _ ∧ Same w _ ∧ _).2.2.2.2.2.1)).mono ?_; rintro e w9 ⟨u9, rfl, hk9, hL9⟩; obtain ⟨a9, c9, he9⟩ := (IL.of_own (zs := ch) hL9).shape; subst he9; have hK9 := keepC (by first | exact keepC hKc hrc | assumption) hk9; first | (have nh := newH hk9; obtain ⟨n0, n1, n2, n3, n4, n5, n6, n7, n8, n9⟩ := nh) | skip)
      | (go_at_call 28; refine (HNX.out _ (by exact (by assumption : _ ∧ _ ∧ _ ∧ _ ∧ _ ∧ Same w _ ∧ _).2.2.2.2.2.1) _ (by first | exact IL.of_own hL9 | exact (IL.of_own hL9).same ((Same.refl _).alloc _))).mono ?_; rintro e w10 ⟨s10, rfl, hk10, hL10⟩; obtain ⟨a10, c10, he10⟩ := (IL.of_own (zs := R3) hL10).shape; subst he10; have hK10 := keepC (by assumption) hk10; first | (have nh := newH2 hk10; obtain ⟨p0, p1, p2, p3, p4, p5, p6, p7⟩ := nh) | (have p0 := hk10.cell n0; have p1 := hk10.cell n1; have p2 := hk10.cell n2; have p3 := hk10.cell n3; have p4 := (hk10.frozen n0).trans n4; have p5 := (hk10.frozen n1).trans n5; have p6 := (hk10.frozen n2).trans n6; have p7 := (hk10.frozen n3).trans n7) | skip)
      | fail)
  all_goals
    have hfin := (by assumption : _ ∧ _ ∧ _ ∧ _ ∧ _ ∧ Same w _ ∧ Same w8 _).2.2.2.2.2
    first
      | (have hchk : Same w8 ((((w10.setCell ⟨w9.heap.size, 0, none⟩ (.int .i64 R0)).setCell ⟨w9.heap.size, 1, none⟩ (.int .i64 R1)).setCell ⟨w9.heap.size, 2, none⟩ (.int .i64 R2)).setCell ⟨w9.heap.size, 3, none⟩ (.slice a10 R3.length c10)) := by with_reducible exact hfin.2
         clear hchk
         have hown := (own_set (i := 3) (u := .slice a10 R3.length c10) (own_set (i := 2) (u := .int .i64 R2) (own_set (i := 1) (u := .int .i64 R1) (own_set (i := 0) (u := .int .i64 R0) hL10 (B := w9.heap.size) (by simp)) (B := w9.heap.size) (by simp)) (B := w9.heap.size) (by simp)) (B := w9.heap.size) (by simp))
         have k0 : ((((w10.setCell ⟨w9.heap.size, 0, none⟩ (.int .i64 R0)).setCell ⟨w9.heap.size, 1, none⟩ (.int .i64 R1)).setCell ⟨w9.heap.size, 2, none⟩ (.int .i64 R2)).setCell ⟨w9.heap.size, 3, none⟩ (.slice a10 R3.length c10)).cell? ⟨w9.heap.size, 0, none⟩ = some (.int .i64 R0) := by go_simp
         have k1 : ((((w10.setCell ⟨w9.heap.size, 0, none⟩ (.int .i64 R0)).setCell ⟨w9.heap.size, 1, none⟩ (.int .i64 R1)).setCell ⟨w9.heap.size, 2, none⟩ (.int .i64 R2)).setCell ⟨w9.heap.size, 3, none⟩ (.slice a10 R3.length c10)).cell? ⟨w9.heap.size, 1, none⟩ = some (.int .i64 R1) := by go_simp
         have k2 : ((((w10.setCell ⟨w9.heap.size, 0, none⟩ (.int .i64 R0)).setCell ⟨w9.heap.size, 1, none⟩ (.int .i64 R1)).setCell ⟨w9.heap.size, 2, none⟩ (.int .i64 R2)).setCell ⟨w9.heap.size, 3, none⟩ (.slice a10 R3.length c10)).cell? ⟨w9.heap.size, 2, none⟩ = some (.int .i64 R2) := by go_simp
         have k3 : ((((w10.setCell ⟨w9.heap.size, 0, none⟩ (.int .i64 R0)).setCell ⟨w9.heap.size, 1, none⟩ (.int .i64 R1)).setCell ⟨w9.heap.size, 2, none⟩ (.int .i64 R2)).setCell ⟨w9.heap.size, 3, none⟩ (.slice a10 R3.length c10)).cell? ⟨w9.heap.size, 3, none⟩ = some (.slice a10 R3.length c10) := by go_simp
         generalize ((((w10.setCell ⟨w9.heap.size, 0, none⟩ (.int .i64 R0)).setCell ⟨w9.heap.size, 1, none⟩ (.int .i64 R1)).setCell ⟨w9.heap.size, 2, none⟩ (.int .i64 R2)).setCell ⟨w9.heap.size, 3, none⟩ (.slice a10 R3.length c10)) = w9 at *
         generalize w9.heap.size = B at *)
      | (have hchk : Same w8 ((((w10.setCell ⟨w8.heap.size, 0, none⟩ (.int .i64 R0)).setCell ⟨w8.heap.size, 1, none⟩ (.int .i64 R1)).setCell ⟨w8.heap.size, 2, none⟩ (.int .i64 R2)).setCell ⟨w8.heap.size, 3, none⟩ (.slice a10 R3.length c10)) := by with_reducible exact hfin.2
         clear hchk
         have hzz := hk9.size
         simp at hzz
         have hown := (own_set (i := 3) (u := .slice a10 R3.length c10) (own_set (i := 2) (u := .int .i64 R2) (own_set (i := 1) (u := .int .i64 R1) (own_set (i := 0) (u := .int .i64 R0) hL10 (B := w8.heap.size) (by omega)) (B := w8.heap.size) (by omega)) (B := w8.heap.size) (by omega)) (B := w8.heap.size) (by omega))
         have k0 : ((((w10.setCell ⟨w8.heap.size, 0, none⟩ (.int .i64 R0)).setCell ⟨w8.heap.size, 1, none⟩ (.int .i64 R1)).setCell ⟨w8.heap.size, 2, none⟩ (.int .i64 R2)).setCell ⟨w8.heap.size, 3, none⟩ (.slice a10 R3.length c10)).cell? ⟨w8.heap.size, 0, none⟩ = some (.int .i64 R0) := by go_simp
         have k1 : ((((w10.setCell ⟨w8.heap.size, 0, none⟩ (.int .i64 R0)).setCell ⟨w8.heap.size, 1, none⟩ (.int .i64 R1)).setCell ⟨w8.heap.size, 2, none⟩ (.int .i64 R2)).setCell ⟨w8.heap.size, 3, none⟩ (.slice a10 R3.length c10)).cell? ⟨w8.heap.size, 1, none⟩ = some (.int .i64 R1) := by go_simp
         have k2 : ((((w10.setCell ⟨w8.heap.size, 0, none⟩ (.int .i64 R0)).setCell ⟨w8.heap.size, 1, none⟩ (.int .i64 R1)).setCell ⟨w8.heap.size, 2, none⟩ (.int .i64 R2)).setCell ⟨w8.heap.size, 3, none⟩ (.slice a10 R3.length c10)).cell? ⟨w8.heap.size, 2, none⟩ = some (.int .i64 R2) := by go_simp
         have k3 : ((((w10.setCell ⟨w8.heap.size, 0, none⟩ (.int .i64 R0)).setCell ⟨w8.heap.size, 1, none⟩ (.int .i64 R1)).setCell ⟨w8.heap.size, 2, none⟩ (.int .i64 R2)).setCell ⟨w8.heap.size, 3, none⟩ (.slice a10 R3.length c10)).cell? ⟨w8.heap.size, 3, none⟩ = some (.slice a10 R3.length c10) := by go_simp
         generalize ((((w10.setCell ⟨w8.heap.size, 0, none⟩ (.int .i64 R0)).setCell ⟨w8.heap.size, 1, none⟩ (.int .i64 R1)).setCell ⟨w8.heap.size, 2, none⟩ (.int .i64 R2)).setCell ⟨w8.heap.size, 3, none⟩ (.slice a10 R3.length c10)) = w9 at *
         generalize w8.heap.size = B at *)
      | (have hchk : Same w8 (w10.alloc (.cells #[.int .i64 R0, .int .i64 R1, .int .i64 R2, .slice a10 R3.length c10] 24)) := by with_reducible exact hfin.2
         clear hchk
         have hown := own_same hL10 ((Same.refl w10).alloc (.cells #[.int .i64 R0, .int .i64 R1, .int .i64 R2, .slice a10 R3.length c10] 24))
         have k0 : (w10.alloc (.cells #[.int .i64 R0, .int .i64 R1, .int .i64 R2, .slice a10 R3.length c10] 24)).cell? ⟨w10.heap.size, 0, none⟩ = some (.int .i64 R0) := by go_simp
         have k1 : (w10.alloc (.cells #[.int .i64 R0, .int .i64 R1, .int .i64 R2, .slice a10 R3.length c10] 24)).cell? ⟨w10.heap.size, 1, none⟩ = some (.int .i64 R1) := by go_simp
         have k2 : (w10.alloc (.cells #[.int .i64 R0, .int .i64 R1, .int .i64 R2, .slice a10 R3.length c10] 24)).cell? ⟨w10.heap.size, 2, none⟩ = some (.int .i64 R2) := by go_simp
         have k3 : (w10.alloc (.cells #[.int .i64 R0, .int .i64 R1, .int .i64 R2, .slice a10 R3.length c10] 24)).cell? ⟨w10.heap.size, 3, none⟩ = some (.slice a10 R3.length c10) := by go_simp
         generalize (w10.alloc (.cells #[.int .i64 R0, .int .i64 R1, .int .i64 R2, .slice a10 R3.length c10] 24)) = w9 at *
         generalize w10.heap.size = B at *)
    have hil9 := IL.of_own (zs := R3) hown
    obtain ⟨q1, q2⟩ := hfin
    have HQ := Lib.hid q1
    have HWQ := Lib.hid (HWC.out.trans q2)
    have HS89 := Lib.hid (HS8.out.trans q2)
    have HSQ := Lib.hid q2
    have HIL9 := Lib.hid hil9
    clear hown hil9 q1 q2 hKc hrc hK9 hK10 HC1 HNX e0 e1 e2 e3 e4
    obtain ⟨e0, e1, e2, e3, e4, _, _⟩ := HB.out _ HWQ.out
    have HSA := Lib.hid (fun (a : Option Addr) (c : Nat) (w12 : World) (hw : Same w9 w12) => hw.alloc (.cells #[.int .i64 R0, .int .i64 R1, .int .i64 R2, .slice a R3.length c] 24))
    go_wp2_with (first
      | (go_at_call 29; (with_reducible refine (HNY.out _ HQ.out).mono ?_); rintro e w12 ⟨s12, rfl, hw, hL12⟩; obtain ⟨a12, c12, he12⟩ := (IL.of_own (zs := R3) hL12).shape; subst he12; have HL12 := Lib.hid (IL.of_own (zs := R3) hL12); have HS12 := Lib.hid hw; replace k0 := hw.cell k0; replace k1 := hw.cell k1; replace k2 := hw.cell k2; replace k3 := hw.cell k3; clear hw hL12)
      | (go_at_call 30; (with_reducible refine (EqualI_any _ _ _ WL (HL6.out.same (HS89.out.trans (by exact HSA.out _ _ _ HS12.out))) (HL8.out.same (HSQ.out.trans (by exact HSA.out _ _ _ HS12.out))) HLW.out).mono ?_); rintro e w13 ⟨rfl, hw⟩; have HS13 := Lib.hid hw; replace k0 := hw.cell (Lib.cell?_alloc_some _ k0); replace k1 := hw.cell (Lib.cell?_alloc_some _ k1); replace k2 := hw.cell (Lib.cell?_alloc_some _ k2); replace k3 := hw.cell (Lib.cell?_alloc_some _ k3); obtain ⟨m0, m1, m2, m3, _⟩ := newH2 hw; clear hw)
      | (go_at_call 24; (with_reducible refine (Same2_any _ R0 R1 R2 _ _ R3 (HIL9.out.same ((by exact HSA.out _ _ _ HS12.out : Same _ _).trans HS13.out)) (HL12.out.same (((Same.refl _).alloc _).trans HS13.out)) HLE.out).mono ?_); rintro e w14 ⟨rfl, hw⟩; have HS14 := Lib.hid hw; clear hw))
    go_ret
    exact ⟨by first | rfl | simp, HQ.out.trans ((HSA.out _ _ _ HS12.out).trans (HS13.out.trans HS14.out))⟩
theorem walk (w : World) (v f u : Int) (s : Value) (zs : List Int) (_hv : i64 v) (_hf : i64 f) (_hu : i64 u) (h : IL w s zs) (s1 s2 : Value) (l : Int) (ch bl : List Int) (h1 : IL w s1 ch) (h2 : IL w s2 bl) (_hl : i64 l) (til : Int) (_ht : -9223372036854775808 ≤ til ∧ til ≤ 9223372036854775807) : Calls Try.prog 5 #[hopV v f u s, .agg #[s1, s2, .int .i64 l], .int .i64 til] w fun e w' => e = .returned (.bool true) ∧ Same w w' := by
  by_cases q1 : zs.length ≤ 20
  · by_cases q2 : ch.length ≤ 20
    · by_cases q3 : bl.length ≤ 70
      · exact late w v f u s zs h s1 s2 l ch bl h1 h2 til q1 q2 q3
      · exact early w v f u s zs h s1 s2 l ch bl h1 h2 til (.inr (.inr ⟨q1, q2, by omega⟩))
    · exact early w v f u s zs h s1 s2 l ch bl h1 h2 til (.inr (.inl ⟨q1, by omega⟩))
  · exact early w v f u s zs h s1 s2 l ch bl h1 h2 til (.inl (by omega))
open Go.ChangeShapes Go.WideShapes Go.ChangeAt
theorem own : ownKnob Try.prog.godebug = none := by kernel_rfl

set_option maxRecDepth 100000 in
theorem lifted (os : Os) (started : os.Started) (H : Type) (enc : TypeId × Value → H) :
    ReturnsInHanded {} Try.checked os 5 .any (Rows.hopLeavesSpec.pre6 enc Try.prog Try.f5 Rows.hopLeavesRow.domain false) (Rows.hopLeavesSpec.post enc Try.prog Try.f5 false true false false) := by
  refine returnsInHanded_of_change (C := Try.checked) own started (by kernel_rfl) Try.func5
    (ChangeSpec.witness6 (enc := enc) (C := Try.checked) false ⟨#[], #[.agg #[.int .i64 0, .int .i64 0, .int .i64 0, .slice none 0 0], .agg #[.slice none 0 0, .slice none 0 0, .int .i64 0], .int .i64 0], []⟩ 8 (by kernel_rfl) (by kernel_rfl) (by kernel_rfl) (by kernel_rfl)) ?_
  intro W base args ds gs before hval0 hW hcnd _
  have hval : ∀ (j : Nat) t v, Try.f5.params[j]? = some t → args[j]? = some v → Value.okWide Try.prog W .any base t v := hval0
  have hW' := hW
  obtain ⟨p, q, hA0, hV, rfl, hfz, hnd⟩ := hW
  have hA : DataW.TrodAll enc Try.prog W 0 (fun _ => true) true Try.f5.params.toList args.toList ds p := hA0
  rw [Try.params5] at hA hval
  obtain ⟨v0, vs0, d0, ds0, p0, q0, hargs, rfl, rfl, h0, r0⟩ := trodAll_cons hA
  obtain ⟨v1, vs1, d1, ds1, p1, q1, rfl, rfl, rfl, h1, r1⟩ := trodAll_cons r0
  obtain ⟨v2, vs2, d2, ds2, p2, q2, rfl, rfl, rfl, h2, r2⟩ := trodAll_cons r1
  obtain ⟨rfl, rfl, rfl⟩ := trodAll_nil r2
  obtain rfl : args = #[v0, v1, v2] := by cases args; simp_all
  obtain ⟨rfl, rfl⟩ := trodVars_none hV
  obtain ⟨hv0, hf0, hu0, hs0, hz0, rfl, bv0, bf0, bu0, hl0⟩ := open_hop (hval 0 24 v0 rfl rfl) h0
  obtain ⟨ka1, kb1, kl1, kc1, kd1, rfl, ke1, kf1, kw1⟩ := open_black (hval 1 43 v1 rfl rfl) h1
  obtain ⟨a2, rfl, rfl, rfl, w2⟩ := open_int Try.underlying3 (hval 2 3 v2 rfl rfl) h2
  clear hA0 hval0
  try simp only [List.append_nil] at hW'
  try simp only [List.nil_append] at hW'
  have hlt : ∀ x ∈ p0 ++ p1, x.block < W.heap.size := fun x hx => by
    have := hW'.lt x (by simpa using hx)
    simpa using this
  refine (walk W hv0 hf0 hu0 hs0 hz0 bv0 bf0 bu0 hl0 ka1 kb1 kl1 kc1 kd1 ke1 kf1 kw1 a2 (bounds_i64 w2)).mono fun e W' ⟨he, hg⟩ => ?_
  subst he
  exact ⟨_, rfl, _, _, _, [], _, [], hW', trodAll_cons_mk (shut_bool Try.underlying4 _) trodAll_mk0, trodAll_cons_mk (Below.trod Try.laidOut (by kernel_rfl) (of_decide_eq_true (by kernel_rfl)) h0 (Same.toBelow hg) (fun x hx => hlt x (by simp [hx]))) (trodAll_cons_mk (Below.trod Try.laidOut (by kernel_rfl) (of_decide_eq_true (by kernel_rfl)) h1 (Same.toBelow hg) (fun x hx => hlt x (by simp [hx]))) (trodAll_cons_mk (shut_int Try.underlying3 w2) trodAll_mk0)), rfl, (Same.toBelow hg).frame _, fun h => by cases h⟩

theorem over : Rows.hopLeavesRow.holds Try.pinned (OpenSpec.ofChange Rows.hopLeavesSpec) :=
  OpenClaim.holds_of_wide 5 Try.f5 rfl rfl rfl rfl rfl rfl rfl ⟨rfl, rfl, rfl, rfl, rfl⟩ rfl rfl rfl rfl rfl (by kernel_rfl) Try.func5 (by kernel_rfl)
    (of_decide_eq_true (by kernel_rfl)) (by unfold Func.isWrapper; first | (rw [if_pos (by decide +kernel)]; kernel_rfl) | (rw [if_neg (by decide +kernel)]; exact ⟨rfl, rfl⟩))
    (fun os started H enc _ => lifted os started H enc)

theorem proved : Rows.HopLeavesSaid :=
  over
end hopLeaves
end Go.Proofs.Ytffanehmlbiemaa
