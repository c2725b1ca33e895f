/- Package geometry: the power that arrives. -/
import Derived.Test.YtcennbjegdlbhaaArrives
namespace Go.Proofs.Ytcennbjegdlbhaa
open Go.RowKit Go.Shelf
attribute [local go_sem] Oper.semAt_some

def sqS (a1 a2 b1 b2 : Int) : Int := (b1 - a1) * (b1 - a1) + (b2 - a2) * (b2 - a2)
def baseS (e sent m : Int) : Int := if e = 4 then sent * 100 / m * 100 / m else sent * 100 / m
def thruS (ws : List Wl) (p : Int) : Int := ws.foldl (fun p v => (scaleS p v.f).1) p
def arrS (s : Site) (f1 f2 sent t1 t2 : Int) : Int := thruS (crossedL f1 f2 t1 t2 s.ws) (baseS s.e sent (max (sqS f1 f2 t1 t2) 100))
def In (x : Int) : Prop := 0 ≤ x ∧ x ≤ 10000
instance (x : Int) : Decidable (In x) := by unfold In; infer_instance
theorem In.co {x : Int} (h : In x) : Co x := by unfold In at h; unfold Co; omega
theorem sq_bd {x : Int} (h1 : -10000 ≤ x) (h2 : x ≤ 10000) : 0 ≤ x * x ∧ x * x ≤ 100000000 := by
  have a1 : 0 ≤ (10000 - x) * (10000 + x) := Int.mul_nonneg (by omega) (by omega)
  have a2 : (10000 - x) * (10000 + x) = 100000000 - x * x := by simp only [Int.sub_mul, Int.mul_add]; rw [Int.mul_comm x 10000]; omega
  have a3 : 0 ≤ x * x := by
    rcases Int.le_total 0 x with h | h
    · exact Int.mul_nonneg h h
    · have := Int.mul_nonneg (show 0 ≤ -x by omega) (show 0 ≤ -x by omega); rwa [Int.neg_mul_neg] at this
  omega
theorem sqS_bd {a1 a2 b1 b2 : Int} (h1 : In a1) (h2 : In a2) (h3 : In b1) (h4 : In b2) : 0 ≤ sqS a1 a2 b1 b2 ∧ sqS a1 a2 b1 b2 ≤ 200000000 := by
  unfold In at *
  have g1 := sq_bd (x := b1 - a1) (by omega) (by omega)
  have g2 := sq_bd (x := b2 - a2) (by omega) (by omega)
  unfold sqS; omega
/-- The boxes of a site, and of two points. -/
abbrev boxesA (w : World) (v1 v2 v3 : Value) (e n t f1 f2 t1 t2 : Int) : World := ((boxS w v1 v2 v3 e n t).alloc (.cells #[.int .i64 f1, .int .i64 f2] 23)).alloc (.cells #[.int .i64 t1, .int .i64 t2] 23)
theorem boxesA_at {w w1 : World} {v1 v2 v3 : Value} {e n t f1 f2 t1 t2 : Int} (h : Same (boxesA w v1 v2 v3 e n t f1 f2 t1 t2) w1) :
    w1.cell? ⟨w.heap.size, 0, none⟩ = some v1 ∧ w1.cell? ⟨w.heap.size, 1, none⟩ = some v2 ∧ w1.cell? ⟨w.heap.size, 2, none⟩ = some v3 ∧ w1.cell? ⟨w.heap.size, 3, none⟩ = some (.int .i64 e) ∧ w1.cell? ⟨w.heap.size, 4, none⟩ = some (.int .i64 n) ∧ w1.cell? ⟨w.heap.size, 5, none⟩ = some (.int .i64 t) ∧
    w1.cell? ⟨w.heap.size + 1, 0, none⟩ = some (.int .i64 f1) ∧ w1.cell? ⟨w.heap.size + 1, 1, none⟩ = some (.int .i64 f2) ∧ w1.cell? ⟨w.heap.size + 1 + 1, 0, none⟩ = some (.int .i64 t1) ∧ w1.cell? ⟨w.heap.size + 1 + 1, 1, none⟩ = some (.int .i64 t2) ∧ Same w w1 := by
  refine ⟨h.cell ?_, h.cell ?_, h.cell ?_, h.cell ?_, h.cell ?_, h.cell ?_, h.cell ?_, h.cell ?_, h.cell ?_, h.cell ?_, Same.trans ?_ h⟩
  all_goals first | (go_simp; done) | (repeat' (first | exact Same.refl _ | apply Same.alloc))
theorem cell_under {w : World} {o : Obj} {a : Addr} {v : Value} (h : w.cell? a = some v) : (w.alloc o).cell? a = some v := ((Same.refl w).alloc o).cell h
theorem thruS_snoc (pre : List Wl) (x : Wl) (p : Int) : thruS (pre ++ [x]) p = (scaleS (thruS pre p) x.f).1 := by unfold thruS; rw [List.foldl_append]; rfl
/-- What lies where the loop begins. -/
theorem start_at {w w1 w2 : World} {v1 v2 v3 : Value} {e n t f1 f2 t1 t2 P : Int} {ws : List Wl} (h : Same (boxesA w v1 v2 v3 e n t f1 f2 t1 t2) w1) (h3 : Wls w v3 ws)
    (hw : w2 = boxesA (w1.alloc (.cells #[.int .i64 P] 3)) v1 v2 v3 e n t f1 f2 t1 t2) :
    Same w w2 ∧ Seen w2 w2.heap.size w1.heap.size (w1.heap.size + 1) (w1.heap.size + 1 + 1) (w1.heap.size + 1 + 1 + 1) f1 f2 t1 t2 ws ∧ Boxed w2 w1.heap.size 3 (.int .i64 P) ∧ w2.heap.size = w1.heap.size + 4 := by
  have hs : Same w w1 := (boxesA_at h).2.2.2.2.2.2.2.2.2.2
  have hs2 : Same w1 w2 := by rw [hw]; repeat' (first | exact Same.refl _ | apply Same.alloc)
  have hz : w2.heap.size = w1.heap.size + 4 := by rw [hw]; simp
  have hk := boxesA_at (w := w1.alloc (.cells #[.int .i64 P] 3)) (w1 := w2) (by rw [hw]; exact Same.refl _)
  simp only [World.size_alloc] at hk
  obtain ⟨_, _, k3, _, _, _, k7, k8, k9, k10, _⟩ := hk
  have hbx : Boxed w2 w1.heap.size 3 (.int .i64 P) := by rw [hw]; exact (((Boxed.new w1 3 (.int .i64 P)).alloc _).alloc _).alloc _
  refine ⟨hs.trans hs2, ⟨⟨v3, k3, ?_⟩, k7, k8, k9, k10, ⟨by omega, by omega⟩, ⟨by omega, by omega⟩, Nat.le_refl _⟩, hbx, hz⟩
  rcases h3 with ⟨b, off, cap, e3, h0, hc⟩ | ⟨ao, cap, e3, e4⟩
  · have hb : b < w.heap.size := World.block_lt_of_cell? w _ (hc 0 h0).1
    have hb1 : b < w1.heap.size := Nat.lt_of_lt_of_le hb hs.size
    refine .inl ⟨b, off, cap, e3, by omega, by omega, fun i hi => ?_⟩
    obtain ⟨g1, g2, g3, g4, g5⟩ := hc i hi
    have hst := hs.trans hs2
    exact ⟨hst.cell g1, hst.cell g2, hst.cell g3, hst.cell g4, hst.cell g5⟩
  · exact .inr ⟨ao, cap, e3, e4⟩
theorem row_own {B : Nat} (b : Nat) (cs : Array Value) (T : TypeId) : OwnFrom B (fun (_ : Unit) W => W.heap[b]? = some (.cells cs T (0, 0))) := fun _ X Y row hs hg hr => by
  have hlt : b < X.heap.size := (Array.getElem?_eq_some_iff.1 hs).1
  refine (hg.block b hlt fun e => ?_).trans hs
  obtain ⟨_, o, ho, hc⟩ := hr b e.symm
  rw [hs] at ho
  cases ho
  exact absurd hc (by simp [Obj.isCells])
set_option maxRecDepth 100000 in
set_option maxHeartbeats 4000000 in
theorem arrives_any (w : World) (v : Value) (s : Site) (h : SiteAt w v s) (f1 f2 sent t1 t2 : Int) (hf1 : In f1) (hf2 : In f2) (ht1 : In t1) (ht2 : In t2) (hp : Pw sent) (hws : ∀ i, i < s.ws.length → wlB (s.ws.getD i ⟨0, 0, 0, 0, 0⟩) = true) (hl32 : s.ws.length ≤ 32) :
    Calls Try.prog 47 #[v, .agg #[.int .i64 f1, .int .i64 f2], .int .i64 sent, .agg #[.int .i64 t1, .int .i64 t2]] w fun e w' => e = .returned (.int .i64 (arrS s f1 f2 sent t1 t2)) ∧ Same w w' := by
  obtain ⟨v1, v2, v3, rfl, h1, h2, h3⟩ := h.read
  obtain ⟨ao1, cap1, e1⟩ := h1.shape
  obtain ⟨ao2, cap2, e2⟩ := h2.shape
  obtain ⟨ao3, cap3, e3⟩ := h3.shape
  have hsq := fun w => square_any f1 f2 t1 t2 hf1.co hf2.co ht1.co ht2.co w
  rw [show (t1 - f1) * (t1 - f1) + (t2 - f2) * (t2 - f2) = sqS f1 f2 t1 t2 from rfl] at hsq
  obtain ⟨q1, q2⟩ := sqS_bd hf1 hf2 ht1 ht2
  have hR : arrS s f1 f2 sent t1 t2 = thruS (crossedL f1 f2 t1 t2 s.ws) (baseS s.e sent (max (sqS f1 f2 t1 t2) 100)) := rfl
  rw [hR]
  clear hR
  generalize sqS f1 f2 t1 t2 = q at *
  have HSQ := Lib.hid hsq; clear hsq
  have HCR := Lib.hid (fun w => crossed_any v1 v2 v3 ao1 ao2 ao3 _ _ _ cap1 cap2 cap3 e1 e2 e3 s.e s.n s.t f1 f2 t1 t2 w)
  have HST := Lib.hid (fun (n : Nat) (hn : 1 ≤ n) (n₀ pb sB fB tB : Nat) (w : World) (h : Seen w n₀ pb sB fB tB f1 f2 t1 t2 s.ws) => crossed_stops n hn n₀ pb sB fB tB f1 f2 t1 t2 hf1.co hf2.co ht1.co ht2.co s.ws hws hl32 w h)
  have H3 := Lib.hid h3
  have HAT := Lib.hid (fun (w1 : World) (h : Same (boxesA w v1 v2 v3 s.e s.n s.t f1 f2 t1 t2) w1) => boxesA_at h)
  clear h h1 h2 h3 hws hl32 hf1 hf2 ht1 ht2
  subst e1 e2 e3
  generalize s.e = e at *
  generalize s.n = nn at *
  generalize s.t = t at *
  obtain ⟨p1, p2⟩ := hp
  have q3 : 0 ≤ sent * 100 / max q 100 := Int.ediv_nonneg (by omega) (by omega)
  have q4 : sent * 100 / max q 100 ≤ sent * 100 := Int.ediv_le_self _ (by omega)
  obtain ⟨B0, hB0⟩ : ∃ B0, B0 = baseS e sent (max q 100) := ⟨_, rfl⟩
  rw [← hB0]
  by_cases he : e = 4
  all_goals rcases Int.lt_trichotomy q 100 with hq | hq | hq
  all_goals first
    | (have hm : max q 100 = 100 := by omega
       rw [hm] at q3 q4 hB0)
    | (have hm : max q 100 = q := by omega
       rw [hm] at q3 q4 hB0)
  all_goals
    clear hm
    try subst he
    try subst hq
    have HB0 := Lib.hid hB0; clear hB0
    refine (callsIn_wide (n := 6)).1 ?_
    refine callsIn_of_wp_marks Try.func47 rfl trivial ?_ rfl
    simp only [Try.ntmps47, List.size_toArray, List.length_cons, List.length_nil, Nat.reduceAdd, Nat.reduceSub, Array.replicate_succ, Array.replicate_zero, List.push_toArray, List.append_toArray, List.nil_append, List.cons_append]
    gi_wp2_with (first
      | (refine ⟨trivial, ?_⟩; gi_at_call 13; refine (callsIn_wide.2 (HSQ.out _)).mono ?_; rintro e w1 ⟨rfl, hw⟩; obtain ⟨z1, z2, z3, z4, z5, z6, z7, z8, z9, z10, hs⟩ := HAT.out _ hw; have HW1 := Lib.hid hw; have y1 := fun x => cell_under (o := .cells #[x] 3) z1; have y2 := fun x => cell_under (o := .cells #[x] 3) z2; have y3 := fun x => cell_under (o := .cells #[x] 3) z3; have y4 := fun x => cell_under (o := .cells #[x] 3) z4; have y5 := fun x => cell_under (o := .cells #[x] 3) z5; have y6 := fun x => cell_under (o := .cells #[x] 3) z6; have y7 := fun x => cell_under (o := .cells #[x] 3) z7; have y8 := fun x => cell_under (o := .cells #[x] 3) z8; have y9 := fun x => cell_under (o := .cells #[x] 3) z9; have y10 := fun x => cell_under (o := .cells #[x] 3) z10; clear hw hs z1 z2 z3 z4 z5 z6 z7 z8 z9 z10)
      | (refine ⟨trivial, ?_⟩; gi_at_call 63; refine (callsIn_wide.2 (HCR.out _)).mono ?_; rintro e w2 ⟨rfl, hw2⟩; simp only [World.size_alloc]; obtain ⟨hA, hSeen, hBox, hsz⟩ := start_at HW1.out H3.out hw2; clear hw2 y1 y2 y3 y4 y5 y6 y7 y8 y9 y10))
    have hA1 : w.heap.size ≤ w1.heap.size := (HAT.out _ HW1.out).2.2.2.2.2.2.2.2.2.2.size
    clear HAT HCR HSQ HW1
    have hB : Boxed w2 w1.heap.size 3 (.int .i64 B0) := by
      have hb := HB0.out
      unfold baseS at hb
      simp only [if_true, if_false, *] at hb
      first | (rw [hb]; exact hBox) | (rw [show B0 = sent by omega]; exact hBox)
    clear hBox HB0
    have HSC := Lib.hid (fun p f w => scale_any p f w)
    refine own_boxed 11 wlV (fun (x : Wl) Bx W => W.heap[Bx]? = some (.cells #[.int .i64 x.a1, .int .i64 x.a2, .int .i64 x.b1, .int .i64 x.b2, .int .i64 x.f] 25 (0, 0))) rfl (by decide) (gf := 70) rfl trivial (enters_of Try.func70 (by kernel_rfl) rfl)
      (HST.out 5 (by decide) w2.heap.size w1.heap.size _ _ _ w2 hSeen) (fun h k => h.trans k) (fun W l o o' hl hlo _ _ => ⟨fun k hk _ => World.putObj_heap_other (by omega), by simp⟩) (Below.refl _ _)
      (fun pre W => (Boxed W w1.heap.size 3 (.int .i64 (thruS pre B0)) ∧ w2.heap.size ≤ W.heap.size) ∧ Below w.heap.size w W)
      (OwnFrom.and (OwnFrom.and (Own.from (boxed_own _ _ _) _) (fun _ _ _ _ h hg _ => Nat.le_trans h hg.size)) (ownFrom_below (Nat.le_refl _) (by omega)))
      ⟨⟨hB, Nat.le_refl _⟩, hA.toBelow⟩ (fun x Bx => row_own Bx _ _) ?assign ?body ?done
    case assign =>
      rintro l pre x W K ⟨⟨bP, hsl⟩, hBl⟩ hK
      gi_wp2
      exact hK _ _ W.heap.size ((KeepsOthers.alloc _ _).from _) (But.ofSame ((Same.refl W).alloc _) hsl) ⟨⟨bP.alloc _, Nat.le_trans hsl (by simp)⟩, hBl.alloc hBl.size _⟩ (World.alloc_heap_new W _) (by first | rfl | (rw [show (e == 4) = false from by simpa using he]; rfl))
    case body =>
      rintro l pre x Bx W hl ⟨⟨bP, hsl⟩, hBl⟩ hX hlt
      have cP := bP.cell
      have fP := bP.frozen
      have c4 : W.cell? ⟨Bx, 4, none⟩ = some (.int .i64 x.f) := by rw [cell_of_row _ _ _ _ _ _ hX]; rfl
      have HB2 := Lib.hid bP; clear bP
      have HB3 := Lib.hid hBl; clear hBl
      gi_wp2_with (refine ⟨trivial, ?_⟩; gi_at_call 64; refine (CallsIn.inRound l (callsIn_wide.2 (HSC.out _ _ _))).mono ?_; rintro e w' ⟨rfl, rfl⟩)
      exact ⟨(KeepsOthers.setCell _ _ _).from _, ⟨fun k hk hne => Below.heap_setCell _ _ _ _ hne, by simp [World.setCell]⟩, ⟨by rw [thruS_snoc]; exact HB2.out.set _, by simpa [World.setCell] using hsl⟩, HB3.out.setCell (p := ⟨w1.heap.size, 0, none⟩) hA1 _⟩
    case done =>
      rintro D ys W hD rfl ⟨⟨bP, _⟩, hBl⟩ hK
      have cP := bP.cell
      gi_wp2
      refine ⟨by simp, .inl ⟨_, _, rfl, run_takeDeferred hK, ?_⟩⟩
      exact ⟨_, results_tmp rfl _ _ _, rfl, Same.ofBelow (hBl.trans (belowK_b (w := w) (Nat.le_refl _) W D _ _ (by omega) hK rfl rfl))⟩
end Go.Proofs.Ytcennbjegdlbhaa
