/- GeometryWalls: the boxes, and the walk, given what At, Check and Crosses return. -/
import Derived.Test.YtcennbjegdlbhaaWallsA
import Derived.Deep.CutRange
import Derived.Deep.Onto
namespace Go.Proofs.Ytcennbjegdlbhaa
open Go.RowKit

namespace geometryWalls
abbrev bw (w : World) (v1 v2 v3 : Value) (e n t a1 a2 b1 b2 f f1 f2 t1 t2 pw qa qb : Int) : World :=
  ((w.alloc (.cells #[v1, v2, v3, .int .i64 e, .int .i64 n, .int .i64 t] 34)).alloc (.cells #[.int .i64 a1, .int .i64 a2, .int .i64 b1, .int .i64 b2, .int .i64 f] 25)).alloc (.cells #[.int .i64 f1, .int .i64 f2, .int .i64 t1, .int .i64 t2, .int .i64 pw, .int .i64 qa, .int .i64 qb] 36)
/-- The boxes of the law. -/
def GW (w : World) (v1 v2 v3 : Value) (e n t a1 a2 b1 b2 f f1 f2 t1 t2 pw : Int) (w1 : World) : Prop :=
  (w1.cell? ⟨w.heap.size, 0, none⟩ = some v1 ∧ w1.cell? ⟨w.heap.size, 1, none⟩ = some v2 ∧ w1.cell? ⟨w.heap.size, 2, none⟩ = some v3 ∧ w1.cell? ⟨w.heap.size, 3, none⟩ = some (.int .i64 e) ∧ w1.cell? ⟨w.heap.size, 4, none⟩ = some (.int .i64 n) ∧ w1.cell? ⟨w.heap.size, 5, none⟩ = some (.int .i64 t)) ∧
  (w1.cell? ⟨w.heap.size + 1, 0, none⟩ = some (.int .i64 a1) ∧ w1.cell? ⟨w.heap.size + 1, 1, none⟩ = some (.int .i64 a2) ∧ w1.cell? ⟨w.heap.size + 1, 2, none⟩ = some (.int .i64 b1) ∧ w1.cell? ⟨w.heap.size + 1, 3, none⟩ = some (.int .i64 b2) ∧ w1.cell? ⟨w.heap.size + 1, 4, none⟩ = some (.int .i64 f)) ∧
  (w1.cell? ⟨w.heap.size + 1 + 1, 0, none⟩ = some (.int .i64 f1) ∧ w1.cell? ⟨w.heap.size + 1 + 1, 1, none⟩ = some (.int .i64 f2) ∧ w1.cell? ⟨w.heap.size + 1 + 1, 2, none⟩ = some (.int .i64 t1) ∧ w1.cell? ⟨w.heap.size + 1 + 1, 3, none⟩ = some (.int .i64 t2) ∧ w1.cell? ⟨w.heap.size + 1 + 1, 4, none⟩ = some (.int .i64 pw)) ∧ Same w w1
theorem GW.keep {w w1 w2 : World} {v1 v2 v3 : Value} {e n t a1 a2 b1 b2 f f1 f2 t1 t2 pw : Int} (h : GW w v1 v2 v3 e n t a1 a2 b1 b2 f f1 f2 t1 t2 pw w1) (s : Same w1 w2) : GW w v1 v2 v3 e n t a1 a2 b1 b2 f f1 f2 t1 t2 pw w2 := by
  obtain ⟨⟨h0, h1, h2, h3, h4, h5⟩, ⟨g0, g1, g2, g3, g4⟩, ⟨k0, k1, k2, k3, k4⟩, hs⟩ := h
  exact ⟨⟨s.cell h0, s.cell h1, s.cell h2, s.cell h3, s.cell h4, s.cell h5⟩, ⟨s.cell g0, s.cell g1, s.cell g2, s.cell g3, s.cell g4⟩, ⟨s.cell k0, s.cell k1, s.cell k2, s.cell k3, s.cell k4⟩, hs.trans s⟩
theorem GW.new (w : World) (v1 v2 v3 : Value) (e n t a1 a2 b1 b2 f f1 f2 t1 t2 pw qa qb : Int) : GW w v1 v2 v3 e n t a1 a2 b1 b2 f f1 f2 t1 t2 pw (bw w v1 v2 v3 e n t a1 a2 b1 b2 f f1 f2 t1 t2 pw qa qb) := by
  refine ⟨⟨?_, ?_, ?_, ?_, ?_, ?_⟩, ⟨?_, ?_, ?_, ?_, ?_⟩, ⟨?_, ?_, ?_, ?_, ?_⟩, ?_⟩
  all_goals first | (go_simp; done) | (repeat' (first | exact Same.refl _ | apply Same.alloc))
/-- The site's copy, in its box. -/
abbrev boxM (w3 : World) (v1 v2 v3 : Value) (e n t : Int) : World := w3.alloc (.cells #[v1, v2, v3, .int .i64 e, .int .i64 n, .int .i64 t] 34)
theorem same_append {A W W' : World} {base : Nat} {v' : Value} {n : Nat} {xs : List Value} (h : Same A W) (ho : W.ownsRow base 25 5 v' n xs) (hb : A.heap.size ≤ base) (hg : W.grownBy W' v'.ownBlock) : Same A W' := by
  refine ⟨hg.os.trans h.os, hg.tape.trans h.tape, hg.output.trans h.output, Nat.le_trans h.size hg.size, fun k hk => ?_⟩
  rw [hg.block k (Nat.lt_of_lt_of_le hk h.size) (fun e => by have := (ho.lt k e.symm).1; omega)]
  exact h.block k hk
theorem builtM (w3 : World) (o o' : Obj) : (((w3.alloc o).alloc o').drew).heap[w3.heap.size + 1]? = some o' := by
  show ((w3.alloc o).alloc o').heap[w3.heap.size + 1]? = some o'
  have := heap_alloc_new (w3.alloc o) o'
  simpa using this
/-- What is behind the copy's new list of walls. -/
def RW (w : World) (v1 v2 v3 : Value) (e n t a1 a2 b1 b2 f f1 f2 t1 t2 pw : Int) (M : Nat) (ws : List Wl) (V : Value) (w1 : World) : Prop :=
  Wls w1 V (ws ++ [⟨a1, a2, b1, b2, f⟩]) ∧ GW w v1 v2 v3 e n t a1 a2 b1 b2 f f1 f2 t1 t2 pw w1 ∧
  (w1.cell? ⟨M, 0, none⟩ = some v1 ∧ w1.cell? ⟨M, 1, none⟩ = some v2 ∧ w1.cell? ⟨M, 2, none⟩ = some V ∧ w1.cell? ⟨M, 3, none⟩ = some (.int .i64 e) ∧ w1.cell? ⟨M, 4, none⟩ = some (.int .i64 n) ∧ w1.cell? ⟨M, 5, none⟩ = some (.int .i64 t))
theorem RW.keep {w w1 w2 : World} {v1 v2 v3 V : Value} {e n t a1 a2 b1 b2 f f1 f2 t1 t2 pw : Int} {M : Nat} {ws : List Wl} (h : RW w v1 v2 v3 e n t a1 a2 b1 b2 f f1 f2 t1 t2 pw M ws V w1) (s : Same w1 w2) : RW w v1 v2 v3 e n t a1 a2 b1 b2 f f1 f2 t1 t2 pw M ws V w2 := by
  obtain ⟨h1, h2, c0, c1, c2, c3, c4, c5⟩ := h
  exact ⟨h1.same s, h2.keep s, s.cell c0, s.cell c1, s.cell c2, s.cell c3, s.cell c4, s.cell c5⟩
theorem RW.wls {w w1 : World} {v1 v2 v3 V : Value} {e n t a1 a2 b1 b2 f f1 f2 t1 t2 pw : Int} {M : Nat} {ws : List Wl} (h : RW w v1 v2 v3 e n t a1 a2 b1 b2 f f1 f2 t1 t2 pw M ws V w1) : Wls w1 V (ws ++ [⟨a1, a2, b1, b2, f⟩]) := h.1
/-- What the region's loads read. -/
theorem keepS {A w1 w2 : World} {x : Value} {b c a1 a2 b1 b2 f} (h : w1.cell? ⟨b, 2, none⟩ = some x ∧ w1.cell? ⟨c, 0, none⟩ = some a1 ∧ w1.cell? ⟨c, 1, none⟩ = some a2 ∧ w1.cell? ⟨c, 2, none⟩ = some b1 ∧ w1.cell? ⟨c, 3, none⟩ = some b2 ∧ w1.cell? ⟨c, 4, none⟩ = some f ∧ Same A w1) (s : Same w1 w2) :
    w2.cell? ⟨b, 2, none⟩ = some x ∧ w2.cell? ⟨c, 0, none⟩ = some a1 ∧ w2.cell? ⟨c, 1, none⟩ = some a2 ∧ w2.cell? ⟨c, 2, none⟩ = some b1 ∧ w2.cell? ⟨c, 3, none⟩ = some b2 ∧ w2.cell? ⟨c, 4, none⟩ = some f ∧ Same A w2 := by
  obtain ⟨h0, h1, h2, h3, h4, h5, h6⟩ := h
  exact ⟨s.cell h0, s.cell h1, s.cell h2, s.cell h3, s.cell h4, s.cell h5, h6.trans s⟩
theorem startS {w W : World} {v1 v2 v3 : Value} {e n t a1 a2 b1 b2 f f1 f2 t1 t2 pw : Int} (h : GW w v1 v2 v3 e n t a1 a2 b1 b2 f f1 f2 t1 t2 pw W) :
    W.cell? ⟨w.heap.size, 2, none⟩ = some v3 ∧ W.cell? ⟨w.heap.size + 1, 0, none⟩ = some (.int .i64 a1) ∧ W.cell? ⟨w.heap.size + 1, 1, none⟩ = some (.int .i64 a2) ∧ W.cell? ⟨w.heap.size + 1, 2, none⟩ = some (.int .i64 b1) ∧ W.cell? ⟨w.heap.size + 1, 3, none⟩ = some (.int .i64 b2) ∧ W.cell? ⟨w.heap.size + 1, 4, none⟩ = some (.int .i64 f) ∧ Same W W := by
  obtain ⟨⟨_, _, h2, _⟩, ⟨g0, g1, g2, g3, g4⟩, _⟩ := h
  exact ⟨h2, g0, g1, g2, g3, g4, Same.refl _⟩
/-- The copy's box, its walls stored. -/
theorem RW.made {w w3 w6 : World} {v1 v2 v3 : Value} {e n t a1 a2 b1 b2 f f1 f2 t1 t2 pw : Int} {ws : List Wl} {g cap : Nat} (hG : GW w v1 v2 v3 e n t a1 a2 b1 b2 f f1 f2 t1 t2 pw w3) (hs : Same (boxM w3 v1 v2 v3 e n t) w6) (hg : w3.heap.size < g)
    (ho : w6.ownsRow 0 25 5 (.slice (some ⟨g, 0, none⟩) (ws.length + 1) cap) (ws.length + 1) (wcells ws ++ [.int .i64 a1, .int .i64 a2, .int .i64 b1, .int .i64 b2, .int .i64 f])) :
    RW w v1 v2 v3 e n t a1 a2 b1 b2 f f1 f2 t1 t2 pw w3.heap.size ws (.slice (some ⟨g, 0, none⟩) (ws.length + 1) cap) (w6.setCell ⟨w3.heap.size, 2, none⟩ (.slice (some ⟨g, 0, none⟩) (ws.length + 1) cap)) ∧
    w6.cell? ⟨w3.heap.size, 2, none⟩ = some v3 ∧ w6.frozen? ⟨w3.heap.size, 2, none⟩ = false := by
  have hM : w6.heap[w3.heap.size]? = some (.cells #[v1, v2, v3, .int .i64 e, .int .i64 n, .int .i64 t] 34 (0, 0)) := by
    rw [hs.block _ (by simp)]; exact heap_alloc_new w3 _
  have h3 : Same w3 (w6.setCell ⟨w3.heap.size, 2, none⟩ (.slice (some ⟨g, 0, none⟩) (ws.length + 1) cap)) := (((Same.refl w3).alloc _).trans hs).setCell (Nat.le_refl _) _
  have hM2 := heap_setCell_same w6 w3.heap.size 2 _ _ (.slice (some ⟨g, 0, none⟩) (ws.length + 1) cap) hM
  have ho2 : (w6.setCell ⟨w3.heap.size, 2, none⟩ (.slice (some ⟨g, 0, none⟩) (ws.length + 1) cap)).ownsRow 0 25 5 (.slice (some ⟨g, 0, none⟩) (ws.length + 1) cap) (ws.length + 1) (wcells (ws ++ [⟨a1, a2, b1, b2, f⟩])) := by
    rw [wcells_append]
    refine ho.kept (row := some w3.heap.size) ⟨rfl, rfl, rfl, by simp [World.setCell], fun k hk hne => Below.heap_setCell _ _ _ _ (fun e => hne (by rw [e]))⟩ (.inr ?_)
    simp [Value.ownBlock]; omega
  refine ⟨⟨?_, hG.keep h3, ?_, ?_, ?_, ?_, ?_, ?_⟩, ?_, ?_⟩
  · exact wls_own (by simp) ho2
  all_goals first
    | (rw [cell_of_row _ _ _ _ _ _ hM2]; rfl)
    | (rw [cell_of_row _ _ _ _ _ _ hM]; rfl)
    | (unfold World.frozen?; rw [hM]; rfl)
theorem RW.behind {w w3 W w6 : World} {v1 v2 v3 v' : Value} {e n t a1 a2 b1 b2 f f1 f2 t1 t2 pw : Int} {ws : List Wl} {g cap base H : Nat} (hG : GW w v1 v2 v3 e n t a1 a2 b1 b2 f f1 f2 t1 t2 pw w3) (hb : Same (boxM w3 v1 v2 v3 e n t) W)
    (hown : W.ownsRow base 25 5 v' ws.length (wcells ws)) (hbase : w3.heap.size < base) (hgrow : W.grownBy w6 v'.ownBlock) (hgd : v'.ownBlock = some g ∨ g = H) (hH : w3.heap.size < H)
    (ho : w6.ownsRow 0 25 5 (.slice (some ⟨g, 0, none⟩) (ws.length + 1) cap) (ws.length + 1) (wcells ws ++ [.int .i64 a1, .int .i64 a2, .int .i64 b1, .int .i64 b2, .int .i64 f])) :
    RW w v1 v2 v3 e n t a1 a2 b1 b2 f f1 f2 t1 t2 pw w3.heap.size ws (.slice (some ⟨g, 0, none⟩) (ws.length + 1) cap) (w6.setCell ⟨w3.heap.size, 2, none⟩ (.slice (some ⟨g, 0, none⟩) (ws.length + 1) cap)) ∧
    w6.cell? ⟨w3.heap.size, 2, none⟩ = some v3 ∧ w6.frozen? ⟨w3.heap.size, 2, none⟩ = false ∧ Same w3 w6 := by
  have hs := same_append hb hown (by simp; omega) hgrow
  have hg : w3.heap.size < g := by
    rcases hgd with h | h
    · have := (hown.lt g h).1; omega
    · omega
  obtain ⟨r1, r2, r3⟩ := RW.made hG hs hg ho
  exact ⟨r1, r2, r3, ((Same.refl w3).alloc _).trans hs⟩
set_option maxHeartbeats 6400000 in
set_option maxRecDepth 100000 in
theorem main (w : World) (v1 v2 v3 : Value) (ao1 ao2 ao3 : Option Addr) (l1 l2 cap1 cap2 cap3 : Nat) (ws : List Wl) (e1 : v1 = .slice ao1 l1 cap1) (e2 : v2 = .slice ao2 l2 cap2) (e3 : v3 = .slice ao3 ws.length cap3) (hws : Wls w v3 ws) (hl : ws.length ≤ 31)
    (e n t a1 a2 b1 b2 f f1 f2 t1 t2 pw qa qb : Int) (p pe q qe c : Int) (cr : Bool)
    (hfew : ∀ w1, Same w w1 → Calls Try.prog 17 #[.agg #[v1, v2, v3, .int .i64 e, .int .i64 n, .int .i64 t]] w1 fun e w' => e = .returned (.bool true) ∧ Same w1 w')
    (h1 : ∀ w1, Same w w1 → Calls Try.prog 18 #[.agg #[v1, v2, v3, .int .i64 e, .int .i64 n, .int .i64 t], .agg #[.int .i64 f1, .int .i64 f2], .int .i64 pw, .agg #[.int .i64 t1, .int .i64 t2]] w1 fun e w' => e = .returned (.tuple #[.int .i64 p, .int .i64 pe]) ∧ Same w1 w')
    (h2 : ∀ V w1, Same w w1 → Wls w1 V (ws ++ [⟨a1, a2, b1, b2, f⟩]) → Calls Try.prog 18 #[.agg #[v1, v2, V, .int .i64 e, .int .i64 n, .int .i64 t], .agg #[.int .i64 f1, .int .i64 f2], .int .i64 pw, .agg #[.int .i64 t1, .int .i64 t2]] w1 fun e w' => e = .returned (.tuple #[.int .i64 q, .int .i64 qe]) ∧ Same w1 w')
    (h3 : ∀ V w1, Same w w1 → Wls w1 V (ws ++ [⟨a1, a2, b1, b2, f⟩]) → Calls Try.prog 24 #[.agg #[v1, v2, V, .int .i64 e, .int .i64 n, .int .i64 t]] w1 fun e w' => e = .returned (.int .i64 c) ∧ Same w1 w')
    (h4 : qe = 0 → ∀ w1, Calls Try.prog 15 #[.agg #[.int .i64 f1, .int .i64 f2], .agg #[.int .i64 t1, .int .i64 t2], .agg #[.int .i64 a1, .int .i64 a2, .int .i64 b1, .int .i64 b2, .int .i64 f]] w1 fun e w' => e = .returned (.bool cr) ∧ Same w1 w')
    (hp : pe = 0) (hp1 : 0 ≤ p) (hp2 : p ≤ pw) (hcase : (qe = 1 ∧ c = 1) ∨ (qe = 0 ∧ cr = false ∧ q = p) ∨ (qe = 0 ∧ cr = true ∧ f = 1000 ∧ q = p) ∨ (qe = 0 ∧ cr = true ∧ ¬ f = 1000 ∧ q ≤ p)) :
    Calls Try.prog 8 #[.agg #[v1, v2, v3, .int .i64 e, .int .i64 n, .int .i64 t], .agg #[.int .i64 a1, .int .i64 a2, .int .i64 b1, .int .i64 b2, .int .i64 f], .agg #[.int .i64 f1, .int .i64 f2, .int .i64 t1, .int .i64 t2, .int .i64 pw, .int .i64 qa, .int .i64 qb]] w fun e w' => e = .returned (.bool true) ∧ Same w w' := by
  have HAW := Lib.hid (awake_any (bw w v1 v2 v3 e n t a1 a2 b1 b2 f f1 f2 t1 t2 pw qa qb))
  have HN := Lib.hid (GW.new w v1 v2 v3 e n t a1 a2 b1 b2 f f1 f2 t1 t2 pw qa qb)
  have HCL := Lib.hid (fun (w1 : World) (k : Same w w1) => cloneW_any w1 v3 ws (hws.same k) (by omega))
  clear hws
  subst e1 e2 e3
  have HFEW := Lib.hid hfew; clear hfew
  have H1 := Lib.hid h1; clear h1
  have H2 := Lib.hid h2; clear h2
  have H3 := Lib.hid h3; clear h3
  have H4 := Lib.hid h4; clear h4
  subst hp
  have hl' : (ws.length : Int) ≤ 31 := by omega
  have HCASE := Lib.hid hcase; clear hcase
  go_enter Try.func8, Try.ntmps8
  go_wp2_with (first
    | (go_at_call 11; (with_reducible refine HAW.out.mono ?_); rintro e w1 ⟨rfl, hw⟩; have HG := Lib.hid (HN.out.keep hw); clear hw; obtain ⟨⟨s0, s1, s2, s3, s4, s5⟩, ⟨g0, g1, g2, g3, g4⟩, ⟨k0, k1, k2, k3, k4⟩, hs⟩ := HG.out)
    | (go_at_call 17; (with_reducible refine (HFEW.out _ hs).mono ?_); rintro e w2 ⟨rfl, hw⟩; have HG' := Lib.hid (HG.out.keep hw); clear hw hs HG s0 s1 s2 s3 s4 s5 g0 g1 g2 g3 g4 k0 k1 k2 k3 k4; have HG := HG'; clear HG'; obtain ⟨⟨s0, s1, s2, s3, s4, s5⟩, ⟨g0, g1, g2, g3, g4⟩, ⟨k0, k1, k2, k3, k4⟩, hs⟩ := HG.out)
    | (go_at_call 18; (with_reducible refine (H1.out _ hs).mono ?_); rintro e w3 ⟨rfl, hw⟩; have HG' := Lib.hid (HG.out.keep hw); clear hw hs HG s0 s1 s2 s3 s4 s5 g0 g1 g2 g3 g4 k0 k1 k2 k3 k4; have HG := HG'; clear HG'; obtain ⟨⟨s0, s1, s2, s3, s4, s5⟩, ⟨g0, g1, g2, g3, g4⟩, ⟨k0, k1, k2, k3, k4⟩, hs⟩ := HG.out))
  obtain ⟨i0, hi, hz0, hz1, hz2⟩ := info_parts Try.infoW
  clear s0 s1 s2 s3 s4 s5 g0 g1 g2 g3 g4 k0 k1 k2 k3 k4
  have HS := Lib.hid hs; clear hs
  go_cut [] from 47 (fun w7 => ∃ V, RW w (.slice ao1 l1 cap1) (.slice ao2 l2 cap2) (.slice ao3 ws.length cap3) e n t a1 a2 b1 b2 f f1 f2 t1 t2 pw w3.heap.size ws V w7)
  case first =>
    have hst := startS HG.out
    go_region_held3 (fun w' => w'.cell? ⟨w.heap.size, 2, none⟩ = some (.slice ao3 ws.length cap3) ∧ w'.cell? ⟨w.heap.size + 1, 0, none⟩ = some (.int .i64 a1) ∧ w'.cell? ⟨w.heap.size + 1, 1, none⟩ = some (.int .i64 a2) ∧ w'.cell? ⟨w.heap.size + 1, 2, none⟩ = some (.int .i64 b1) ∧ w'.cell? ⟨w.heap.size + 1, 3, none⟩ = some (.int .i64 b2) ∧ w'.cell? ⟨w.heap.size + 1, 4, none⟩ = some (.int .i64 f) ∧ Same w3 w')
      (first | exact keepS hst (((Same.refl _).alloc _).drew) | exact keepS (by assumption) hw5 | exact keepS (by assumption) ((Same.refl _).alloc _) | exact keepS hst hs6 | exact keepS hst (hs6.setCell (Nat.le_refl _) _) | assumption)
      (first
        | (go_at_call 35; (with_reducible refine (HCL.out _ ((HS.out.alloc _).drew)).mono ?_); rintro e w5 ⟨v', rfl, hown, hw5⟩)
        | (go_at_call 35; (with_reducible refine (HCL.out _ (((HS.out.alloc _).alloc _).drew)).mono ?_); rintro e w5 ⟨v', rfl, hown, hw5⟩)
        | (refine step_append_lies _ rfl (.tmp 49) (.tmp 51) 32 rfl 0 25 i0 (.agg #[.int .i64 0, .int .i64 0, .int .i64 0, .int .i64 0, .int .i64 0]) 5 40 Try.underlying32 hi hz0 hz1 hz2 rfl (by decide) v' ws.length (wcells ws) (by simp [Act.eval]) (by exact (hown.mono (Nat.zero_le _)).alloc _) ⟨w5.heap.size, 0, none⟩ 1 1 [.int .i64 a1, .int .i64 a2, .int .i64 b1, .int .i64 b2, .int .i64 f] (by simp [Act.eval]) rfl (World.news_of_block (by exact heap_alloc_new w5 _)) (by intro u hu; simp at hu; rcases hu with rfl | rfl | rfl | rfl | rfl <;> rfl) (by decide) (by unfold maxLen; omega) (by omega) (Nat.zero_le _) (w5.heap.size + 1) (by simp) ?_
           intro g cap w6 h6 hgrow hgd hglt
           have hbe := RW.behind (ws := ws) HG.out ((((Same.refl (boxM w3 (.slice ao1 l1 cap1) (.slice ao2 l2 cap2) (.slice ao3 ws.length cap3) e n t)).drew).trans hw5).alloc _) (by exact hown.alloc _) (by simp) hgrow hgd (by have := hw5.size; simp at this; omega) h6
           have m2 := hbe.2.1
           have mf := hbe.2.2.1
           have hs6 := hbe.2.2.2
           have HBE := Lib.hid hbe.1
           clear h6 hgrow hgd hbe)
        | (refine step_append_lies _ rfl (.tmp 49) (.tmp 51) 32 rfl 0 25 i0 (.agg #[.int .i64 0, .int .i64 0, .int .i64 0, .int .i64 0, .int .i64 0]) 5 40 Try.underlying32 hi hz0 hz1 hz2 rfl (by decide) v' ws.length (wcells ws) (by simp [Act.eval]) (by exact hown.mono (Nat.zero_le _)) ⟨w3.heap.size + 1, 0, none⟩ 1 1 [.int .i64 a1, .int .i64 a2, .int .i64 b1, .int .i64 b2, .int .i64 f] (by simp [Act.eval]) rfl (World.news_of_block (by rw [hw5.block _ (by simp)]; exact builtM w3 _ _)) (by intro u hu; simp at hu; rcases hu with rfl | rfl | rfl | rfl | rfl <;> rfl) (by decide) (by unfold maxLen; omega) (by omega) (Nat.zero_le _) w5.heap.size rfl ?_
           intro g cap w6 h6 hgrow hgd hglt
           have hbe := RW.behind (ws := ws) HG.out ((((Same.refl (boxM w3 (.slice ao1 l1 cap1) (.slice ao2 l2 cap2) (.slice ao3 ws.length cap3) e n t)).alloc _).drew).trans hw5) (by exact hown) (by simp; omega) hgrow hgd (by have := hw5.size; simp at this; omega) h6
           have m2 := hbe.2.1
           have mf := hbe.2.2.1
           have hs6 := hbe.2.2.2
           have HBE := Lib.hid hbe.1
           clear h6 hgrow hgd hbe)
        | fail)
    all_goals go_wp2
    all_goals go_meet
    all_goals exact ⟨_, HBE.out⟩
  case rest =>
    obtain ⟨V, hR⟩ := hcut
    have HR := Lib.hid hR
    obtain ⟨hV, ⟨⟨s0, s1, s2, s3, s4, s5⟩, ⟨g0, g1, g2, g3, g4⟩, ⟨k0, k1, k2, k3, k4⟩, hs⟩, m0, m1, m2, m3, m4, m5⟩ := hR
    obtain ⟨aoV, capV, hVe⟩ : ∃ ao cap, V = .slice ao (ws.length + 1) cap := by
      obtain ⟨ao, cap, h⟩ := hV.shape
      exact ⟨ao, cap, by rw [h]; simp⟩
    clear hV
    subst hVe
    have hcase := HCASE.out
    rcases hcase with ⟨rfl, rfl⟩ | ⟨rfl, rfl, rfl⟩ | ⟨rfl, rfl, rfl, rfl⟩ | ⟨rfl, rfl, hf, hq⟩
    · go_wp2_with (first
        | (go_at_call 18; (with_reducible refine (H2.out _ _ hs HR.out.wls).mono ?_); rintro e w8 ⟨rfl, hw⟩; have HR' := Lib.hid (HR.out.keep hw); clear hw hs HR s0 s1 s2 s3 s4 s5 g0 g1 g2 g3 g4 k0 k1 k2 k3 k4 m0 m1 m2 m3 m4 m5; have HR := HR'; clear HR'; obtain ⟨hV, ⟨⟨s0, s1, s2, s3, s4, s5⟩, ⟨g0, g1, g2, g3, g4⟩, ⟨k0, k1, k2, k3, k4⟩, hs⟩, m0, m1, m2, m3, m4, m5⟩ := HR.out; clear hV)
        | (go_at_call 24; (with_reducible refine (H3.out _ _ hs HR.out.wls).mono ?_); rintro e w9 ⟨rfl, hw⟩; have HF := Lib.hid (hs.trans hw); clear hw))
      go_ret
      exact ⟨rfl, HF.out⟩
    all_goals
      have H5 := Lib.hid (H4.out rfl)
      go_wp2_with (first
        | (go_at_call 18; (with_reducible refine (H2.out _ _ hs HR.out.wls).mono ?_); rintro e w8 ⟨rfl, hw⟩; have HR' := Lib.hid (HR.out.keep hw); clear hw hs HR s0 s1 s2 s3 s4 s5 g0 g1 g2 g3 g4 k0 k1 k2 k3 k4 m0 m1 m2 m3 m4 m5; have HR := HR'; clear HR'; obtain ⟨hV, ⟨⟨s0, s1, s2, s3, s4, s5⟩, ⟨g0, g1, g2, g3, g4⟩, ⟨k0, k1, k2, k3, k4⟩, hs⟩, m0, m1, m2, m3, m4, m5⟩ := HR.out; clear hV)
        | (go_at_call 15; (with_reducible refine (H5.out _).mono ?_); rintro e w9 ⟨rfl, hw⟩; have HF := Lib.hid (HR.out.keep hw); clear hw hs HR s0 s1 s2 s3 s4 s5 g0 g1 g2 g3 g4 k0 k1 k2 k3 k4 m0 m1 m2 m3 m4 m5; obtain ⟨hV, ⟨⟨s0, s1, s2, s3, s4, s5⟩, ⟨g0, g1, g2, g3, g4⟩, ⟨k0, k1, k2, k3, k4⟩, hs⟩, m0, m1, m2, m3, m4, m5⟩ := HF.out; clear hV))
      all_goals go_ret
      all_goals exact ⟨rfl, hs⟩
end geometryWalls
end Go.Proofs.Ytcennbjegdlbhaa
