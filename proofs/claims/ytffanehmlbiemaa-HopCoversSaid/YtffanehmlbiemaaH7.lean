/- Channel of package hop: a range over the iterator. -/
import Derived.Test.YtffanehmlbiemaaH6
namespace Go.Proofs.Ytffanehmlbiemaa
open Go.RowKit Go.Shelf
attribute [local go_sem] Oper.semAt_some

set_option maxRecDepth 100000 in
theorem round_stops (n : Nat) (hn : 1 ≤ n) (n₀ sB pB b off len cap : Nat) (p : Int) (g : Nat → Int) (hp0 : 0 ≤ p) (hp1 : p ≤ 109951164) (hlen : len ≤ 1000) (hsB : sB < n₀) (hpB : pB < n₀) (hb : b < n₀) (w : World)
    (hs : w.cell? ⟨sB, 0, none⟩ = some (.slice (some ⟨b, off, none⟩) len cap)) (hp : w.cell? ⟨pB, 0, none⟩ = some (.int .i64 p)) (hc : ∀ k : Nat, k < len → w.cell? ⟨b, off + ((p + (k : Int)) % (len : Int)).toNat, none⟩ = some (.int .i64 (g k))) :
    SeqStopsK Fence.wide n Try.prog 51 #[.pointer (some ⟨sB, 0, none⟩), .pointer (some ⟨pB, 0, none⟩)] (fun x : Int × Int => #[Value.int .i64 x.1, .int .i64 x.2]) (Below n₀) (fun ys => ys = upto (fun j => ((j : Int), g j)) len) (fun pre => ∃ k, k ≤ len ∧ pre = upto (fun j => ((j : Int), g j)) k) len w := fun l J Jx W hW hJ _ hY h0 => by
  have kc : ∀ {p : Addr} {v : Value}, w.cell? p = some v → W.cell? p = some v := fun {p v} hc => (hW.cell (World.block_lt_of_cell? w p hc)).trans hc
  exact round1_in n hn l n₀ sB pB b off len cap p g hp0 hp1 hlen hsB hpB hb J Jx hY W (kc hs) (kc hp) hJ (fun k hk => kc (hc k hk)) h0
theorem chan_at {zs : List Int} {slot : Int} (h0 : 0 < zs.length) (k : Nat) : ((slot + (k : Int)) % (zs.length : Int)).toNat < zs.length := by
  have q1 : 0 ≤ (slot + (k : Int)) % (zs.length : Int) := Int.emod_nonneg _ (by omega)
  have q2 : (slot + (k : Int)) % (zs.length : Int) < (zs.length : Int) := Int.emod_lt_of_pos _ (by omega)
  omega
theorem Same.frozen {w w1 : World} (h : Same w w1) {p : Addr} {v : Value} (hc : w.cell? p = some v) : w1.frozen? p = w.frozen? p :=
  World.frozen?_of_block (h.block p.block (World.block_lt_of_cell? w p hc))
def boxC (w : World) (v f u : Int) (s : Value) (off : Int) : World := (((w.alloc (.cells #[.int .i64 v, .int .i64 f, .int .i64 u, s] 24)).alloc (.cells #[.int .i64 off] 3)).alloc (.cells #[.int .i64 0] 3)).alloc (.cells #[.int .i64 0] 27)
theorem boxC_at {w w1 : World} {v f u : Int} {ad : Option Addr} {n cap : Nat} {off : Int} (h : Same (boxC w v f u (.slice ad n cap) off) w1) :
    w1.cell? ⟨w.heap.size, 0, none⟩ = some (.int .i64 v) ∧ w1.cell? ⟨w.heap.size, 1, none⟩ = some (.int .i64 f) ∧ w1.cell? ⟨w.heap.size, 2, none⟩ = some (.int .i64 u) ∧ w1.cell? ⟨w.heap.size, 3, none⟩ = some (.slice ad n cap) ∧ w1.cell? ⟨w.heap.size + 1, 0, none⟩ = some (.int .i64 off) ∧
      w1.cell? ⟨w.heap.size + 1 + 1, 0, none⟩ = some (.int .i64 0) ∧ w1.cell? ⟨w.heap.size + 1 + 1 + 1, 0, none⟩ = some (.int .i64 0) ∧ w1.frozen? ⟨w.heap.size + 1 + 1, 0, none⟩ = false ∧ w1.frozen? ⟨w.heap.size + 1 + 1 + 1, 0, none⟩ = false ∧ Same w w1 ∧ w.heap.size + 4 ≤ w1.heap.size := by
  have k6 : (boxC w v f u (.slice ad n cap) off).cell? ⟨w.heap.size + 1 + 1, 0, none⟩ = some (.int .i64 0) := by unfold boxC; go_simp
  have k7 : (boxC w v f u (.slice ad n cap) off).cell? ⟨w.heap.size + 1 + 1 + 1, 0, none⟩ = some (.int .i64 0) := by unfold boxC; go_simp
  refine ⟨h.cell (by unfold boxC; go_simp), h.cell (by unfold boxC; go_simp), h.cell (by unfold boxC; go_simp), h.cell (by unfold boxC; go_simp), h.cell (by unfold boxC; go_simp), h.cell k6, h.cell k7, (h.frozen k6).trans (by unfold boxC; go_simp), (h.frozen k7).trans (by unfold boxC; go_simp), (((((Same.refl w).alloc _).alloc _).alloc _).alloc _).trans h, ?_⟩
  have := h.size
  simp [boxC] at this
  omega
set_option maxRecDepth 100000 in
set_option maxHeartbeats 6400000 in
theorem Channel_in (v f u : Int) (b o cap : Nat) (zs : List Int) (slot off : Int) (w : World) (hc : ∀ i, i < zs.length → w.cell? ⟨b, o + i, none⟩ = some (.int .i64 (zs.getD i 0))) (hb : b < w.heap.size) (h1 : hopB v f u zs = true) (h2 : forceB slot f u = true)
    (hck : ∀ w1, Same w w1 → Calls Try.prog 16 #[hopV v f u (.slice (some ⟨b, o, none⟩) zs.length cap)] w1 fun e w' => e = .returned (.int .i64 0) ∧ Same w1 w')
    (hif : ∀ w1, Calls Try.prog 35 #[hopV v f u (.slice (some ⟨b, o, none⟩) zs.length cap), .int .i64 slot] w1 fun e w' => e = .returned (.bool true) ∧ Same w1 w') :
    CallsIn Fence.wide 5 Try.prog 12 #[hopV v f u (.slice (some ⟨b, o, none⟩) zs.length cap), .int .i64 slot, .int .i64 off] w fun e w' => e = .returned (.tuple #[.int .i64 (chanS v f u zs slot off).1, .int .i64 (chanS v f u zs slot off).2]) ∧ Below w.heap.size w w' := by
  have HCK := Lib.hid hck; clear hck
  have HIF := Lib.hid hif; clear hif
  obtain ⟨_, g1, g2, g3, g4⟩ := hopB_of h1
  obtain ⟨g5, g6, _⟩ := chsB_of g4
  obtain ⟨f1, f2⟩ := forceB_of h2
  have HR := Lib.hid (show chanS v f u zs slot off = if 0 ≤ off ∧ off < (zs.length : Int) then (zs.getD ((slot + off) % (zs.length : Int)).toNat 0, 0) else (0, 2) by
    unfold chanS; rw [if_pos h1, if_pos h2])
  have HCC := Lib.hid (fun k : Nat => hc _ (chan_at (slot := slot) g5 k)); clear hc g4 h1 h2
  obtain ⟨R, hR⟩ : ∃ R, chanS v f u zs slot off = R := ⟨_, rfl⟩
  rw [hR] at HR ⊢
  clear hR
  generalize zs.length = n at *
  refine callsIn_of_wp_marks Try.func12 rfl trivial ?_ rfl
  simp only [Try.ntmps12, List.size_toArray, List.length_cons, List.length_nil, Nat.reduceAdd, Nat.reduceSub, Array.replicate_succ, Array.replicate_zero, List.push_toArray, List.append_toArray, List.nil_append, List.cons_append]
  have HS0 := Lib.hid ((((((Same.refl w).alloc (.cells #[.int .i64 v, .int .i64 f, .int .i64 u, .slice (some ⟨b, o, none⟩) n cap] 24)).alloc (.cells #[.int .i64 off] 3)).alloc (.cells #[.int .i64 0] 3)).alloc (.cells #[.int .i64 0] 27)))
  have HAT := Lib.hid (fun (w1 : World) (h : Same (boxC w v f u (.slice (some ⟨b, o, none⟩) n cap) off) w1) => boxC_at h)
  obtain ⟨a0, a1, a2, a3, a4, _, _, _, _, _, _⟩ := HAT.out _ (Same.refl _)
  dsimp only [boxC] at a0 a1 a2 a3 a4
  gi_wp2_with (refine ⟨trivial, ?_⟩; first
    | (gi_at_call 16; refine (callsIn_wide.2 (HCK.out _ (by exact HS0.out))).mono ?_; rintro e w2 ⟨rfl, hw⟩; have HW2 := Lib.hid hw; obtain ⟨c0, c1, c2, c3, c4, c5, c6, c7, c8, c9, c10⟩ := HAT.out _ hw; clear hw)
    | (gi_at_call 35; refine (callsIn_wide.2 (HIF.out _)).mono ?_; rintro e w3 ⟨rfl, hw⟩; have HW3 := Lib.hid (HW2.out.trans hw); obtain ⟨d0, d1, d2, d3, d4, d5, d6, d7, d8, d9, d10⟩ := HAT.out _ HW3.out; clear hw)
    | (gi_at_call 36; refine (callsIn_wide.2 (round_any _ _ _ _ _)).mono ?_; rintro e w4 ⟨rfl, rfl⟩))
  have hsz3 : w.heap.size + 4 ≤ w3.heap.size := d10
  have hn3 : (n : Int) ≤ 16 := by omega
  have hB3 := Lib.hid (d9.toBelow)
  obtain ⟨x0, hx0⟩ : ∃ x0, x0 = (w3.alloc (.cells #[.slice (some ⟨b, o, none⟩) n cap] 22)).alloc (.cells #[.int .i64 slot] 3) := ⟨_, rfl⟩
  have hX0 : Same w3 x0 := by rw [hx0]; exact ((Same.refl w3).alloc _).alloc _
  have hsB : x0.cell? ⟨w3.heap.size, 0, none⟩ = some (.slice (some ⟨b, o, none⟩) n cap) := by rw [hx0]; go_simp
  have hpB : x0.cell? ⟨w3.heap.size + 1, 0, none⟩ = some (.int .i64 slot) := by rw [hx0]; go_simp
  have hzx : x0.heap.size = w3.heap.size + 2 := by rw [hx0]; simp
  have hcx : ∀ k : Nat, k < n → x0.cell? ⟨b, o + ((slot + (k : Int)) % (n : Int)).toNat, none⟩ = some (.int .i64 (zs.getD ((slot + (k : Int)) % (n : Int)).toNat 0)) := fun k _ => (d9.trans hX0).cell (HCC.out k)
  replace d4 := hX0.cell d4
  have d7' := (hX0.frozen d5).trans d7
  have d8' := (hX0.frozen d6).trans d8
  replace d5 := hX0.cell d5
  replace d6 := hX0.cell d6
  have hBx : Below w.heap.size w x0 := (d9.trans hX0).toBelow
  rw [← hx0]
  clear hx0 c0 c1 c2 c3 c4 c5 c6 c7 c8 c9 c10 d0 d1 d2 d3 d7 d8 HW2 HW3 HAT HIF HCK HS0 a0 a1 a2 a3 a4
  refine wpIn_rangeFunc_ownF rfl (by decide) (gf := 51) (lb := #[.pointer (some ⟨w3.heap.size, 0, none⟩), .pointer (some ⟨w3.heap.size + 1, 0, none⟩)]) rfl trivial (enters_of Try.func51 (by kernel_rfl) rfl)
    (round_stops (5 - 1) (by decide) (w3.heap.size + 2) w3.heap.size (w3.heap.size + 1) b o n cap slot (fun k => zs.getD ((slot + (k : Int)) % (n : Int)).toNat 0) (by omega) (by omega) (by omega) (by omega) (by omega) (by omega) x0 hsB hpB hcx) belowK_t (belowK_b (by omega)) (Below.refl _ _) (fun _ => rfl)
    (fun pre W => ((∀ y ∈ pre, y.1 ≠ off) ∧ W.cell? ⟨w.heap.size + 1, 0, none⟩ = some (.int .i64 off) ∧ W.cell? ⟨w.heap.size + 1 + 1, 0, none⟩ = some (.int .i64 0) ∧ W.cell? ⟨w.heap.size + 1 + 1 + 1, 0, none⟩ = some (.int .i64 0) ∧ W.frozen? ⟨w.heap.size + 1 + 1, 0, none⟩ = false ∧ W.frozen? ⟨w.heap.size + 1 + 1 + 1, 0, none⟩ = false) ∧ Below w.heap.size w W)
    (fun c pre W => (c = .ret ∧ ∃ x, x ∈ pre ∧ x.1 = off ∧ W.cell? ⟨w.heap.size + 1 + 1, 0, none⟩ = some (.int .i64 x.2) ∧ W.cell? ⟨w.heap.size + 1 + 1 + 1, 0, none⟩ = some (.int .i64 0)) ∧ Below w.heap.size w W)
    (OwnFrom.and (Own.from (fun s A B row hs hg hr => ⟨hs.1, cell_kept hs.2.1 hg hr, cell_kept hs.2.2.1 hg hr, cell_kept hs.2.2.2.1 hg hr, (frozen_kept hs.2.2.1 hg hr).trans hs.2.2.2.2.1, (frozen_kept hs.2.2.2.1 hg hr).trans hs.2.2.2.2.2⟩) _) (ownFrom_below (Nat.le_refl _) (by omega)))
    (fun c => OwnFrom.and (Own.from (fun s A B row hs hg hr => ⟨hs.1, by obtain ⟨_, x, h1, h2, h3, h4⟩ := hs; exact ⟨x, h1, h2, cell_kept h3 hg hr, cell_kept h4 hg hr⟩⟩) _) (ownFrom_below (Nat.le_refl _) (by omega)))
    ⟨⟨by simp, d4, d5, d6, d7', d8'⟩, hBx⟩
    (fun x => { tmps := #[hopV v f u (.slice (some ⟨b, o, none⟩) n cap), .int .i64 slot, .int .i64 off, .pointer (some ⟨w.heap.size, 0, none⟩), undef, .pointer (some ⟨w.heap.size + 1, 0, none⟩), .pointer (some ⟨w.heap.size + 1 + 1, 0, none⟩), .pointer (some ⟨w.heap.size + 1 + 1 + 1, 0, none⟩), .int .i64 0, .int .i64 x.1, .int .i64 x.2, .agg #[.int .i64 v, .int .i64 f, .int .i64 u, .slice (some ⟨b, o, none⟩) n cap], .int .i64 0, .int .i64 0, .bool false, undef, .agg #[.int .i64 v, .int .i64 f, .int .i64 u, .slice (some ⟨b, o, none⟩) n cap], .int .i64 slot, .bool true, .bool false, .pointer (some ⟨w.heap.size, 3, none⟩), .slice (some ⟨b, o, none⟩) n cap, .int .i64 slot, .func (.func 51) #[] #[.pointer (some ⟨w3.heap.size, 0, none⟩), .pointer (some ⟨w3.heap.size + 1, 0, none⟩)], .int .i64 x.1, .int .i64 x.2, undef, undef, undef, undef], defers := [] }) ?assign ?body ?done ?stop
  case assign =>
    intro l x W K hK
    gi_wp2
    exact hK
  case body =>
    rintro l pre x W ⟨⟨hp, hco, hc6, hc7, hf6, hf7⟩, hB⟩ _
    by_cases hx : x.1 = off
    · have hd : (x.1 == off) = true := by simpa using hx
      gi_wp2
      exact ⟨(KeepsOthers.setCell _ _ _).trans (KeepsOthers.setCell _ _ _), ⟨rfl, x, List.mem_append.2 (.inr (by simp)), hx, by go_simp, by go_simp⟩, (hB.setCell (p := ⟨w.heap.size + 1 + 1, 0, none⟩) (by simp; omega) _).setCell (p := ⟨w.heap.size + 1 + 1 + 1, 0, none⟩) (by simp; omega) _⟩
    · have hd : (x.1 == off) = false := by simpa using hx
      gi_wp2
      exact ⟨KeepsOthers.refl _, Below.refl _ _, ⟨fun y hy => (List.mem_append.1 hy).elim (hp y) (fun e e' => by simp at e; subst e; exact hx e'), hco, hc6, hc7, hf6, hf7⟩, hB⟩
  case done =>
    rintro D ys W hD rfl ⟨⟨hne, _, hc6, hc7, hf6, hf7⟩, hB⟩ hK
    have hno : R = (0, 2) := by
      rw [HR.out, if_neg]
      rintro ⟨o1, o2⟩
      exact hne (off, zs.getD ((slot + off) % (n : Int)).toNat 0) (upto_mem.2 ⟨off.toNat, by omega, by rw [show ((off.toNat : Nat) : Int) = off by omega]⟩) rfl
    gi_wp2
    have hK' := (KeepsOthers.setCell (W.setCell ⟨w.heap.size + 1 + 1, 0, none⟩ (.int .i64 0)) ⟨w.heap.size + 1 + 1 + 1, 0, none⟩ (.int .i64 2)).same D _ ((KeepsOthers.setCell W ⟨w.heap.size + 1 + 1, 0, none⟩ (.int .i64 0)).same D _ hK rfl) rfl
    have e6 : ((W.setCell ⟨w.heap.size + 1 + 1, 0, none⟩ (.int .i64 0)).setCell ⟨w.heap.size + 1 + 1 + 1, 0, none⟩ (.int .i64 2)).cell? ⟨w.heap.size + 1 + 1, 0, none⟩ = some (.int .i64 0) := by go_simp
    have e7 : ((W.setCell ⟨w.heap.size + 1 + 1, 0, none⟩ (.int .i64 0)).setCell ⟨w.heap.size + 1 + 1 + 1, 0, none⟩ (.int .i64 2)).cell? ⟨w.heap.size + 1 + 1 + 1, 0, none⟩ = some (.int .i64 2) := by go_simp
    have hBB := (hB.setCell (p := ⟨w.heap.size + 1 + 1, 0, none⟩) (by simp; omega) (.int .i64 0)).setCell (p := ⟨w.heap.size + 1 + 1 + 1, 0, none⟩) (by simp; omega) (.int .i64 2)
    generalize ((W.setCell ⟨w.heap.size + 1 + 1, 0, none⟩ (.int .i64 0)).setCell ⟨w.heap.size + 1 + 1 + 1, 0, none⟩ (.int .i64 2)) = W2 at *
    refine ⟨by simp, .inl ⟨_, _, rfl, run_takeDeferred hK', ?_⟩⟩
    have k6 := cell_kept e6 (grownBy_putObj' _ D (.deferred none)) (fun r e => by cases e; exact ⟨_, hK', rfl⟩)
    have k7 := cell_kept e7 (grownBy_putObj' _ D (.deferred none)) (fun r e => by cases e; exact ⟨_, hK', rfl⟩)
    refine ⟨.tuple #[.int .i64 0, .int .i64 2], ?_, by rw [hno], hBB.trans (belowK_b (w := w) (Nat.le_refl _) W2 D _ _ (by omega) hK' rfl rfl)⟩
    simp [results, Try.f12, go_sem, k6, k7]
  case stop =>
    rintro D c pre W hD ⟨k, hk, rfl⟩ ⟨⟨rfl, x, hx, hxo, hc6, hc7⟩, hB⟩ hK
    obtain ⟨j, hj, rfl⟩ := upto_mem.1 hx
    simp only at hxo hc6
    have hyes : R = (zs.getD ((slot + (j : Int)) % (n : Int)).toNat 0, 0) := by
      rw [HR.out, ← hxo, if_pos ⟨by omega, by omega⟩]
    gi_wp2
    refine ⟨by simp, .inl ⟨_, _, rfl, run_takeDeferred hK, ?_⟩⟩
    have k6 := cell_kept hc6 (grownBy_putObj' _ D (.deferred none)) (fun r e => by cases e; exact ⟨_, hK, rfl⟩)
    have k7 := cell_kept hc7 (grownBy_putObj' _ D (.deferred none)) (fun r e => by cases e; exact ⟨_, hK, rfl⟩)
    refine ⟨.tuple #[.int .i64 (zs.getD ((slot + (j : Int)) % (n : Int)).toNat 0), .int .i64 0], ?_, by rw [hyes], hB.trans (belowK_b (w := w) (Nat.le_refl _) W D _ _ (by omega) hK rfl rfl)⟩
    simp [results, Try.f12, go_sem, k6, k7]
end Go.Proofs.Ytffanehmlbiemaa
