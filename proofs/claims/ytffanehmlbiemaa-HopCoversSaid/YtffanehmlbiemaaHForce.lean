/- InForce of both packages. -/
import Derived.Test.YtffanehmlbiemaaHAll2
namespace Go.Proofs.Ytffanehmlbiemaa
open Go.RowKit Go.Deep

def forK (hs : List Hp) (slot : Int) : Nat → Hp × Int
  | 0 => (hp0, 7)
  | k + 1 => if (forK hs slot k).2 = 0 then forK hs slot k else if forceB slot (hs.getD k hp0).2.1 (hs.getD k hp0).2.2.1 = true then (hs.getD k hp0, 0) else (hp0, 7)
def forS (hs : List Hp) (slot : Int) : Hp × Int := if allE hs = 0 then forK hs slot hs.length else (hp0, allE hs)
/-- What InForce and its reference return. -/
def ForceP (w : World) (R : Hp × Int) (e : Ending) (w' : World) : Prop :=
  ∃ s, e = .returned (.tuple #[hopV R.1.1 R.1.2.1 R.1.2.2.1 s, .int .i64 R.2]) ∧ Same w w' ∧ IL w' s R.1.2.2.2
theorem forK_none {hs : List Hp} {slot : Int} : ∀ k, (∀ j, j < k → forceB slot (hs.getD j hp0).2.1 (hs.getD j hp0).2.2.1 = false) → forK hs slot k = (hp0, 7)
  | 0, _ => rfl
  | k + 1, h => by
    have ih := forK_none k (fun j hj => h j (by omega))
    unfold forK
    rw [ih, if_neg (by decide), if_neg (by rw [h k (by omega)]; simp)]
theorem forK_hit {hs : List Hp} {slot : Int} {k : Nat} (h0 : ∀ j, j < k → forceB slot (hs.getD j hp0).2.1 (hs.getD j hp0).2.2.1 = false) (h : forceB slot (hs.getD k hp0).2.1 (hs.getD k hp0).2.2.1 = true) : ∀ j, forK hs slot (k + 1 + j) = (hs.getD k hp0, 0)
  | 0 => by show (if (forK hs slot k).2 = 0 then _ else _) = _; rw [forK_none k h0, if_neg (by decide), if_pos h]
  | j + 1 => by
    have ih := forK_hit h0 h j
    have e : forK hs slot (k + 1 + (j + 1)) = (if (forK hs slot (k + 1 + j)).2 = 0 then forK hs slot (k + 1 + j) else if forceB slot (hs.getD (k + 1 + j) hp0).2.1 (hs.getD (k + 1 + j) hp0).2.2.1 = true then (hs.getD (k + 1 + j) hp0, 0) else (hp0, 7)) := rfl
    rw [e, ih, if_pos rfl]
theorem allK_all {hs : List Hp} : ∀ k, allK hs k = 0 → ∀ j, j < k → stepE hs j = 0
  | 0, _, j, hj => absurd hj (Nat.not_lt_zero _)
  | k + 1, h, j, hj => by
    unfold allK at h
    by_cases q : allK hs k = 0
    · rw [if_pos q] at h
      by_cases e : j = k
      · subst e; exact h
      · exact allK_all k q j (by omega)
    · rw [if_neg q] at h; exact absurd h q
theorem allE_hop {hs : List Hp} (h : allE hs = 0) (j : Nat) (hj : j < hs.length) : hopE (hs.getD j hp0) = true := by
  unfold allE at h
  split at h
  · have := allK_all _ h j hj
    unfold stepE at this
    by_cases q : hopE (hs.getD j hp0) = true
    · exact q
    · rw [if_neg q] at this; exact absurd this (by decide)
  · exact absurd h (by decide)
set_option maxHeartbeats 6400000 in
set_option maxRecDepth 100000 in
theorem InForce2_any (w : World) (v : Value) (hs : List Hp) (slot : Int) (h : HL w v hs) (hz : ∀ i, (hs.getD i hp0).2.2.2.length ≤ 1000) (hn : hs.length ≤ 2000) :
    Calls Try.prog 21 #[v, .int .i64 slot] w (ForceP w (forS hs slot)) := by
  have hca := fun (w1 : World) (q : Same w w1) => CheckAll2_any w1 v hs (h.same q) hz
  unfold ForceP
  have HS := Lib.hid ((Same.refl w).alloc (.cells #[.int .i64 0, .int .i64 0, .int .i64 0, .slice none 0 0] 24))
  have HRB := Lib.hid (fun (w1 : World) (q : Same (w.alloc (.cells #[.int .i64 0, .int .i64 0, .int .i64 0, .slice none 0 0] 24)) w1) => rowH (q.heap (heap_alloc_new w _)))
  by_cases c0 : allE hs = 0
  · rw [c0] at hca
    have HCA := Lib.hid hca; clear hca
    rw [show forS hs slot = forK hs slot hs.length from if_pos c0]
    have HHIT := Lib.hid (fun (k : Nat) (hk : k < hs.length) (h0 : ∀ j, j < k → forceB slot (hs.getD j hp0).2.1 (hs.getD j hp0).2.2.1 = false) (h : forceB slot (hs.getD k hp0).2.1 (hs.getD k hp0).2.2.1 = true) => (show forK hs slot hs.length = (hs.getD k hp0, 0) from by
      have := forK_hit h0 h (hs.length - k - 1)
      rwa [show k + 1 + (hs.length - k - 1) = hs.length by omega] at this))
    have HNO := Lib.hid (forK_none (hs := hs) (slot := slot) hs.length)
    have HHOP := Lib.hid (allE_hop c0)
    have HLN := Lib.hid hz
    rcases h with ⟨b, off, cap, rfl, h0, hc⟩ | ⟨ao, cap, rfl, rfl⟩
    · have H := Lib.hid hc; clear hc
      generalize forK hs slot hs.length = R at *
      clear c0 hz
      generalize hnn : hs.length = n at *
      clear hnn
      go_enter Try.func21, Try.ntmps21
      go_wp2_with (go_at_call 23; (with_reducible refine (HCA.out _ (by exact HS.out)).mono ?_); rintro e w1 ⟨rfl, hw⟩; have HW1 := Lib.hid hw; clear hw)
      clear HCA
      go_loopw [7] (fun i wr => ∃ k : Nat, k ≤ n ∧ i = .int .i64 k ∧ (∀ j, j < k → forceB slot (hs.getD j hp0).2.1 (hs.getD j hp0).2.2.1 = false) ∧ Same (w.alloc (.cells #[.int .i64 0, .int .i64 0, .int .i64 0, .slice none 0 0] 24)) wr) (fun i _ => n - (intOf i).toNat)
      case atStart => exact ⟨0, Nat.zero_le _, rfl, fun j hj => absurd hj (Nat.not_lt_zero _), HW1.out⟩
      case round =>
        obtain ⟨k, hk, rfl, hall, hS⟩ := hrel
        obtain ⟨m0, m1, m2, m3, m4, m5, m6, m7⟩ := HRB.out _ hS
        by_cases hlt : k < n
        · obtain ⟨ao, ca, z0, z1, z2, z3, hil⟩ := H.out k hlt
          have hQQ := HS.out.trans hS
          replace z0 := hQQ.cell z0; replace z1 := hQQ.cell z1; replace z2 := hQQ.cell z2; replace z3 := hQQ.cell z3
          clear hQQ
          have hhop := HHOP.out k hlt
          have hln := HLN.out k
          have HALL := Lib.hid (fun (q : forceB slot (hs.getD k hp0).2.1 (hs.getD k hp0).2.2.1 = false) (j : Nat) (hj : j < k + 1) => (show forceB slot (hs.getD j hp0).2.1 (hs.getD j hp0).2.2.1 = false from by
            by_cases e : j = k
            · subst e; exact q
            · exact hall j (by omega)))
          have hhit := HHIT.out k hlt hall
          obtain ⟨x, hx⟩ : ∃ x, hs.getD k hp0 = x := ⟨_, rfl⟩
          rw [hx] at z0 z1 z2 z3 hil hhop HALL hhit hln
          obtain ⟨xv, xf, xu, xz⟩ := x
          simp only at z0 z1 z2 z3 hil HALL hhit hln
          clear hall hx
          have HSR := Lib.hid hS; clear hS
          by_cases hf : forceB slot xf xu = true
          · have hR := hhit hf
            subst hR
            have hf' := hf
            unfold forceB at hf'
            rw [decide_eq_true_eq] at hf'
            have d1 : decide (xf ≤ slot) = true := decide_eq_true hf'.1
            have d2 : decide (slot < xu) = true := decide_eq_true hf'.2
            have HIW := Lib.hid (fun (w2 : World) (q : Same w w2) => hil.same q); clear hil
            clear hf hf' hhit HALL hhop
            go_wp2
            have e0 : ((((wr.setCell ⟨w.heap.size, 0, none⟩ (.int .i64 xv)).setCell ⟨w.heap.size, 1, none⟩ (.int .i64 xf)).setCell ⟨w.heap.size, 2, none⟩ (.int .i64 xu)).setCell ⟨w.heap.size, 3, none⟩ (.slice ao xz.length ca)).cell? ⟨w.heap.size, 0, none⟩ = some (.int .i64 xv) := by go_simp
            have e1 : ((((wr.setCell ⟨w.heap.size, 0, none⟩ (.int .i64 xv)).setCell ⟨w.heap.size, 1, none⟩ (.int .i64 xf)).setCell ⟨w.heap.size, 2, none⟩ (.int .i64 xu)).setCell ⟨w.heap.size, 3, none⟩ (.slice ao xz.length ca)).cell? ⟨w.heap.size, 1, none⟩ = some (.int .i64 xf) := by go_simp
            have e2 : ((((wr.setCell ⟨w.heap.size, 0, none⟩ (.int .i64 xv)).setCell ⟨w.heap.size, 1, none⟩ (.int .i64 xf)).setCell ⟨w.heap.size, 2, none⟩ (.int .i64 xu)).setCell ⟨w.heap.size, 3, none⟩ (.slice ao xz.length ca)).cell? ⟨w.heap.size, 2, none⟩ = some (.int .i64 xu) := by go_simp
            have e3 : ((((wr.setCell ⟨w.heap.size, 0, none⟩ (.int .i64 xv)).setCell ⟨w.heap.size, 1, none⟩ (.int .i64 xf)).setCell ⟨w.heap.size, 2, none⟩ (.int .i64 xu)).setCell ⟨w.heap.size, 3, none⟩ (.slice ao xz.length ca)).cell? ⟨w.heap.size, 3, none⟩ = some (.slice ao xz.length ca) := by go_simp
            have hsm : Same w ((((wr.setCell ⟨w.heap.size, 0, none⟩ (.int .i64 xv)).setCell ⟨w.heap.size, 1, none⟩ (.int .i64 xf)).setCell ⟨w.heap.size, 2, none⟩ (.int .i64 xu)).setCell ⟨w.heap.size, 3, none⟩ (.slice ao xz.length ca)) := (((((HS.out.trans HSR.out).setCell (p := ⟨w.heap.size, 0, none⟩) (Nat.le_refl _) _).setCell (p := ⟨w.heap.size, 1, none⟩) (Nat.le_refl _) _).setCell (p := ⟨w.heap.size, 2, none⟩) (Nat.le_refl _) _).setCell (p := ⟨w.heap.size, 3, none⟩) (Nat.le_refl _) _)
            have hil := HIW.out _ hsm
            generalize ((((wr.setCell ⟨w.heap.size, 0, none⟩ (.int .i64 xv)).setCell ⟨w.heap.size, 1, none⟩ (.int .i64 xf)).setCell ⟨w.heap.size, 2, none⟩ (.int .i64 xu)).setCell ⟨w.heap.size, 3, none⟩ (.slice ao xz.length ca)) = W at *
            refine bodyPost_ret (v := .tuple #[.agg #[.int .i64 xv, .int .i64 xf, .int .i64 xu, .slice ao xz.length ca], .int .i64 0]) ?_ rfl ⟨_, rfl, hsm, hil⟩
            simp [results, Try.f21, go_sem, e0, e1, e2, e3]
          · have hf' := forceB_no hf
            have HFF := Lib.hid (HALL.out (by simpa using hf))
            clear hf hhit HALL hhop hil
            rcases hf' with g1 | ⟨g1, g2⟩
            · have d1 : decide (xf ≤ slot) = false := decide_eq_false (by omega)
              clear g1
              go_wp2
              go_roundw
              case rel => exact ⟨k + 1, by omega, by go_num, HFF.out, HSR.out⟩
              case measure => simp [intOf]; omega
            · have d1 : decide (xf ≤ slot) = true := decide_eq_true (by omega)
              have d2 : decide (slot < xu) = false := decide_eq_false (by omega)
              clear g1 g2
              go_wp2
              go_roundw
              case rel => exact ⟨k + 1, by omega, by go_num, HFF.out, HSR.out⟩
              case measure => simp [intOf]; omega
        · obtain rfl : n = k := by omega
          have hF := HNO.out hall
          subst hF
          have HQ := Lib.hid (HS.out.trans hS); clear hall hS
          go_wp2
          have e0 : ((((wr.setCell ⟨w.heap.size, 0, none⟩ (.int .i64 0)).setCell ⟨w.heap.size, 1, none⟩ (.int .i64 0)).setCell ⟨w.heap.size, 2, none⟩ (.int .i64 0)).setCell ⟨w.heap.size, 3, none⟩ (.slice none 0 0)).cell? ⟨w.heap.size, 0, none⟩ = some (.int .i64 0) := by go_simp
          have e1 : ((((wr.setCell ⟨w.heap.size, 0, none⟩ (.int .i64 0)).setCell ⟨w.heap.size, 1, none⟩ (.int .i64 0)).setCell ⟨w.heap.size, 2, none⟩ (.int .i64 0)).setCell ⟨w.heap.size, 3, none⟩ (.slice none 0 0)).cell? ⟨w.heap.size, 1, none⟩ = some (.int .i64 0) := by go_simp
          have e2 : ((((wr.setCell ⟨w.heap.size, 0, none⟩ (.int .i64 0)).setCell ⟨w.heap.size, 1, none⟩ (.int .i64 0)).setCell ⟨w.heap.size, 2, none⟩ (.int .i64 0)).setCell ⟨w.heap.size, 3, none⟩ (.slice none 0 0)).cell? ⟨w.heap.size, 2, none⟩ = some (.int .i64 0) := by go_simp
          have e3 : ((((wr.setCell ⟨w.heap.size, 0, none⟩ (.int .i64 0)).setCell ⟨w.heap.size, 1, none⟩ (.int .i64 0)).setCell ⟨w.heap.size, 2, none⟩ (.int .i64 0)).setCell ⟨w.heap.size, 3, none⟩ (.slice none 0 0)).cell? ⟨w.heap.size, 3, none⟩ = some (.slice none 0 0) := by go_simp
          have hsm : Same w ((((wr.setCell ⟨w.heap.size, 0, none⟩ (.int .i64 0)).setCell ⟨w.heap.size, 1, none⟩ (.int .i64 0)).setCell ⟨w.heap.size, 2, none⟩ (.int .i64 0)).setCell ⟨w.heap.size, 3, none⟩ (.slice none 0 0)) := ((((HQ.out.setCell (p := ⟨w.heap.size, 0, none⟩) (Nat.le_refl _) _).setCell (p := ⟨w.heap.size, 1, none⟩) (Nat.le_refl _) _).setCell (p := ⟨w.heap.size, 2, none⟩) (Nat.le_refl _) _).setCell (p := ⟨w.heap.size, 3, none⟩) (Nat.le_refl _) _)
          have hil : IL ((((wr.setCell ⟨w.heap.size, 0, none⟩ (.int .i64 0)).setCell ⟨w.heap.size, 1, none⟩ (.int .i64 0)).setCell ⟨w.heap.size, 2, none⟩ (.int .i64 0)).setCell ⟨w.heap.size, 3, none⟩ (.slice none 0 0)) (.slice none 0 0) [] := .inr ⟨_, _, rfl, rfl⟩
          generalize ((((wr.setCell ⟨w.heap.size, 0, none⟩ (.int .i64 0)).setCell ⟨w.heap.size, 1, none⟩ (.int .i64 0)).setCell ⟨w.heap.size, 2, none⟩ (.int .i64 0)).setCell ⟨w.heap.size, 3, none⟩ (.slice none 0 0)) = W at *
          refine bodyPost_ret (v := .tuple #[.agg #[.int .i64 0, .int .i64 0, .int .i64 0, .slice none 0 0], .int .i64 7]) ?_ rfl ⟨_, rfl, hsm, hil⟩
          simp [results, Try.f21, go_sem, e0, e1, e2, e3]
    · exact absurd c0 (by decide)
  · rw [show forS hs slot = (hp0, allE hs) from if_neg c0]
    generalize allE hs = E at *
    have c1 : (E != 0) = true := by simpa using c0
    have c2 : (E == 0) = false := by simpa using c0
    have HCA := Lib.hid hca; clear hca c0
    obtain ⟨aV, cV, rfl⟩ := h.shape
    clear h hz
    generalize hs.length = n at *
    go_enter Try.func21, Try.ntmps21
    go_wp2_with (go_at_call 23; (with_reducible refine (HCA.out _ (by exact HS.out)).mono ?_); rintro e w1 ⟨rfl, hw⟩; have HW1 := Lib.hid (HS.out.trans hw); obtain ⟨m0, m1, m2, m3, m4, m5, m6, m7⟩ := HRB.out _ hw; clear hw)
    have e0 : ((((w1.setCell ⟨w.heap.size, 0, none⟩ (.int .i64 0)).setCell ⟨w.heap.size, 1, none⟩ (.int .i64 0)).setCell ⟨w.heap.size, 2, none⟩ (.int .i64 0)).setCell ⟨w.heap.size, 3, none⟩ (.slice none 0 0)).cell? ⟨w.heap.size, 0, none⟩ = some (.int .i64 0) := by go_simp
    have e1 : ((((w1.setCell ⟨w.heap.size, 0, none⟩ (.int .i64 0)).setCell ⟨w.heap.size, 1, none⟩ (.int .i64 0)).setCell ⟨w.heap.size, 2, none⟩ (.int .i64 0)).setCell ⟨w.heap.size, 3, none⟩ (.slice none 0 0)).cell? ⟨w.heap.size, 1, none⟩ = some (.int .i64 0) := by go_simp
    have e2 : ((((w1.setCell ⟨w.heap.size, 0, none⟩ (.int .i64 0)).setCell ⟨w.heap.size, 1, none⟩ (.int .i64 0)).setCell ⟨w.heap.size, 2, none⟩ (.int .i64 0)).setCell ⟨w.heap.size, 3, none⟩ (.slice none 0 0)).cell? ⟨w.heap.size, 2, none⟩ = some (.int .i64 0) := by go_simp
    have e3 : ((((w1.setCell ⟨w.heap.size, 0, none⟩ (.int .i64 0)).setCell ⟨w.heap.size, 1, none⟩ (.int .i64 0)).setCell ⟨w.heap.size, 2, none⟩ (.int .i64 0)).setCell ⟨w.heap.size, 3, none⟩ (.slice none 0 0)).cell? ⟨w.heap.size, 3, none⟩ = some (.slice none 0 0) := by go_simp
    have hsm : Same w ((((w1.setCell ⟨w.heap.size, 0, none⟩ (.int .i64 0)).setCell ⟨w.heap.size, 1, none⟩ (.int .i64 0)).setCell ⟨w.heap.size, 2, none⟩ (.int .i64 0)).setCell ⟨w.heap.size, 3, none⟩ (.slice none 0 0)) := ((((HW1.out.setCell (p := ⟨w.heap.size, 0, none⟩) (Nat.le_refl _) _).setCell (p := ⟨w.heap.size, 1, none⟩) (Nat.le_refl _) _).setCell (p := ⟨w.heap.size, 2, none⟩) (Nat.le_refl _) _).setCell (p := ⟨w.heap.size, 3, none⟩) (Nat.le_refl _) _)
    have hil : IL ((((w1.setCell ⟨w.heap.size, 0, none⟩ (.int .i64 0)).setCell ⟨w.heap.size, 1, none⟩ (.int .i64 0)).setCell ⟨w.heap.size, 2, none⟩ (.int .i64 0)).setCell ⟨w.heap.size, 3, none⟩ (.slice none 0 0)) (.slice none 0 0) [] := .inr ⟨_, _, rfl, rfl⟩
    generalize ((((w1.setCell ⟨w.heap.size, 0, none⟩ (.int .i64 0)).setCell ⟨w.heap.size, 1, none⟩ (.int .i64 0)).setCell ⟨w.heap.size, 2, none⟩ (.int .i64 0)).setCell ⟨w.heap.size, 3, none⟩ (.slice none 0 0)) = W at *
    refine bodyPost_ret (v := .tuple #[.agg #[.int .i64 0, .int .i64 0, .int .i64 0, .slice none 0 0], .int .i64 E]) ?_ rfl ⟨_, rfl, hsm, hil⟩
    simp [results, Try.f21, go_sem, e0, e1, e2, e3]
end Go.Proofs.Ytffanehmlbiemaa
