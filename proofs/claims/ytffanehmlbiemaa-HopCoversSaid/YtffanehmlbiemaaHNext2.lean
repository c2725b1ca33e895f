/- Next of the reference. -/
import Derived.Test.YtffanehmlbiemaaHNext
import Derived.Test.YtffanehmlbiemaaHSame
namespace Go.Proofs.Ytffanehmlbiemaa
open Go.RowKit Go.Deep

theorem newsH {w w1 : World} {b off : Nat} {zs : List Int} {j : Nat} {x : Value} (h : ∀ i, i < zs.length → w.cell? ⟨b, off + i, none⟩ = some (.int .i64 (zs.getD i 0))) (hs : Same w w1) (hj : (icells zs)[j]? = some x) : w1.cell? ((⟨b, off, none⟩ : Addr).add j) = some x := by
  have hjl : j < zs.length := by have := (List.getElem?_eq_some_iff.1 hj).1; rw [icells_length] at this; omega
  rw [icells_get _ j hjl] at hj
  injection hj with hj
  subst hj
  have : (⟨b, off, none⟩ : Addr).add j = ⟨b, off + j, none⟩ := by
    unfold Addr.add; split
    · rename_i hz; rw [hz]; rfl
    · rfl
  rw [this]
  exact hs.cell (h j hjl)
theorem appPost {w2 wp w6 : World} {g0 n c : Nat} (hp : Same w2 wp) (hg : wp.grownBy w6 (Value.slice (some ⟨g0, 0, none⟩) n c).ownBlock) (h0 : w2.heap.size ≤ g0) : Same w2 w6 :=
  Same.ofBelow (hp.toBelow.grown hg hp.size (fun k e => by simp [Value.ownBlock] at e; omega))
theorem zeroAt2 {w2 w6 : World} {n c : Nat} {o : Obj} {x y z : Int} {ad : Option Addr} {m k : Nat} {T : TypeId} (hg : ((w2.alloc o).alloc (.cells #[.int .i64 x, .int .i64 y, .int .i64 z, .slice ad m k] T)).drew.grownBy w6 (Value.slice (some ⟨w2.heap.size, 0, none⟩) n c).ownBlock) : w6.cell? ⟨w2.heap.size + 1, 0, none⟩ = some (.int .i64 x) ∧ w6.cell? ⟨w2.heap.size + 1, 1, none⟩ = some (.int .i64 y) ∧ w6.cell? ⟨w2.heap.size + 1, 2, none⟩ = some (.int .i64 z) ∧ w6.cell? ⟨w2.heap.size + 1, 3, none⟩ = some (.slice ad m k) ∧
    w6.frozen? ⟨w2.heap.size + 1, 0, none⟩ = false ∧ w6.frozen? ⟨w2.heap.size + 1, 1, none⟩ = false ∧ w6.frozen? ⟨w2.heap.size + 1, 2, none⟩ = false ∧ w6.frozen? ⟨w2.heap.size + 1, 3, none⟩ = false := by
  refine rowH (T := T) ((hg.block (w2.heap.size + 1) (by simp) (by simp [Value.ownBlock])).trans ?_)
  have := heap_alloc_new (w2.alloc o) (.cells #[.int .i64 x, .int .i64 y, .int .i64 z, .slice ad m k] T)
  rw [World.size_alloc] at this
  exact this
theorem zeroAt3 {w2 w6 : World} {n c : Nat} {o : Obj} {x y z : Int} {ad : Option Addr} {m k : Nat} {T : TypeId} (hg : ((w2.alloc (.cells #[.int .i64 x, .int .i64 y, .int .i64 z, .slice ad m k] T)).alloc o).drew.grownBy w6 (Value.slice (some ⟨w2.heap.size + 1, 0, none⟩) n c).ownBlock) : w6.cell? ⟨w2.heap.size, 0, none⟩ = some (.int .i64 x) ∧ w6.cell? ⟨w2.heap.size, 1, none⟩ = some (.int .i64 y) ∧ w6.cell? ⟨w2.heap.size, 2, none⟩ = some (.int .i64 z) ∧ w6.cell? ⟨w2.heap.size, 3, none⟩ = some (.slice ad m k) ∧
    w6.frozen? ⟨w2.heap.size, 0, none⟩ = false ∧ w6.frozen? ⟨w2.heap.size, 1, none⟩ = false ∧ w6.frozen? ⟨w2.heap.size, 2, none⟩ = false ∧ w6.frozen? ⟨w2.heap.size, 3, none⟩ = false := by
  refine rowH (T := T) ((hg.block w2.heap.size (by simp; omega) (by simp [Value.ownBlock])).trans ?_)
  exact (Below.heap_alloc _ _ _ (by simp)).trans (heap_alloc_new w2 _)
theorem tmodH {v : Int} (h : 0 ≤ v ∧ v ≤ 255) : (IntKind.i64.wrap (v + 1)).tmod 256 = (v + 1) % 256 := by
  obtain ⟨h1, h2⟩ := h
  rw [show IntKind.i64.wrap (v + 1) = v + 1 from IntWalk.i64_in _ (by omega), Int.tmod_eq_emod_of_nonneg (by omega)]
theorem ne2 {w2 : World} {o o' : Obj} {n c g : Nat} (h : (Value.slice (some ⟨w2.heap.size, 0, none⟩) n c).ownBlock = some g ∨ g = ((w2.alloc o).alloc o').drew.heap.size) : w2.heap.size + 1 ≠ g := by
  rcases h with e | e
  · simp [Value.ownBlock] at e; omega
  · subst e; simp
theorem ne3 {w2 : World} {o o' : Obj} {n c g : Nat} (h : (Value.slice (some ⟨w2.heap.size + 1, 0, none⟩) n c).ownBlock = some g ∨ g = ((w2.alloc o).alloc o').drew.heap.size) : w2.heap.size ≠ g := by
  rcases h with e | e
  · simp [Value.ownBlock] at e; omega
  · subst e; simp; omega
theorem own_setne {w : World} {base sz n m c B i g : Nat} {T : TypeId} {u : Value} {cs : List Value} (h : w.ownsRow base T sz (.slice (some ⟨g, 0, none⟩) m c) n cs) (hB : B ≠ g) : (w.setCell ⟨B, i, none⟩ u).ownsRow base T sz (.slice (some ⟨g, 0, none⟩) m c) n cs := by
  refine ⟨h.1, ?_⟩
  rcases h.2 with h2 | ⟨g', cap, cur, h1, h2, h3, h4⟩
  · exact .inl h2
  · have hg : g = g' := by simp at h1; exact h1.1
    exact .inr ⟨g', cap, cur, h1, h2, by rw [Below.heap_setCell _ _ _ _ (by simp; omega)]; exact h3, h4⟩
theorem made3 (w2 : World) (O : Obj) : (((w2.alloc O).alloc (.cells #[] 3)).drew).ownsRow (w2.heap.size + 1) 3 1 (.slice (some ⟨w2.heap.size + 1, 0, none⟩) 0 0) 0 [] := by
  have h := own_same (World.ownsRow_made (e := 3) (size := 1) (w2.alloc O) #[] 0 (Nat.le_refl _) (Nat.zero_le _) rfl) (Same.refl ((w2.alloc O).alloc (.cells #[] 3))).drew
  rw [World.size_alloc] at h
  exact h
set_option maxHeartbeats 6400000 in
set_option maxRecDepth 100000 in
theorem Next2_any (w : World) (v f u : Int) (s : Value) (zs : List Int) (til : Int) (s2 : Value) (cs : List Int) (h : IL w s zs) (h2 : IL w s2 cs) (hl : zs.length ≤ 1000) (hl2 : cs.length ≤ 1000) (hpos : 0 < cs.length) :
    Calls Try.prog 29 #[hopV v f u s, .int .i64 til, s2] w (NextP w (nextS v f u zs til cs)) := by
  have hck := fun (w1 : World) (hs : Same w w1) => Check2_any v f u s zs w1 (h.same hs) hl
  obtain ⟨i0, hi, hz0, hz1, hz2⟩ := info_parts Try.infoI
  unfold NextP
  by_cases h1 : hopB v f u zs = true
  · have HCL := Lib.hid (fun (w1 : World) (hs : Same w w1) => CloneI_own w1 s2 cs (h2.same hs) hl2)
    have HNV := Lib.hid (fun (w1 : World) => nextVersion_any v (hopB_of h1).1 w1)
    rw [show chkH v f u zs = 0 from if_pos h1] at hck
    have HCK := Lib.hid hck; clear hck
    obtain ⟨ao, cap, rfl⟩ := h.shape
    obtain ⟨b2, o2, k2, rfl, hcc⟩ := h2.cells hpos
    have NEWS := Lib.hid (fun (w1 : World) (hs : Same w w1) (j : Nat) (x : Value) (hj : (icells cs)[j]? = some x) => newsH hcc hs hj)
    clear hcc
    generalize zs.length = n at *
    have HS := Lib.hid (((Same.refl w).alloc (.cells #[.int .i64 v, .int .i64 f, .int .i64 u, .slice ao n cap] 24)).alloc (.cells #[.int .i64 0, .int .i64 0, .int .i64 0, .slice none 0 0] 24))
    have HRB := Lib.hid (fun (w1 : World) (hs : Same ((w.alloc (.cells #[.int .i64 v, .int .i64 f, .int .i64 u, .slice ao n cap] 24)).alloc (.cells #[.int .i64 0, .int .i64 0, .int .i64 0, .slice none 0 0] 24)) w1) => (show w1.heap[w.heap.size + 1]? = some (.cells #[.int .i64 0, .int .i64 0, .int .i64 0, .slice none 0 0] 24 (0, 0)) from hs.heap (by have := heap_alloc_new (w.alloc (.cells #[.int .i64 v, .int .i64 f, .int .i64 u, .slice ao n cap] 24)) (.cells #[.int .i64 0, .int .i64 0, .int .i64 0, .slice none 0 0] 24); rw [World.size_alloc] at this; exact this)))
    have HB := Lib.hid (fun (w1 : World) (hs : Same ((w.alloc (.cells #[.int .i64 v, .int .i64 f, .int .i64 u, .slice ao n cap] 24)).alloc (.cells #[.int .i64 0, .int .i64 0, .int .i64 0, .slice none 0 0] 24)) w1) => (show w1.cell? ⟨w.heap.size, 0, none⟩ = some (.int .i64 v) ∧ w1.cell? ⟨w.heap.size, 1, none⟩ = some (.int .i64 f) ∧ w1.cell? ⟨w.heap.size, 2, none⟩ = some (.int .i64 u) ∧ w1.cell? ⟨w.heap.size, 3, none⟩ = some (.slice ao n cap) from ⟨hs.cell (by go_simp), hs.cell (by go_simp), hs.cell (by go_simp), hs.cell (by go_simp)⟩))
    have HR := Lib.hid (show nextS v f u zs til cs = if hopB ((v + 1) % 256) u til cs = true then (((v + 1) % 256, u, til, cs), 0) else ((0, 0, 0, []), 1) from by unfold nextS; rw [h1, Bool.true_and])
    obtain ⟨⟨⟨R0, R1, R2, R3⟩, RE⟩, hR⟩ : ∃ R, nextS v f u zs til cs = R := ⟨_, rfl⟩
    rw [hR] at HR ⊢
    simp only
    clear h h2 hR
    go_enter Try.func29, Try.ntmps29
    go_wp2_with (go_at_call 17; (with_reducible refine (HCK.out _ (by exact HS.out)).mono ?_); rintro e w2 ⟨rfl, hw⟩; obtain ⟨c0, c1, c2, c3⟩ := HB.out _ hw; have HW2 := Lib.hid hw; clear hw)
    have hs2 := (HS.out.trans HW2.out).drew
    have hr2 := (Same.refl w2).drew
    have hK2 := And.intro c0 (And.intro c1 (And.intro c2 (And.intro c3 (And.intro (HS.out.trans HW2.out) (Same.refl w2)))))
    go_region_held3 (fun w' => w'.cell? ⟨w.heap.size, 0, none⟩ = some (.int .i64 v) ∧ w'.cell? ⟨w.heap.size, 1, none⟩ = some (.int .i64 f) ∧ w'.cell? ⟨w.heap.size, 2, none⟩ = some (.int .i64 u) ∧ w'.cell? ⟨w.heap.size, 3, none⟩ = some (.slice ao n cap) ∧ Same w w' ∧ Same w2 w')
      (first
        | exact keepH hK2 hr2
        | exact keepH hK2 hs6
        | exact keepH hK2 (((Same.refl _).alloc _).drew)
        | exact keepH hK2 ((((Same.refl _).alloc _).alloc _).drew)
        | exact keepH hK2 (hs6.alloc _)
        | exact keepH hK2 ((((hs6.setCell (p := ⟨w2.heap.size, 0, none⟩) (by simp) _).setCell (p := ⟨w2.heap.size, 1, none⟩) (by simp) _).setCell (p := ⟨w2.heap.size, 2, none⟩) (by simp) _).setCell (p := ⟨w2.heap.size, 3, none⟩) (by simp) _)
        | exact keepH hK2 ((((hs6.setCell (p := ⟨w2.heap.size + 1, 0, none⟩) (by simp) _).setCell (p := ⟨w2.heap.size + 1, 1, none⟩) (by simp) _).setCell (p := ⟨w2.heap.size + 1, 2, none⟩) (by simp) _).setCell (p := ⟨w2.heap.size + 1, 3, none⟩) (by simp) _)
        | assumption)
      (first
        | (refine step_append_lies _ rfl (.tmp 20) (.tmp 21) 22 rfl w2.heap.size 3 i0 (.int .i64 0) 1 8 Try.underlying22 hi hz0 hz1 hz2 rfl (by decide) (.slice (some ⟨w2.heap.size, 0, none⟩) 0 0) 0 [] (by simp [Act.eval]) (by exact (own_same (World.ownsRow_made w2 #[] 0 (Nat.le_refl _) (Nat.zero_le _) rfl) (Same.refl _).drew)) ⟨b2, o2, none⟩ cs.length k2 (icells cs) (by simp [Act.eval]) (icells_length cs) (by exact fun j u hj => NEWS.out _ (((HS.out.trans HW2.out).alloc _).drew) j u hj) (icells_one cs) hpos (by unfold maxLen; omega) (by omega) (by simp <;> omega) _ rfl ?_
           intro g cp w6 h6 hgrow hgd hglt
           have hs6 := appPost (((Same.refl w2).alloc _).drew) hgrow (by simp)
           simp only [Nat.zero_add, List.nil_append] at h6
           clear hgd hglt)
        | (refine step_append_lies _ rfl (.tmp 20) (.tmp 21) 22 rfl w2.heap.size 3 i0 (.int .i64 0) 1 8 Try.underlying22 hi hz0 hz1 hz2 rfl (by decide) (.slice (some ⟨w2.heap.size, 0, none⟩) 0 0) 0 [] (by simp [Act.eval]) (by exact (own_same (World.ownsRow_made w2 #[] 0 (Nat.le_refl _) (Nat.zero_le _) rfl) (((Same.refl _).alloc _).drew))) ⟨b2, o2, none⟩ cs.length k2 (icells cs) (by simp [Act.eval]) (icells_length cs) (by exact fun j u hj => NEWS.out _ ((((HS.out.trans HW2.out).alloc _).alloc _).drew) j u hj) (icells_one cs) hpos (by unfold maxLen; omega) (by omega) (by simp <;> omega) _ rfl ?_
           intro g cp w6 h6 hgrow hgd hglt
           have hs6 := appPost ((((Same.refl w2).alloc _).alloc _).drew) hgrow (by simp)
           simp only [Nat.zero_add, List.nil_append] at h6
           obtain ⟨n0, n1, n2, n3, n4, n5, n6, n7⟩ := zeroAt2 hgrow
           have hne : w2.heap.size + 1 ≠ g := ne2 hgd
           clear hgd hglt)
        | (refine step_append_lies _ rfl (.tmp 20) (.tmp 21) 22 rfl (w2.heap.size + 1) 3 i0 (.int .i64 0) 1 8 Try.underlying22 hi hz0 hz1 hz2 rfl (by decide) (.slice (some ⟨w2.heap.size + 1, 0, none⟩) 0 0) 0 [] (by simp [Act.eval]) (by exact made3 w2 _) ⟨b2, o2, none⟩ cs.length k2 (icells cs) (by simp [Act.eval]) (icells_length cs) (by exact fun j u hj => NEWS.out _ ((((HS.out.trans HW2.out).alloc _).alloc _).drew) j u hj) (icells_one cs) hpos (by unfold maxLen; omega) (by omega) (by simp <;> omega) _ rfl ?_
           intro g cp w6 h6 hgrow hgd hglt
           have hs6 := appPost ((((Same.refl w2).alloc _).alloc _).drew) hgrow (by simp)
           simp only [Nat.zero_add, List.nil_append] at h6
           obtain ⟨n0, n1, n2, n3, n4, n5, n6, n7⟩ := zeroAt3 hgrow
           have hne : w2.heap.size ≠ g := ne3 hgd
           clear hgd hglt)
        | fail)
    all_goals
      have hmod : (IntKind.i64.wrap (v + 1)).tmod 256 = (v + 1) % 256 := tmodH (hopB_of h1).1
      have hsz : w.heap.size + 2 ≤ w2.heap.size := by have := HW2.out.size; simp at this; omega
      have hfin := (by assumption : _ ∧ _ ∧ _ ∧ _ ∧ Same w _ ∧ Same w2 _).2.2.2.2
      rw [hmod] at hfin ⊢
      clear hmod
      first
        | (have hown5 := own_setne (i := 3) (u := .slice (some ⟨g, 0, none⟩) cs.length cp) (own_setne (i := 2) (u := .int .i64 til) (own_setne (i := 1) (u := .int .i64 u) (own_setne (i := 0) (u := .int .i64 ((v + 1) % 256)) h6 hne) hne) hne) hne
           have k6 : ((((w6.setCell ⟨w2.heap.size + 1, 0, none⟩ (.int .i64 ((v + 1) % 256))).setCell ⟨w2.heap.size + 1, 1, none⟩ (.int .i64 u)).setCell ⟨w2.heap.size + 1, 2, none⟩ (.int .i64 til)).setCell ⟨w2.heap.size + 1, 3, none⟩ (.slice (some ⟨g, 0, none⟩) cs.length cp)).cell? ⟨w2.heap.size + 1, 0, none⟩ = some (.int .i64 ((v + 1) % 256)) := by go_simp
           have k7 : ((((w6.setCell ⟨w2.heap.size + 1, 0, none⟩ (.int .i64 ((v + 1) % 256))).setCell ⟨w2.heap.size + 1, 1, none⟩ (.int .i64 u)).setCell ⟨w2.heap.size + 1, 2, none⟩ (.int .i64 til)).setCell ⟨w2.heap.size + 1, 3, none⟩ (.slice (some ⟨g, 0, none⟩) cs.length cp)).cell? ⟨w2.heap.size + 1, 1, none⟩ = some (.int .i64 u) := by go_simp
           have k8 : ((((w6.setCell ⟨w2.heap.size + 1, 0, none⟩ (.int .i64 ((v + 1) % 256))).setCell ⟨w2.heap.size + 1, 1, none⟩ (.int .i64 u)).setCell ⟨w2.heap.size + 1, 2, none⟩ (.int .i64 til)).setCell ⟨w2.heap.size + 1, 3, none⟩ (.slice (some ⟨g, 0, none⟩) cs.length cp)).cell? ⟨w2.heap.size + 1, 2, none⟩ = some (.int .i64 til) := by go_simp
           have k9 : ((((w6.setCell ⟨w2.heap.size + 1, 0, none⟩ (.int .i64 ((v + 1) % 256))).setCell ⟨w2.heap.size + 1, 1, none⟩ (.int .i64 u)).setCell ⟨w2.heap.size + 1, 2, none⟩ (.int .i64 til)).setCell ⟨w2.heap.size + 1, 3, none⟩ (.slice (some ⟨g, 0, none⟩) cs.length cp)).cell? ⟨w2.heap.size + 1, 3, none⟩ = some (.slice (some ⟨g, 0, none⟩) cs.length cp) := by go_simp
           generalize ((((w6.setCell ⟨w2.heap.size + 1, 0, none⟩ (.int .i64 ((v + 1) % 256))).setCell ⟨w2.heap.size + 1, 1, none⟩ (.int .i64 u)).setCell ⟨w2.heap.size + 1, 2, none⟩ (.int .i64 til)).setCell ⟨w2.heap.size + 1, 3, none⟩ (.slice (some ⟨g, 0, none⟩) cs.length cp)) = w5 at *
           generalize w2.heap.size + 1 = B at *)
        | (have hown5 := own_setne (i := 3) (u := .slice (some ⟨g, 0, none⟩) cs.length cp) (own_setne (i := 2) (u := .int .i64 til) (own_setne (i := 1) (u := .int .i64 u) (own_setne (i := 0) (u := .int .i64 ((v + 1) % 256)) h6 hne) hne) hne) hne
           have k6 : ((((w6.setCell ⟨w2.heap.size, 0, none⟩ (.int .i64 ((v + 1) % 256))).setCell ⟨w2.heap.size, 1, none⟩ (.int .i64 u)).setCell ⟨w2.heap.size, 2, none⟩ (.int .i64 til)).setCell ⟨w2.heap.size, 3, none⟩ (.slice (some ⟨g, 0, none⟩) cs.length cp)).cell? ⟨w2.heap.size, 0, none⟩ = some (.int .i64 ((v + 1) % 256)) := by go_simp
           have k7 : ((((w6.setCell ⟨w2.heap.size, 0, none⟩ (.int .i64 ((v + 1) % 256))).setCell ⟨w2.heap.size, 1, none⟩ (.int .i64 u)).setCell ⟨w2.heap.size, 2, none⟩ (.int .i64 til)).setCell ⟨w2.heap.size, 3, none⟩ (.slice (some ⟨g, 0, none⟩) cs.length cp)).cell? ⟨w2.heap.size, 1, none⟩ = some (.int .i64 u) := by go_simp
           have k8 : ((((w6.setCell ⟨w2.heap.size, 0, none⟩ (.int .i64 ((v + 1) % 256))).setCell ⟨w2.heap.size, 1, none⟩ (.int .i64 u)).setCell ⟨w2.heap.size, 2, none⟩ (.int .i64 til)).setCell ⟨w2.heap.size, 3, none⟩ (.slice (some ⟨g, 0, none⟩) cs.length cp)).cell? ⟨w2.heap.size, 2, none⟩ = some (.int .i64 til) := by go_simp
           have k9 : ((((w6.setCell ⟨w2.heap.size, 0, none⟩ (.int .i64 ((v + 1) % 256))).setCell ⟨w2.heap.size, 1, none⟩ (.int .i64 u)).setCell ⟨w2.heap.size, 2, none⟩ (.int .i64 til)).setCell ⟨w2.heap.size, 3, none⟩ (.slice (some ⟨g, 0, none⟩) cs.length cp)).cell? ⟨w2.heap.size, 3, none⟩ = some (.slice (some ⟨g, 0, none⟩) cs.length cp) := by go_simp
           generalize ((((w6.setCell ⟨w2.heap.size, 0, none⟩ (.int .i64 ((v + 1) % 256))).setCell ⟨w2.heap.size, 1, none⟩ (.int .i64 u)).setCell ⟨w2.heap.size, 2, none⟩ (.int .i64 til)).setCell ⟨w2.heap.size, 3, none⟩ (.slice (some ⟨g, 0, none⟩) cs.length cp)) = w5 at *
           generalize w2.heap.size = B at *)
        | (have hown5 := own_same h6 ((Same.refl w6).alloc (.cells #[.int .i64 ((v + 1) % 256), .int .i64 u, .int .i64 til, .slice (some ⟨g, 0, none⟩) cs.length cp] 24))
           have k6 : (w6.alloc (.cells #[.int .i64 ((v + 1) % 256), .int .i64 u, .int .i64 til, .slice (some ⟨g, 0, none⟩) cs.length cp] 24)).cell? ⟨w6.heap.size, 0, none⟩ = some (.int .i64 ((v + 1) % 256)) := by go_simp
           have k7 : (w6.alloc (.cells #[.int .i64 ((v + 1) % 256), .int .i64 u, .int .i64 til, .slice (some ⟨g, 0, none⟩) cs.length cp] 24)).cell? ⟨w6.heap.size, 1, none⟩ = some (.int .i64 u) := by go_simp
           have k8 : (w6.alloc (.cells #[.int .i64 ((v + 1) % 256), .int .i64 u, .int .i64 til, .slice (some ⟨g, 0, none⟩) cs.length cp] 24)).cell? ⟨w6.heap.size, 2, none⟩ = some (.int .i64 til) := by go_simp
           have k9 : (w6.alloc (.cells #[.int .i64 ((v + 1) % 256), .int .i64 u, .int .i64 til, .slice (some ⟨g, 0, none⟩) cs.length cp] 24)).cell? ⟨w6.heap.size, 3, none⟩ = some (.slice (some ⟨g, 0, none⟩) cs.length cp) := by go_simp
           generalize (w6.alloc (.cells #[.int .i64 ((v + 1) % 256), .int .i64 u, .int .i64 til, .slice (some ⟨g, 0, none⟩) cs.length cp] 24)) = w5 at *
           generalize w6.heap.size = B at *)
      clear h1 hK2 hs2 hr2 c0 c1 c2 c3
      obtain ⟨q1, q2⟩ := hfin
      have HIL := Lib.hid (IL.of_own (zs := cs) hown5)
      have HOW := Lib.hid (own_low (b' := w.heap.size + 2) hown5 (by omega))
      have HQ1 := Lib.hid q1; clear q1
      have HQ2 := Lib.hid q2; clear q2
      have hck5 := Check2_any ((v + 1) % 256) u til _ cs w5 HIL.out hl2
      by_cases h5 : hopB ((v + 1) % 256) u til cs = true
      · rw [show chkH ((v + 1) % 256) u til cs = 0 from if_pos h5] at hck5
        have HC5 := Lib.hid hck5; clear hck5
        have hr := HR.out
        rw [if_pos h5] at hr
        injection hr with hr1 hr2
        injection hr1 with r0 hr3
        injection hr3 with r1 hr4
        injection hr4 with r2' r3
        have hRR : (R0, R1, R2, R3) = ((v + 1) % 256, u, til, cs) := by rw [r0, r1, r2', r3]
        clear hRR
        subst r0 hr2
        obtain rfl : u = R1 := r1.symm
        obtain rfl : til = R2 := r2'.symm
        obtain rfl : cs = R3 := r3.symm
        clear HR h5
        go_wp2_with (go_at_call 17; (with_reducible refine HC5.out.mono ?_); rintro e w7 ⟨rfl, hw⟩; have HW7 := Lib.hid hw; replace k6 := hw.cell k6; replace k7 := hw.cell k7; replace k8 := hw.cell k8; replace k9 := hw.cell k9; obtain ⟨m0, m1, m2, m3, m4, m5, m6, m7⟩ := rowH (HRB.out _ (HW2.out.trans (HQ2.out.trans hw))); clear hw)
        have e0 : ((((w7.setCell ⟨w.heap.size + 1, 0, none⟩ (.int .i64 ((v + 1) % 256))).setCell ⟨w.heap.size + 1, 1, none⟩ (.int .i64 u)).setCell ⟨w.heap.size + 1, 2, none⟩ (.int .i64 til)).setCell ⟨w.heap.size + 1, 3, none⟩ (.slice (some ⟨g, 0, none⟩) cs.length cp)).cell? ⟨w.heap.size + 1, 0, none⟩ = some (.int .i64 ((v + 1) % 256)) := by go_simp
        have e1 : ((((w7.setCell ⟨w.heap.size + 1, 0, none⟩ (.int .i64 ((v + 1) % 256))).setCell ⟨w.heap.size + 1, 1, none⟩ (.int .i64 u)).setCell ⟨w.heap.size + 1, 2, none⟩ (.int .i64 til)).setCell ⟨w.heap.size + 1, 3, none⟩ (.slice (some ⟨g, 0, none⟩) cs.length cp)).cell? ⟨w.heap.size + 1, 1, none⟩ = some (.int .i64 u) := by go_simp
        have e2 : ((((w7.setCell ⟨w.heap.size + 1, 0, none⟩ (.int .i64 ((v + 1) % 256))).setCell ⟨w.heap.size + 1, 1, none⟩ (.int .i64 u)).setCell ⟨w.heap.size + 1, 2, none⟩ (.int .i64 til)).setCell ⟨w.heap.size + 1, 3, none⟩ (.slice (some ⟨g, 0, none⟩) cs.length cp)).cell? ⟨w.heap.size + 1, 2, none⟩ = some (.int .i64 til) := by go_simp
        have e3 : ((((w7.setCell ⟨w.heap.size + 1, 0, none⟩ (.int .i64 ((v + 1) % 256))).setCell ⟨w.heap.size + 1, 1, none⟩ (.int .i64 u)).setCell ⟨w.heap.size + 1, 2, none⟩ (.int .i64 til)).setCell ⟨w.heap.size + 1, 3, none⟩ (.slice (some ⟨g, 0, none⟩) cs.length cp)).cell? ⟨w.heap.size + 1, 3, none⟩ = some (.slice (some ⟨g, 0, none⟩) cs.length cp) := by go_simp
        have hsm : Same w ((((w7.setCell ⟨w.heap.size + 1, 0, none⟩ (.int .i64 ((v + 1) % 256))).setCell ⟨w.heap.size + 1, 1, none⟩ (.int .i64 u)).setCell ⟨w.heap.size + 1, 2, none⟩ (.int .i64 til)).setCell ⟨w.heap.size + 1, 3, none⟩ (.slice (some ⟨g, 0, none⟩) cs.length cp)) := (((((HQ1.out.trans HW7.out).setCell (p := ⟨w.heap.size + 1, 0, none⟩) (by simp) _).setCell (p := ⟨w.heap.size + 1, 1, none⟩) (by simp) _).setCell (p := ⟨w.heap.size + 1, 2, none⟩) (by simp) _).setCell (p := ⟨w.heap.size + 1, 3, none⟩) (by simp) _)
        have hil : World.ownsRow ((((w7.setCell ⟨w.heap.size + 1, 0, none⟩ (.int .i64 ((v + 1) % 256))).setCell ⟨w.heap.size + 1, 1, none⟩ (.int .i64 u)).setCell ⟨w.heap.size + 1, 2, none⟩ (.int .i64 til)).setCell ⟨w.heap.size + 1, 3, none⟩ (.slice (some ⟨g, 0, none⟩) cs.length cp)) w.heap.size 3 1 (.slice (some ⟨g, 0, none⟩) cs.length cp) cs.length (icells cs) := own_low (own_set (i := 3) (own_set (i := 2) (own_set (i := 1) (own_set (i := 0) (own_same HOW.out HW7.out) (B := w.heap.size + 1) (by omega)) (B := w.heap.size + 1) (by omega)) (B := w.heap.size + 1) (by omega)) (B := w.heap.size + 1) (by omega)) (by omega)
        generalize ((((w7.setCell ⟨w.heap.size + 1, 0, none⟩ (.int .i64 ((v + 1) % 256))).setCell ⟨w.heap.size + 1, 1, none⟩ (.int .i64 u)).setCell ⟨w.heap.size + 1, 2, none⟩ (.int .i64 til)).setCell ⟨w.heap.size + 1, 3, none⟩ (.slice (some ⟨g, 0, none⟩) cs.length cp)) = W at *
        refine bodyPost_ret (v := .tuple #[.agg #[.int .i64 ((v + 1) % 256), .int .i64 u, .int .i64 til, .slice (some ⟨g, 0, none⟩) cs.length cp], .int .i64 0]) ?_ rfl ⟨_, rfl, hsm, hil⟩
        simp [results, Try.f29, go_sem, e0, e1, e2, e3]
      · rw [show chkH ((v + 1) % 256) u til cs = 1 from if_neg h5] at hck5
        have HC5 := Lib.hid hck5; clear hck5
        have hr := HR.out
        rw [if_neg h5] at hr
        injection hr with hr1 hr2
        injection hr1 with r0 hr3
        injection hr3 with r1 hr4
        injection hr4 with r2' r3
        subst r0 r1 r2' r3 hr2
        clear HR h5
        go_wp2_with (go_at_call 17; (with_reducible refine HC5.out.mono ?_); rintro e w7 ⟨rfl, hw⟩; have HW7 := Lib.hid hw; replace k6 := hw.cell k6; replace k7 := hw.cell k7; replace k8 := hw.cell k8; replace k9 := hw.cell k9; obtain ⟨m0, m1, m2, m3, m4, m5, m6, m7⟩ := rowH (HRB.out _ (HW2.out.trans (HQ2.out.trans hw))); clear hw)
        have e0 : ((((w7.setCell ⟨w.heap.size + 1, 0, none⟩ (.int .i64 0)).setCell ⟨w.heap.size + 1, 1, none⟩ (.int .i64 0)).setCell ⟨w.heap.size + 1, 2, none⟩ (.int .i64 0)).setCell ⟨w.heap.size + 1, 3, none⟩ (.slice none 0 0)).cell? ⟨w.heap.size + 1, 0, none⟩ = some (.int .i64 0) := by go_simp
        have e1 : ((((w7.setCell ⟨w.heap.size + 1, 0, none⟩ (.int .i64 0)).setCell ⟨w.heap.size + 1, 1, none⟩ (.int .i64 0)).setCell ⟨w.heap.size + 1, 2, none⟩ (.int .i64 0)).setCell ⟨w.heap.size + 1, 3, none⟩ (.slice none 0 0)).cell? ⟨w.heap.size + 1, 1, none⟩ = some (.int .i64 0) := by go_simp
        have e2 : ((((w7.setCell ⟨w.heap.size + 1, 0, none⟩ (.int .i64 0)).setCell ⟨w.heap.size + 1, 1, none⟩ (.int .i64 0)).setCell ⟨w.heap.size + 1, 2, none⟩ (.int .i64 0)).setCell ⟨w.heap.size + 1, 3, none⟩ (.slice none 0 0)).cell? ⟨w.heap.size + 1, 2, none⟩ = some (.int .i64 0) := by go_simp
        have e3 : ((((w7.setCell ⟨w.heap.size + 1, 0, none⟩ (.int .i64 0)).setCell ⟨w.heap.size + 1, 1, none⟩ (.int .i64 0)).setCell ⟨w.heap.size + 1, 2, none⟩ (.int .i64 0)).setCell ⟨w.heap.size + 1, 3, none⟩ (.slice none 0 0)).cell? ⟨w.heap.size + 1, 3, none⟩ = some (.slice none 0 0) := by go_simp
        have hsm : Same w ((((w7.setCell ⟨w.heap.size + 1, 0, none⟩ (.int .i64 0)).setCell ⟨w.heap.size + 1, 1, none⟩ (.int .i64 0)).setCell ⟨w.heap.size + 1, 2, none⟩ (.int .i64 0)).setCell ⟨w.heap.size + 1, 3, none⟩ (.slice none 0 0)) := (((((HQ1.out.trans HW7.out).setCell (p := ⟨w.heap.size + 1, 0, none⟩) (by simp) _).setCell (p := ⟨w.heap.size + 1, 1, none⟩) (by simp) _).setCell (p := ⟨w.heap.size + 1, 2, none⟩) (by simp) _).setCell (p := ⟨w.heap.size + 1, 3, none⟩) (by simp) _)
        have hil : World.ownsRow ((((w7.setCell ⟨w.heap.size + 1, 0, none⟩ (.int .i64 0)).setCell ⟨w.heap.size + 1, 1, none⟩ (.int .i64 0)).setCell ⟨w.heap.size + 1, 2, none⟩ (.int .i64 0)).setCell ⟨w.heap.size + 1, 3, none⟩ (.slice none 0 0)) w.heap.size 3 1 (.slice none 0 0) ([] : List Int).length (icells []) := World.ownsRow_nil _ _ _ _
        generalize ((((w7.setCell ⟨w.heap.size + 1, 0, none⟩ (.int .i64 0)).setCell ⟨w.heap.size + 1, 1, none⟩ (.int .i64 0)).setCell ⟨w.heap.size + 1, 2, none⟩ (.int .i64 0)).setCell ⟨w.heap.size + 1, 3, none⟩ (.slice none 0 0)) = W at *
        refine bodyPost_ret (v := .tuple #[.agg #[.int .i64 0, .int .i64 0, .int .i64 0, .slice none 0 0], .int .i64 1]) ?_ rfl ⟨_, rfl, hsm, hil⟩
        simp [results, Try.f29, go_sem, e0, e1, e2, e3]
  · rw [show chkH v f u zs = 1 from if_neg h1] at hck
    rw [show nextS v f u zs til cs = ((0, 0, 0, []), 1) from by unfold nextS; rw [if_neg (by simp [h1])]]
    have HCK := Lib.hid hck; clear hck
    obtain ⟨ao, cap, rfl⟩ := h.shape
    obtain ⟨a2, k2, rfl⟩ := h2.shape
    clear h h2 h1
    generalize zs.length = n at *
    generalize cs.length = m at *
    have HS := Lib.hid (((Same.refl w).alloc (.cells #[.int .i64 v, .int .i64 f, .int .i64 u, .slice ao n cap] 24)).alloc (.cells #[.int .i64 0, .int .i64 0, .int .i64 0, .slice none 0 0] 24))
    have HRB := Lib.hid (fun (w1 : World) (hs : Same ((w.alloc (.cells #[.int .i64 v, .int .i64 f, .int .i64 u, .slice ao n cap] 24)).alloc (.cells #[.int .i64 0, .int .i64 0, .int .i64 0, .slice none 0 0] 24)) w1) => (show w1.heap[w.heap.size + 1]? = some (.cells #[.int .i64 0, .int .i64 0, .int .i64 0, .slice none 0 0] 24 (0, 0)) from hs.heap (by have := heap_alloc_new (w.alloc (.cells #[.int .i64 v, .int .i64 f, .int .i64 u, .slice ao n cap] 24)) (.cells #[.int .i64 0, .int .i64 0, .int .i64 0, .slice none 0 0] 24); rw [World.size_alloc] at this; exact this)))
    go_enter Try.func29, Try.ntmps29
    go_wp2_with (go_at_call 17; (with_reducible refine (HCK.out _ (by exact HS.out)).mono ?_); rintro e w2 ⟨rfl, hw⟩; have HW2 := Lib.hid hw; obtain ⟨m0, m1, m2, m3, m4, m5, m6, m7⟩ := rowH (HRB.out _ hw); clear hw)
    have e0 : ((((w2.setCell ⟨w.heap.size + 1, 0, none⟩ (.int .i64 0)).setCell ⟨w.heap.size + 1, 1, none⟩ (.int .i64 0)).setCell ⟨w.heap.size + 1, 2, none⟩ (.int .i64 0)).setCell ⟨w.heap.size + 1, 3, none⟩ (.slice none 0 0)).cell? ⟨w.heap.size + 1, 0, none⟩ = some (.int .i64 0) := by go_simp
    have e1 : ((((w2.setCell ⟨w.heap.size + 1, 0, none⟩ (.int .i64 0)).setCell ⟨w.heap.size + 1, 1, none⟩ (.int .i64 0)).setCell ⟨w.heap.size + 1, 2, none⟩ (.int .i64 0)).setCell ⟨w.heap.size + 1, 3, none⟩ (.slice none 0 0)).cell? ⟨w.heap.size + 1, 1, none⟩ = some (.int .i64 0) := by go_simp
    have e2 : ((((w2.setCell ⟨w.heap.size + 1, 0, none⟩ (.int .i64 0)).setCell ⟨w.heap.size + 1, 1, none⟩ (.int .i64 0)).setCell ⟨w.heap.size + 1, 2, none⟩ (.int .i64 0)).setCell ⟨w.heap.size + 1, 3, none⟩ (.slice none 0 0)).cell? ⟨w.heap.size + 1, 2, none⟩ = some (.int .i64 0) := by go_simp
    have e3 : ((((w2.setCell ⟨w.heap.size + 1, 0, none⟩ (.int .i64 0)).setCell ⟨w.heap.size + 1, 1, none⟩ (.int .i64 0)).setCell ⟨w.heap.size + 1, 2, none⟩ (.int .i64 0)).setCell ⟨w.heap.size + 1, 3, none⟩ (.slice none 0 0)).cell? ⟨w.heap.size + 1, 3, none⟩ = some (.slice none 0 0) := by go_simp
    have hsm : Same w ((((w2.setCell ⟨w.heap.size + 1, 0, none⟩ (.int .i64 0)).setCell ⟨w.heap.size + 1, 1, none⟩ (.int .i64 0)).setCell ⟨w.heap.size + 1, 2, none⟩ (.int .i64 0)).setCell ⟨w.heap.size + 1, 3, none⟩ (.slice none 0 0)) := (((((HS.out.trans HW2.out).setCell (p := ⟨w.heap.size + 1, 0, none⟩) (by simp) _).setCell (p := ⟨w.heap.size + 1, 1, none⟩) (by simp) _).setCell (p := ⟨w.heap.size + 1, 2, none⟩) (by simp) _).setCell (p := ⟨w.heap.size + 1, 3, none⟩) (by simp) _)
    have hil : World.ownsRow ((((w2.setCell ⟨w.heap.size + 1, 0, none⟩ (.int .i64 0)).setCell ⟨w.heap.size + 1, 1, none⟩ (.int .i64 0)).setCell ⟨w.heap.size + 1, 2, none⟩ (.int .i64 0)).setCell ⟨w.heap.size + 1, 3, none⟩ (.slice none 0 0)) w.heap.size 3 1 (.slice none 0 0) ([] : List Int).length (icells []) := World.ownsRow_nil _ _ _ _
    generalize ((((w2.setCell ⟨w.heap.size + 1, 0, none⟩ (.int .i64 0)).setCell ⟨w.heap.size + 1, 1, none⟩ (.int .i64 0)).setCell ⟨w.heap.size + 1, 2, none⟩ (.int .i64 0)).setCell ⟨w.heap.size + 1, 3, none⟩ (.slice none 0 0)) = W at *
    refine bodyPost_ret (v := .tuple #[.agg #[.int .i64 0, .int .i64 0, .int .i64 0, .slice none 0 0], .int .i64 1]) ?_ rfl ⟨_, rfl, hsm, hil⟩
    simp [results, Try.f29, go_sem, e0, e1, e2, e3]
end Go.Proofs.Ytffanehmlbiemaa
