import Derived.Test.YtcmjlhcpoajbkaaDoorQAp
namespace Go.Proofs.YtcmjlhcpoajbkaaDoor
set_option maxRecDepth 10000
set_option linter.unusedSimpArgs false
open Go.RowKit
/-- The blocks of a log: its own, its row's, its key's, its entries'. -/
def Blk (w : World) (g : Nat) (ev : Value) (n : Nat) (k : Nat) : Prop :=
  k = g ∨ ev.ownBlock = some k ∨ (∃ (ad : Addr) (m c : Nat), w.cell? ⟨g, 0, none⟩ = some (.slice (some ad) m c) ∧ ad.block = k) ∨
    ∃ (r i : Nat) (ad : Addr) (m c : Nat), ev.ownBlock = some r ∧ i < n ∧ w.cell? ⟨r, i, none⟩ = some (.slice (some ad) m c) ∧ ad.block = k
theorem row_cell {w : World} {B n : Nat} {t : TypeId} {v : Value} {xs : List Value} (h : w.ownsRow B t 1 v n xs) {r : Nat} (hr : v.ownBlock = some r) (i : Nat) (hi : i < n) : w.cell? ⟨r, i, none⟩ = xs[i]? := by
  obtain ⟨h1, ⟨rfl, _⟩ | ⟨g, cap, cur, rfl, hg, hh, hc, hm, hs, ht⟩⟩ := h
  · cases hr
  · simp only [Value.ownBlock, Option.some.injEq] at hr
    subst hr
    rw [cell_of_row _ _ _ _ _ _ hh, ← ht, List.getElem?_take, if_pos (by omega), Array.getElem?_toList]
theorem LogAt.blk_ge {w : World} {B g : Nat} {ev : Value} {key : List Int} {es : List (List Int)} (h : LogAt w B g ev key es) {k : Nat} (hk : Blk w g ev es.length k) : B ≤ k ∧ k < w.heap.size := by
  have hgl := h.lt
  have hrl := h.rowlt
  have hb := h.base
  obtain ⟨kp, kn, kc, h1, h2, h3⟩ := h.blk
  obtain ⟨vs, h5, h6⟩ := h.own
  rcases hk with rfl | hk | ⟨ad, m, c, hk, rfl⟩ | ⟨r, i, ad, m, c, hr, hi, hk, rfl⟩
  · exact ⟨hb, hgl⟩
  · exact hrl k hk
  · rw [cell_of_row _ _ _ _ _ _ h1] at hk
    have hk : Value.slice kp kn kc = .slice (some ad) m c := by simpa using hk
    cases hk
    exact ⟨(h3 ad rfl).1, (h3 ad rfl).2.1⟩
  · rw [row_cell h5 hr i hi] at hk
    obtain ⟨p, n, c', e1, _, _, e4⟩ := h6 i hi
    rw [e1] at hk
    cases hk
    exact ⟨(e4 ad rfl).1, (e4 ad rfl).2.1⟩
/-- What changes none of its blocks leaves a log as it is. -/
theorem LogAt.frame {X : Nat → Prop} {w w' : World} {B g : Nat} {ev : Value} {key : List Int} {es : List (List Int)} (h : LogAt w B g ev key es) (hk : Kp X w w') (hX : ∀ k, Blk w g ev es.length k → ¬ X k) : LogAt w' B g ev key es ∧ ∀ k, Blk w' g ev es.length k → Blk w g ev es.length k := by
  have hgl := h.lt
  have hge := fun k => h.blk_ge (k := k)
  obtain ⟨⟨kp, kn, kc, h1, h2, h3⟩, h0, h4, ⟨vs, h5, h6⟩, h7⟩ := h
  have hg : w'.heap[g]? = w.heap[g]? := hk.block g hgl (hX g (.inl rfl))
  have c0 : w.cell? ⟨g, 0, none⟩ = some (.slice kp kn kc) := by rw [cell_of_row _ _ _ _ _ _ h1]; rfl
  have hrow : ∀ r, ev.ownBlock = some r → w'.heap[r]? = w.heap[r]? := fun r hr => hk.block r (hge r (.inr (.inl hr))).2 (hX r (.inr (.inl hr)))
  refine ⟨⟨⟨kp, kn, kc, hg.trans h1, h2.same hk.size (fun ad ha hl => hk.block _ hl (hX _ (.inr (.inr (.inl ⟨ad, kn, kc, by rw [c0, ha], rfl⟩))))), fun ad ha => ?_⟩, h0, h4, ⟨vs, ?_, fun i hi => ?_⟩, h7⟩, fun k hb => ?_⟩
  · obtain ⟨a, b, c⟩ := h3 ad ha
    exact ⟨a, Nat.lt_of_lt_of_le b hk.size, c⟩
  · obtain ⟨e1, e2 | ⟨g', cap, cur, hv, hg', hh, r⟩⟩ := h5
    · exact ⟨e1, .inl e2⟩
    · exact ⟨e1, .inr ⟨g', cap, cur, hv, hg', (hrow g' (by rw [hv]; rfl)).trans hh, r⟩⟩
  · obtain ⟨p, n, c, e1, e2, e3, e4⟩ := h6 i hi
    refine ⟨p, n, c, e1, e2.same hk.size (fun ad ha hl => ?_), e3, fun ad ha => ?_⟩
    · refine hk.block _ hl (hX _ ?_)
      have h5' := h5
      obtain ⟨_, ⟨_, hz⟩ | ⟨r, cap, cur, hv, _⟩⟩ := h5'
      · omega
      · have hr : ev.ownBlock = some r := by rw [hv]; rfl
        exact .inr (.inr (.inr ⟨r, i, ad, n, c, hr, hi, by rw [row_cell h5 hr i hi, e1, ha], rfl⟩))
    · obtain ⟨a, b, d⟩ := e4 ad ha
      exact ⟨a, Nat.lt_of_lt_of_le b hk.size, d⟩
  · rcases hb with rfl | hb | ⟨ad, m, c, hb, rfl⟩ | ⟨r, i, ad, m, c, hr, hi, hb, rfl⟩
    · exact .inl rfl
    · exact .inr (.inl hb)
    · rw [World.cell?_of_block (w := w) (a := ⟨g, 0, none⟩) hg] at hb
      exact .inr (.inr (.inl ⟨ad, m, c, hb, rfl⟩))
    · rw [World.cell?_of_block (w := w) (a := ⟨r, i, none⟩) (hrow r hr)] at hb
      exact .inr (.inr (.inr ⟨r, i, ad, m, c, hr, hi, hb, rfl⟩))
/-- What append does to a log's entries, and the store behind it. -/
theorem app_worldR (w : World) (B g : Nat) (ev : Value) (key : List Int) (es : List (List Int)) (hL : LogAt w B g ev key es) (g1 : Nat) (p : Option Addr) (n c : Nat) (xs : List Int) (h2 : w.heap[g1]? = some (.cells #[.slice p n c] 22)) (hi : In8 w p n c xs) (hn : n ≤ 300) (hlen : es.length < 64)
    (hfr : ∀ ad, p = some ad → B ≤ ad.block ∧ ad.block < w.heap.size ∧ ad.block ≠ g ∧ ev.ownBlock ≠ some ad.block) :
    ∃ ga cap w3, (Builtin.append_ #[47, 47] 47 #[ev, .slice (some ⟨g1, 0, none⟩) 1 1]).run Tryd.prog w = .ok (.slice (some ⟨ga, 0, none⟩) (es.length + 1) cap) w3 ∧
      w3.cell? ⟨g, 1, none⟩ = some ev ∧ w3.frozen? ⟨g, 1, none⟩ = false ∧
      LogAt (w3.setCell ⟨g, 1, none⟩ (.slice (some ⟨ga, 0, none⟩) (es.length + 1) cap)) B g (.slice (some ⟨ga, 0, none⟩) (es.length + 1) cap) key (es ++ [xs]) ∧
      Kp (fun k => k = g ∨ ev.ownBlock = some k) w (w3.setCell ⟨g, 1, none⟩ (.slice (some ⟨ga, 0, none⟩) (es.length + 1) cap)) ∧ (∀ k, Blk (w3.setCell ⟨g, 1, none⟩ (.slice (some ⟨ga, 0, none⟩) (es.length + 1) cap)) g (.slice (some ⟨ga, 0, none⟩) (es.length + 1) cap) (es.length + 1) k → Blk w g ev es.length k ∨ w.heap.size ≤ k ∨ ∃ ad : Addr, p = some ad ∧ ad.block = k) := by
  obtain ⟨i22, hi22, hz, hsz, hby⟩ := info22'
  obtain ⟨kp, kn, kc, hk1, hk2, hk3⟩ := hL.blk
  obtain ⟨vs, ho, hv⟩ := hL.own
  have hgl := hL.lt
  have hB : B ≤ w.heap.size := Nat.le_trans hL.base (Nat.le_of_lt hgl)
  obtain ⟨ga, cap, w3, hr, ho3, hgr, hwh, hga⟩ := run_append_lies (P := Tryd.prog) w 47 47 B 22 i22 (.slice none 0 0) 1 24 Tryd.underlying47 hi22 hz hsz hby rfl (by omega) ev es.length vs ho
    ⟨g1, 0, none⟩ 1 1 [.slice p n c] rfl (fun j u hu => by
      have e : j = 0 := by
        have := (List.getElem?_eq_some_iff.1 hu).1
        simp at this; omega
      subst e
      rw [addr_add, cell_of_row _ _ _ _ _ _ h2]
      simpa using hu) (fun u hu => by simp only [List.mem_singleton] at hu; subst hu; rfl) (by omega) (by unfold maxLen; omega) (by omega) hB _ rfl
  have hne : ga ≠ g := by
    rcases hwh with h | h
    · exact fun e => hL.apart (by rw [h, e])
    · omega
  have e3 : w3.heap[g]? = w.heap[g]? := hgr.block g hgl (fun e => hL.apart e.symm)
  have hsame : ∀ k, k < w.heap.size → k ≠ g → ev.ownBlock ≠ some k → (w3.setCell ⟨g, 1, none⟩ (.slice (some ⟨ga, 0, none⟩) (es.length + 1) cap)).heap[k]? = w.heap[k]? := fun k h1 h2 h3 => by
    rw [Below.heap_setCell _ _ _ _ h2]
    exact hgr.block k h1 (fun e => h3 e.symm)
  have hsize : w.heap.size ≤ (w3.setCell ⟨g, 1, none⟩ (.slice (some ⟨ga, 0, none⟩) (es.length + 1) cap)).heap.size := by simpa [World.setCell] using hgr.size
  have hnew : ∀ ad : Addr, ad.block < w.heap.size → ev.ownBlock ≠ some ad.block → (Value.slice (some ⟨ga, 0, none⟩) (es.length + 1) cap).ownBlock ≠ some ad.block := fun ad h1 h2 => by
    simp only [Value.ownBlock, ne_eq, Option.some.injEq]
    rcases hwh with h | h
    · exact fun e => h2 (by rw [h, e])
    · omega
  refine ⟨ga, cap, w3, hr, ?_, ?_, ⟨⟨kp, kn, kc, two_setCell (e3.trans hk1), ?_, fun ad ha => ?_⟩, hL.base, ?_, ⟨vs ++ [.slice p n c], ?_, fun i hi' => ?_⟩, ?_⟩, ?_⟩
  · rw [World.cell?_of_block (w := w) e3]; exact hL.cell
  · rw [World.frozen?_of_block (w := w) e3]; exact frozen_of_row w g 1 _ _ hk1
  · exact hk2.same hsize (fun ad ha hl => hsame _ hl (hk3 ad ha).2.2.1 (hk3 ad ha).2.2.2)
  · obtain ⟨a, b, c', d⟩ := hk3 ad ha
    exact ⟨a, Nat.lt_of_lt_of_le b hsize, c', hnew ad b d⟩
  · simpa [Value.ownBlock] using hne
  · rw [List.length_append]
    exact ownsRow_setCell_other ho3 (by simpa [Value.ownBlock] using hne) _
  · have hvl : vs.length = es.length := by have := ho.1; simpa using this
    rw [List.length_append, List.length_singleton] at hi'
    rcases Nat.lt_or_ge i es.length with h | h
    · obtain ⟨q, m, d, e1, e2, e4, e5⟩ := hv i h
      refine ⟨q, m, d, by rw [List.getElem?_append_left (by omega)]; exact e1, ?_, e4, fun ad ha => ?_⟩
      · have e : (es ++ [xs]).getD i [] = es.getD i [] := by simp [List.getD, List.getElem?_append_left h]
        rw [e]
        exact e2.same hsize (fun ad ha hl => hsame _ hl (e5 ad ha).2.2.1 (e5 ad ha).2.2.2)
      · obtain ⟨a, b, c', d'⟩ := e5 ad ha
        exact ⟨a, Nat.lt_of_lt_of_le b hsize, c', hnew ad b d'⟩
    · have e0 : i = es.length := by omega
      subst e0
      refine ⟨p, n, c, by rw [← hvl]; simp, ?_, hn, fun ad ha => ?_⟩
      · have e : (es ++ [xs]).getD es.length [] = xs := by simp [List.getD]
        rw [e]
        exact hi.same hsize (fun ad ha hl => hsame _ hl (hfr ad ha).2.2.1 (hfr ad ha).2.2.2)
      · obtain ⟨a, b, c', d'⟩ := hfr ad ha
        exact ⟨a, Nat.lt_of_lt_of_le b hsize, c', hnew ad b d'⟩
  · simp; omega
  · refine ⟨⟨hgr.os, hgr.tape, hgr.output, hsize, fun k hk hx => hsame k hk (fun e => hx (.inl e)) (fun e => hx (.inr e))⟩, fun k hb => ?_⟩
    rcases hb with rfl | hb | ⟨ad, m', c', hb, rfl⟩ | ⟨r, i, ad, m', c', hr', hi', hb, rfl⟩
    · exact .inl (.inl rfl)
    · simp only [Value.ownBlock, Option.some.injEq] at hb
      subst hb
      rcases hwh with h | h
      · exact .inl (.inr (.inl h))
      · exact .inr (.inl (by omega))
    · rw [cell_of_row _ _ _ _ _ _ (two_setCell (e3.trans hk1))] at hb
      have hb : Value.slice kp kn kc = .slice (some ad) m' c' := by simpa using hb
      exact .inl (.inr (.inr (.inl ⟨ad, m', c', by rw [cell_of_row _ _ _ _ _ _ hk1]; simpa using hb, rfl⟩)))
    · have ho4 : (w3.setCell ⟨g, 1, none⟩ (.slice (some ⟨ga, 0, none⟩) (es.length + 1) cap)).ownsRow B 22 1 (.slice (some ⟨ga, 0, none⟩) (es.length + 1) cap) (es.length + 1) (vs ++ [.slice p n c]) := ownsRow_setCell_other ho3 (by simpa [Value.ownBlock] using hne) _
      rw [row_cell ho4 hr' i hi'] at hb
      have hvl : vs.length = es.length := by have := ho.1; simpa using this
      rcases Nat.lt_or_ge i es.length with h | h
      · rw [List.getElem?_append_left (by omega)] at hb
        have ho' := ho
        obtain ⟨_, ⟨_, hz⟩ | ⟨r0, cap0, cur0, hv0, _⟩⟩ := ho'
        · omega
        · have hr0 : ev.ownBlock = some r0 := by rw [hv0]; rfl
          exact .inl (.inr (.inr (.inr ⟨r0, i, ad, m', c', hr0, h, by rw [row_cell ho hr0 i h]; exact hb, rfl⟩)))
      · have e0 : i = es.length := by omega
        subst e0
        rw [← hvl] at hb
        have hb : Value.slice p n c = .slice (some ad) m' c' := by simpa using hb
        cases hb
        exact .inr (.inr ⟨ad, rfl, rfl⟩)
set_option maxHeartbeats 4000000 in
theorem appendR_any (w : World) (B g : Nat) (ev : Value) (key : List Int) (es : List (List Int)) (p : Option Addr) (n c : Nat) (xs : List Int) (hL : LogAt w B g ev key es) (hi : In8 w p n c xs) (hn : n ≤ 300) (hlen : es.length < 64) :
    Calls Tryd.prog 50 #[.pointer (some ⟨g, 0, none⟩), .slice p n c] w fun e w' => ∃ ev', e = .returned (.tuple #[.int .i64 (es.length : Int), .int .i64 0]) ∧ LogAt w' B g ev' key (es ++ [xs]) ∧ Kp (fun k => k = g ∨ ev.ownBlock = some k) w w' ∧ (∀ k, Blk w' g ev' (es.length + 1) k → Blk w g ev es.length k ∨ w.heap.size ≤ k) := by
  obtain ⟨ep, ec, rfl⟩ := hL.shape
  have hc := hL.cell
  have hcd : w.drew.cell? ⟨g, 1, none⟩ = some (.slice ep es.length ec) := hc
  have hgl := hL.lt
  have hbs := hL.base
  have hb0 : Below w.heap.size w w.drew := (Below.refl _ _).drew
  go_enter Tryd.func50, Tryd.ntmps50
  go_wp2_with fail
  refine wp_region_noPanic ?_
  refine wp_region_held (S := fun _ => True) follows ?_
  refine wpAnyH_take (i := 0) (v := .pointer (some ⟨g, 0, none⟩)) rfl (by kernel_rfl) (by kernel_rfl) (by kernel_rfl) (fun _ _ _ h => h) (.inl ⟨rfl, fun W _ => by go_simp⟩) trivial ?_
  simp only [Act.put, List.getElem_toArray, List.getElem_cons_zero, List.getElem_cons_succ, List.setIfInBounds_toArray, List.set_cons_zero, List.set_cons_succ]
  refine wpAnyH_take (i := 1) (v := .pointer (some ⟨g, 0, none⟩)) rfl (by kernel_rfl) (by kernel_rfl) (by kernel_rfl) (fun _ _ _ h => h) (.inl ⟨rfl, fun W _ => by go_simp⟩) trivial ?_
  simp only [Act.put, List.getElem_toArray, List.getElem_cons_zero, List.getElem_cons_succ, List.setIfInBounds_toArray, List.set_cons_zero, List.set_cons_succ]
  refine wpAnyH_take (i := 2) (v := .pointer (some ⟨g, 0, none⟩)) rfl (by kernel_rfl) (by kernel_rfl) (by kernel_rfl) (fun _ _ _ h => h) (.inl ⟨rfl, fun W _ => by go_simp⟩) trivial ?_
  simp only [Act.put, List.getElem_toArray, List.getElem_cons_zero, List.getElem_cons_succ, List.setIfInBounds_toArray, List.set_cons_zero, List.set_cons_succ]
  refine wpAnyH_take (i := 3) (v := .pointer (some ⟨g, 1, none⟩)) rfl (by kernel_rfl) (by kernel_rfl) (by kernel_rfl) (fun _ _ _ h => h) (.inl ⟨rfl, fun W _ => by go_simp⟩) trivial ?_
  simp only [Act.put, List.getElem_toArray, List.getElem_cons_zero, List.getElem_cons_succ, List.setIfInBounds_toArray, List.set_cons_zero, List.set_cons_succ]
  refine wpAnyH_take (i := 5) (v := .slice p n c) rfl (by kernel_rfl) (by kernel_rfl) (by kernel_rfl) (fun _ _ _ h => h) (.inl ⟨rfl, fun W _ => by go_simp⟩) trivial ?_
  simp only [Act.put, List.getElem_toArray, List.getElem_cons_zero, List.getElem_cons_succ, List.setIfInBounds_toArray, List.set_cons_zero, List.set_cons_succ]
  refine relist #[true, true, true, true, false, true, false, false, false, false, false, false] (by kernel_rfl) ?_
  refine any_two (i := 4) (j := 6) (by kernel_rfl) ?_ ?_
  · refine wpOp_val (v := .slice ep es.length ec) (w' := w.drew) rfl rfl (by have e := hcd; go_simp) ?_
    refine ⟨trivial, ?_⟩
    simp only [Act.put, List.getElem_toArray, List.getElem_cons_zero, List.getElem_cons_succ, List.setIfInBounds_toArray, List.set_cons_zero, List.set_cons_succ]
    refine relist #[true, true, true, true, true, true, false, false, false, false, false, false] (by kernel_rfl) ?_
    refine any_one (i := 6) (by kernel_rfl) ?_
    refine wpOp_call (f := 69) (args := #[.slice p n c]) rfl rfl (by go_simp) ?_
    refine (clone_any _ p n c xs (hi.below hb0)).mono ?_
    rintro e w1 ⟨p', c', rfl, b1, hi1, _, hfr, hin⟩
    have hs1 : w.heap.size ≤ w1.heap.size := b1.size
    have b1' : Below w.heap.size w w1 := hb0.trans b1
    have hc1 : w1.cell? ⟨g, 1, none⟩ = some (.slice ep es.length ec) := by rw [b1'.cell (p := ⟨g, 1, none⟩) hgl]; exact hc
    refine ⟨_, rfl, trivial, ?_⟩
    simp only [Act.put, List.getElem_toArray, List.getElem_cons_zero, List.getElem_cons_succ, List.setIfInBounds_toArray, List.set_cons_zero, List.set_cons_succ]
    refine relist #[true, true, true, true, true, true, true, false, false, false, false, false] (by kernel_rfl) ?_
    refine any_one (i := 7) (by kernel_rfl) ?_
    refine wpOp_val (v := .slice (some ⟨w1.heap.size, 0, none⟩) 1 1) (w' := w1.alloc (.cells #[.slice p' n c'] 22)) rfl rfl (by go_simp) ?_
    have b12 : Below w1.heap.size w1 (w1.alloc (.cells #[.slice p' n c'] 22)) := (Below.refl _ _).alloc (Nat.le_refl _) _
    have b2 : Below w.heap.size w (w1.alloc (.cells #[.slice p' n c'] 22)) := b1'.alloc hs1 _
    have hc2 : (w1.alloc (.cells #[.slice p' n c'] 22)).cell? ⟨g, 1, none⟩ = some (.slice ep es.length ec) := by rw [b2.cell (p := ⟨g, 1, none⟩) hgl]; exact hc
    have h2 := heapN w1 (.cells #[.slice p' n c'] 22) _ rfl
    have hi2 := hi1.below b12
    have hs2 : w1.heap.size ≤ (w1.alloc (.cells #[.slice p' n c'] 22)).heap.size := b12.size
    refine ⟨trivial, ?_⟩
    simp only [Act.put, List.getElem_toArray, List.getElem_cons_zero, List.getElem_cons_succ, List.setIfInBounds_toArray, List.set_cons_zero, List.set_cons_succ]
    generalize w1.alloc (.cells #[.slice p' n c'] 22) = w2 at *
    generalize w1.heap.size = g1 at *
    refine relist #[true, true, true, true, true, true, true, true, false, false, false, false] (by kernel_rfl) ?_
    refine any_one (i := 8) (by kernel_rfl) ?_
    obtain ⟨ga, cap, w3, hr, hc3, hf3, hL4, hk4, hq4⟩ := app_worldR w2 B g _ key es (hL.below b2) g1 p' n c' xs h2 hi2 hn hlen (fun ad ha => ⟨by have := hfr ad ha; rw [size_drew] at this; omega, by have := hin ad ha; omega, by have := hfr ad ha; rw [size_drew] at this; omega, fun e => by have h1 := (hL.rowlt _ e).2; have := hfr ad ha; rw [size_drew] at this; omega⟩)
    refine wpOp_app rfl rfl (.tmp 27) (.tmp 30) 47 47 rfl (.slice ep es.length ec) (.slice (some ⟨g1, 0, none⟩) 1 1) rfl rfl hr ?_
    refine ⟨trivial, ?_⟩
    simp only [Act.put, List.getElem_toArray, List.getElem_cons_zero, List.getElem_cons_succ, List.setIfInBounds_toArray, List.set_cons_zero, List.set_cons_succ]
    refine wpAnyH_take (i := 9) (v := .pointer (some ⟨g, 0, none⟩)) rfl (by kernel_rfl) (by kernel_rfl) (by kernel_rfl) (fun _ _ _ h => h) (.inl ⟨rfl, fun W _ => by go_simp⟩) trivial ?_
    simp only [Act.put, List.getElem_toArray, List.getElem_cons_zero, List.getElem_cons_succ, List.setIfInBounds_toArray, List.set_cons_zero, List.set_cons_succ]
    refine wpAnyH_take (i := 10) (v := .pointer (some ⟨g, 1, none⟩)) rfl (by kernel_rfl) (by kernel_rfl) (by kernel_rfl) (fun _ _ _ h => h) (.inl ⟨rfl, fun W _ => by go_simp⟩) trivial ?_
    simp only [Act.put, List.getElem_toArray, List.getElem_cons_zero, List.getElem_cons_succ, List.setIfInBounds_toArray, List.set_cons_zero, List.set_cons_succ]
    refine relist #[true, true, true, true, true, true, true, true, true, true, true, false] (by kernel_rfl) ?_
    refine any_one (i := 11) (by kernel_rfl) ?_
    refine wpOp_skip (w' := w3.setCell ⟨g, 1, none⟩ (.slice (some ⟨ga, 0, none⟩) (es.length + 1) cap)) rfl rfl (by go_simp) ?_
    refine ⟨trivial, ?_⟩
    simp only [Act.put, List.getElem_toArray, List.getElem_cons_zero, List.getElem_cons_succ, List.setIfInBounds_toArray, List.set_cons_zero, List.set_cons_succ]
    refine wpAnyH_done (by kernel_rfl) ?_ _
    refine NoPanic.normal ?_
    have HQ : Hid (∀ k, Blk (w3.setCell ⟨g, 1, none⟩ (.slice (some ⟨ga, 0, none⟩) (es.length + 1) cap)) g (.slice (some ⟨ga, 0, none⟩) (es.length + 1) cap) (es.length + 1) k → Blk w g (.slice ep es.length ec) es.length k ∨ w.heap.size ≤ k) := fun k hb => by
      rcases hq4 k hb with h | h | ⟨ad, h, h'⟩
      · exact .inl ((hL.frame (kp_of b2 rfl) (fun _ _ hx => hx)).2 k h)
      · exact .inr (Nat.le_trans b2.size h)
      · exact .inr (by have := hfr ad h; rw [size_drew] at this; omega)
    have HK : Hid (Kp (fun k => k = g ∨ (Value.slice ep es.length ec).ownBlock = some k) w (w3.setCell ⟨g, 1, none⟩ (.slice (some ⟨ga, 0, none⟩) (es.length + 1) cap))) := (kp_of b2 rfl).trans hk4
    have HL : Hid (LogAt (w3.setCell ⟨g, 1, none⟩ (.slice (some ⟨ga, 0, none⟩) (es.length + 1) cap)) B g (.slice (some ⟨ga, 0, none⟩) (es.length + 1) cap) key (es ++ [xs])) := hL4
    clear hc hcd hc1 hc2 hc3 hf3 b1 b1' b2 b12 hk4 hL4 hr h2 hi2 hi1
    generalize w3.setCell ⟨g, 1, none⟩ (.slice (some ⟨ga, 0, none⟩) (es.length + 1) cap) = w4 at *
    go_wp2_with fail
    go_ret2
    exact ⟨_, rfl, HL.out, HK.out, HQ.out⟩
  · refine wpOp_call (f := 69) (args := #[.slice p n c]) rfl rfl (by go_simp) ?_
    refine (clone_any _ p n c xs (hi.below hb0)).mono ?_
    rintro e w1 ⟨p', c', rfl, b1, hi1, _, hfr, hin⟩
    have hs1 : w.heap.size ≤ w1.heap.size := b1.size
    have b1' : Below w.heap.size w w1 := hb0.trans b1
    have hc1 : w1.cell? ⟨g, 1, none⟩ = some (.slice ep es.length ec) := by rw [b1'.cell (p := ⟨g, 1, none⟩) hgl]; exact hc
    refine ⟨_, rfl, trivial, ?_⟩
    simp only [Act.put, List.getElem_toArray, List.getElem_cons_zero, List.getElem_cons_succ, List.setIfInBounds_toArray, List.set_cons_zero, List.set_cons_succ]
    refine relist #[true, true, true, true, false, true, true, false, false, false, false, false] (by kernel_rfl) ?_
    refine any_two (i := 4) (j := 7) (by kernel_rfl) ?_ ?_
    · refine wpOp_val (v := .slice ep es.length ec) (w' := w1) rfl rfl (by have e := hc1; go_simp) ?_
      refine ⟨trivial, ?_⟩
      simp only [Act.put, List.getElem_toArray, List.getElem_cons_zero, List.getElem_cons_succ, List.setIfInBounds_toArray, List.set_cons_zero, List.set_cons_succ]
      refine relist #[true, true, true, true, true, true, true, false, false, false, false, false] (by kernel_rfl) ?_
      refine any_one (i := 7) (by kernel_rfl) ?_
      refine wpOp_val (v := .slice (some ⟨w1.heap.size, 0, none⟩) 1 1) (w' := w1.alloc (.cells #[.slice p' n c'] 22)) rfl rfl (by go_simp) ?_
      have b12 : Below w1.heap.size w1 (w1.alloc (.cells #[.slice p' n c'] 22)) := (Below.refl _ _).alloc (Nat.le_refl _) _
      have b2 : Below w.heap.size w (w1.alloc (.cells #[.slice p' n c'] 22)) := b1'.alloc hs1 _
      have hc2 : (w1.alloc (.cells #[.slice p' n c'] 22)).cell? ⟨g, 1, none⟩ = some (.slice ep es.length ec) := by rw [b2.cell (p := ⟨g, 1, none⟩) hgl]; exact hc
      have h2 := heapN w1 (.cells #[.slice p' n c'] 22) _ rfl
      have hi2 := hi1.below b12
      have hs2 : w1.heap.size ≤ (w1.alloc (.cells #[.slice p' n c'] 22)).heap.size := b12.size
      refine ⟨trivial, ?_⟩
      simp only [Act.put, List.getElem_toArray, List.getElem_cons_zero, List.getElem_cons_succ, List.setIfInBounds_toArray, List.set_cons_zero, List.set_cons_succ]
      generalize w1.alloc (.cells #[.slice p' n c'] 22) = w2 at *
      generalize w1.heap.size = g1 at *
      refine relist #[true, true, true, true, true, true, true, true, false, false, false, false] (by kernel_rfl) ?_
      refine any_one (i := 8) (by kernel_rfl) ?_
      obtain ⟨ga, cap, w3, hr, hc3, hf3, hL4, hk4, hq4⟩ := app_worldR w2 B g _ key es (hL.below b2) g1 p' n c' xs h2 hi2 hn hlen (fun ad ha => ⟨by have := hfr ad ha; rw [size_drew] at this; omega, by have := hin ad ha; omega, by have := hfr ad ha; rw [size_drew] at this; omega, fun e => by have h1 := (hL.rowlt _ e).2; have := hfr ad ha; rw [size_drew] at this; omega⟩)
      refine wpOp_app rfl rfl (.tmp 27) (.tmp 30) 47 47 rfl (.slice ep es.length ec) (.slice (some ⟨g1, 0, none⟩) 1 1) rfl rfl hr ?_
      refine ⟨trivial, ?_⟩
      simp only [Act.put, List.getElem_toArray, List.getElem_cons_zero, List.getElem_cons_succ, List.setIfInBounds_toArray, List.set_cons_zero, List.set_cons_succ]
      refine wpAnyH_take (i := 9) (v := .pointer (some ⟨g, 0, none⟩)) rfl (by kernel_rfl) (by kernel_rfl) (by kernel_rfl) (fun _ _ _ h => h) (.inl ⟨rfl, fun W _ => by go_simp⟩) trivial ?_
      simp only [Act.put, List.getElem_toArray, List.getElem_cons_zero, List.getElem_cons_succ, List.setIfInBounds_toArray, List.set_cons_zero, List.set_cons_succ]
      refine wpAnyH_take (i := 10) (v := .pointer (some ⟨g, 1, none⟩)) rfl (by kernel_rfl) (by kernel_rfl) (by kernel_rfl) (fun _ _ _ h => h) (.inl ⟨rfl, fun W _ => by go_simp⟩) trivial ?_
      simp only [Act.put, List.getElem_toArray, List.getElem_cons_zero, List.getElem_cons_succ, List.setIfInBounds_toArray, List.set_cons_zero, List.set_cons_succ]
      refine relist #[true, true, true, true, true, true, true, true, true, true, true, false] (by kernel_rfl) ?_
      refine any_one (i := 11) (by kernel_rfl) ?_
      refine wpOp_skip (w' := w3.setCell ⟨g, 1, none⟩ (.slice (some ⟨ga, 0, none⟩) (es.length + 1) cap)) rfl rfl (by go_simp) ?_
      refine ⟨trivial, ?_⟩
      simp only [Act.put, List.getElem_toArray, List.getElem_cons_zero, List.getElem_cons_succ, List.setIfInBounds_toArray, List.set_cons_zero, List.set_cons_succ]
      refine wpAnyH_done (by kernel_rfl) ?_ _
      refine NoPanic.normal ?_
      have HQ : Hid (∀ k, Blk (w3.setCell ⟨g, 1, none⟩ (.slice (some ⟨ga, 0, none⟩) (es.length + 1) cap)) g (.slice (some ⟨ga, 0, none⟩) (es.length + 1) cap) (es.length + 1) k → Blk w g (.slice ep es.length ec) es.length k ∨ w.heap.size ≤ k) := fun k hb => by
        rcases hq4 k hb with h | h | ⟨ad, h, h'⟩
        · exact .inl ((hL.frame (kp_of b2 rfl) (fun _ _ hx => hx)).2 k h)
        · exact .inr (Nat.le_trans b2.size h)
        · exact .inr (by have := hfr ad h; rw [size_drew] at this; omega)
      have HK : Hid (Kp (fun k => k = g ∨ (Value.slice ep es.length ec).ownBlock = some k) w (w3.setCell ⟨g, 1, none⟩ (.slice (some ⟨ga, 0, none⟩) (es.length + 1) cap))) := (kp_of b2 rfl).trans hk4
      have HL : Hid (LogAt (w3.setCell ⟨g, 1, none⟩ (.slice (some ⟨ga, 0, none⟩) (es.length + 1) cap)) B g (.slice (some ⟨ga, 0, none⟩) (es.length + 1) cap) key (es ++ [xs])) := hL4
      clear hc hcd hc1 hc2 hc3 hf3 b1 b1' b2 b12 hk4 hL4 hr h2 hi2 hi1
      generalize w3.setCell ⟨g, 1, none⟩ (.slice (some ⟨ga, 0, none⟩) (es.length + 1) cap) = w4 at *
      go_wp2_with fail
      go_ret2
      exact ⟨_, rfl, HL.out, HK.out, HQ.out⟩
    · refine wpOp_val (v := .slice (some ⟨w1.heap.size, 0, none⟩) 1 1) (w' := w1.alloc (.cells #[.slice p' n c'] 22)) rfl rfl (by go_simp) ?_
      have b12 : Below w1.heap.size w1 (w1.alloc (.cells #[.slice p' n c'] 22)) := (Below.refl _ _).alloc (Nat.le_refl _) _
      have b2 : Below w.heap.size w (w1.alloc (.cells #[.slice p' n c'] 22)) := b1'.alloc hs1 _
      have hc2 : (w1.alloc (.cells #[.slice p' n c'] 22)).cell? ⟨g, 1, none⟩ = some (.slice ep es.length ec) := by rw [b2.cell (p := ⟨g, 1, none⟩) hgl]; exact hc
      have h2 := heapN w1 (.cells #[.slice p' n c'] 22) _ rfl
      have hi2 := hi1.below b12
      have hs2 : w1.heap.size ≤ (w1.alloc (.cells #[.slice p' n c'] 22)).heap.size := b12.size
      refine ⟨trivial, ?_⟩
      simp only [Act.put, List.getElem_toArray, List.getElem_cons_zero, List.getElem_cons_succ, List.setIfInBounds_toArray, List.set_cons_zero, List.set_cons_succ]
      generalize w1.alloc (.cells #[.slice p' n c'] 22) = w2 at *
      generalize w1.heap.size = g1 at *
      refine relist #[true, true, true, true, false, true, true, true, false, false, false, false] (by kernel_rfl) ?_
      refine any_one (i := 4) (by kernel_rfl) ?_
      refine wpOp_val (v := .slice ep es.length ec) (w' := w2) rfl rfl (by have e := hc2; go_simp) ?_
      refine ⟨trivial, ?_⟩
      simp only [Act.put, List.getElem_toArray, List.getElem_cons_zero, List.getElem_cons_succ, List.setIfInBounds_toArray, List.set_cons_zero, List.set_cons_succ]
      refine relist #[true, true, true, true, true, true, true, true, false, false, false, false] (by kernel_rfl) ?_
      refine any_one (i := 8) (by kernel_rfl) ?_
      obtain ⟨ga, cap, w3, hr, hc3, hf3, hL4, hk4, hq4⟩ := app_worldR w2 B g _ key es (hL.below b2) g1 p' n c' xs h2 hi2 hn hlen (fun ad ha => ⟨by have := hfr ad ha; rw [size_drew] at this; omega, by have := hin ad ha; omega, by have := hfr ad ha; rw [size_drew] at this; omega, fun e => by have h1 := (hL.rowlt _ e).2; have := hfr ad ha; rw [size_drew] at this; omega⟩)
      refine wpOp_app rfl rfl (.tmp 27) (.tmp 30) 47 47 rfl (.slice ep es.length ec) (.slice (some ⟨g1, 0, none⟩) 1 1) rfl rfl hr ?_
      refine ⟨trivial, ?_⟩
      simp only [Act.put, List.getElem_toArray, List.getElem_cons_zero, List.getElem_cons_succ, List.setIfInBounds_toArray, List.set_cons_zero, List.set_cons_succ]
      refine wpAnyH_take (i := 9) (v := .pointer (some ⟨g, 0, none⟩)) rfl (by kernel_rfl) (by kernel_rfl) (by kernel_rfl) (fun _ _ _ h => h) (.inl ⟨rfl, fun W _ => by go_simp⟩) trivial ?_
      simp only [Act.put, List.getElem_toArray, List.getElem_cons_zero, List.getElem_cons_succ, List.setIfInBounds_toArray, List.set_cons_zero, List.set_cons_succ]
      refine wpAnyH_take (i := 10) (v := .pointer (some ⟨g, 1, none⟩)) rfl (by kernel_rfl) (by kernel_rfl) (by kernel_rfl) (fun _ _ _ h => h) (.inl ⟨rfl, fun W _ => by go_simp⟩) trivial ?_
      simp only [Act.put, List.getElem_toArray, List.getElem_cons_zero, List.getElem_cons_succ, List.setIfInBounds_toArray, List.set_cons_zero, List.set_cons_succ]
      refine relist #[true, true, true, true, true, true, true, true, true, true, true, false] (by kernel_rfl) ?_
      refine any_one (i := 11) (by kernel_rfl) ?_
      refine wpOp_skip (w' := w3.setCell ⟨g, 1, none⟩ (.slice (some ⟨ga, 0, none⟩) (es.length + 1) cap)) rfl rfl (by go_simp) ?_
      refine ⟨trivial, ?_⟩
      simp only [Act.put, List.getElem_toArray, List.getElem_cons_zero, List.getElem_cons_succ, List.setIfInBounds_toArray, List.set_cons_zero, List.set_cons_succ]
      refine wpAnyH_done (by kernel_rfl) ?_ _
      refine NoPanic.normal ?_
      have HQ : Hid (∀ k, Blk (w3.setCell ⟨g, 1, none⟩ (.slice (some ⟨ga, 0, none⟩) (es.length + 1) cap)) g (.slice (some ⟨ga, 0, none⟩) (es.length + 1) cap) (es.length + 1) k → Blk w g (.slice ep es.length ec) es.length k ∨ w.heap.size ≤ k) := fun k hb => by
        rcases hq4 k hb with h | h | ⟨ad, h, h'⟩
        · exact .inl ((hL.frame (kp_of b2 rfl) (fun _ _ hx => hx)).2 k h)
        · exact .inr (Nat.le_trans b2.size h)
        · exact .inr (by have := hfr ad h; rw [size_drew] at this; omega)
      have HK : Hid (Kp (fun k => k = g ∨ (Value.slice ep es.length ec).ownBlock = some k) w (w3.setCell ⟨g, 1, none⟩ (.slice (some ⟨ga, 0, none⟩) (es.length + 1) cap))) := (kp_of b2 rfl).trans hk4
      have HL : Hid (LogAt (w3.setCell ⟨g, 1, none⟩ (.slice (some ⟨ga, 0, none⟩) (es.length + 1) cap)) B g (.slice (some ⟨ga, 0, none⟩) (es.length + 1) cap) key (es ++ [xs])) := hL4
      clear hc hcd hc1 hc2 hc3 hf3 b1 b1' b2 b12 hk4 hL4 hr h2 hi2 hi1
      generalize w3.setCell ⟨g, 1, none⟩ (.slice (some ⟨ga, 0, none⟩) (es.length + 1) cap) = w4 at *
      go_wp2_with fail
      go_ret2
      exact ⟨_, rfl, HL.out, HK.out, HQ.out⟩
set_option maxHeartbeats 2000000 in
/-- An entry that is too long, or one too many. -/
theorem appendNo_any (w : World) (B g : Nat) (ev : Value) (key : List Int) (es : List (List Int)) (p : Option Addr) (n c : Nat) (hL : LogAt w B g ev key es) (hn : n ≤ 9223372036854775807) (hno : 300 < n ∨ 64 ≤ es.length) :
    Calls Tryd.prog 50 #[.pointer (some ⟨g, 0, none⟩), .slice p n c] w fun e w' => e = .returned (.tuple #[.int .i64 0, .int .i64 2]) ∧ w' = w := by
  obtain ⟨ep, ec, rfl⟩ := hL.shape
  have hc := hL.cell
  have hfew := hL.few
  clear hL
  by_cases h : 300 < n
  · have h' : (300 : Int) < n := by omega
    go_enter Tryd.func50, Tryd.ntmps50
    go_wp2_with fail
    go_ret2
    exact ⟨rfl, rfl⟩
  · have h' : ¬ (300 : Int) < n := by omega
    have h6 : (64 : Int) ≤ es.length := by omega
    go_enter Tryd.func50, Tryd.ntmps50
    go_wp2_with fail
    go_ret2
    exact ⟨rfl, rfl⟩
theorem LogAt.zero {w : World} {B g : Nat} {ev : Value} {key : List Int} {es : List (List Int)} (h : LogAt w B g ev key es) : LogAt w 0 g ev key es := by
  obtain ⟨⟨kp, kn, kc, h1, h2, h3⟩, _, h4, ⟨vs, h5, h6⟩, h7⟩ := h
  refine ⟨⟨kp, kn, kc, h1, h2, fun ad ha => ⟨Nat.zero_le _, (h3 ad ha).2⟩⟩, Nat.zero_le _, h4, ⟨vs, ?_, fun i hi => ?_⟩, h7⟩
  · obtain ⟨e1, e2 | ⟨g', cap, cur, hv, hg, r⟩⟩ := h5
    · exact ⟨e1, .inl e2⟩
    · exact ⟨e1, .inr ⟨g', cap, cur, hv, Nat.zero_le _, r⟩⟩
  · obtain ⟨p, n, c, e1, e2, e3, e4⟩ := h6 i hi
    exact ⟨p, n, c, e1, e2, e3, fun ad ha => ⟨Nat.zero_le _, (e4 ad ha).2⟩⟩
end Go.Proofs.YtcmjlhcpoajbkaaDoor
