import Derived.Test.YtcmjlhcpoajbkaaDoorQLo
import Derived.Test.YtcmjlhcpoajbkaaDoorQKnot
import Derived.Deep.OwnRows
import Derived.Laws.OwnMore
import Derived.Lib.SlBytesConst
namespace Go.Proofs.YtcmjlhcpoajbkaaDoor
set_option maxRecDepth 10000
set_option linter.unusedSimpArgs false
open Go.RowKit
/-- Nothing that stood has changed, but what X names. -/
structure Kp (X : Nat → Prop) (w w' : World) : Prop where
  os : w'.os = w.os
  tape : w'.tape = w.tape
  output : w'.output = w.output
  size : w.heap.size ≤ w'.heap.size
  block : ∀ k, k < w.heap.size → ¬ X k → w'.heap[k]? = w.heap[k]?
theorem Kp.below {X : Nat → Prop} {w0 w w' : World} {B : Nat} (h : Kp X w w') (hX : ∀ k, X k → B ≤ k) (hB : B ≤ w.heap.size) (hb : Below B w0 w) : Below B w0 w' :=
  ⟨h.os.trans hb.os, h.tape.trans hb.tape, h.output.trans hb.output, Nat.le_trans hb.size h.size, fun k hk => (h.block k (by omega) (fun hx => by have := hX k hx; omega)).trans (hb.block k hk)⟩
theorem kp_of {B : Nat} {w w' : World} (h : Below B w w') (hB : B = w.heap.size) : Kp (fun _ => False) w w' :=
  ⟨h.os, h.tape, h.output, h.size, fun k hk _ => h.block k (by omega)⟩
theorem In8.same {w w' : World} {p : Option Addr} {n c : Nat} {xs : List Int} (h : In8 w p n c xs) (hs : w.heap.size ≤ w'.heap.size) (hp : ∀ ad, p = some ad → ad.block < w.heap.size → w'.heap[ad.block]? = w.heap[ad.block]?) : In8 w' p n c xs :=
  ⟨h.len, h.bytes, h.fits, h.room, h.small, fun h0 => by
    obtain ⟨b, o, rfl, hl, hc⟩ := h.lies h0
    exact ⟨b, o, rfl, Nat.lt_of_lt_of_le hl hs, fun j hj => by rw [World.cell?_of_block (w := w) (a := ⟨b, o + j, none⟩) (hp ⟨b, o, none⟩ rfl hl)]; exact hc j hj⟩⟩
/-- A log, with what is its own. -/
structure LogAt (w : World) (B g : Nat) (ev : Value) (key : List Int) (es : List (List Int)) : Prop where
  blk : ∃ kp kn kc, w.heap[g]? = some (.cells #[.slice kp kn kc, ev] 116) ∧ In8 w kp kn kc key ∧ ∀ ad, kp = some ad → B ≤ ad.block ∧ ad.block < w.heap.size ∧ ad.block ≠ g ∧ ev.ownBlock ≠ some ad.block
  base : B ≤ g
  apart : ev.ownBlock ≠ some g
  own : ∃ vs, w.ownsRow B 22 1 ev es.length vs ∧ ∀ i, i < es.length → ∃ p n c, vs[i]? = some (.slice p n c) ∧ In8 w p n c (es.getD i []) ∧ n ≤ 300 ∧ ∀ ad, p = some ad → B ≤ ad.block ∧ ad.block < w.heap.size ∧ ad.block ≠ g ∧ ev.ownBlock ≠ some ad.block
  few : es.length ≤ 64
theorem LogAt.lt {w : World} {B g : Nat} {ev : Value} {key : List Int} {es : List (List Int)} (h : LogAt w B g ev key es) : g < w.heap.size := by
  obtain ⟨kp, kn, kc, h1, _⟩ := h.blk
  exact row_lt h1
theorem LogAt.rowlt {w : World} {B g : Nat} {ev : Value} {key : List Int} {es : List (List Int)} (h : LogAt w B g ev key es) : ∀ k, ev.ownBlock = some k → B ≤ k ∧ k < w.heap.size := by
  obtain ⟨vs, h1, _⟩ := h.own
  exact h1.lt
/-- What changes neither its block nor its row leaves a log as it is. -/
theorem LogAt.kp {X : Nat → Prop} {w w' : World} {B g : Nat} {ev : Value} {key : List Int} {es : List (List Int)} (h : LogAt w B g ev key es) (hk : Kp X w w') (hX : ∀ k, X k → k < B) : LogAt w' B g ev key es := by
  have hsame : ∀ k, B ≤ k → k < w.heap.size → w'.heap[k]? = w.heap[k]? := fun k h1 h2 => hk.block k h2 (fun hx => by have := hX k hx; omega)
  obtain ⟨kp, kn, kc, h1, h2, h3⟩ := h.blk
  obtain ⟨vs, h4, h5⟩ := h.own
  refine ⟨⟨kp, kn, kc, (hsame g h.base h.lt).trans h1, h2.same hk.size (fun ad ha hl => hsame _ (h3 ad ha).1 hl), fun ad ha => ?_⟩, h.base, h.apart, ⟨vs, ?_, fun i hi => ?_⟩, h.few⟩
  · obtain ⟨a, b, c, d⟩ := h3 ad ha
    exact ⟨a, Nat.lt_of_lt_of_le b hk.size, c, d⟩
  · obtain ⟨e1, e2 | ⟨r, cap, cur, hv, hr, hh, rest⟩⟩ := h4
    · exact ⟨e1, .inl e2⟩
    · exact ⟨e1, .inr ⟨r, cap, cur, hv, hr, (hsame r hr (row_lt hh)).trans hh, rest⟩⟩
  · obtain ⟨p, n, c, e1, e2, e3, e4⟩ := h5 i hi
    refine ⟨p, n, c, e1, e2.same hk.size (fun ad ha hl => hsame _ (e4 ad ha).1 hl), e3, fun ad ha => ?_⟩
    obtain ⟨a, b, c', d⟩ := e4 ad ha
    exact ⟨a, Nat.lt_of_lt_of_le b hk.size, c', d⟩
theorem LogAt.below {w w' : World} {B g : Nat} {ev : Value} {key : List Int} {es : List (List Int)} (h : LogAt w B g ev key es) (hb : Below w.heap.size w w') : LogAt w' B g ev key es :=
  h.kp (kp_of hb rfl) (fun _ hx => False.elim hx)
theorem LogAt.read {w : World} {B g : Nat} {ev : Value} {key : List Int} {es : List (List Int)} (h : LogAt w B g ev key es) : LogR w g key es := by
  obtain ⟨kp, kn, kc, h1, h2, _⟩ := h.blk
  obtain ⟨vs, h4, h5⟩ := h.own
  have c0 : w.cell? ⟨g, 0, none⟩ = some (.slice kp kn kc) := by rw [cell_of_row _ _ _ _ _ _ h1]; rfl
  have c1 : w.cell? ⟨g, 1, none⟩ = some ev := by rw [cell_of_row _ _ _ _ _ _ h1]; rfl
  refine ⟨⟨kp, kn, kc, c0, h2⟩, ?_, h.few⟩
  obtain ⟨e1, ⟨rfl, e2⟩ | ⟨r, cap, cur, rfl, hr, hh, hc, hm, hs, ht⟩⟩ := h4
  · rw [e2]
    exact ⟨none, 0, c1, ⟨e2, by omega, by omega, fun h0 => by omega⟩, fun _ => rfl⟩
  · refine ⟨some ⟨r, 0, none⟩, cap, c1, ⟨rfl, hc, by unfold maxLen at hm; omega, fun _ => ⟨r, 0, rfl, row_lt hh, fun i hi => ?_⟩⟩, fun h0 => by cases h0⟩
    obtain ⟨p, n, c, e3, e4, e5, _⟩ := h5 i hi
    refine ⟨p, n, c, ?_, e4, e5⟩
    rw [Nat.zero_add, cell_of_row _ _ _ _ _ _ hh]
    have e := congrArg (fun z : List Value => z[i]?) ht
    simp only [Nat.mul_one, List.getElem?_take, if_pos hi] at e
    rw [← Array.getElem?_toList, e, e3]
set_option maxHeartbeats 1000000 in
theorem new_any (w : World) (p : Option Addr) (n c : Nat) (xs : List Int) (hi : In8 w p n c xs) (hn : n ≤ 100) :
    Calls Tryd.prog 31 #[.slice p n c] w fun e w' => ∃ g, e = .returned (.tuple #[.pointer (some ⟨g, 0, none⟩), .int .i64 0]) ∧ LogAt w' w.heap.size g (.slice none 0 0) xs [] ∧ Below w.heap.size w w' := by
  go_enter Tryd.func31, Tryd.ntmps31
  go_wp2_with fail
  refine (clone_any w p n c xs hi).mono ?_
  rintro e w1 ⟨p', c', rfl, b1, hi1, _, hfr, hin⟩
  have h1 := heapN w1 (.cells #[.slice p' n c', .slice none 0 0] 116) _ rfl
  have B1 : Below w.heap.size w (w1.alloc (.cells #[.slice p' n c', .slice none 0 0] 116)) := b1.alloc b1.size _
  have b2 : Below w1.heap.size w1 (w1.alloc (.cells #[.slice p' n c', .slice none 0 0] 116)) := (Below.refl _ _).alloc (Nat.le_refl _) _
  have HL : Hid (LogAt (w1.alloc (.cells #[.slice p' n c', .slice none 0 0] 116)) w.heap.size w1.heap.size (.slice none 0 0) xs []) := by
    refine ⟨⟨p', n, c', h1, hi1.below b2, fun ad ha => ?_⟩, b1.size, by simp [Value.ownBlock], ⟨[], ⟨rfl, .inl ⟨rfl, rfl⟩⟩, fun i hi => by simp at hi⟩, by simp⟩
    subst ha
    have hlt := hin ad rfl
    exact ⟨hfr ad rfl, by simp; omega, by omega, by simp [Value.ownBlock]⟩
  clear h1 hi1 b2
  go_wp2_with fail
  go_ret2
  exact ⟨_, rfl, HL.out, B1⟩
theorem Kp.trans {X : Nat → Prop} {w w1 w2 : World} (h : Kp (fun _ => False) w w1) (h' : Kp X w1 w2) : Kp X w w2 :=
  ⟨h'.os.trans h.os, h'.tape.trans h.tape, h'.output.trans h.output, Nat.le_trans h.size h'.size, fun k hk hx => (h'.block k (Nat.lt_of_lt_of_le hk h.size) hx).trans (h.block k hk (fun z => z))⟩
theorem two_setCell {w : World} {b : Nat} {v v' u : Value} {t : TypeId} (h : w.heap[b]? = some (.cells #[v, v'] t (0, 0))) : (w.setCell ⟨b, 1, none⟩ u).heap[b]? = some (.cells #[v, u] t (0, 0)) := by
  have hlt := row_lt h
  have h' : w.heap[b] = .cells #[v, v'] t (0, 0) := by simpa [Array.getElem?_eq_getElem hlt] using h
  show (w.heap.modify b _)[b]? = _
  rw [Array.getElem?_eq_getElem (by simpa using hlt), Array.getElem_modify_self, h']
  rfl
theorem LogAt.shape {w : World} {B g : Nat} {ev : Value} {key : List Int} {es : List (List Int)} (h : LogAt w B g ev key es) : ∃ ep ec, ev = .slice ep es.length ec := by
  obtain ⟨vs, ⟨e1, ⟨rfl, e2⟩ | ⟨r, cap, cur, rfl, _⟩⟩, _⟩ := h.own
  · exact ⟨none, 0, by rw [e2]⟩
  · exact ⟨_, _, rfl⟩
theorem LogAt.cell {w : World} {B g : Nat} {ev : Value} {key : List Int} {es : List (List Int)} (h : LogAt w B g ev key es) : w.cell? ⟨g, 1, none⟩ = some ev := by
  obtain ⟨kp, kn, kc, h1, _⟩ := h.blk
  rw [cell_of_row _ _ _ _ _ _ h1]; rfl
/-- What append does to a log's entries, and the store behind it. -/
theorem app_world (w : World) (B g : Nat) (ev : Value) (key : List Int) (es : List (List Int)) (hL : LogAt w B g ev key es) (g1 : Nat) (p : Option Addr) (n c : Nat) (xs : List Int) (h2 : w.heap[g1]? = some (.cells #[.slice p n c] 22)) (hi : In8 w p n c xs) (hn : n ≤ 300) (hlen : es.length < 64)
    (hfr : ∀ ad, p = some ad → B ≤ ad.block ∧ ad.block < w.heap.size ∧ ad.block ≠ g ∧ ev.ownBlock ≠ some ad.block) :
    ∃ ga cap w3, (Builtin.append_ #[47, 47] 47 #[ev, .slice (some ⟨g1, 0, none⟩) 1 1]).run Tryd.prog w = .ok (.slice (some ⟨ga, 0, none⟩) (es.length + 1) cap) w3 ∧
      w3.cell? ⟨g, 1, none⟩ = some ev ∧ w3.frozen? ⟨g, 1, none⟩ = false ∧
      LogAt (w3.setCell ⟨g, 1, none⟩ (.slice (some ⟨ga, 0, none⟩) (es.length + 1) cap)) B g (.slice (some ⟨ga, 0, none⟩) (es.length + 1) cap) key (es ++ [xs]) ∧
      Kp (fun k => k = g ∨ ev.ownBlock = some k) w (w3.setCell ⟨g, 1, none⟩ (.slice (some ⟨ga, 0, none⟩) (es.length + 1) cap)) := by
  obtain ⟨i22, hi22, hz, hsz, hby⟩ := info22'
  obtain ⟨kp, kn, kc, hk1, hk2, hk3⟩ := hL.blk
  obtain ⟨vs, ho, hv⟩ := hL.own
  have hgl := hL.lt
  have hB : B ≤ w.heap.size := Nat.le_trans hL.base (Nat.le_of_lt hgl)
  obtain ⟨ga, cap, w3, hr, ho3, hgr, hwh, hga⟩ := run_append_lies (P := Tryd.prog) w 47 47 B 22 i22 (.slice none 0 0) 1 24 Tryd.underlying47 hi22 hz hsz hby rfl (by omega) ev es.length vs ho
    ⟨g1, 0, none⟩ 1 1 [.slice p n c] rfl (fun j u hu => by
      have e : j = 0 := by
        have := (List.getElem?_eq_some_iff.1 hu).1
        simp at this; omega
      subst e
      rw [addr_add, cell_of_row _ _ _ _ _ _ h2]
      simpa using hu) (fun u hu => by simp only [List.mem_singleton] at hu; subst hu; rfl) (by omega) (by unfold maxLen; omega) (by omega) hB _ rfl
  have hne : ga ≠ g := by
    rcases hwh with h | h
    · exact fun e => hL.apart (by rw [h, e])
    · omega
  have e3 : w3.heap[g]? = w.heap[g]? := hgr.block g hgl (fun e => hL.apart e.symm)
  have hsame : ∀ k, k < w.heap.size → k ≠ g → ev.ownBlock ≠ some k → (w3.setCell ⟨g, 1, none⟩ (.slice (some ⟨ga, 0, none⟩) (es.length + 1) cap)).heap[k]? = w.heap[k]? := fun k h1 h2 h3 => by
    rw [Below.heap_setCell _ _ _ _ h2]
    exact hgr.block k h1 (fun e => h3 e.symm)
  have hsize : w.heap.size ≤ (w3.setCell ⟨g, 1, none⟩ (.slice (some ⟨ga, 0, none⟩) (es.length + 1) cap)).heap.size := by simpa [World.setCell] using hgr.size
  have hnew : ∀ ad : Addr, ad.block < w.heap.size → ev.ownBlock ≠ some ad.block → (Value.slice (some ⟨ga, 0, none⟩) (es.length + 1) cap).ownBlock ≠ some ad.block := fun ad h1 h2 => by
    simp only [Value.ownBlock, ne_eq, Option.some.injEq]
    rcases hwh with h | h
    · exact fun e => h2 (by rw [h, e])
    · omega
  refine ⟨ga, cap, w3, hr, ?_, ?_, ⟨⟨kp, kn, kc, two_setCell (e3.trans hk1), ?_, fun ad ha => ?_⟩, hL.base, ?_, ⟨vs ++ [.slice p n c], ?_, fun i hi' => ?_⟩, ?_⟩, ?_⟩
  · rw [World.cell?_of_block (w := w) e3]; exact hL.cell
  · rw [World.frozen?_of_block (w := w) e3]; exact frozen_of_row w g 1 _ _ hk1
  · exact hk2.same hsize (fun ad ha hl => hsame _ hl (hk3 ad ha).2.2.1 (hk3 ad ha).2.2.2)
  · obtain ⟨a, b, c', d⟩ := hk3 ad ha
    exact ⟨a, Nat.lt_of_lt_of_le b hsize, c', hnew ad b d⟩
  · simpa [Value.ownBlock] using hne
  · rw [List.length_append]
    exact ownsRow_setCell_other ho3 (by simpa [Value.ownBlock] using hne) _
  · have hvl : vs.length = es.length := by have := ho.1; simpa using this
    rw [List.length_append, List.length_singleton] at hi'
    rcases Nat.lt_or_ge i es.length with h | h
    · obtain ⟨q, m, d, e1, e2, e4, e5⟩ := hv i h
      refine ⟨q, m, d, by rw [List.getElem?_append_left (by omega)]; exact e1, ?_, e4, fun ad ha => ?_⟩
      · have e : (es ++ [xs]).getD i [] = es.getD i [] := by simp [List.getD, List.getElem?_append_left h]
        rw [e]
        exact e2.same hsize (fun ad ha hl => hsame _ hl (e5 ad ha).2.2.1 (e5 ad ha).2.2.2)
      · obtain ⟨a, b, c', d'⟩ := e5 ad ha
        exact ⟨a, Nat.lt_of_lt_of_le b hsize, c', hnew ad b d'⟩
    · have e0 : i = es.length := by omega
      subst e0
      refine ⟨p, n, c, by rw [← hvl]; simp, ?_, hn, fun ad ha => ?_⟩
      · have e : (es ++ [xs]).getD es.length [] = xs := by simp [List.getD]
        rw [e]
        exact hi.same hsize (fun ad ha hl => hsame _ hl (hfr ad ha).2.2.1 (hfr ad ha).2.2.2)
      · obtain ⟨a, b, c', d'⟩ := hfr ad ha
        exact ⟨a, Nat.lt_of_lt_of_le b hsize, c', hnew ad b d'⟩
  · simp; omega
  · exact ⟨hgr.os, hgr.tape, hgr.output, hsize, fun k hk hx => hsame k hk (fun e => hx (.inl e)) (fun e => hx (.inr e))⟩
theorem size_drew (w : World) : w.drew.heap.size = w.heap.size := rfl
set_option maxHeartbeats 4000000 in
theorem append_any (w : World) (B g : Nat) (ev : Value) (key : List Int) (es : List (List Int)) (p : Option Addr) (n c : Nat) (xs : List Int) (hL : LogAt w B g ev key es) (hi : In8 w p n c xs) (hn : n ≤ 300) (hlen : es.length < 64) :
    Calls Tryd.prog 50 #[.pointer (some ⟨g, 0, none⟩), .slice p n c] w fun e w' => ∃ ev', e = .returned (.tuple #[.int .i64 (es.length : Int), .int .i64 0]) ∧ LogAt w' B g ev' key (es ++ [xs]) ∧ Kp (fun k => k = g ∨ ev.ownBlock = some k) w w' := by
  obtain ⟨ep, ec, rfl⟩ := hL.shape
  have hc := hL.cell
  have hcd : w.drew.cell? ⟨g, 1, none⟩ = some (.slice ep es.length ec) := hc
  have hgl := hL.lt
  have hbs := hL.base
  have hb0 : Below w.heap.size w w.drew := (Below.refl _ _).drew
  go_enter Tryd.func50, Tryd.ntmps50
  go_wp2_with fail
  refine wp_region_noPanic ?_
  refine wp_region_held (S := fun _ => True) follows ?_
  refine wpAnyH_take (i := 0) (v := .pointer (some ⟨g, 0, none⟩)) rfl (by kernel_rfl) (by kernel_rfl) (by kernel_rfl) (fun _ _ _ h => h) (.inl ⟨rfl, fun W _ => by go_simp⟩) trivial ?_
  simp only [Act.put, List.getElem_toArray, List.getElem_cons_zero, List.getElem_cons_succ, List.setIfInBounds_toArray, List.set_cons_zero, List.set_cons_succ]
  refine wpAnyH_take (i := 1) (v := .pointer (some ⟨g, 0, none⟩)) rfl (by kernel_rfl) (by kernel_rfl) (by kernel_rfl) (fun _ _ _ h => h) (.inl ⟨rfl, fun W _ => by go_simp⟩) trivial ?_
  simp only [Act.put, List.getElem_toArray, List.getElem_cons_zero, List.getElem_cons_succ, List.setIfInBounds_toArray, List.set_cons_zero, List.set_cons_succ]
  refine wpAnyH_take (i := 2) (v := .pointer (some ⟨g, 0, none⟩)) rfl (by kernel_rfl) (by kernel_rfl) (by kernel_rfl) (fun _ _ _ h => h) (.inl ⟨rfl, fun W _ => by go_simp⟩) trivial ?_
  simp only [Act.put, List.getElem_toArray, List.getElem_cons_zero, List.getElem_cons_succ, List.setIfInBounds_toArray, List.set_cons_zero, List.set_cons_succ]
  refine wpAnyH_take (i := 3) (v := .pointer (some ⟨g, 1, none⟩)) rfl (by kernel_rfl) (by kernel_rfl) (by kernel_rfl) (fun _ _ _ h => h) (.inl ⟨rfl, fun W _ => by go_simp⟩) trivial ?_
  simp only [Act.put, List.getElem_toArray, List.getElem_cons_zero, List.getElem_cons_succ, List.setIfInBounds_toArray, List.set_cons_zero, List.set_cons_succ]
  refine wpAnyH_take (i := 5) (v := .slice p n c) rfl (by kernel_rfl) (by kernel_rfl) (by kernel_rfl) (fun _ _ _ h => h) (.inl ⟨rfl, fun W _ => by go_simp⟩) trivial ?_
  simp only [Act.put, List.getElem_toArray, List.getElem_cons_zero, List.getElem_cons_succ, List.setIfInBounds_toArray, List.set_cons_zero, List.set_cons_succ]
  refine relist #[true, true, true, true, false, true, false, false, false, false, false, false] (by kernel_rfl) ?_
  refine any_two (i := 4) (j := 6) (by kernel_rfl) ?_ ?_
  · refine wpOp_val (v := .slice ep es.length ec) (w' := w.drew) rfl rfl (by have e := hcd; go_simp) ?_
    refine ⟨trivial, ?_⟩
    simp only [Act.put, List.getElem_toArray, List.getElem_cons_zero, List.getElem_cons_succ, List.setIfInBounds_toArray, List.set_cons_zero, List.set_cons_succ]
    refine relist #[true, true, true, true, true, true, false, false, false, false, false, false] (by kernel_rfl) ?_
    refine any_one (i := 6) (by kernel_rfl) ?_
    refine wpOp_call (f := 69) (args := #[.slice p n c]) rfl rfl (by go_simp) ?_
    refine (clone_any _ p n c xs (hi.below hb0)).mono ?_
    rintro e w1 ⟨p', c', rfl, b1, hi1, _, hfr, hin⟩
    have hs1 : w.heap.size ≤ w1.heap.size := b1.size
    have b1' : Below w.heap.size w w1 := hb0.trans b1
    have hc1 : w1.cell? ⟨g, 1, none⟩ = some (.slice ep es.length ec) := by rw [b1'.cell (p := ⟨g, 1, none⟩) hgl]; exact hc
    refine ⟨_, rfl, trivial, ?_⟩
    simp only [Act.put, List.getElem_toArray, List.getElem_cons_zero, List.getElem_cons_succ, List.setIfInBounds_toArray, List.set_cons_zero, List.set_cons_succ]
    refine relist #[true, true, true, true, true, true, true, false, false, false, false, false] (by kernel_rfl) ?_
    refine any_one (i := 7) (by kernel_rfl) ?_
    refine wpOp_val (v := .slice (some ⟨w1.heap.size, 0, none⟩) 1 1) (w' := w1.alloc (.cells #[.slice p' n c'] 22)) rfl rfl (by go_simp) ?_
    have b12 : Below w1.heap.size w1 (w1.alloc (.cells #[.slice p' n c'] 22)) := (Below.refl _ _).alloc (Nat.le_refl _) _
    have b2 : Below w.heap.size w (w1.alloc (.cells #[.slice p' n c'] 22)) := b1'.alloc hs1 _
    have hc2 : (w1.alloc (.cells #[.slice p' n c'] 22)).cell? ⟨g, 1, none⟩ = some (.slice ep es.length ec) := by rw [b2.cell (p := ⟨g, 1, none⟩) hgl]; exact hc
    have h2 := heapN w1 (.cells #[.slice p' n c'] 22) _ rfl
    have hi2 := hi1.below b12
    have hs2 : w1.heap.size ≤ (w1.alloc (.cells #[.slice p' n c'] 22)).heap.size := b12.size
    refine ⟨trivial, ?_⟩
    simp only [Act.put, List.getElem_toArray, List.getElem_cons_zero, List.getElem_cons_succ, List.setIfInBounds_toArray, List.set_cons_zero, List.set_cons_succ]
    generalize w1.alloc (.cells #[.slice p' n c'] 22) = w2 at *
    generalize w1.heap.size = g1 at *
    refine relist #[true, true, true, true, true, true, true, true, false, false, false, false] (by kernel_rfl) ?_
    refine any_one (i := 8) (by kernel_rfl) ?_
    obtain ⟨ga, cap, w3, hr, hc3, hf3, hL4, hk4⟩ := app_world w2 B g _ key es (hL.below b2) g1 p' n c' xs h2 hi2 hn hlen (fun ad ha => ⟨by have := hfr ad ha; rw [size_drew] at this; omega, by have := hin ad ha; omega, by have := hfr ad ha; rw [size_drew] at this; omega, fun e => by have h1 := (hL.rowlt _ e).2; have := hfr ad ha; rw [size_drew] at this; omega⟩)
    refine wpOp_app rfl rfl (.tmp 27) (.tmp 30) 47 47 rfl (.slice ep es.length ec) (.slice (some ⟨g1, 0, none⟩) 1 1) rfl rfl hr ?_
    refine ⟨trivial, ?_⟩
    simp only [Act.put, List.getElem_toArray, List.getElem_cons_zero, List.getElem_cons_succ, List.setIfInBounds_toArray, List.set_cons_zero, List.set_cons_succ]
    refine wpAnyH_take (i := 9) (v := .pointer (some ⟨g, 0, none⟩)) rfl (by kernel_rfl) (by kernel_rfl) (by kernel_rfl) (fun _ _ _ h => h) (.inl ⟨rfl, fun W _ => by go_simp⟩) trivial ?_
    simp only [Act.put, List.getElem_toArray, List.getElem_cons_zero, List.getElem_cons_succ, List.setIfInBounds_toArray, List.set_cons_zero, List.set_cons_succ]
    refine wpAnyH_take (i := 10) (v := .pointer (some ⟨g, 1, none⟩)) rfl (by kernel_rfl) (by kernel_rfl) (by kernel_rfl) (fun _ _ _ h => h) (.inl ⟨rfl, fun W _ => by go_simp⟩) trivial ?_
    simp only [Act.put, List.getElem_toArray, List.getElem_cons_zero, List.getElem_cons_succ, List.setIfInBounds_toArray, List.set_cons_zero, List.set_cons_succ]
    refine relist #[true, true, true, true, true, true, true, true, true, true, true, false] (by kernel_rfl) ?_
    refine any_one (i := 11) (by kernel_rfl) ?_
    refine wpOp_skip (w' := w3.setCell ⟨g, 1, none⟩ (.slice (some ⟨ga, 0, none⟩) (es.length + 1) cap)) rfl rfl (by go_simp) ?_
    refine ⟨trivial, ?_⟩
    simp only [Act.put, List.getElem_toArray, List.getElem_cons_zero, List.getElem_cons_succ, List.setIfInBounds_toArray, List.set_cons_zero, List.set_cons_succ]
    refine wpAnyH_done (by kernel_rfl) ?_ _
    refine NoPanic.normal ?_
    have HK : Hid (Kp (fun k => k = g ∨ (Value.slice ep es.length ec).ownBlock = some k) w (w3.setCell ⟨g, 1, none⟩ (.slice (some ⟨ga, 0, none⟩) (es.length + 1) cap))) := (kp_of b2 rfl).trans hk4
    have HL : Hid (LogAt (w3.setCell ⟨g, 1, none⟩ (.slice (some ⟨ga, 0, none⟩) (es.length + 1) cap)) B g (.slice (some ⟨ga, 0, none⟩) (es.length + 1) cap) key (es ++ [xs])) := hL4
    clear hc hcd hc1 hc2 hc3 hf3 b1 b1' b2 b12 hk4 hL4 hr h2 hi2 hi1
    generalize w3.setCell ⟨g, 1, none⟩ (.slice (some ⟨ga, 0, none⟩) (es.length + 1) cap) = w4 at *
    go_wp2_with fail
    go_ret2
    exact ⟨_, rfl, HL.out, HK.out⟩
  · refine wpOp_call (f := 69) (args := #[.slice p n c]) rfl rfl (by go_simp) ?_
    refine (clone_any _ p n c xs (hi.below hb0)).mono ?_
    rintro e w1 ⟨p', c', rfl, b1, hi1, _, hfr, hin⟩
    have hs1 : w.heap.size ≤ w1.heap.size := b1.size
    have b1' : Below w.heap.size w w1 := hb0.trans b1
    have hc1 : w1.cell? ⟨g, 1, none⟩ = some (.slice ep es.length ec) := by rw [b1'.cell (p := ⟨g, 1, none⟩) hgl]; exact hc
    refine ⟨_, rfl, trivial, ?_⟩
    simp only [Act.put, List.getElem_toArray, List.getElem_cons_zero, List.getElem_cons_succ, List.setIfInBounds_toArray, List.set_cons_zero, List.set_cons_succ]
    refine relist #[true, true, true, true, false, true, true, false, false, false, false, false] (by kernel_rfl) ?_
    refine any_two (i := 4) (j := 7) (by kernel_rfl) ?_ ?_
    · refine wpOp_val (v := .slice ep es.length ec) (w' := w1) rfl rfl (by have e := hc1; go_simp) ?_
      refine ⟨trivial, ?_⟩
      simp only [Act.put, List.getElem_toArray, List.getElem_cons_zero, List.getElem_cons_succ, List.setIfInBounds_toArray, List.set_cons_zero, List.set_cons_succ]
      refine relist #[true, true, true, true, true, true, true, false, false, false, false, false] (by kernel_rfl) ?_
      refine any_one (i := 7) (by kernel_rfl) ?_
      refine wpOp_val (v := .slice (some ⟨w1.heap.size, 0, none⟩) 1 1) (w' := w1.alloc (.cells #[.slice p' n c'] 22)) rfl rfl (by go_simp) ?_
      have b12 : Below w1.heap.size w1 (w1.alloc (.cells #[.slice p' n c'] 22)) := (Below.refl _ _).alloc (Nat.le_refl _) _
      have b2 : Below w.heap.size w (w1.alloc (.cells #[.slice p' n c'] 22)) := b1'.alloc hs1 _
      have hc2 : (w1.alloc (.cells #[.slice p' n c'] 22)).cell? ⟨g, 1, none⟩ = some (.slice ep es.length ec) := by rw [b2.cell (p := ⟨g, 1, none⟩) hgl]; exact hc
      have h2 := heapN w1 (.cells #[.slice p' n c'] 22) _ rfl
      have hi2 := hi1.below b12
      have hs2 : w1.heap.size ≤ (w1.alloc (.cells #[.slice p' n c'] 22)).heap.size := b12.size
      refine ⟨trivial, ?_⟩
      simp only [Act.put, List.getElem_toArray, List.getElem_cons_zero, List.getElem_cons_succ, List.setIfInBounds_toArray, List.set_cons_zero, List.set_cons_succ]
      generalize w1.alloc (.cells #[.slice p' n c'] 22) = w2 at *
      generalize w1.heap.size = g1 at *
      refine relist #[true, true, true, true, true, true, true, true, false, false, false, false] (by kernel_rfl) ?_
      refine any_one (i := 8) (by kernel_rfl) ?_
      obtain ⟨ga, cap, w3, hr, hc3, hf3, hL4, hk4⟩ := app_world w2 B g _ key es (hL.below b2) g1 p' n c' xs h2 hi2 hn hlen (fun ad ha => ⟨by have := hfr ad ha; rw [size_drew] at this; omega, by have := hin ad ha; omega, by have := hfr ad ha; rw [size_drew] at this; omega, fun e => by have h1 := (hL.rowlt _ e).2; have := hfr ad ha; rw [size_drew] at this; omega⟩)
      refine wpOp_app rfl rfl (.tmp 27) (.tmp 30) 47 47 rfl (.slice ep es.length ec) (.slice (some ⟨g1, 0, none⟩) 1 1) rfl rfl hr ?_
      refine ⟨trivial, ?_⟩
      simp only [Act.put, List.getElem_toArray, List.getElem_cons_zero, List.getElem_cons_succ, List.setIfInBounds_toArray, List.set_cons_zero, List.set_cons_succ]
      refine wpAnyH_take (i := 9) (v := .pointer (some ⟨g, 0, none⟩)) rfl (by kernel_rfl) (by kernel_rfl) (by kernel_rfl) (fun _ _ _ h => h) (.inl ⟨rfl, fun W _ => by go_simp⟩) trivial ?_
      simp only [Act.put, List.getElem_toArray, List.getElem_cons_zero, List.getElem_cons_succ, List.setIfInBounds_toArray, List.set_cons_zero, List.set_cons_succ]
      refine wpAnyH_take (i := 10) (v := .pointer (some ⟨g, 1, none⟩)) rfl (by kernel_rfl) (by kernel_rfl) (by kernel_rfl) (fun _ _ _ h => h) (.inl ⟨rfl, fun W _ => by go_simp⟩) trivial ?_
      simp only [Act.put, List.getElem_toArray, List.getElem_cons_zero, List.getElem_cons_succ, List.setIfInBounds_toArray, List.set_cons_zero, List.set_cons_succ]
      refine relist #[true, true, true, true, true, true, true, true, true, true, true, false] (by kernel_rfl) ?_
      refine any_one (i := 11) (by kernel_rfl) ?_
      refine wpOp_skip (w' := w3.setCell ⟨g, 1, none⟩ (.slice (some ⟨ga, 0, none⟩) (es.length + 1) cap)) rfl rfl (by go_simp) ?_
      refine ⟨trivial, ?_⟩
      simp only [Act.put, List.getElem_toArray, List.getElem_cons_zero, List.getElem_cons_succ, List.setIfInBounds_toArray, List.set_cons_zero, List.set_cons_succ]
      refine wpAnyH_done (by kernel_rfl) ?_ _
      refine NoPanic.normal ?_
      have HK : Hid (Kp (fun k => k = g ∨ (Value.slice ep es.length ec).ownBlock = some k) w (w3.setCell ⟨g, 1, none⟩ (.slice (some ⟨ga, 0, none⟩) (es.length + 1) cap))) := (kp_of b2 rfl).trans hk4
      have HL : Hid (LogAt (w3.setCell ⟨g, 1, none⟩ (.slice (some ⟨ga, 0, none⟩) (es.length + 1) cap)) B g (.slice (some ⟨ga, 0, none⟩) (es.length + 1) cap) key (es ++ [xs])) := hL4
      clear hc hcd hc1 hc2 hc3 hf3 b1 b1' b2 b12 hk4 hL4 hr h2 hi2 hi1
      generalize w3.setCell ⟨g, 1, none⟩ (.slice (some ⟨ga, 0, none⟩) (es.length + 1) cap) = w4 at *
      go_wp2_with fail
      go_ret2
      exact ⟨_, rfl, HL.out, HK.out⟩
    · refine wpOp_val (v := .slice (some ⟨w1.heap.size, 0, none⟩) 1 1) (w' := w1.alloc (.cells #[.slice p' n c'] 22)) rfl rfl (by go_simp) ?_
      have b12 : Below w1.heap.size w1 (w1.alloc (.cells #[.slice p' n c'] 22)) := (Below.refl _ _).alloc (Nat.le_refl _) _
      have b2 : Below w.heap.size w (w1.alloc (.cells #[.slice p' n c'] 22)) := b1'.alloc hs1 _
      have hc2 : (w1.alloc (.cells #[.slice p' n c'] 22)).cell? ⟨g, 1, none⟩ = some (.slice ep es.length ec) := by rw [b2.cell (p := ⟨g, 1, none⟩) hgl]; exact hc
      have h2 := heapN w1 (.cells #[.slice p' n c'] 22) _ rfl
      have hi2 := hi1.below b12
      have hs2 : w1.heap.size ≤ (w1.alloc (.cells #[.slice p' n c'] 22)).heap.size := b12.size
      refine ⟨trivial, ?_⟩
      simp only [Act.put, List.getElem_toArray, List.getElem_cons_zero, List.getElem_cons_succ, List.setIfInBounds_toArray, List.set_cons_zero, List.set_cons_succ]
      generalize w1.alloc (.cells #[.slice p' n c'] 22) = w2 at *
      generalize w1.heap.size = g1 at *
      refine relist #[true, true, true, true, false, true, true, true, false, false, false, false] (by kernel_rfl) ?_
      refine any_one (i := 4) (by kernel_rfl) ?_
      refine wpOp_val (v := .slice ep es.length ec) (w' := w2) rfl rfl (by have e := hc2; go_simp) ?_
      refine ⟨trivial, ?_⟩
      simp only [Act.put, List.getElem_toArray, List.getElem_cons_zero, List.getElem_cons_succ, List.setIfInBounds_toArray, List.set_cons_zero, List.set_cons_succ]
      refine relist #[true, true, true, true, true, true, true, true, false, false, false, false] (by kernel_rfl) ?_
      refine any_one (i := 8) (by kernel_rfl) ?_
      obtain ⟨ga, cap, w3, hr, hc3, hf3, hL4, hk4⟩ := app_world w2 B g _ key es (hL.below b2) g1 p' n c' xs h2 hi2 hn hlen (fun ad ha => ⟨by have := hfr ad ha; rw [size_drew] at this; omega, by have := hin ad ha; omega, by have := hfr ad ha; rw [size_drew] at this; omega, fun e => by have h1 := (hL.rowlt _ e).2; have := hfr ad ha; rw [size_drew] at this; omega⟩)
      refine wpOp_app rfl rfl (.tmp 27) (.tmp 30) 47 47 rfl (.slice ep es.length ec) (.slice (some ⟨g1, 0, none⟩) 1 1) rfl rfl hr ?_
      refine ⟨trivial, ?_⟩
      simp only [Act.put, List.getElem_toArray, List.getElem_cons_zero, List.getElem_cons_succ, List.setIfInBounds_toArray, List.set_cons_zero, List.set_cons_succ]
      refine wpAnyH_take (i := 9) (v := .pointer (some ⟨g, 0, none⟩)) rfl (by kernel_rfl) (by kernel_rfl) (by kernel_rfl) (fun _ _ _ h => h) (.inl ⟨rfl, fun W _ => by go_simp⟩) trivial ?_
      simp only [Act.put, List.getElem_toArray, List.getElem_cons_zero, List.getElem_cons_succ, List.setIfInBounds_toArray, List.set_cons_zero, List.set_cons_succ]
      refine wpAnyH_take (i := 10) (v := .pointer (some ⟨g, 1, none⟩)) rfl (by kernel_rfl) (by kernel_rfl) (by kernel_rfl) (fun _ _ _ h => h) (.inl ⟨rfl, fun W _ => by go_simp⟩) trivial ?_
      simp only [Act.put, List.getElem_toArray, List.getElem_cons_zero, List.getElem_cons_succ, List.setIfInBounds_toArray, List.set_cons_zero, List.set_cons_succ]
      refine relist #[true, true, true, true, true, true, true, true, true, true, true, false] (by kernel_rfl) ?_
      refine any_one (i := 11) (by kernel_rfl) ?_
      refine wpOp_skip (w' := w3.setCell ⟨g, 1, none⟩ (.slice (some ⟨ga, 0, none⟩) (es.length + 1) cap)) rfl rfl (by go_simp) ?_
      refine ⟨trivial, ?_⟩
      simp only [Act.put, List.getElem_toArray, List.getElem_cons_zero, List.getElem_cons_succ, List.setIfInBounds_toArray, List.set_cons_zero, List.set_cons_succ]
      refine wpAnyH_done (by kernel_rfl) ?_ _
      refine NoPanic.normal ?_
      have HK : Hid (Kp (fun k => k = g ∨ (Value.slice ep es.length ec).ownBlock = some k) w (w3.setCell ⟨g, 1, none⟩ (.slice (some ⟨ga, 0, none⟩) (es.length + 1) cap))) := (kp_of b2 rfl).trans hk4
      have HL : Hid (LogAt (w3.setCell ⟨g, 1, none⟩ (.slice (some ⟨ga, 0, none⟩) (es.length + 1) cap)) B g (.slice (some ⟨ga, 0, none⟩) (es.length + 1) cap) key (es ++ [xs])) := hL4
      clear hc hcd hc1 hc2 hc3 hf3 b1 b1' b2 b12 hk4 hL4 hr h2 hi2 hi1
      generalize w3.setCell ⟨g, 1, none⟩ (.slice (some ⟨ga, 0, none⟩) (es.length + 1) cap) = w4 at *
      go_wp2_with fail
      go_ret2
      exact ⟨_, rfl, HL.out, HK.out⟩
end Go.Proofs.YtcmjlhcpoajbkaaDoor
namespace Go.Proofs.YtcmjlhcpoajbkaaDoor
set_option maxRecDepth 10000
open Go.RowKit
/-- A number's k-th byte from the end. -/
def beI (n : Int) (k : Nat) : Int := n / 2 ^ (8 * k) % 256
/-- A number in so many bytes, the highest first. -/
def longI (n : Int) : Nat → List Int
  | 0 => []
  | k + 1 => beI n k :: longI n k
theorem beI_range (n : Int) (k : Nat) : 0 ≤ beI n k ∧ beI n k < 256 := by unfold beI; omega
theorem longI_len (n : Int) (k : Nat) : (longI n k).length = k := by
  induction k with
  | zero => rfl
  | succ k ih => simp [longI, ih]
theorem longI_bytes (n : Int) (k : Nat) : Bytes (longI n k) := .of fun x hx => by
  induction k with
  | zero => simp [longI] at hx
  | succ k ih =>
    simp only [longI, List.mem_cons] at hx
    rcases hx with rfl | hx
    · exact beI_range n k
    · exact ih hx
/-- The row that highestFirst writes, k bytes from the end on. -/
def hfpart (x : Int) (m k : Nat) : List Int := List.replicate (m - k) 0 ++ longI x k
theorem hfpart_len (x : Int) (m k : Nat) (h : k ≤ m) : (hfpart x m k).length = m := by simp [hfpart, longI_len]; omega
theorem hfpart_step (x : Int) (m k : Nat) (h : k < m) : (hfpart x m k).set (m - 1 - k) (beI x k) = hfpart x m (k + 1) := by
  unfold hfpart
  rw [show m - k = (m - (k + 1)) + 1 by omega, List.replicate_succ', List.append_assoc, List.set_append_right _ _ (by simp; omega)]
  simp only [List.length_replicate]
  rw [show m - 1 - k - (m - (k + 1)) = 0 by omega]
  rfl
theorem made8 (m : Nat) : madeCells #[Value.int .u8 0] m = A8 (List.replicate m 0) := by
  have := toList_madeCells_one (.int .u8 0) m
  apply Array.toList_inj.1
  rw [this]
  simp [A8]
set_option maxHeartbeats 1000000 in
theorem highest_any (x : Int) (m : Nat) (w : World) (hm : m ≤ 8) :
    Calls Tryd.prog 81 #[.int .u64 x, .int .i64 m] w fun e w' => e = .returned (.slice (some ⟨w.heap.size, 0, none⟩) m m) ∧ Below w.heap.size w w' ∧ w'.heap[w.heap.size]? = some (.cells (A8 (longI x m)) 5) := by
  obtain ⟨i5, hi5, hz5, hs5, hy5⟩ := info5'
  have hmk := fun W => run_make_row (P := Tryd.prog) 22 5 i5 (.int .u8 0) Tryd.underlying22 hi5 hz5 hs5 rfl .i64 .i64 m (by rw [hy5]; omega) (by omega) W
  rw [made8] at hmk
  have h0 := heapN w (.cells (A8 (List.replicate m 0)) 5) _ rfl
  have hb0 : Below w.heap.size w (w.alloc (.cells (A8 (List.replicate m 0)) 5)) := (Below.refl _ _).alloc (Nat.le_refl _) _
  go_enter Tryd.func81, Tryd.ntmps81
  go_wp2_with fail
  go_loopw [11] (fun i wr => ∃ k : Nat, k ≤ m ∧ i = .int .i64 k ∧ Below w.heap.size w wr ∧ wr.heap[w.heap.size]? = some (.cells (A8 (hfpart x m k)) 5)) (fun i _ => m - (intOf i).toNat)
  case atStart => exact ⟨0, by omega, rfl, hb0, by simpa [hfpart, longI] using h0⟩
  case round =>
    obtain ⟨k, hk, rfl, hb, hg⟩ := hrel
    clear h0 hb0 hmk
    by_cases hlt : k < m
    · have hf := frozen_of_row wr w.heap.size (m - 1 - k) _ _ hg
      have hcell : ∃ u, wr.cell? ⟨w.heap.size, m - 1 - k, none⟩ = some u := by
        rw [cell_of_row _ _ _ _ _ _ hg, A8_get _ _ (by rw [hfpart_len x m k hk]; omega)]; exact ⟨_, rfl⟩
      obtain ⟨u, hc⟩ := hcell
      have hG := heap_setCell_same wr w.heap.size (m - 1 - k) _ _ (.int .u8 (beI x k)) hg
      rw [A8_set, hfpart_step x m k hlt] at hG
      have HG : Hid _ := hG
      have ei : ((m : Int) - 1 - k) = ((m - 1 - k : Nat) : Int) := by omega
      have HB : Hid (Below w.heap.size w (wr.setCell ⟨w.heap.size, m - 1 - k, none⟩ (.int .u8 (beI x k)))) := hb.setCell (Nat.le_refl _) _
      clear hG hg
      go_wp2_with fail
      go_roundw
      case rel => exact ⟨k + 1, by omega, by go_num, HB.out, HG.out⟩
      case measure => simp [intOf]; omega
    · have e : k = m := by omega
      subst e
      have hG : Hid (wr.heap[w.heap.size]? = some (.cells (A8 (longI x k)) 5)) := by
        rw [show hfpart x k k = longI x k by simp [hfpart]] at hg; exact hg
      clear hg
      go_wp2_with fail
      go_ret
      exact ⟨rfl, hb, hG.out⟩
end Go.Proofs.YtcmjlhcpoajbkaaDoor
namespace Go.Proofs.YtcmjlhcpoajbkaaDoor
set_option maxRecDepth 10000
set_option linter.unusedSimpArgs false
open Go.RowKit
/-- The tag of a head. -/
def signP (key : List Int) (n : Int) (R : List Int) : List Int := tagP KS HS key (longI n 8 ++ R)
theorem signP_len (key : List Int) (n : Int) (R : List Int) : (signP key n R).length = 32 := tagP_len _ _ _ _
theorem signP_bytes (key : List Int) (n : Int) (R : List Int) : Bytes (signP key n R) := finP_bytes _ _ _ _
theorem in8_blk {w : World} {g : Nat} {t : TypeId} {fr : Nat × Nat} {xs : List Int} {n : Nat} (hn : xs.length = n) (hb : Bytes xs) (hs : n ≤ 1000) (h : w.heap[g]? = some (.cells (A8 xs) t fr)) : In8 w (some ⟨g, 0, none⟩) n n xs :=
  ⟨hn, hb, Nat.le_refl _, by omega, by omega, fun _ => ⟨g, 0, rfl, row_lt h, fun j hj => by rw [cell_of_row _ _ _ _ _ _ h, Nat.zero_add, A8_get _ _ hj]⟩⟩
set_option maxHeartbeats 2000000 in
theorem headTag_any (w : World) (hT : Tabs KS HS w) (p : Option Addr) (m c : Nat) (key : List Int) (hi : In8 w p m c key) (n : Int) (h1 : 0 ≤ n) (h2 : n ≤ 9223372036854775807) (R : List Int) (hl : R.length = 32) (hb : Bytes R) :
    Calls Tryd.prog 66 #[.slice p m c, .int .i64 n, .agg (A8 R)] w fun e w' => e = .returned (.agg (A8 (signP key n R))) ∧ Below w.heap.size w w' := by
  have hb0 := below2 w (.cells (A8 R) 25) (.cells Z8x32 25)
  have V0 := heap2 w (.cells (A8 R) 25) (.cells Z8x32 25)
  obtain ⟨V, hV⟩ : ∃ V, V = (w.alloc (.cells (A8 R) 25)).alloc (.cells Z8x32 25) := ⟨_, rfl⟩
  rw [← hV] at hb0 V0
  have hu : IntKind.u64.wrap n = n := by simp only [IntKind.wrap, IntKind.bits, IntKind.signed]; simp; omega
  have l0 := row_lt V0.2
  go_enter Tryd.func66, Tryd.ntmps66
  go_wp2_with fail
  refine wp_region_noPanic ?_
  refine wp_region_held (S := fun _ => True) follows ?_
  refine wpAnyH_take (i := 0) (v := .slice p m c) rfl (by kernel_rfl) (by kernel_rfl) (by kernel_rfl) (fun _ _ _ h => h) (.inl ⟨rfl, fun W _ => by go_simp⟩) trivial ?_
  simp only [Act.put, List.getElem_toArray, List.getElem_cons_zero, List.getElem_cons_succ, List.setIfInBounds_toArray, List.set_cons_zero, List.set_cons_succ]
  refine wpAnyH_take (i := 1) (v := .int .i64 n) rfl (by kernel_rfl) (by kernel_rfl) (by kernel_rfl) (fun _ _ _ h => h) (.inl ⟨rfl, fun W _ => by go_simp⟩) trivial ?_
  simp only [Act.put, List.getElem_toArray, List.getElem_cons_zero, List.getElem_cons_succ, List.setIfInBounds_toArray, List.set_cons_zero, List.set_cons_succ]
  refine wpAnyH_take (i := 2) (v := .int .u64 n) rfl (by kernel_rfl) (by kernel_rfl) (by kernel_rfl) (fun _ _ _ h => h) (.inl ⟨rfl, fun W _ => by go_simp⟩) trivial ?_
  simp only [Act.put, List.getElem_toArray, List.getElem_cons_zero, List.getElem_cons_succ, List.setIfInBounds_toArray, List.set_cons_zero, List.set_cons_succ]
  refine wpAnyH_take (i := 4) (v := .slice (some ⟨w.heap.size, 0, none⟩) 32 32) rfl (by kernel_rfl) (by kernel_rfl) (by kernel_rfl) (fun _ _ _ h => h) (.inl ⟨rfl, fun W _ => by go_simp⟩) trivial ?_
  simp only [Act.put, List.getElem_toArray, List.getElem_cons_zero, List.getElem_cons_succ, List.setIfInBounds_toArray, List.set_cons_zero, List.set_cons_succ]
  refine relist #[true, true, true, false, true, false, false, false, false] (by kernel_rfl) ?_
  refine any_one (i := 3) (by kernel_rfl) ?_
  refine wpOp_call (f := 81) (args := #[.int .u64 n, .int .i64 8]) rfl rfl (by go_simp) ?_
  refine (highest_any n 8 _ (by omega)).mono ?_
  rintro e w1 ⟨rfl, b1, hg1⟩
  have B1 : Below V.heap.size V w1 := by rw [hV]; exact ((Below.refl _ _).drew).trans b1
  have e1 : V.heap.size = w.heap.size + 1 + 1 := by rw [hV]; simp
  have hg1' : w1.heap[w.heap.size + 1 + 1]? = some (.cells (A8 (longI n 8)) 5) := by rw [← e1]; rw [hV]; exact hg1
  have hs1 := B1.size
  have hl1 := row_lt hg1'
  refine ⟨_, rfl, trivial, ?_⟩
  simp only [Act.put, List.getElem_toArray, List.getElem_cons_zero, List.getElem_cons_succ, List.setIfInBounds_toArray, List.set_cons_zero, List.set_cons_succ]
  refine relist #[true, true, true, true, true, false, false, false, false] (by kernel_rfl) ?_
  refine any_one (i := 5) (by kernel_rfl) ?_
  refine wpOp_val (v := .slice (some ⟨w1.heap.size, 0, none⟩) 2 2) (w' := w1.alloc (.cells #[.slice (some ⟨w.heap.size + 1 + 1, 0, none⟩) 8 8, .slice (some ⟨w.heap.size, 0, none⟩) 32 32] 22)) rfl rfl (by go_simp) ?_
  refine ⟨trivial, ?_⟩
  simp only [Act.put, List.getElem_toArray, List.getElem_cons_zero, List.getElem_cons_succ, List.setIfInBounds_toArray, List.set_cons_zero, List.set_cons_succ]
  refine relist #[true, true, true, true, true, true, false, false, false] (by kernel_rfl) ?_
  have h2' := heapN w1 (.cells #[.slice (some ⟨w.heap.size + 1 + 1, 0, none⟩) 8 8, .slice (some ⟨w.heap.size, 0, none⟩) 32 32] 22) _ rfl
  have B2 : Below V.heap.size V (w1.alloc (.cells #[.slice (some ⟨w.heap.size + 1 + 1, 0, none⟩) 8 8, .slice (some ⟨w.heap.size, 0, none⟩) 32 32] 22)) := B1.alloc hs1 _
  have g2 := (heapO w1 (.cells #[.slice (some ⟨w.heap.size + 1 + 1, 0, none⟩) 8 8, .slice (some ⟨w.heap.size, 0, none⟩) 32 32] 22) _ hl1).trans hg1'
  have r2 := (B2.block w.heap.size (by omega)).trans V0.1
  generalize w1.alloc (.cells #[.slice (some ⟨w.heap.size + 1 + 1, 0, none⟩) 8 8, .slice (some ⟨w.heap.size, 0, none⟩) 32 32] 22) = w2 at *
  generalize w1.heap.size = k2 at *
  have ec := cat2 (longI n 8) R
  have hn8 := longI_len n 8
  refine any_one (i := 6) (by kernel_rfl) ?_
  refine wpOp_call (f := 97) (args := #[.slice (some ⟨k2, 0, none⟩) 2 2]) rfl rfl (by go_simp) ?_
  refine (concat_any k2 2 (pf2 (some ⟨w.heap.size + 1 + 1, 0, none⟩) (some ⟨w.heap.size, 0, none⟩)) (nf2 8 32) (nf2 8 32) (xf2 (longI n 8) R) _ (by omega) ?_ ?_ (by rw [ec, List.length_append]; omega) (by rw [ec, List.length_append]; omega)).mono ?_
  · intro i hi'
    rw [cell_of_row _ _ _ _ _ _ h2']
    rcases i with _ | _ | i
    · rfl
    · rfl
    · omega
  · intro i hi'
    rcases i with _ | _ | i
    · exact in8_blk (n := 8) hn8 (longI_bytes n 8) (by omega) g2
    · exact in8_blk (n := 32) hl hb (by omega) r2
    · omega
  rintro e w3 ⟨p3, n3, c3, rfl, b3, hi3⟩
  rw [ec] at hi3
  have B3 : Below V.heap.size V w3 := B2.trans (b3.mono B2.size)
  refine ⟨_, rfl, trivial, ?_⟩
  simp only [Act.put, List.getElem_toArray, List.getElem_cons_zero, List.getElem_cons_succ, List.setIfInBounds_toArray, List.set_cons_zero, List.set_cons_succ]
  refine relist #[true, true, true, true, true, true, true, false, false] (by kernel_rfl) ?_
  have BW : Below w.heap.size w w3 := hb0.trans (B3.mono hb0.size)
  refine any_one (i := 7) (by kernel_rfl) ?_
  refine wpOp_call (f := 55) (args := #[.slice p m c, .slice p3 n3 c3]) rfl rfl (by go_simp) ?_
  refine (tag_any KS HS w3 (hT.below BW) p p3 m c n3 c3 key (longI n 8 ++ R) (hi.below BW) hi3).mono ?_
  rintro e w4 ⟨rfl, b4⟩
  have B4 : Below V.heap.size V w4 := B3.trans (b4.mono B3.size)
  have hkl := signP_len key n R
  have es : tagP KS HS key (longI n 8 ++ R) = signP key n R := rfl
  rw [es]
  obtain ⟨D, hD⟩ : ∃ D, signP key n R = D := ⟨_, rfl⟩
  have HD : Hid (signP key n R = D) := hD
  rw [hD] at hkl ⊢
  clear hD es
  have d4 : Dg w4 (w.heap.size + 1) Z32 := ⟨rfl, (B4.block _ (by omega)).trans V0.2⟩
  refine ⟨_, rfl, trivial, ?_⟩
  simp only [Act.put, List.getElem_toArray, List.getElem_cons_zero, List.getElem_cons_succ, List.setIfInBounds_toArray, List.set_cons_zero, List.set_cons_succ]
  refine relist #[true, true, true, true, true, true, true, true, false] (by kernel_rfl) ?_
  refine any_one (i := 8) (by kernel_rfl) ?_
  refine wpOp_store_D rfl rfl (.tmp 6) (.tmp 14) rfl (w.heap.size + 1) D rfl rfl Z32 d4 hkl ?_
  intro U hU
  refine ⟨trivial, ?_⟩
  simp only [Act.put, List.getElem_toArray, List.getElem_cons_zero, List.getElem_cons_succ, List.setIfInBounds_toArray, List.set_cons_zero, List.set_cons_succ]
  refine wpAnyH_done (by kernel_rfl) ?_ _
  refine NoPanic.normal ?_
  have dU : Hid (Dg U (w.heap.size + 1) D) := hU.dg hkl
  have bU : Hid (Below w.heap.size w U) := hU.below _ _ (by omega) (hb0.trans (B4.mono hb0.size))
  clear hU d4 B1 B2 B3 B4 b1 b3 b4 BW h2' g2 r2 hi3 V0 hb0
  go_wp2_with fail
  exact bodyPost_ret (results_D rfl _ _ (w.heap.size + 1) D rfl dU.out) rfl ⟨by rw [HD.out], bU.out⟩
end Go.Proofs.YtcmjlhcpoajbkaaDoor
namespace Go.Proofs.YtcmjlhcpoajbkaaDoor
set_option maxRecDepth 10000
open Go.RowKit
theorem in8_lit (w : World) (g : Nat) (t : TypeId) (fr : Nat × Nat) (xs : List Int) (hb : Bytes xs) (hs : xs.length ≤ 1000) (h : w.heap[g]? = some (.cells (A8 xs) t fr)) : In8 w (some ⟨g, 0, none⟩) xs.length xs.length xs :=
  ⟨rfl, hb, Nat.le_refl _, by omega, by omega, fun _ => ⟨g, 0, rfl, row_lt h, fun j hj => by rw [cell_of_row _ _ _ _ _ _ h, Nat.zero_add, A8_get _ _ hj]⟩⟩
end Go.Proofs.YtcmjlhcpoajbkaaDoor
namespace Go.Proofs.YtcmjlhcpoajbkaaDoor
set_option maxRecDepth 10000
set_option linter.unusedSimpArgs false
open Go.RowKit
/-- The cells of a head. -/
def headCells (n : Int) (R T : List Int) : Array Value := (Value.int .i64 n :: ((R ++ T).map (Value.int .u8))).toArray
theorem headCells_size (n : Int) (R T : List Int) (hR : R.length = 32) (hT : T.length = 32) : (headCells n R T).size = 65 := by simp [headCells, hR, hT]
theorem head_cell (n : Int) (R T : List Int) (hR : R.length = 32) (hT : T.length = 32) (j : Nat) (hj : j < 64) : (headCells n R T)[1 + j]? = some (.int .u8 ((R ++ T).getD j 0)) := by
  have h : j < (R ++ T).length := by rw [List.length_append]; omega
  simp only [headCells, List.getElem?_toArray]
  rw [Nat.add_comm 1 j, List.getElem?_cons_succ, List.getElem?_map, List.getElem?_eq_getElem h, List.getD_eq_getElem?_getD, List.getElem?_eq_getElem h]
  rfl
/-- A head in a block of its own. -/
structure Hd (w : World) (g : Nat) (n : Int) (R T : List Int) : Prop where
  size : w.cell? ⟨g, 0, none⟩ = some (.int .i64 n)
  root : At8 w ⟨g, 1, none⟩ R
  tag : At8 w ⟨g, 33, none⟩ T
theorem hd_of {w : World} {g : Nat} {t : TypeId} {fr : Nat × Nat} {n : Int} {R T : List Int} (hR : R.length = 32) (hT : T.length = 32) (h : w.heap[g]? = some (.cells (headCells n R T) t fr)) : Hd w g n R T := by
  refine ⟨by rw [cell_of_row _ _ _ _ _ _ h]; rfl, fun j hj => ?_, fun j hj => ?_⟩
  · rw [addr_add, cell_of_row _ _ _ _ _ _ h, head_cell n R T hR hT j (by omega), List.getD_eq_getElem?_getD, List.getElem?_append_left (by omega), ← List.getD_eq_getElem?_getD]
  · rw [addr_add, cell_of_row _ _ _ _ _ _ h, show 33 + j = 1 + (32 + j) by omega, head_cell n R T hR hT (32 + j) (by omega), List.getD_eq_getElem?_getD, List.getElem?_append_right (by omega), hR, Nat.add_sub_cancel_left, ← List.getD_eq_getElem?_getD]
theorem Hd.below {w w' : World} {g : Nat} {n : Int} {R T : List Int} (h : Hd w g n R T) (hb : Below w.heap.size w w') : Hd w' g n R T :=
  ⟨by rw [hb.cell (block_lt_of_cell h.size)]; exact h.size, h.root.below hb, h.tag.below hb⟩
theorem build_head (n : Int) (R T : List Int) (hR : R.length = 32) (hT : T.length = 32) (w : World) : (Instr.build 42 #[(0, .int .i64 n), (1, .agg (A8 R)), (2, .agg (A8 T))]).run Tryd.prog w = .ok (.agg (headCells n R T)) w := by
  obtain ⟨x0, x1, x2, x3, x4, x5, x6, x7, x8, x9, x10, x11, x12, x13, x14, x15, x16, x17, x18, x19, x20, x21, x22, x23, x24, x25, x26, x27, x28, x29, x30, x31, rfl⟩ := list32 R hR
  obtain ⟨y0, y1, y2, y3, y4, y5, y6, y7, y8, y9, y10, y11, y12, y13, y14, y15, y16, y17, y18, y19, y20, y21, y22, y23, y24, y25, y26, y27, y28, y29, y30, y31, rfl⟩ := list32 T hT
  kernel_rfl
def signedP (key : List Int) (n : Int) (R T : List Int) : Bool := if 0 ≤ n then decide (T = signP key n R) else false
theorem wpOp_unwanted {P : Program} {ops : Array Oper} {Q : Exit → Act → World → Prop} {i : Nat} {o : Oper} {K : Act → World → Prop} {a : Act} {w : World} (hi : ops[i]? = some o) (hw : Region.wanted o (yielded ops a.tmps) = false)
    (h : K (a.put o.dst undef) w) : wpOp P ops Q i K a w := by
  unfold wpOp
  simp only [hi, hw]
  exact h
set_option maxHeartbeats 2000000 in
theorem signed_any (w : World) (hT : Tabs KS HS w) (p : Option Addr) (m c : Nat) (key : List Int) (hi : In8 w p m c key) (n : Int) (h2 : n ≤ 9223372036854775807) (R T : List Int) (hl : R.length = 32) (hb : Bytes R) (hl' : T.length = 32) (hb' : Bytes T) :
    Calls Tryd.prog 28 #[.slice p m c, .agg (headCells n R T)] w fun e w' => e = .returned (.bool (signedP key n R T)) ∧ Below w.heap.size w w' := by
  have h0 := heapN w (.cells (headCells n R T) 42) _ rfl
  have hb0 : Below w.heap.size w (w.alloc (.cells (headCells n R T) 42)) := (Below.refl _ _).alloc (Nat.le_refl _) _
  obtain ⟨V, hV⟩ : ∃ V, V = w.alloc (.cells (headCells n R T) 42) := ⟨_, rfl⟩
  rw [← hV] at h0 hb0
  have S0 : Hd V.drew w.heap.size n R T := hd_of (w := V.drew) hl hl' h0
  have SV : Hd V w.heap.size n R T := hd_of hl hl' h0
  have bV : Below V.heap.size V V.drew := (Below.refl _ _).drew
  by_cases hn : 0 ≤ n
  · have HE : Hid (signedP key n R T = decide (T = signP key n R)) := by
      show signedP key n R T = _
      unfold signedP; rw [if_pos hn]
    go_enter Tryd.func28, Tryd.ntmps28
    go_wp2_with fail
    refine wp_region_noPanic ?_
    refine wp_region_held (S := fun W => Hd W w.heap.size n R T) follows ?_
    refine wpAnyH_take (i := 0) (v := .pointer (some ⟨w.heap.size, 0, none⟩)) rfl (by kernel_rfl) (by kernel_rfl) (by kernel_rfl) (fun _ _ _ h => h) (.inl ⟨rfl, fun W _ => by go_simp⟩) (hV ▸ S0) ?_
    simp only [Act.put, List.getElem_toArray, List.getElem_cons_zero, List.getElem_cons_succ, List.setIfInBounds_toArray, List.set_cons_zero, List.set_cons_succ]
    refine wpAnyH_take (i := 1) (v := .int .i64 n) rfl (by kernel_rfl) (by kernel_rfl) (by kernel_rfl) (fun _ _ _ h => h) (.inl ⟨rfl, fun W hW => by have e := hW.size; go_simp⟩) (hV ▸ S0) ?_
    simp only [Act.put, List.getElem_toArray, List.getElem_cons_zero, List.getElem_cons_succ, List.setIfInBounds_toArray, List.set_cons_zero, List.set_cons_succ]
    refine wpAnyH_take (i := 2) (v := .bool true) rfl (by kernel_rfl) (by kernel_rfl) (by kernel_rfl) (fun _ _ _ h => h) (.inl ⟨rfl, fun W _ => by go_simp⟩) (hV ▸ S0) ?_
    simp only [Act.put, List.getElem_toArray, List.getElem_cons_zero, List.getElem_cons_succ, List.setIfInBounds_toArray, List.set_cons_zero, List.set_cons_succ]
    refine wpAnyH_take (i := 3) (v := .bool true) rfl (by kernel_rfl) (by kernel_rfl) (by kernel_rfl) (fun _ _ _ h => h) (.inl ⟨rfl, fun W _ => by go_simp⟩) (hV ▸ S0) ?_
    simp only [Act.put, List.getElem_toArray, List.getElem_cons_zero, List.getElem_cons_succ, List.setIfInBounds_toArray, List.set_cons_zero, List.set_cons_succ]
    refine wpAnyH_take (i := 4) (v := .pointer (some ⟨w.heap.size, 33, none⟩)) rfl (by kernel_rfl) (by kernel_rfl) (by kernel_rfl) (fun _ _ _ h => h) (.inl ⟨rfl, fun W _ => by go_simp⟩) (hV ▸ S0) ?_
    simp only [Act.put, List.getElem_toArray, List.getElem_cons_zero, List.getElem_cons_succ, List.setIfInBounds_toArray, List.set_cons_zero, List.set_cons_succ]
    refine wpAnyH_take (i := 5) (v := .agg (A8 T)) rfl (by kernel_rfl) (by kernel_rfl) (by kernel_rfl) (fun _ _ _ h => h) (yields_at rfl (.tmp 9) rfl ⟨w.heap.size, 33, none⟩ rfl T hl' (fun W hW => hW.tag)) (hV ▸ S0) ?_
    simp only [Act.put, List.getElem_toArray, List.getElem_cons_zero, List.getElem_cons_succ, List.setIfInBounds_toArray, List.set_cons_zero, List.set_cons_succ]
    refine wpAnyH_take (i := 6) (v := .slice p m c) rfl (by kernel_rfl) (by kernel_rfl) (by kernel_rfl) (fun _ _ _ h => h) (.inl ⟨rfl, fun W _ => by go_simp⟩) (hV ▸ S0) ?_
    simp only [Act.put, List.getElem_toArray, List.getElem_cons_zero, List.getElem_cons_succ, List.setIfInBounds_toArray, List.set_cons_zero, List.set_cons_succ]
    refine wpAnyH_take (i := 7) (v := .pointer (some ⟨w.heap.size, 0, none⟩)) rfl (by kernel_rfl) (by kernel_rfl) (by kernel_rfl) (fun _ _ _ h => h) (.inl ⟨rfl, fun W _ => by go_simp⟩) (hV ▸ S0) ?_
    simp only [Act.put, List.getElem_toArray, List.getElem_cons_zero, List.getElem_cons_succ, List.setIfInBounds_toArray, List.set_cons_zero, List.set_cons_succ]
    refine wpAnyH_take (i := 8) (v := .int .i64 n) rfl (by kernel_rfl) (by kernel_rfl) (by kernel_rfl) (fun _ _ _ h => h) (.inl ⟨rfl, fun W hW => by have e := hW.size; go_simp⟩) (hV ▸ S0) ?_
    simp only [Act.put, List.getElem_toArray, List.getElem_cons_zero, List.getElem_cons_succ, List.setIfInBounds_toArray, List.set_cons_zero, List.set_cons_succ]
    refine wpAnyH_take (i := 9) (v := .pointer (some ⟨w.heap.size, 1, none⟩)) rfl (by kernel_rfl) (by kernel_rfl) (by kernel_rfl) (fun _ _ _ h => h) (.inl ⟨rfl, fun W _ => by go_simp⟩) (hV ▸ S0) ?_
    simp only [Act.put, List.getElem_toArray, List.getElem_cons_zero, List.getElem_cons_succ, List.setIfInBounds_toArray, List.set_cons_zero, List.set_cons_succ]
    refine wpAnyH_take (i := 10) (v := .agg (A8 R)) rfl (by kernel_rfl) (by kernel_rfl) (by kernel_rfl) (fun _ _ _ h => h) (yields_at rfl (.tmp 14) rfl ⟨w.heap.size, 1, none⟩ rfl R hl (fun W hW => hW.root)) (hV ▸ S0) ?_
    simp only [Act.put, List.getElem_toArray, List.getElem_cons_zero, List.getElem_cons_succ, List.setIfInBounds_toArray, List.set_cons_zero, List.set_cons_succ]
    refine relist #[true, true, true, true, true, true, true, true, true, true, true, false, false, false, false] (by kernel_rfl) ?_
    refine any_one (i := 11) (by kernel_rfl) ?_
    refine wpOp_callG (f := 66) (args := #[.slice p m c, .int .i64 n, .agg (A8 R)]) rfl rfl (by go_simp) ?_
    have bW : Below w.heap.size w V.drew := hb0.trans (bV.mono hb0.size)
    refine (headTag_any _ (hV ▸ hT.below bW) p m c key (hV ▸ hi.below bW) n hn h2 R hl hb).mono ?_
    rintro e w1 ⟨rfl, b1⟩
    have B1 : Below V.heap.size V w1 := by rw [hV]; exact ((Below.refl _ _).drew).trans b1
    have S1 : Hd w1 w.heap.size n R T := SV.below B1
    have hkl := signP_len key n R
    have hkb := signP_bytes key n R
    obtain ⟨D, hD⟩ : ∃ D, signP key n R = D := ⟨_, rfl⟩
    rw [hD] at hkl hkb HE ⊢
    clear hD
    refine ⟨_, rfl, S1, ?_⟩
    simp only [Act.put, List.getElem_toArray, List.getElem_cons_zero, List.getElem_cons_succ, List.setIfInBounds_toArray, List.set_cons_zero, List.set_cons_succ]
    refine wpAnyH_take (i := 12) (v := .bool (decide (T = D))) rfl (by kernel_rfl) (by kernel_rfl) (by kernel_rfl) (fun _ _ _ h => h) (yields_eql rfl (.tmp 10) (.tmp 16) rfl T D hl' hb' hkl hkb rfl rfl) S1 ?_
    simp only [Act.put, List.getElem_toArray, List.getElem_cons_zero, List.getElem_cons_succ, List.setIfInBounds_toArray, List.set_cons_zero, List.set_cons_succ]
    generalize decide (T = D) = r at *
    refine wpAnyH_take (i := 13) (v := .bool r) rfl (by kernel_rfl) (by kernel_rfl) (by kernel_rfl) (fun _ _ _ h => h) (.inl ⟨rfl, fun W _ => by go_simp⟩) S1 ?_
    simp only [Act.put, List.getElem_toArray, List.getElem_cons_zero, List.getElem_cons_succ, List.setIfInBounds_toArray, List.set_cons_zero, List.set_cons_succ]
    refine wpAnyH_take (i := 14) (v := .bool r) rfl (by kernel_rfl) (by kernel_rfl) (by kernel_rfl) (fun _ _ _ h => h) (.inl ⟨rfl, fun W _ => by go_simp⟩) S1 ?_
    simp only [Act.put, List.getElem_toArray, List.getElem_cons_zero, List.getElem_cons_succ, List.setIfInBounds_toArray, List.set_cons_zero, List.set_cons_succ]
    refine wpAnyH_done (by kernel_rfl) ?_ _
    refine NoPanic.normal ?_
    have bU : Hid (Below w.heap.size w w1) := hb0.trans (B1.mono hb0.size)
    clear B1 b1 S0 S1 h0 hb0 bV bW
    go_wp2_with fail
    go_ret
    exact ⟨by rw [HE.out]; rfl, bU.out⟩
  · have HE : Hid (signedP key n R T = false) := by
      show signedP key n R T = _
      unfold signedP; rw [if_neg hn]
    go_enter Tryd.func28, Tryd.ntmps28
    go_wp2_with fail
    refine wp_region_noPanic ?_
    refine wp_region_held (S := fun W => Hd W w.heap.size n R T) follows ?_
    refine wpAnyH_take (i := 0) (v := .pointer (some ⟨w.heap.size, 0, none⟩)) rfl (by kernel_rfl) (by kernel_rfl) (by kernel_rfl) (fun _ _ _ h => h) (.inl ⟨rfl, fun W _ => by go_simp⟩) (hV ▸ S0) ?_
    simp only [Act.put, List.getElem_toArray, List.getElem_cons_zero, List.getElem_cons_succ, List.setIfInBounds_toArray, List.set_cons_zero, List.set_cons_succ]
    refine wpAnyH_take (i := 1) (v := .int .i64 n) rfl (by kernel_rfl) (by kernel_rfl) (by kernel_rfl) (fun _ _ _ h => h) (.inl ⟨rfl, fun W hW => by have e := hW.size; go_simp⟩) (hV ▸ S0) ?_
    simp only [Act.put, List.getElem_toArray, List.getElem_cons_zero, List.getElem_cons_succ, List.setIfInBounds_toArray, List.set_cons_zero, List.set_cons_succ]
    refine wpAnyH_take (i := 2) (v := .bool false) rfl (by kernel_rfl) (by kernel_rfl) (by kernel_rfl) (fun _ _ _ h => h) (.inl ⟨rfl, fun W _ => by go_simp⟩) (hV ▸ S0) ?_
    simp only [Act.put, List.getElem_toArray, List.getElem_cons_zero, List.getElem_cons_succ, List.setIfInBounds_toArray, List.set_cons_zero, List.set_cons_succ]
    refine wpAnyH_take (i := 3) (v := .bool false) rfl (by kernel_rfl) (by kernel_rfl) (by kernel_rfl) (fun _ _ _ h => h) (.inl ⟨rfl, fun W _ => by go_simp⟩) (hV ▸ S0) ?_
    simp only [Act.put, List.getElem_toArray, List.getElem_cons_zero, List.getElem_cons_succ, List.setIfInBounds_toArray, List.set_cons_zero, List.set_cons_succ]
    refine wpAnyH_take (i := 4) (v := undef) rfl (by kernel_rfl) (by kernel_rfl) (by kernel_rfl) (fun _ _ _ h => h) (.inr ⟨rfl, rfl⟩) (hV ▸ S0) ?_
    simp only [Act.put, List.getElem_toArray, List.getElem_cons_zero, List.getElem_cons_succ, List.setIfInBounds_toArray, List.set_cons_zero, List.set_cons_succ]
    refine wpAnyH_take (i := 5) (v := undef) rfl (by kernel_rfl) (by kernel_rfl) (by kernel_rfl) (fun _ _ _ h => h) (.inr ⟨rfl, rfl⟩) (hV ▸ S0) ?_
    simp only [Act.put, List.getElem_toArray, List.getElem_cons_zero, List.getElem_cons_succ, List.setIfInBounds_toArray, List.set_cons_zero, List.set_cons_succ]
    refine wpAnyH_take (i := 6) (v := undef) rfl (by kernel_rfl) (by kernel_rfl) (by kernel_rfl) (fun _ _ _ h => h) (.inr ⟨rfl, rfl⟩) (hV ▸ S0) ?_
    simp only [Act.put, List.getElem_toArray, List.getElem_cons_zero, List.getElem_cons_succ, List.setIfInBounds_toArray, List.set_cons_zero, List.set_cons_succ]
    refine wpAnyH_take (i := 7) (v := undef) rfl (by kernel_rfl) (by kernel_rfl) (by kernel_rfl) (fun _ _ _ h => h) (.inr ⟨rfl, rfl⟩) (hV ▸ S0) ?_
    simp only [Act.put, List.getElem_toArray, List.getElem_cons_zero, List.getElem_cons_succ, List.setIfInBounds_toArray, List.set_cons_zero, List.set_cons_succ]
    refine wpAnyH_take (i := 8) (v := undef) rfl (by kernel_rfl) (by kernel_rfl) (by kernel_rfl) (fun _ _ _ h => h) (.inr ⟨rfl, rfl⟩) (hV ▸ S0) ?_
    simp only [Act.put, List.getElem_toArray, List.getElem_cons_zero, List.getElem_cons_succ, List.setIfInBounds_toArray, List.set_cons_zero, List.set_cons_succ]
    refine wpAnyH_take (i := 9) (v := undef) rfl (by kernel_rfl) (by kernel_rfl) (by kernel_rfl) (fun _ _ _ h => h) (.inr ⟨rfl, rfl⟩) (hV ▸ S0) ?_
    simp only [Act.put, List.getElem_toArray, List.getElem_cons_zero, List.getElem_cons_succ, List.setIfInBounds_toArray, List.set_cons_zero, List.set_cons_succ]
    refine wpAnyH_take (i := 10) (v := undef) rfl (by kernel_rfl) (by kernel_rfl) (by kernel_rfl) (fun _ _ _ h => h) (.inr ⟨rfl, rfl⟩) (hV ▸ S0) ?_
    simp only [Act.put, List.getElem_toArray, List.getElem_cons_zero, List.getElem_cons_succ, List.setIfInBounds_toArray, List.set_cons_zero, List.set_cons_succ]
    refine relist #[true, true, true, true, true, true, true, true, true, true, true, false, false, false, false] (by kernel_rfl) ?_
    refine any_one (i := 11) (by kernel_rfl) ?_
    refine wpOp_unwanted rfl rfl ⟨(hV ▸ S0), ?_⟩
    simp only [Act.put, List.getElem_toArray, List.getElem_cons_zero, List.getElem_cons_succ, List.setIfInBounds_toArray, List.set_cons_zero, List.set_cons_succ]
    refine wpAnyH_take (i := 12) (v := undef) rfl (by kernel_rfl) (by kernel_rfl) (by kernel_rfl) (fun _ _ _ h => h) (.inr ⟨rfl, rfl⟩) (hV ▸ S0) ?_
    simp only [Act.put, List.getElem_toArray, List.getElem_cons_zero, List.getElem_cons_succ, List.setIfInBounds_toArray, List.set_cons_zero, List.set_cons_succ]
    refine wpAnyH_take (i := 13) (v := .bool false) rfl (by kernel_rfl) (by kernel_rfl) (by kernel_rfl) (fun _ _ _ h => h) (.inl ⟨rfl, fun W _ => by go_simp⟩) (hV ▸ S0) ?_
    simp only [Act.put, List.getElem_toArray, List.getElem_cons_zero, List.getElem_cons_succ, List.setIfInBounds_toArray, List.set_cons_zero, List.set_cons_succ]
    refine wpAnyH_take (i := 14) (v := .bool false) rfl (by kernel_rfl) (by kernel_rfl) (by kernel_rfl) (fun _ _ _ h => h) (.inl ⟨rfl, fun W _ => by go_simp⟩) (hV ▸ S0) ?_
    simp only [Act.put, List.getElem_toArray, List.getElem_cons_zero, List.getElem_cons_succ, List.setIfInBounds_toArray, List.set_cons_zero, List.set_cons_succ]
    refine wpAnyH_done (by kernel_rfl) ?_ _
    refine NoPanic.normal ?_
    have bU : Hid (Below w.heap.size w V.drew) := hb0.trans (bV.mono hb0.size)
    clear S0 h0 hb0 bV
    go_wp2_with fail
    go_ret
    exact ⟨by rw [HE.out]; rfl, by have := bU.out; rw [hV] at this; exact this⟩
end Go.Proofs.YtcmjlhcpoajbkaaDoor
namespace Go.Proofs.YtcmjlhcpoajbkaaDoor
set_option maxRecDepth 10000
open Go.RowKit
theorem und42 : ∃ fs, Tryd.prog.underlying 42 = some (.struct fs) := ⟨_, Tryd.underlying42⟩
theorem info42 : (Tryd.prog.info? 42).map (·.size) = some 65 := by kernel_rfl
end Go.Proofs.YtcmjlhcpoajbkaaDoor
