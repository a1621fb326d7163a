import Derived.Test.YtcmjlhcpoajbkaaDoorQFa
import Derived.Test.YtcmjlhcpoajbkaaDoorQSw
namespace Go.Proofs.YtcmjlhcpoajbkaaDoor
set_option maxRecDepth 10000
set_option linter.unusedSimpArgs false
open Go.RowKit
/-- A log, with what is its own, of which nothing lies in the block j. -/
structure LogZ (w : World) (B g : Nat) (ev : Value) (key : List Int) (es : List (List Int)) (j : Nat) : Prop where
  blk : ∃ kp kn kc, w.heap[g]? = some (.cells #[.slice kp kn kc, ev] 116) ∧ In8 w kp kn kc key ∧ ∀ ad, kp = some ad → B ≤ ad.block ∧ ad.block < w.heap.size ∧ ad.block ≠ g ∧ ev.ownBlock ≠ some ad.block ∧ ad.block ≠ j
  base : B ≤ g
  apart : ev.ownBlock ≠ some g
  own : ∃ vs, w.ownsRow B 22 1 ev es.length vs ∧ ∀ i, i < es.length → ∃ p n c, vs[i]? = some (.slice p n c) ∧ In8 w p n c (es.getD i []) ∧ n ≤ 300 ∧ ∀ ad, p = some ad → B ≤ ad.block ∧ ad.block < w.heap.size ∧ ad.block ≠ g ∧ ev.ownBlock ≠ some ad.block ∧ ad.block ≠ j
  few : es.length ≤ 64
  farg : g ≠ j
  farr : ev.ownBlock ≠ some j
theorem LogZ.log {w : World} {B g j : Nat} {ev : Value} {key : List Int} {es : List (List Int)} (h : LogZ w B g ev key es j) : LogAt w B g ev key es := by
  obtain ⟨kp, kn, kc, h1, h2, h3⟩ := h.blk
  obtain ⟨vs, h4, h5⟩ := h.own
  exact ⟨⟨kp, kn, kc, h1, h2, fun ad ha => ⟨(h3 ad ha).1, (h3 ad ha).2.1, (h3 ad ha).2.2.1, (h3 ad ha).2.2.2.1⟩⟩, h.base, h.apart, ⟨vs, h4, fun i hi => by
    obtain ⟨p, n, c, e1, e2, e3, e4⟩ := h5 i hi
    exact ⟨p, n, c, e1, e2, e3, fun ad ha => ⟨(e4 ad ha).1, (e4 ad ha).2.1, (e4 ad ha).2.2.1, (e4 ad ha).2.2.2.1⟩⟩⟩, h.few⟩
theorem LogAt.far {w : World} {B g : Nat} {ev : Value} {key : List Int} {es : List (List Int)} (h : LogAt w B g ev key es) (j : Nat) (hj : w.heap.size ≤ j) : LogZ w B g ev key es j := by
  have hg := h.lt
  have hr := h.rowlt
  obtain ⟨kp, kn, kc, h1, h2, h3⟩ := h.blk
  obtain ⟨vs, h4, h5⟩ := h.own
  exact ⟨⟨kp, kn, kc, h1, h2, fun ad ha => ⟨(h3 ad ha).1, (h3 ad ha).2.1, (h3 ad ha).2.2.1, (h3 ad ha).2.2.2, by have := (h3 ad ha).2.1; omega⟩⟩, h.base, h.apart, ⟨vs, h4, fun i hi => by
    obtain ⟨p, n, c, e1, e2, e3, e4⟩ := h5 i hi
    exact ⟨p, n, c, e1, e2, e3, fun ad ha => ⟨(e4 ad ha).1, (e4 ad ha).2.1, (e4 ad ha).2.2.1, (e4 ad ha).2.2.2, by have := (e4 ad ha).2.1; omega⟩⟩⟩, h.few, by omega, fun e => by have := (hr j e).2; omega⟩
theorem LogZ.kp {X : Nat → Prop} {w w' : World} {B g j : Nat} {ev : Value} {key : List Int} {es : List (List Int)} (h : LogZ w B g ev key es j) (hk : Kp X w w') (hX : ∀ k, X k → k < B ∨ k = j) : LogZ w' B g ev key es j := by
  have hsame : ∀ k, B ≤ k → k ≠ j → k < w.heap.size → w'.heap[k]? = w.heap[k]? := fun k h1 h0 h2 => hk.block k h2 (fun hx => by have := hX k hx; omega)
  have hlt := h.log.lt
  obtain ⟨kp, kn, kc, h1, h2, h3⟩ := h.blk
  obtain ⟨vs, h4, h5⟩ := h.own
  refine ⟨⟨kp, kn, kc, (hsame g h.base h.farg hlt).trans h1, h2.same hk.size (fun ad ha hl => hsame _ (h3 ad ha).1 (h3 ad ha).2.2.2.2 hl), fun ad ha => ?_⟩, h.base, h.apart, ⟨vs, ?_, fun i hi => ?_⟩, h.few, h.farg, h.farr⟩
  · obtain ⟨a, b, c, d⟩ := h3 ad ha
    exact ⟨a, Nat.lt_of_lt_of_le b hk.size, c, d⟩
  · obtain ⟨e1, e2 | ⟨r, cap, cur, hv, hr, hh, rest⟩⟩ := h4
    · exact ⟨e1, .inl e2⟩
    · exact ⟨e1, .inr ⟨r, cap, cur, hv, hr, (hsame r hr (fun e => h.farr (by rw [hv, ← e]; rfl)) (row_lt hh)).trans hh, rest⟩⟩
  · obtain ⟨p, n, c, e1, e2, e3, e4⟩ := h5 i hi
    refine ⟨p, n, c, e1, e2.same hk.size (fun ad ha hl => hsame _ (e4 ad ha).1 (e4 ad ha).2.2.2.2 hl), e3, fun ad ha => ?_⟩
    obtain ⟨a, b, c', d⟩ := e4 ad ha
    exact ⟨a, Nat.lt_of_lt_of_le b hk.size, c', d⟩
theorem LogZ.below {w w' : World} {B g j : Nat} {ev : Value} {key : List Int} {es : List (List Int)} (h : LogZ w B g ev key es j) (hb : Below w.heap.size w w') : LogZ w' B g ev key es j :=
  h.kp (kp_of hb rfl) (fun _ hx => False.elim hx)
/-- What append does to a log's entries, and the store behind it: beside the block j. -/
theorem app_worldZ (w : World) (B g : Nat) (ev : Value) (key : List Int) (es : List (List Int)) (j : Nat) (hL : LogZ w B g ev key es j) (hj : j < w.heap.size) (g1 : Nat) (p : Option Addr) (n c : Nat) (xs : List Int) (h2 : w.heap[g1]? = some (.cells #[.slice p n c] 22)) (hi : In8 w p n c xs) (hn : n ≤ 300) (hlen : es.length < 64)
    (hfr : ∀ ad, p = some ad → B ≤ ad.block ∧ ad.block < w.heap.size ∧ ad.block ≠ g ∧ ev.ownBlock ≠ some ad.block ∧ ad.block ≠ j) :
    ∃ ga cap w3, (Builtin.append_ #[47, 47] 47 #[ev, .slice (some ⟨g1, 0, none⟩) 1 1]).run Tryd.prog w = .ok (.slice (some ⟨ga, 0, none⟩) (es.length + 1) cap) w3 ∧
      w3.cell? ⟨g, 1, none⟩ = some ev ∧ w3.frozen? ⟨g, 1, none⟩ = false ∧
      LogZ (w3.setCell ⟨g, 1, none⟩ (.slice (some ⟨ga, 0, none⟩) (es.length + 1) cap)) B g (.slice (some ⟨ga, 0, none⟩) (es.length + 1) cap) key (es ++ [xs]) j ∧
      Kp (fun k => k = g ∨ ev.ownBlock = some k) w (w3.setCell ⟨g, 1, none⟩ (.slice (some ⟨ga, 0, none⟩) (es.length + 1) cap)) := by
  obtain ⟨i22, hi22, hz, hsz, hby⟩ := info22'
  have hgl := hL.log.lt
  have hcell := hL.log.cell
  obtain ⟨kp, kn, kc, hk1, hk2, hk3⟩ := hL.blk
  obtain ⟨vs, ho, hv⟩ := hL.own
  have hB : B ≤ w.heap.size := Nat.le_trans hL.base (Nat.le_of_lt hgl)
  obtain ⟨ga, cap, w3, hr, ho3, hgr, hwh, hga⟩ := run_append_lies (P := Tryd.prog) w 47 47 B 22 i22 (.slice none 0 0) 1 24 Tryd.underlying47 hi22 hz hsz hby rfl (by omega) ev es.length vs ho
    ⟨g1, 0, none⟩ 1 1 [.slice p n c] rfl (fun j u hu => by
      have e : j = 0 := by
        have := (List.getElem?_eq_some_iff.1 hu).1
        simp at this; omega
      subst e
      rw [addr_add, cell_of_row _ _ _ _ _ _ h2]
      simpa using hu) (fun u hu => by simp only [List.mem_singleton] at hu; subst hu; rfl) (by omega) (by unfold maxLen; omega) (by omega) hB _ rfl
  have hne : ga ≠ g := by
    rcases hwh with h | h
    · exact fun e => hL.apart (by rw [h, e])
    · omega
  have hnj : ga ≠ j := by
    rcases hwh with h | h
    · exact fun e => hL.farr (by rw [h, e])
    · omega
  have e3 : w3.heap[g]? = w.heap[g]? := hgr.block g hgl (fun e => hL.apart e.symm)
  have hsame : ∀ k, k < w.heap.size → k ≠ g → ev.ownBlock ≠ some k → (w3.setCell ⟨g, 1, none⟩ (.slice (some ⟨ga, 0, none⟩) (es.length + 1) cap)).heap[k]? = w.heap[k]? := fun k h1 h2 h3 => by
    rw [Below.heap_setCell _ _ _ _ h2]
    exact hgr.block k h1 (fun e => h3 e.symm)
  have hsize : w.heap.size ≤ (w3.setCell ⟨g, 1, none⟩ (.slice (some ⟨ga, 0, none⟩) (es.length + 1) cap)).heap.size := by simpa [World.setCell] using hgr.size
  have hnew : ∀ ad : Addr, ad.block < w.heap.size → ev.ownBlock ≠ some ad.block → (Value.slice (some ⟨ga, 0, none⟩) (es.length + 1) cap).ownBlock ≠ some ad.block := fun ad h1 h2 => by
    simp only [Value.ownBlock, ne_eq, Option.some.injEq]
    rcases hwh with h | h
    · exact fun e => h2 (by rw [h, e])
    · omega
  refine ⟨ga, cap, w3, hr, ?_, ?_, ⟨⟨kp, kn, kc, two_setCell (e3.trans hk1), ?_, fun ad ha => ?_⟩, hL.base, ?_, ⟨vs ++ [.slice p n c], ?_, fun i hi' => ?_⟩, ?_, hL.farg, ?_⟩, ?_⟩
  · rw [World.cell?_of_block (w := w) e3]; exact hcell
  · rw [World.frozen?_of_block (w := w) e3]; exact frozen_of_row w g 1 _ _ hk1
  · exact hk2.same hsize (fun ad ha hl => hsame _ hl (hk3 ad ha).2.2.1 (hk3 ad ha).2.2.2.1)
  · obtain ⟨a, b, c', d, f⟩ := hk3 ad ha
    exact ⟨a, Nat.lt_of_lt_of_le b hsize, c', hnew ad b d, f⟩
  · simpa [Value.ownBlock] using hne
  · rw [List.length_append]
    exact ownsRow_setCell_other ho3 (by simpa [Value.ownBlock] using hne) _
  · have hvl : vs.length = es.length := by have := ho.1; simpa using this
    rw [List.length_append, List.length_singleton] at hi'
    rcases Nat.lt_or_ge i es.length with h | h
    · obtain ⟨q, m, d, e1, e2, e4, e5⟩ := hv i h
      refine ⟨q, m, d, by rw [List.getElem?_append_left (by omega)]; exact e1, ?_, e4, fun ad ha => ?_⟩
      · have e : (es ++ [xs]).getD i [] = es.getD i [] := by simp [List.getD, List.getElem?_append_left h]
        rw [e]
        exact e2.same hsize (fun ad ha hl => hsame _ hl (e5 ad ha).2.2.1 (e5 ad ha).2.2.2.1)
      · obtain ⟨a, b, c', d', f⟩ := e5 ad ha
        exact ⟨a, Nat.lt_of_lt_of_le b hsize, c', hnew ad b d', f⟩
    · have e0 : i = es.length := by omega
      subst e0
      refine ⟨p, n, c, by rw [← hvl]; simp, ?_, hn, fun ad ha => ?_⟩
      · have e : (es ++ [xs]).getD es.length [] = xs := by simp [List.getD]
        rw [e]
        exact hi.same hsize (fun ad ha hl => hsame _ hl (hfr ad ha).2.2.1 (hfr ad ha).2.2.2.1)
      · obtain ⟨a, b, c', d', f⟩ := hfr ad ha
        exact ⟨a, Nat.lt_of_lt_of_le b hsize, c', hnew ad b d', f⟩
  · simp; omega
  · simpa [Value.ownBlock] using hnj
  · exact ⟨hgr.os, hgr.tape, hgr.output, hsize, fun k hk hx => hsame k hk (fun e => hx (.inl e)) (fun e => hx (.inr e))⟩
end Go.Proofs.YtcmjlhcpoajbkaaDoor
