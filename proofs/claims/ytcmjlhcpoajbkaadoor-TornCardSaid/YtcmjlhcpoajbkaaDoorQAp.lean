import Derived.Test.YtcmjlhcpoajbkaaDoorQEs
import Derived.Test.YtcmjlhcpoajbkaaDoorQDs
import Derived.Test.YtcmjlhcpoajbkaaDoorQSg
import Derived.Test.YtcmjlhcpoajbkaaDoorQRc
namespace Go.Proofs.YtcmjlhcpoajbkaaDoor
set_option maxRecDepth 10000
set_option linter.unusedSimpArgs false
open Go.RowKit
/-- A log, as it is read. -/
structure LogR (w : World) (g : Nat) (key : List Int) (es : List (List Int)) : Prop where
  keyAt : ∃ kp kn kc, w.cell? ⟨g, 0, none⟩ = some (.slice kp kn kc) ∧ In8 w kp kn kc key
  entAt : ∃ ep ec, w.cell? ⟨g, 1, none⟩ = some (.slice ep es.length ec) ∧ E22 w ep es.length ec es ∧ (ep = none → ec = 0)
  few : es.length ≤ 64
theorem cell_alloc {w : World} {ad : Addr} {v : Value} (h : w.cell? ad = some v) (ob : Obj) : (w.alloc ob).cell? ad = some v := by
  rw [((Below.refl w.heap.size w).alloc (Nat.le_refl _) ob).cell (block_lt_of_cell h)]; exact h
theorem eslice_nil (p : Option Addr) (n c m : Nat) (hm : m ≤ n) (hn : n ≤ c) (hc : p = none → c = 0) (W : World) :
    (Instr.sliceAt 47 (.slice p n c) none (some (.int .i64 m)) none).run Tryd.prog W = .ok (.slice p m c) W := by
  cases p with
  | some ad => exact eslice_front ad n c m hm hn W
  | none =>
    have h0 := hc rfl
    subst h0
    have e1 : m = 0 := by omega
    have e2 : n = 0 := by omega
    subst e1 e2
    go_simp
def rootOut (n : Int) (es : List (List Int)) : List Int × Int := if n < 0 ∨ (es.length : Int) < n then (Z32, 1) else (rootP (es.take n.toNat), 0)
set_option maxHeartbeats 1000000 in
theorem logRoot_any (w : World) (g : Nat) (key : List Int) (es : List (List Int)) (n : Int) (hT : Tabs KS HS w) (hL : LogR w g key es) :
    Calls Tryd.prog 46 #[.pointer (some ⟨g, 0, none⟩), .int .i64 n] w fun e w' => e = .returned (.tuple #[.agg (A8 (rootOut n es).1), .int .i64 (rootOut n es).2]) ∧ Below w.heap.size w w' := by
  obtain ⟨_, ⟨ep, ec, hc1, hE, hnil⟩, hfew⟩ := hL
  have hb0 : Below w.heap.size w (w.alloc (.cells Z8x32 25)) := (Below.refl _ _).alloc (Nat.le_refl _) _
  have d0 : Hid (Dg (w.alloc (.cells Z8x32 25)) w.heap.size Z32) := Dg.new w _ rfl
  have hc := fun ob => cell_alloc hc1 ob
  have hf := hE.fits
  have HE : Hid (E22 w ep es.length ec es) := hE
  clear hE hc1
  by_cases h1 : n < 0
  · have HX : Hid (rootOut n es = (Z32, 1)) := by
      show rootOut n es = _
      unfold rootOut; rw [if_pos (.inl h1)]
    go_enter Tryd.func46, Tryd.ntmps46
    go_wp2_with (first
      | (with_reducible refine atStore 25 ?_
         refine store_D rfl _ _ rfl w.heap.size Z32 rfl rfl Z32 d0.out rfl ?_
         intro X hX
         refine hideGoal ?_))
    have dX : Hid (Dg X w.heap.size Z32) := hX.dg rfl
    have bX : Hid (Below w.heap.size w X) := hX.below _ _ (Nat.le_refl _) hb0
    clear hX d0
    refine openGoal ?_
    go_wp2_with fail
    exact bodyPost_ret (results_DT rfl _ _ w.heap.size Z32 rfl dX.out) rfl ⟨by rw [HX.out]; rfl, bX.out⟩
  · by_cases h2 : (es.length : Int) < n
    · have HX : Hid (rootOut n es = (Z32, 1)) := by
        show rootOut n es = _
        unfold rootOut; rw [if_pos (.inr h2)]
      go_enter Tryd.func46, Tryd.ntmps46
      go_wp2_with (first
        | (with_reducible refine atStore 25 ?_
           refine store_D rfl _ _ rfl w.heap.size Z32 rfl rfl Z32 d0.out rfl ?_
           intro X hX
           refine hideGoal ?_))
      have dX : Hid (Dg X w.heap.size Z32) := hX.dg rfl
      have bX : Hid (Below w.heap.size w X) := hX.below _ _ (Nat.le_refl _) hb0
      clear hX d0
      refine openGoal ?_
      go_wp2_with fail
      exact bodyPost_ret (results_DT rfl _ _ w.heap.size Z32 rfl dX.out) rfl ⟨by rw [HX.out]; rfl, bX.out⟩
    · obtain ⟨m, rfl⟩ : ∃ m : Nat, n = m := ⟨n.toNat, by omega⟩
      have HX : Hid (rootOut m es = (rootP (es.take m), 0)) := by
        show rootOut m es = _
        unfold rootOut; rw [if_neg (by omega), Int.toNat_natCast]
      have hsl := fun W => eslice_nil ep es.length ec m (by omega) hf hnil W
      go_enter Tryd.func46, Tryd.ntmps46
      go_wp2_with fail
      refine (troot_any m ep ec (es.take m) _ (hT.below hb0) ((HE.out.front m (by omega)).below hb0)).mono ?_
      rintro e w1 ⟨rfl, b1⟩
      have d1 : Hid (Dg w1 w.heap.size Z32) := d0.out.next b1
      have B1 : Below w.heap.size w w1 := hb0.trans (b1.mono (by simp))
      obtain ⟨hl, _⟩ := rootP_ok (es.take m)
      clear b1 d0 hsl hc
      obtain ⟨D, hD⟩ : ∃ D, rootP (es.take m) = D := ⟨_, rfl⟩
      rw [hD] at hl HX ⊢
      clear hD
      go_wp2_with (first
        | (with_reducible refine atStore 25 ?_
           refine store_D rfl _ _ rfl w.heap.size D rfl rfl Z32 d1.out hl ?_
           intro X hX
           refine hideGoal ?_))
      have dX : Hid (Dg X w.heap.size D) := hX.dg hl
      have bX : Hid (Below w.heap.size w X) := hX.below _ _ (Nat.le_refl _) B1
      clear hX d1 B1
      refine openGoal ?_
      go_wp2_with fail
      exact bodyPost_ret (results_DT rfl _ _ w.heap.size D rfl dX.out) rfl ⟨by rw [HX.out]; rfl, bX.out⟩
end Go.Proofs.YtcmjlhcpoajbkaaDoor
namespace Go.Proofs.YtcmjlhcpoajbkaaDoor
set_option maxRecDepth 10000
set_option linter.unusedSimpArgs false
open Go.RowKit
/-- Nothing that stood has changed, but what X names. -/
structure Kp (X : Nat → Prop) (w w' : World) : Prop where
  os : w'.os = w.os
  tape : w'.tape = w.tape
  output : w'.output = w.output
  size : w.heap.size ≤ w'.heap.size
  block : ∀ k, k < w.heap.size → ¬ X k → w'.heap[k]? = w.heap[k]?
theorem Kp.below {X : Nat → Prop} {w0 w w' : World} {B : Nat} (h : Kp X w w') (hX : ∀ k, X k → B ≤ k) (hB : B ≤ w.heap.size) (hb : Below B w0 w) : Below B w0 w' :=
  ⟨h.os.trans hb.os, h.tape.trans hb.tape, h.output.trans hb.output, Nat.le_trans hb.size h.size, fun k hk => (h.block k (by omega) (fun hx => by have := hX k hx; omega)).trans (hb.block k hk)⟩
theorem kp_of {B : Nat} {w w' : World} (h : Below B w w') (hB : B = w.heap.size) : Kp (fun _ => False) w w' :=
  ⟨h.os, h.tape, h.output, h.size, fun k hk _ => h.block k (by omega)⟩
theorem In8.same {w w' : World} {p : Option Addr} {n c : Nat} {xs : List Int} (h : In8 w p n c xs) (hs : w.heap.size ≤ w'.heap.size) (hp : ∀ ad, p = some ad → ad.block < w.heap.size → w'.heap[ad.block]? = w.heap[ad.block]?) : In8 w' p n c xs :=
  ⟨h.len, h.bytes, h.fits, h.room, h.small, fun h0 => by
    obtain ⟨b, o, rfl, hl, hc⟩ := h.lies h0
    exact ⟨b, o, rfl, Nat.lt_of_lt_of_le hl hs, fun j hj => by rw [World.cell?_of_block (w := w) (a := ⟨b, o + j, none⟩) (hp ⟨b, o, none⟩ rfl hl)]; exact hc j hj⟩⟩
/-- A log, with what is its own. -/
structure LogAt (w : World) (B g : Nat) (ev : Value) (key : List Int) (es : List (List Int)) : Prop where
  blk : ∃ kp kn kc, w.heap[g]? = some (.cells #[.slice kp kn kc, ev] 116) ∧ In8 w kp kn kc key ∧ ∀ ad, kp = some ad → B ≤ ad.block ∧ ad.block < w.heap.size ∧ ad.block ≠ g ∧ ev.ownBlock ≠ some ad.block
  base : B ≤ g
  apart : ev.ownBlock ≠ some g
  own : ∃ vs, w.ownsRow B 22 1 ev es.length vs ∧ ∀ i, i < es.length → ∃ p n c, vs[i]? = some (.slice p n c) ∧ In8 w p n c (es.getD i []) ∧ n ≤ 300 ∧ ∀ ad, p = some ad → B ≤ ad.block ∧ ad.block < w.heap.size ∧ ad.block ≠ g ∧ ev.ownBlock ≠ some ad.block
  few : es.length ≤ 64
theorem LogAt.lt {w : World} {B g : Nat} {ev : Value} {key : List Int} {es : List (List Int)} (h : LogAt w B g ev key es) : g < w.heap.size := by
  obtain ⟨kp, kn, kc, h1, _⟩ := h.blk
  exact row_lt h1
theorem LogAt.rowlt {w : World} {B g : Nat} {ev : Value} {key : List Int} {es : List (List Int)} (h : LogAt w B g ev key es) : ∀ k, ev.ownBlock = some k → B ≤ k ∧ k < w.heap.size := by
  obtain ⟨vs, h1, _⟩ := h.own
  exact h1.lt
/-- What changes neither its block nor its row leaves a log as it is. -/
theorem LogAt.kp {X : Nat → Prop} {w w' : World} {B g : Nat} {ev : Value} {key : List Int} {es : List (List Int)} (h : LogAt w B g ev key es) (hk : Kp X w w') (hX : ∀ k, X k → k < B) : LogAt w' B g ev key es := by
  have hsame : ∀ k, B ≤ k → k < w.heap.size → w'.heap[k]? = w.heap[k]? := fun k h1 h2 => hk.block k h2 (fun hx => by have := hX k hx; omega)
  obtain ⟨kp, kn, kc, h1, h2, h3⟩ := h.blk
  obtain ⟨vs, h4, h5⟩ := h.own
  refine ⟨⟨kp, kn, kc, (hsame g h.base h.lt).trans h1, h2.same hk.size (fun ad ha hl => hsame _ (h3 ad ha).1 hl), fun ad ha => ?_⟩, h.base, h.apart, ⟨vs, ?_, fun i hi => ?_⟩, h.few⟩
  · obtain ⟨a, b, c, d⟩ := h3 ad ha
    exact ⟨a, Nat.lt_of_lt_of_le b hk.size, c, d⟩
  · obtain ⟨e1, e2 | ⟨r, cap, cur, hv, hr, hh, rest⟩⟩ := h4
    · exact ⟨e1, .inl e2⟩
    · exact ⟨e1, .inr ⟨r, cap, cur, hv, hr, (hsame r hr (row_lt hh)).trans hh, rest⟩⟩
  · obtain ⟨p, n, c, e1, e2, e3, e4⟩ := h5 i hi
    refine ⟨p, n, c, e1, e2.same hk.size (fun ad ha hl => hsame _ (e4 ad ha).1 hl), e3, fun ad ha => ?_⟩
    obtain ⟨a, b, c', d⟩ := e4 ad ha
    exact ⟨a, Nat.lt_of_lt_of_le b hk.size, c', d⟩
theorem LogAt.below {w w' : World} {B g : Nat} {ev : Value} {key : List Int} {es : List (List Int)} (h : LogAt w B g ev key es) (hb : Below w.heap.size w w') : LogAt w' B g ev key es :=
  h.kp (kp_of hb rfl) (fun _ hx => False.elim hx)
theorem LogAt.read {w : World} {B g : Nat} {ev : Value} {key : List Int} {es : List (List Int)} (h : LogAt w B g ev key es) : LogR w g key es := by
  obtain ⟨kp, kn, kc, h1, h2, _⟩ := h.blk
  obtain ⟨vs, h4, h5⟩ := h.own
  have c0 : w.cell? ⟨g, 0, none⟩ = some (.slice kp kn kc) := by rw [cell_of_row _ _ _ _ _ _ h1]; rfl
  have c1 : w.cell? ⟨g, 1, none⟩ = some ev := by rw [cell_of_row _ _ _ _ _ _ h1]; rfl
  refine ⟨⟨kp, kn, kc, c0, h2⟩, ?_, h.few⟩
  obtain ⟨e1, ⟨rfl, e2⟩ | ⟨r, cap, cur, rfl, hr, hh, hc, hm, hs, ht⟩⟩ := h4
  · rw [e2]
    exact ⟨none, 0, c1, ⟨e2, by omega, by omega, fun h0 => by omega⟩, fun _ => rfl⟩
  · refine ⟨some ⟨r, 0, none⟩, cap, c1, ⟨rfl, hc, by unfold maxLen at hm; omega, fun _ => ⟨r, 0, rfl, row_lt hh, fun i hi => ?_⟩⟩, fun h0 => by cases h0⟩
    obtain ⟨p, n, c, e3, e4, e5, _⟩ := h5 i hi
    refine ⟨p, n, c, ?_, e4, e5⟩
    rw [Nat.zero_add, cell_of_row _ _ _ _ _ _ hh]
    have e := congrArg (fun z : List Value => z[i]?) ht
    simp only [Nat.mul_one, List.getElem?_take, if_pos hi] at e
    rw [← Array.getElem?_toList, e, e3]
set_option maxHeartbeats 1000000 in
theorem new_any (w : World) (p : Option Addr) (n c : Nat) (xs : List Int) (hi : In8 w p n c xs) (hn : n ≤ 100) :
    Calls Tryd.prog 31 #[.slice p n c] w fun e w' => ∃ g, e = .returned (.tuple #[.pointer (some ⟨g, 0, none⟩), .int .i64 0]) ∧ LogAt w' w.heap.size g (.slice none 0 0) xs [] ∧ Below w.heap.size w w' := by
  go_enter Tryd.func31, Tryd.ntmps31
  go_wp2_with fail
  refine (clone_any w p n c xs hi).mono ?_
  rintro e w1 ⟨p', c', rfl, b1, hi1, _, hfr, hin⟩
  have h1 := heapN w1 (.cells #[.slice p' n c', .slice none 0 0] 116) _ rfl
  have B1 : Below w.heap.size w (w1.alloc (.cells #[.slice p' n c', .slice none 0 0] 116)) := b1.alloc b1.size _
  have b2 : Below w1.heap.size w1 (w1.alloc (.cells #[.slice p' n c', .slice none 0 0] 116)) := (Below.refl _ _).alloc (Nat.le_refl _) _
  have HL : Hid (LogAt (w1.alloc (.cells #[.slice p' n c', .slice none 0 0] 116)) w.heap.size w1.heap.size (.slice none 0 0) xs []) := by
    refine ⟨⟨p', n, c', h1, hi1.below b2, fun ad ha => ?_⟩, b1.size, by simp [Value.ownBlock], ⟨[], ⟨rfl, .inl ⟨rfl, rfl⟩⟩, fun i hi => by simp at hi⟩, by simp⟩
    subst ha
    have hlt := hin ad rfl
    exact ⟨hfr ad rfl, by simp; omega, by omega, by simp [Value.ownBlock]⟩
  clear h1 hi1 b2
  go_wp2_with fail
  go_ret2
  exact ⟨_, rfl, HL.out, B1⟩
theorem Kp.trans {X : Nat → Prop} {w w1 w2 : World} (h : Kp (fun _ => False) w w1) (h' : Kp X w1 w2) : Kp X w w2 :=
  ⟨h'.os.trans h.os, h'.tape.trans h.tape, h'.output.trans h.output, Nat.le_trans h.size h'.size, fun k hk hx => (h'.block k (Nat.lt_of_lt_of_le hk h.size) hx).trans (h.block k hk (fun z => z))⟩
theorem two_setCell {w : World} {b : Nat} {v v' u : Value} {t : TypeId} (h : w.heap[b]? = some (.cells #[v, v'] t (0, 0))) : (w.setCell ⟨b, 1, none⟩ u).heap[b]? = some (.cells #[v, u] t (0, 0)) := by
  have hlt := row_lt h
  have h' : w.heap[b] = .cells #[v, v'] t (0, 0) := by simpa [Array.getElem?_eq_getElem hlt] using h
  show (w.heap.modify b _)[b]? = _
  rw [Array.getElem?_eq_getElem (by simpa using hlt), Array.getElem_modify_self, h']
  rfl
theorem LogAt.shape {w : World} {B g : Nat} {ev : Value} {key : List Int} {es : List (List Int)} (h : LogAt w B g ev key es) : ∃ ep ec, ev = .slice ep es.length ec := by
  obtain ⟨vs, ⟨e1, ⟨rfl, e2⟩ | ⟨r, cap, cur, rfl, _⟩⟩, _⟩ := h.own
  · exact ⟨none, 0, by rw [e2]⟩
  · exact ⟨_, _, rfl⟩
theorem LogAt.cell {w : World} {B g : Nat} {ev : Value} {key : List Int} {es : List (List Int)} (h : LogAt w B g ev key es) : w.cell? ⟨g, 1, none⟩ = some ev := by
  obtain ⟨kp, kn, kc, h1, _⟩ := h.blk
  rw [cell_of_row _ _ _ _ _ _ h1]; rfl
/-- What append does to a log's entries, and the store behind it. -/
theorem app_world (w : World) (B g : Nat) (ev : Value) (key : List Int) (es : List (List Int)) (hL : LogAt w B g ev key es) (g1 : Nat) (p : Option Addr) (n c : Nat) (xs : List Int) (h2 : w.heap[g1]? = some (.cells #[.slice p n c] 22)) (hi : In8 w p n c xs) (hn : n ≤ 300) (hlen : es.length < 64)
    (hfr : ∀ ad, p = some ad → B ≤ ad.block ∧ ad.block < w.heap.size ∧ ad.block ≠ g ∧ ev.ownBlock ≠ some ad.block) :
    ∃ ga cap w3, (Builtin.append_ #[47, 47] 47 #[ev, .slice (some ⟨g1, 0, none⟩) 1 1]).run Tryd.prog w = .ok (.slice (some ⟨ga, 0, none⟩) (es.length + 1) cap) w3 ∧
      w3.cell? ⟨g, 1, none⟩ = some ev ∧ w3.frozen? ⟨g, 1, none⟩ = false ∧
      LogAt (w3.setCell ⟨g, 1, none⟩ (.slice (some ⟨ga, 0, none⟩) (es.length + 1) cap)) B g (.slice (some ⟨ga, 0, none⟩) (es.length + 1) cap) key (es ++ [xs]) ∧
      Kp (fun k => k = g ∨ ev.ownBlock = some k) w (w3.setCell ⟨g, 1, none⟩ (.slice (some ⟨ga, 0, none⟩) (es.length + 1) cap)) := by
  obtain ⟨i22, hi22, hz, hsz, hby⟩ := info22'
  obtain ⟨kp, kn, kc, hk1, hk2, hk3⟩ := hL.blk
  obtain ⟨vs, ho, hv⟩ := hL.own
  have hgl := hL.lt
  have hB : B ≤ w.heap.size := Nat.le_trans hL.base (Nat.le_of_lt hgl)
  obtain ⟨ga, cap, w3, hr, ho3, hgr, hwh, hga⟩ := run_append_lies (P := Tryd.prog) w 47 47 B 22 i22 (.slice none 0 0) 1 24 Tryd.underlying47 hi22 hz hsz hby rfl (by omega) ev es.length vs ho
    ⟨g1, 0, none⟩ 1 1 [.slice p n c] rfl (fun j u hu => by
      have e : j = 0 := by
        have := (List.getElem?_eq_some_iff.1 hu).1
        simp at this; omega
      subst e
      rw [addr_add, cell_of_row _ _ _ _ _ _ h2]
      simpa using hu) (fun u hu => by simp only [List.mem_singleton] at hu; subst hu; rfl) (by omega) (by unfold maxLen; omega) (by omega) hB _ rfl
  have hne : ga ≠ g := by
    rcases hwh with h | h
    · exact fun e => hL.apart (by rw [h, e])
    · omega
  have e3 : w3.heap[g]? = w.heap[g]? := hgr.block g hgl (fun e => hL.apart e.symm)
  have hsame : ∀ k, k < w.heap.size → k ≠ g → ev.ownBlock ≠ some k → (w3.setCell ⟨g, 1, none⟩ (.slice (some ⟨ga, 0, none⟩) (es.length + 1) cap)).heap[k]? = w.heap[k]? := fun k h1 h2 h3 => by
    rw [Below.heap_setCell _ _ _ _ h2]
    exact hgr.block k h1 (fun e => h3 e.symm)
  have hsize : w.heap.size ≤ (w3.setCell ⟨g, 1, none⟩ (.slice (some ⟨ga, 0, none⟩) (es.length + 1) cap)).heap.size := by simpa [World.setCell] using hgr.size
  have hnew : ∀ ad : Addr, ad.block < w.heap.size → ev.ownBlock ≠ some ad.block → (Value.slice (some ⟨ga, 0, none⟩) (es.length + 1) cap).ownBlock ≠ some ad.block := fun ad h1 h2 => by
    simp only [Value.ownBlock, ne_eq, Option.some.injEq]
    rcases hwh with h | h
    · exact fun e => h2 (by rw [h, e])
    · omega
  refine ⟨ga, cap, w3, hr, ?_, ?_, ⟨⟨kp, kn, kc, two_setCell (e3.trans hk1), ?_, fun ad ha => ?_⟩, hL.base, ?_, ⟨vs ++ [.slice p n c], ?_, fun i hi' => ?_⟩, ?_⟩, ?_⟩
  · rw [World.cell?_of_block (w := w) e3]; exact hL.cell
  · rw [World.frozen?_of_block (w := w) e3]; exact frozen_of_row w g 1 _ _ hk1
  · exact hk2.same hsize (fun ad ha hl => hsame _ hl (hk3 ad ha).2.2.1 (hk3 ad ha).2.2.2)
  · obtain ⟨a, b, c', d⟩ := hk3 ad ha
    exact ⟨a, Nat.lt_of_lt_of_le b hsize, c', hnew ad b d⟩
  · simpa [Value.ownBlock] using hne
  · rw [List.length_append]
    exact ownsRow_setCell_other ho3 (by simpa [Value.ownBlock] using hne) _
  · have hvl : vs.length = es.length := by have := ho.1; simpa using this
    rw [List.length_append, List.length_singleton] at hi'
    rcases Nat.lt_or_ge i es.length with h | h
    · obtain ⟨q, m, d, e1, e2, e4, e5⟩ := hv i h
      refine ⟨q, m, d, by rw [List.getElem?_append_left (by omega)]; exact e1, ?_, e4, fun ad ha => ?_⟩
      · have e : (es ++ [xs]).getD i [] = es.getD i [] := by simp [List.getD, List.getElem?_append_left h]
        rw [e]
        exact e2.same hsize (fun ad ha hl => hsame _ hl (e5 ad ha).2.2.1 (e5 ad ha).2.2.2)
      · obtain ⟨a, b, c', d'⟩ := e5 ad ha
        exact ⟨a, Nat.lt_of_lt_of_le b hsize, c', hnew ad b d'⟩
    · have e0 : i = es.length := by omega
      subst e0
      refine ⟨p, n, c, by rw [← hvl]; simp, ?_, hn, fun ad ha => ?_⟩
      · have e : (es ++ [xs]).getD es.length [] = xs := by simp [List.getD]
        rw [e]
        exact hi.same hsize (fun ad ha hl => hsame _ hl (hfr ad ha).2.2.1 (hfr ad ha).2.2.2)
      · obtain ⟨a, b, c', d'⟩ := hfr ad ha
        exact ⟨a, Nat.lt_of_lt_of_le b hsize, c', hnew ad b d'⟩
  · simp; omega
  · exact ⟨hgr.os, hgr.tape, hgr.output, hsize, fun k hk hx => hsame k hk (fun e => hx (.inl e)) (fun e => hx (.inr e))⟩
theorem size_drew (w : World) : w.drew.heap.size = w.heap.size := rfl
set_option maxHeartbeats 4000000 in
theorem append_any (w : World) (B g : Nat) (ev : Value) (key : List Int) (es : List (List Int)) (p : Option Addr) (n c : Nat) (xs : List Int) (hL : LogAt w B g ev key es) (hi : In8 w p n c xs) (hn : n ≤ 300) (hlen : es.length < 64) :
    Calls Tryd.prog 50 #[.pointer (some ⟨g, 0, none⟩), .slice p n c] w fun e w' => ∃ ev', e = .returned (.tuple #[.int .i64 (es.length : Int), .int .i64 0]) ∧ LogAt w' B g ev' key (es ++ [xs]) ∧ Kp (fun k => k = g ∨ ev.ownBlock = some k) w w' := by
  obtain ⟨ep, ec, rfl⟩ := hL.shape
  have hc := hL.cell
  have hcd : w.drew.cell? ⟨g, 1, none⟩ = some (.slice ep es.length ec) := hc
  have hgl := hL.lt
  have hbs := hL.base
  have hb0 : Below w.heap.size w w.drew := (Below.refl _ _).drew
  go_enter Tryd.func50, Tryd.ntmps50
  go_wp2_with fail
  refine wp_region_noPanic ?_
  refine wp_region_held (S := fun _ => True) follows ?_
  refine wpAnyH_take (i := 0) (v := .pointer (some ⟨g, 0, none⟩)) rfl (by kernel_rfl) (by kernel_rfl) (by kernel_rfl) (fun _ _ _ h => h) (.inl ⟨rfl, fun W _ => by go_simp⟩) trivial ?_
  simp only [Act.put, List.getElem_toArray, List.getElem_cons_zero, List.getElem_cons_succ, List.setIfInBounds_toArray, List.set_cons_zero, List.set_cons_succ]
  refine wpAnyH_take (i := 1) (v := .pointer (some ⟨g, 0, none⟩)) rfl (by kernel_rfl) (by kernel_rfl) (by kernel_rfl) (fun _ _ _ h => h) (.inl ⟨rfl, fun W _ => by go_simp⟩) trivial ?_
  simp only [Act.put, List.getElem_toArray, List.getElem_cons_zero, List.getElem_cons_succ, List.setIfInBounds_toArray, List.set_cons_zero, List.set_cons_succ]
  refine wpAnyH_take (i := 2) (v := .pointer (some ⟨g, 0, none⟩)) rfl (by kernel_rfl) (by kernel_rfl) (by kernel_rfl) (fun _ _ _ h => h) (.inl ⟨rfl, fun W _ => by go_simp⟩) trivial ?_
  simp only [Act.put, List.getElem_toArray, List.getElem_cons_zero, List.getElem_cons_succ, List.setIfInBounds_toArray, List.set_cons_zero, List.set_cons_succ]
  refine wpAnyH_take (i := 3) (v := .pointer (some ⟨g, 1, none⟩)) rfl (by kernel_rfl) (by kernel_rfl) (by kernel_rfl) (fun _ _ _ h => h) (.inl ⟨rfl, fun W _ => by go_simp⟩) trivial ?_
  simp only [Act.put, List.getElem_toArray, List.getElem_cons_zero, List.getElem_cons_succ, List.setIfInBounds_toArray, List.set_cons_zero, List.set_cons_succ]
  refine wpAnyH_take (i := 5) (v := .slice p n c) rfl (by kernel_rfl) (by kernel_rfl) (by kernel_rfl) (fun _ _ _ h => h) (.inl ⟨rfl, fun W _ => by go_simp⟩) trivial ?_
  simp only [Act.put, List.getElem_toArray, List.getElem_cons_zero, List.getElem_cons_succ, List.setIfInBounds_toArray, List.set_cons_zero, List.set_cons_succ]
  refine relist #[true, true, true, true, false, true, false, false, false, false, false, false] (by kernel_rfl) ?_
  refine any_two (i := 4) (j := 6) (by kernel_rfl) ?_ ?_
  · refine wpOp_val (v := .slice ep es.length ec) (w' := w.drew) rfl rfl (by have e := hcd; go_simp) ?_
    refine ⟨trivial, ?_⟩
    simp only [Act.put, List.getElem_toArray, List.getElem_cons_zero, List.getElem_cons_succ, List.setIfInBounds_toArray, List.set_cons_zero, List.set_cons_succ]
    refine relist #[true, true, true, true, true, true, false, false, false, false, false, false] (by kernel_rfl) ?_
    refine any_one (i := 6) (by kernel_rfl) ?_
    refine wpOp_call (f := 69) (args := #[.slice p n c]) rfl rfl (by go_simp) ?_
    refine (clone_any _ p n c xs (hi.below hb0)).mono ?_
    rintro e w1 ⟨p', c', rfl, b1, hi1, _, hfr, hin⟩
    have hs1 : w.heap.size ≤ w1.heap.size := b1.size
    have b1' : Below w.heap.size w w1 := hb0.trans b1
    have hc1 : w1.cell? ⟨g, 1, none⟩ = some (.slice ep es.length ec) := by rw [b1'.cell (p := ⟨g, 1, none⟩) hgl]; exact hc
    refine ⟨_, rfl, trivial, ?_⟩
    simp only [Act.put, List.getElem_toArray, List.getElem_cons_zero, List.getElem_cons_succ, List.setIfInBounds_toArray, List.set_cons_zero, List.set_cons_succ]
    refine relist #[true, true, true, true, true, true, true, false, false, false, false, false] (by kernel_rfl) ?_
    refine any_one (i := 7) (by kernel_rfl) ?_
    refine wpOp_val (v := .slice (some ⟨w1.heap.size, 0, none⟩) 1 1) (w' := w1.alloc (.cells #[.slice p' n c'] 22)) rfl rfl (by go_simp) ?_
    have b12 : Below w1.heap.size w1 (w1.alloc (.cells #[.slice p' n c'] 22)) := (Below.refl _ _).alloc (Nat.le_refl _) _
    have b2 : Below w.heap.size w (w1.alloc (.cells #[.slice p' n c'] 22)) := b1'.alloc hs1 _
    have hc2 : (w1.alloc (.cells #[.slice p' n c'] 22)).cell? ⟨g, 1, none⟩ = some (.slice ep es.length ec) := by rw [b2.cell (p := ⟨g, 1, none⟩) hgl]; exact hc
    have h2 := heapN w1 (.cells #[.slice p' n c'] 22) _ rfl
    have hi2 := hi1.below b12
    have hs2 : w1.heap.size ≤ (w1.alloc (.cells #[.slice p' n c'] 22)).heap.size := b12.size
    refine ⟨trivial, ?_⟩
    simp only [Act.put, List.getElem_toArray, List.getElem_cons_zero, List.getElem_cons_succ, List.setIfInBounds_toArray, List.set_cons_zero, List.set_cons_succ]
    generalize w1.alloc (.cells #[.slice p' n c'] 22) = w2 at *
    generalize w1.heap.size = g1 at *
    refine relist #[true, true, true, true, true, true, true, true, false, false, false, false] (by kernel_rfl) ?_
    refine any_one (i := 8) (by kernel_rfl) ?_
    obtain ⟨ga, cap, w3, hr, hc3, hf3, hL4, hk4⟩ := app_world w2 B g _ key es (hL.below b2) g1 p' n c' xs h2 hi2 hn hlen (fun ad ha => ⟨by have := hfr ad ha; rw [size_drew] at this; omega, by have := hin ad ha; omega, by have := hfr ad ha; rw [size_drew] at this; omega, fun e => by have h1 := (hL.rowlt _ e).2; have := hfr ad ha; rw [size_drew] at this; omega⟩)
    refine wpOp_app rfl rfl (.tmp 27) (.tmp 30) 47 47 rfl (.slice ep es.length ec) (.slice (some ⟨g1, 0, none⟩) 1 1) rfl rfl hr ?_
    refine ⟨trivial, ?_⟩
    simp only [Act.put, List.getElem_toArray, List.getElem_cons_zero, List.getElem_cons_succ, List.setIfInBounds_toArray, List.set_cons_zero, List.set_cons_succ]
    refine wpAnyH_take (i := 9) (v := .pointer (some ⟨g, 0, none⟩)) rfl (by kernel_rfl) (by kernel_rfl) (by kernel_rfl) (fun _ _ _ h => h) (.inl ⟨rfl, fun W _ => by go_simp⟩) trivial ?_
    simp only [Act.put, List.getElem_toArray, List.getElem_cons_zero, List.getElem_cons_succ, List.setIfInBounds_toArray, List.set_cons_zero, List.set_cons_succ]
    refine wpAnyH_take (i := 10) (v := .pointer (some ⟨g, 1, none⟩)) rfl (by kernel_rfl) (by kernel_rfl) (by kernel_rfl) (fun _ _ _ h => h) (.inl ⟨rfl, fun W _ => by go_simp⟩) trivial ?_
    simp only [Act.put, List.getElem_toArray, List.getElem_cons_zero, List.getElem_cons_succ, List.setIfInBounds_toArray, List.set_cons_zero, List.set_cons_succ]
    refine relist #[true, true, true, true, true, true, true, true, true, true, true, false] (by kernel_rfl) ?_
    refine any_one (i := 11) (by kernel_rfl) ?_
    refine wpOp_skip (w' := w3.setCell ⟨g, 1, none⟩ (.slice (some ⟨ga, 0, none⟩) (es.length + 1) cap)) rfl rfl (by go_simp) ?_
    refine ⟨trivial, ?_⟩
    simp only [Act.put, List.getElem_toArray, List.getElem_cons_zero, List.getElem_cons_succ, List.setIfInBounds_toArray, List.set_cons_zero, List.set_cons_succ]
    refine wpAnyH_done (by kernel_rfl) ?_ _
    refine NoPanic.normal ?_
    have HK : Hid (Kp (fun k => k = g ∨ (Value.slice ep es.length ec).ownBlock = some k) w (w3.setCell ⟨g, 1, none⟩ (.slice (some ⟨ga, 0, none⟩) (es.length + 1) cap))) := (kp_of b2 rfl).trans hk4
    have HL : Hid (LogAt (w3.setCell ⟨g, 1, none⟩ (.slice (some ⟨ga, 0, none⟩) (es.length + 1) cap)) B g (.slice (some ⟨ga, 0, none⟩) (es.length + 1) cap) key (es ++ [xs])) := hL4
    clear hc hcd hc1 hc2 hc3 hf3 b1 b1' b2 b12 hk4 hL4 hr h2 hi2 hi1
    generalize w3.setCell ⟨g, 1, none⟩ (.slice (some ⟨ga, 0, none⟩) (es.length + 1) cap) = w4 at *
    go_wp2_with fail
    go_ret2
    exact ⟨_, rfl, HL.out, HK.out⟩
  · refine wpOp_call (f := 69) (args := #[.slice p n c]) rfl rfl (by go_simp) ?_
    refine (clone_any _ p n c xs (hi.below hb0)).mono ?_
    rintro e w1 ⟨p', c', rfl, b1, hi1, _, hfr, hin⟩
    have hs1 : w.heap.size ≤ w1.heap.size := b1.size
    have b1' : Below w.heap.size w w1 := hb0.trans b1
    have hc1 : w1.cell? ⟨g, 1, none⟩ = some (.slice ep es.length ec) := by rw [b1'.cell (p := ⟨g, 1, none⟩) hgl]; exact hc
    refine ⟨_, rfl, trivial, ?_⟩
    simp only [Act.put, List.getElem_toArray, List.getElem_cons_zero, List.getElem_cons_succ, List.setIfInBounds_toArray, List.set_cons_zero, List.set_cons_succ]
    refine relist #[true, true, true, true, false, true, true, false, false, false, false, false] (by kernel_rfl) ?_
    refine any_two (i := 4) (j := 7) (by kernel_rfl) ?_ ?_
    · refine wpOp_val (v := .slice ep es.length ec) (w' := w1) rfl rfl (by have e := hc1; go_simp) ?_
      refine ⟨trivial, ?_⟩
      simp only [Act.put, List.getElem_toArray, List.getElem_cons_zero, List.getElem_cons_succ, List.setIfInBounds_toArray, List.set_cons_zero, List.set_cons_succ]
      refine relist #[true, true, true, true, true, true, true, false, false, false, false, false] (by kernel_rfl) ?_
      refine any_one (i := 7) (by kernel_rfl) ?_
      refine wpOp_val (v := .slice (some ⟨w1.heap.size, 0, none⟩) 1 1) (w' := w1.alloc (.cells #[.slice p' n c'] 22)) rfl rfl (by go_simp) ?_
      have b12 : Below w1.heap.size w1 (w1.alloc (.cells #[.slice p' n c'] 22)) := (Below.refl _ _).alloc (Nat.le_refl _) _
      have b2 : Below w.heap.size w (w1.alloc (.cells #[.slice p' n c'] 22)) := b1'.alloc hs1 _
      have hc2 : (w1.alloc (.cells #[.slice p' n c'] 22)).cell? ⟨g, 1, none⟩ = some (.slice ep es.length ec) := by rw [b2.cell (p := ⟨g, 1, none⟩) hgl]; exact hc
      have h2 := heapN w1 (.cells #[.slice p' n c'] 22) _ rfl
      have hi2 := hi1.below b12
      have hs2 : w1.heap.size ≤ (w1.alloc (.cells #[.slice p' n c'] 22)).heap.size := b12.size
      refine ⟨trivial, ?_⟩
      simp only [Act.put, List.getElem_toArray, List.getElem_cons_zero, List.getElem_cons_succ, List.setIfInBounds_toArray, List.set_cons_zero, List.set_cons_succ]
      generalize w1.alloc (.cells #[.slice p' n c'] 22) = w2 at *
      generalize w1.heap.size = g1 at *
      refine relist #[true, true, true, true, true, true, true, true, false, false, false, false] (by kernel_rfl) ?_
      refine any_one (i := 8) (by kernel_rfl) ?_
      obtain ⟨ga, cap, w3, hr, hc3, hf3, hL4, hk4⟩ := app_world w2 B g _ key es (hL.below b2) g1 p' n c' xs h2 hi2 hn hlen (fun ad ha => ⟨by have := hfr ad ha; rw [size_drew] at this; omega, by have := hin ad ha; omega, by have := hfr ad ha; rw [size_drew] at this; omega, fun e => by have h1 := (hL.rowlt _ e).2; have := hfr ad ha; rw [size_drew] at this; omega⟩)
      refine wpOp_app rfl rfl (.tmp 27) (.tmp 30) 47 47 rfl (.slice ep es.length ec) (.slice (some ⟨g1, 0, none⟩) 1 1) rfl rfl hr ?_
      refine ⟨trivial, ?_⟩
      simp only [Act.put, List.getElem_toArray, List.getElem_cons_zero, List.getElem_cons_succ, List.setIfInBounds_toArray, List.set_cons_zero, List.set_cons_succ]
      refine wpAnyH_take (i := 9) (v := .pointer (some ⟨g, 0, none⟩)) rfl (by kernel_rfl) (by kernel_rfl) (by kernel_rfl) (fun _ _ _ h => h) (.inl ⟨rfl, fun W _ => by go_simp⟩) trivial ?_
      simp only [Act.put, List.getElem_toArray, List.getElem_cons_zero, List.getElem_cons_succ, List.setIfInBounds_toArray, List.set_cons_zero, List.set_cons_succ]
      refine wpAnyH_take (i := 10) (v := .pointer (some ⟨g, 1, none⟩)) rfl (by kernel_rfl) (by kernel_rfl) (by kernel_rfl) (fun _ _ _ h => h) (.inl ⟨rfl, fun W _ => by go_simp⟩) trivial ?_
      simp only [Act.put, List.getElem_toArray, List.getElem_cons_zero, List.getElem_cons_succ, List.setIfInBounds_toArray, List.set_cons_zero, List.set_cons_succ]
      refine relist #[true, true, true, true, true, true, true, true, true, true, true, false] (by kernel_rfl) ?_
      refine any_one (i := 11) (by kernel_rfl) ?_
      refine wpOp_skip (w' := w3.setCell ⟨g, 1, none⟩ (.slice (some ⟨ga, 0, none⟩) (es.length + 1) cap)) rfl rfl (by go_simp) ?_
      refine ⟨trivial, ?_⟩
      simp only [Act.put, List.getElem_toArray, List.getElem_cons_zero, List.getElem_cons_succ, List.setIfInBounds_toArray, List.set_cons_zero, List.set_cons_succ]
      refine wpAnyH_done (by kernel_rfl) ?_ _
      refine NoPanic.normal ?_
      have HK : Hid (Kp (fun k => k = g ∨ (Value.slice ep es.length ec).ownBlock = some k) w (w3.setCell ⟨g, 1, none⟩ (.slice (some ⟨ga, 0, none⟩) (es.length + 1) cap))) := (kp_of b2 rfl).trans hk4
      have HL : Hid (LogAt (w3.setCell ⟨g, 1, none⟩ (.slice (some ⟨ga, 0, none⟩) (es.length + 1) cap)) B g (.slice (some ⟨ga, 0, none⟩) (es.length + 1) cap) key (es ++ [xs])) := hL4
      clear hc hcd hc1 hc2 hc3 hf3 b1 b1' b2 b12 hk4 hL4 hr h2 hi2 hi1
      generalize w3.setCell ⟨g, 1, none⟩ (.slice (some ⟨ga, 0, none⟩) (es.length + 1) cap) = w4 at *
      go_wp2_with fail
      go_ret2
      exact ⟨_, rfl, HL.out, HK.out⟩
    · refine wpOp_val (v := .slice (some ⟨w1.heap.size, 0, none⟩) 1 1) (w' := w1.alloc (.cells #[.slice p' n c'] 22)) rfl rfl (by go_simp) ?_
      have b12 : Below w1.heap.size w1 (w1.alloc (.cells #[.slice p' n c'] 22)) := (Below.refl _ _).alloc (Nat.le_refl _) _
      have b2 : Below w.heap.size w (w1.alloc (.cells #[.slice p' n c'] 22)) := b1'.alloc hs1 _
      have hc2 : (w1.alloc (.cells #[.slice p' n c'] 22)).cell? ⟨g, 1, none⟩ = some (.slice ep es.length ec) := by rw [b2.cell (p := ⟨g, 1, none⟩) hgl]; exact hc
      have h2 := heapN w1 (.cells #[.slice p' n c'] 22) _ rfl
      have hi2 := hi1.below b12
      have hs2 : w1.heap.size ≤ (w1.alloc (.cells #[.slice p' n c'] 22)).heap.size := b12.size
      refine ⟨trivial, ?_⟩
      simp only [Act.put, List.getElem_toArray, List.getElem_cons_zero, List.getElem_cons_succ, List.setIfInBounds_toArray, List.set_cons_zero, List.set_cons_succ]
      generalize w1.alloc (.cells #[.slice p' n c'] 22) = w2 at *
      generalize w1.heap.size = g1 at *
      refine relist #[true, true, true, true, false, true, true, true, false, false, false, false] (by kernel_rfl) ?_
      refine any_one (i := 4) (by kernel_rfl) ?_
      refine wpOp_val (v := .slice ep es.length ec) (w' := w2) rfl rfl (by have e := hc2; go_simp) ?_
      refine ⟨trivial, ?_⟩
      simp only [Act.put, List.getElem_toArray, List.getElem_cons_zero, List.getElem_cons_succ, List.setIfInBounds_toArray, List.set_cons_zero, List.set_cons_succ]
      refine relist #[true, true, true, true, true, true, true, true, false, false, false, false] (by kernel_rfl) ?_
      refine any_one (i := 8) (by kernel_rfl) ?_
      obtain ⟨ga, cap, w3, hr, hc3, hf3, hL4, hk4⟩ := app_world w2 B g _ key es (hL.below b2) g1 p' n c' xs h2 hi2 hn hlen (fun ad ha => ⟨by have := hfr ad ha; rw [size_drew] at this; omega, by have := hin ad ha; omega, by have := hfr ad ha; rw [size_drew] at this; omega, fun e => by have h1 := (hL.rowlt _ e).2; have := hfr ad ha; rw [size_drew] at this; omega⟩)
      refine wpOp_app rfl rfl (.tmp 27) (.tmp 30) 47 47 rfl (.slice ep es.length ec) (.slice (some ⟨g1, 0, none⟩) 1 1) rfl rfl hr ?_
      refine ⟨trivial, ?_⟩
      simp only [Act.put, List.getElem_toArray, List.getElem_cons_zero, List.getElem_cons_succ, List.setIfInBounds_toArray, List.set_cons_zero, List.set_cons_succ]
      refine wpAnyH_take (i := 9) (v := .pointer (some ⟨g, 0, none⟩)) rfl (by kernel_rfl) (by kernel_rfl) (by kernel_rfl) (fun _ _ _ h => h) (.inl ⟨rfl, fun W _ => by go_simp⟩) trivial ?_
      simp only [Act.put, List.getElem_toArray, List.getElem_cons_zero, List.getElem_cons_succ, List.setIfInBounds_toArray, List.set_cons_zero, List.set_cons_succ]
      refine wpAnyH_take (i := 10) (v := .pointer (some ⟨g, 1, none⟩)) rfl (by kernel_rfl) (by kernel_rfl) (by kernel_rfl) (fun _ _ _ h => h) (.inl ⟨rfl, fun W _ => by go_simp⟩) trivial ?_
      simp only [Act.put, List.getElem_toArray, List.getElem_cons_zero, List.getElem_cons_succ, List.setIfInBounds_toArray, List.set_cons_zero, List.set_cons_succ]
      refine relist #[true, true, true, true, true, true, true, true, true, true, true, false] (by kernel_rfl) ?_
      refine any_one (i := 11) (by kernel_rfl) ?_
      refine wpOp_skip (w' := w3.setCell ⟨g, 1, none⟩ (.slice (some ⟨ga, 0, none⟩) (es.length + 1) cap)) rfl rfl (by go_simp) ?_
      refine ⟨trivial, ?_⟩
      simp only [Act.put, List.getElem_toArray, List.getElem_cons_zero, List.getElem_cons_succ, List.setIfInBounds_toArray, List.set_cons_zero, List.set_cons_succ]
      refine wpAnyH_done (by kernel_rfl) ?_ _
      refine NoPanic.normal ?_
      have HK : Hid (Kp (fun k => k = g ∨ (Value.slice ep es.length ec).ownBlock = some k) w (w3.setCell ⟨g, 1, none⟩ (.slice (some ⟨ga, 0, none⟩) (es.length + 1) cap))) := (kp_of b2 rfl).trans hk4
      have HL : Hid (LogAt (w3.setCell ⟨g, 1, none⟩ (.slice (some ⟨ga, 0, none⟩) (es.length + 1) cap)) B g (.slice (some ⟨ga, 0, none⟩) (es.length + 1) cap) key (es ++ [xs])) := hL4
      clear hc hcd hc1 hc2 hc3 hf3 b1 b1' b2 b12 hk4 hL4 hr h2 hi2 hi1
      generalize w3.setCell ⟨g, 1, none⟩ (.slice (some ⟨ga, 0, none⟩) (es.length + 1) cap) = w4 at *
      go_wp2_with fail
      go_ret2
      exact ⟨_, rfl, HL.out, HK.out⟩
end Go.Proofs.YtcmjlhcpoajbkaaDoor
