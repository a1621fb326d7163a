import Derived.Test.YtcmjlhcpoajbkaaDoorQPt
import Derived.Test.YtcmjlhcpoajbkaaDoorQSg
import Derived.Test.YtcmjlhcpoajbkaaDoorQCl
namespace Go.Proofs.YtcmjlhcpoajbkaaDoor
set_option maxRecDepth 10000
set_option linter.unusedSimpArgs false
open Go.RowKit
/-- A log, as it is read. -/
structure LogR (w : World) (g : Nat) (key : List Int) (es : List (List Int)) : Prop where
  keyAt : ∃ kp kn kc, w.cell? ⟨g, 0, none⟩ = some (.slice kp kn kc) ∧ In8 w kp kn kc key
  entAt : ∃ ep ec, w.cell? ⟨g, 1, none⟩ = some (.slice ep es.length ec) ∧ E22 w ep es.length ec es ∧ (ep = none → ec = 0)
  few : es.length ≤ 64
theorem cell_alloc {w : World} {ad : Addr} {v : Value} (h : w.cell? ad = some v) (ob : Obj) : (w.alloc ob).cell? ad = some v := by
  rw [((Below.refl w.heap.size w).alloc (Nat.le_refl _) ob).cell (block_lt_of_cell h)]; exact h
theorem eslice_nil (p : Option Addr) (n c m : Nat) (hm : m ≤ n) (hn : n ≤ c) (hc : p = none → c = 0) (W : World) :
    (Instr.sliceAt 47 (.slice p n c) none (some (.int .i64 m)) none).run Tryd.prog W = .ok (.slice p m c) W := by
  cases p with
  | some ad => exact eslice_front ad n c m hm hn W
  | none =>
    have h0 := hc rfl
    subst h0
    have e1 : m = 0 := by omega
    have e2 : n = 0 := by omega
    subst e1 e2
    go_simp
def rootOut (n : Int) (es : List (List Int)) : List Int × Int := if n < 0 ∨ (es.length : Int) < n then (Z32, 1) else (rootP (es.take n.toNat), 0)
theorem rootOut_ok (n : Int) (es : List (List Int)) : (rootOut n es).1.length = 32 ∧ Bytes (rootOut n es).1 := by
  unfold rootOut
  split
  · exact ⟨rfl, Z32_bytes⟩
  · exact rootP_ok _
set_option maxHeartbeats 1000000 in
theorem logRoot_any (w : World) (g : Nat) (key : List Int) (es : List (List Int)) (n : Int) (hT : Tabs KS HS w) (hL : LogR w g key es) :
    Calls Tryd.prog 46 #[.pointer (some ⟨g, 0, none⟩), .int .i64 n] w fun e w' => e = .returned (.tuple #[.agg (A8 (rootOut n es).1), .int .i64 (rootOut n es).2]) ∧ Below w.heap.size w w' := by
  obtain ⟨_, ⟨ep, ec, hc1, hE, hnil⟩, hfew⟩ := hL
  have hb0 : Below w.heap.size w (w.alloc (.cells Z8x32 25)) := (Below.refl _ _).alloc (Nat.le_refl _) _
  have d0 : Hid (Dg (w.alloc (.cells Z8x32 25)) w.heap.size Z32) := Dg.new w _ rfl
  have hc := fun ob => cell_alloc hc1 ob
  have hf := hE.fits
  have HE : Hid (E22 w ep es.length ec es) := hE
  clear hE hc1
  by_cases h1 : n < 0
  · have HX : Hid (rootOut n es = (Z32, 1)) := by
      show rootOut n es = _
      unfold rootOut; rw [if_pos (.inl h1)]
    go_enter Tryd.func46, Tryd.ntmps46
    go_wp2_with (first
      | (with_reducible refine atStore 25 ?_
         refine store_D rfl _ _ rfl w.heap.size Z32 rfl rfl Z32 d0.out rfl ?_
         intro X hX
         refine hideGoal ?_))
    have dX : Hid (Dg X w.heap.size Z32) := hX.dg rfl
    have bX : Hid (Below w.heap.size w X) := hX.below _ _ (Nat.le_refl _) hb0
    clear hX d0
    refine openGoal ?_
    go_wp2_with fail
    exact bodyPost_ret (results_DT rfl _ _ w.heap.size Z32 rfl dX.out) rfl ⟨by rw [HX.out]; rfl, bX.out⟩
  · by_cases h2 : (es.length : Int) < n
    · have HX : Hid (rootOut n es = (Z32, 1)) := by
        show rootOut n es = _
        unfold rootOut; rw [if_pos (.inr h2)]
      go_enter Tryd.func46, Tryd.ntmps46
      go_wp2_with (first
        | (with_reducible refine atStore 25 ?_
           refine store_D rfl _ _ rfl w.heap.size Z32 rfl rfl Z32 d0.out rfl ?_
           intro X hX
           refine hideGoal ?_))
      have dX : Hid (Dg X w.heap.size Z32) := hX.dg rfl
      have bX : Hid (Below w.heap.size w X) := hX.below _ _ (Nat.le_refl _) hb0
      clear hX d0
      refine openGoal ?_
      go_wp2_with fail
      exact bodyPost_ret (results_DT rfl _ _ w.heap.size Z32 rfl dX.out) rfl ⟨by rw [HX.out]; rfl, bX.out⟩
    · obtain ⟨m, rfl⟩ : ∃ m : Nat, n = m := ⟨n.toNat, by omega⟩
      have HX : Hid (rootOut m es = (rootP (es.take m), 0)) := by
        show rootOut m es = _
        unfold rootOut; rw [if_neg (by omega), Int.toNat_natCast]
      have hsl := fun W => eslice_nil ep es.length ec m (by omega) hf hnil W
      go_enter Tryd.func46, Tryd.ntmps46
      go_wp2_with fail
      refine (troot_any m ep ec (es.take m) _ (hT.below hb0) ((HE.out.front m (by omega)).below hb0)).mono ?_
      rintro e w1 ⟨rfl, b1⟩
      have d1 : Hid (Dg w1 w.heap.size Z32) := d0.out.next b1
      have B1 : Below w.heap.size w w1 := hb0.trans (b1.mono (by simp))
      obtain ⟨hl, _⟩ := rootP_ok (es.take m)
      clear b1 d0 hsl hc
      obtain ⟨D, hD⟩ : ∃ D, rootP (es.take m) = D := ⟨_, rfl⟩
      rw [hD] at hl HX ⊢
      clear hD
      go_wp2_with (first
        | (with_reducible refine atStore 25 ?_
           refine store_D rfl _ _ rfl w.heap.size D rfl rfl Z32 d1.out hl ?_
           intro X hX
           refine hideGoal ?_))
      have dX : Hid (Dg X w.heap.size D) := hX.dg hl
      have bX : Hid (Below w.heap.size w X) := hX.below _ _ (Nat.le_refl _) B1
      clear hX d1 B1
      refine openGoal ?_
      go_wp2_with fail
      exact bodyPost_ret (results_DT rfl _ _ w.heap.size D rfl dX.out) rfl ⟨by rw [HX.out]; rfl, bX.out⟩
/-- What Link tells. -/
def linkOut (m n : Int) (es : List (List Int)) : List (List Int) × Int := if n < 0 ∨ (es.length : Int) < n ∨ m < 0 ∨ n < m then ([], 1) else (linkP m.toNat (es.take n.toNat), 0)
set_option maxHeartbeats 1000000 in
theorem tLink_any (n m : Nat) (p : Option Addr) (cap : Nat) (es : List (List Int)) (w : World) (hT : Tabs KS HS w) (hE : E22 w p n cap es) (hn : n ≤ 1000) (hmn : m ≤ n) :
    Calls Tryd.prog 87 #[.slice p n cap, .int .i64 m] w fun e w' => ∃ v, e = .returned v ∧ Own w' w.heap.size v (linkP m es) ∧ Below w.heap.size w w' := by
  by_cases h0 : m = 0
  · subst h0
    have HX : Hid (linkP 0 es = []) := rfl
    go_enter Tryd.func87, Tryd.ntmps87
    go_wp2_with fail
    go_ret
    exact ⟨_, rfl, by rw [HX.out]; exact ⟨rfl, .inl ⟨rfl, rfl⟩⟩, Below.refl _ _⟩
  · have HX : Hid (linkP m es = subP m es true) := by
      show linkP m es = _
      unfold linkP; rw [if_neg h0]
    have hm0 : ¬ (m : Int) = 0 := by omega
    go_enter Tryd.func87, Tryd.ntmps87
    go_wp2_with fail
    refine (sub_any n m true p cap es w hT hE hn (by omega) hmn).mono ?_
    rintro e w1 ⟨v, rfl, hO, b1⟩
    have HO : Hid (Own w1 w.heap.size v (subP m es true)) := hO
    clear hO
    go_wp2_with fail
    go_ret
    exact ⟨_, rfl, by rw [HX.out]; exact HO.out, b1⟩
set_option maxHeartbeats 1000000 in
theorem logLink_any (w : World) (g : Nat) (key : List Int) (es : List (List Int)) (m n : Int) (hT : Tabs KS HS w) (hL : LogR w g key es) :
    Calls Tryd.prog 49 #[.pointer (some ⟨g, 0, none⟩), .int .i64 m, .int .i64 n] w fun e w' => ∃ v, e = .returned (.tuple #[v, .int .i64 (linkOut m n es).2]) ∧ Own w' w.heap.size v (linkOut m n es).1 ∧ Below w.heap.size w w' := by
  obtain ⟨_, ⟨ep, ec, hc, hE, hnil⟩, hfew⟩ := hL
  have hf := hE.fits
  have HE : Hid (E22 w ep es.length ec es) := hE
  clear hE
  by_cases hbad : n < 0 ∨ (es.length : Int) < n ∨ m < 0 ∨ n < m
  · have HX : Hid (linkOut m n es = ([], 1)) := by
      show linkOut m n es = _
      unfold linkOut; rw [if_pos hbad]
    by_cases h1 : n < 0
    · go_enter Tryd.func49, Tryd.ntmps49
      go_wp2_with fail
      go_ret2
      exact ⟨_, by rw [HX.out]; rfl, by rw [HX.out]; exact ⟨rfl, .inl ⟨rfl, rfl⟩⟩, Below.refl _ _⟩
    · by_cases h2 : (es.length : Int) < n
      · go_enter Tryd.func49, Tryd.ntmps49
        go_wp2_with fail
        go_ret2
        exact ⟨_, by rw [HX.out]; rfl, by rw [HX.out]; exact ⟨rfl, .inl ⟨rfl, rfl⟩⟩, Below.refl _ _⟩
      · by_cases h3 : m < 0
        · go_enter Tryd.func49, Tryd.ntmps49
          go_wp2_with fail
          go_ret2
          exact ⟨_, by rw [HX.out]; rfl, by rw [HX.out]; exact ⟨rfl, .inl ⟨rfl, rfl⟩⟩, Below.refl _ _⟩
        · have h4 : n < m := by omega
          go_enter Tryd.func49, Tryd.ntmps49
          go_wp2_with fail
          go_ret2
          exact ⟨_, by rw [HX.out]; rfl, by rw [HX.out]; exact ⟨rfl, .inl ⟨rfl, rfl⟩⟩, Below.refl _ _⟩
  · have h1 : ¬ n < 0 := by omega
    have h2 : ¬ (es.length : Int) < n := by omega
    have h3 : ¬ m < 0 := by omega
    have h4 : ¬ n < m := by omega
    obtain ⟨a, rfl⟩ : ∃ a : Nat, m = a := ⟨m.toNat, by omega⟩
    obtain ⟨b, rfl⟩ : ∃ b : Nat, n = b := ⟨n.toNat, by omega⟩
    have HX : Hid (linkOut a b es = (linkP a (es.take b), 0)) := by
      show linkOut a b es = _
      unfold linkOut; rw [if_neg hbad, Int.toNat_natCast, Int.toNat_natCast]
    have hsl := fun W => eslice_nil ep es.length ec b (by omega) hf hnil W
    clear hbad
    go_enter Tryd.func49, Tryd.ntmps49
    go_wp2_with fail
    refine (tLink_any b a ep ec (es.take b) w hT (HE.out.front b (by omega)) (by omega) (by omega)).mono ?_
    rintro e w1 ⟨v, rfl, hO, b1⟩
    have HO : Hid (Own w1 w.heap.size v (linkP a (es.take b))) := hO
    clear hO hsl hc
    go_wp2_with fail
    go_ret2
    exact ⟨_, by rw [HX.out]; rfl, by rw [HX.out]; exact HO.out, b1⟩
end Go.Proofs.YtcmjlhcpoajbkaaDoor
namespace Go.Proofs.YtcmjlhcpoajbkaaDoor
set_option maxRecDepth 10000
set_option linter.unusedSimpArgs false
open Go.RowKit
/-- Nothing that stood has changed, but what X names. -/
structure Kp (X : Nat → Prop) (w w' : World) : Prop where
  os : w'.os = w.os
  tape : w'.tape = w.tape
  output : w'.output = w.output
  size : w.heap.size ≤ w'.heap.size
  block : ∀ k, k < w.heap.size → ¬ X k → w'.heap[k]? = w.heap[k]?
theorem Kp.below {X : Nat → Prop} {w0 w w' : World} {B : Nat} (h : Kp X w w') (hX : ∀ k, X k → B ≤ k) (hB : B ≤ w.heap.size) (hb : Below B w0 w) : Below B w0 w' :=
  ⟨h.os.trans hb.os, h.tape.trans hb.tape, h.output.trans hb.output, Nat.le_trans hb.size h.size, fun k hk => (h.block k (by omega) (fun hx => by have := hX k hx; omega)).trans (hb.block k hk)⟩
theorem kp_of {B : Nat} {w w' : World} (h : Below B w w') (hB : B = w.heap.size) : Kp (fun _ => False) w w' :=
  ⟨h.os, h.tape, h.output, h.size, fun k hk _ => h.block k (by omega)⟩
theorem In8.same {w w' : World} {p : Option Addr} {n c : Nat} {xs : List Int} (h : In8 w p n c xs) (hs : w.heap.size ≤ w'.heap.size) (hp : ∀ ad, p = some ad → ad.block < w.heap.size → w'.heap[ad.block]? = w.heap[ad.block]?) : In8 w' p n c xs :=
  ⟨h.len, h.bytes, h.fits, h.room, h.small, fun h0 => by
    obtain ⟨b, o, rfl, hl, hc⟩ := h.lies h0
    exact ⟨b, o, rfl, Nat.lt_of_lt_of_le hl hs, fun j hj => by rw [World.cell?_of_block (w := w) (a := ⟨b, o + j, none⟩) (hp ⟨b, o, none⟩ rfl hl)]; exact hc j hj⟩⟩
/-- A log, with what is its own. -/
structure LogAt (w : World) (B g : Nat) (ev : Value) (key : List Int) (es : List (List Int)) : Prop where
  blk : ∃ kp kn kc, w.heap[g]? = some (.cells #[.slice kp kn kc, ev] 116) ∧ In8 w kp kn kc key ∧ ∀ ad, kp = some ad → B ≤ ad.block ∧ ad.block < w.heap.size ∧ ad.block ≠ g ∧ ev.ownBlock ≠ some ad.block
  base : B ≤ g
  apart : ev.ownBlock ≠ some g
  own : ∃ vs, w.ownsRow B 22 1 ev es.length vs ∧ ∀ i, i < es.length → ∃ p n c, vs[i]? = some (.slice p n c) ∧ In8 w p n c (es.getD i []) ∧ n ≤ 300 ∧ ∀ ad, p = some ad → B ≤ ad.block ∧ ad.block < w.heap.size ∧ ad.block ≠ g ∧ ev.ownBlock ≠ some ad.block
  few : es.length ≤ 64
theorem LogAt.lt {w : World} {B g : Nat} {ev : Value} {key : List Int} {es : List (List Int)} (h : LogAt w B g ev key es) : g < w.heap.size := by
  obtain ⟨kp, kn, kc, h1, _⟩ := h.blk
  exact row_lt h1
theorem LogAt.rowlt {w : World} {B g : Nat} {ev : Value} {key : List Int} {es : List (List Int)} (h : LogAt w B g ev key es) : ∀ k, ev.ownBlock = some k → B ≤ k ∧ k < w.heap.size := by
  obtain ⟨vs, h1, _⟩ := h.own
  exact h1.lt
/-- What changes neither its block nor its row leaves a log as it is. -/
theorem LogAt.kp {X : Nat → Prop} {w w' : World} {B g : Nat} {ev : Value} {key : List Int} {es : List (List Int)} (h : LogAt w B g ev key es) (hk : Kp X w w') (hX : ∀ k, X k → k < B) : LogAt w' B g ev key es := by
  have hsame : ∀ k, B ≤ k → k < w.heap.size → w'.heap[k]? = w.heap[k]? := fun k h1 h2 => hk.block k h2 (fun hx => by have := hX k hx; omega)
  obtain ⟨kp, kn, kc, h1, h2, h3⟩ := h.blk
  obtain ⟨vs, h4, h5⟩ := h.own
  refine ⟨⟨kp, kn, kc, (hsame g h.base h.lt).trans h1, h2.same hk.size (fun ad ha hl => hsame _ (h3 ad ha).1 hl), fun ad ha => ?_⟩, h.base, h.apart, ⟨vs, ?_, fun i hi => ?_⟩, h.few⟩
  · obtain ⟨a, b, c, d⟩ := h3 ad ha
    exact ⟨a, Nat.lt_of_lt_of_le b hk.size, c, d⟩
  · obtain ⟨e1, e2 | ⟨r, cap, cur, hv, hr, hh, rest⟩⟩ := h4
    · exact ⟨e1, .inl e2⟩
    · exact ⟨e1, .inr ⟨r, cap, cur, hv, hr, (hsame r hr (row_lt hh)).trans hh, rest⟩⟩
  · obtain ⟨p, n, c, e1, e2, e3, e4⟩ := h5 i hi
    refine ⟨p, n, c, e1, e2.same hk.size (fun ad ha hl => hsame _ (e4 ad ha).1 hl), e3, fun ad ha => ?_⟩
    obtain ⟨a, b, c', d⟩ := e4 ad ha
    exact ⟨a, Nat.lt_of_lt_of_le b hk.size, c', d⟩
theorem LogAt.below {w w' : World} {B g : Nat} {ev : Value} {key : List Int} {es : List (List Int)} (h : LogAt w B g ev key es) (hb : Below w.heap.size w w') : LogAt w' B g ev key es :=
  h.kp (kp_of hb rfl) (fun _ hx => False.elim hx)
theorem LogAt.read {w : World} {B g : Nat} {ev : Value} {key : List Int} {es : List (List Int)} (h : LogAt w B g ev key es) : LogR w g key es := by
  obtain ⟨kp, kn, kc, h1, h2, _⟩ := h.blk
  obtain ⟨vs, h4, h5⟩ := h.own
  have c0 : w.cell? ⟨g, 0, none⟩ = some (.slice kp kn kc) := by rw [cell_of_row _ _ _ _ _ _ h1]; rfl
  have c1 : w.cell? ⟨g, 1, none⟩ = some ev := by rw [cell_of_row _ _ _ _ _ _ h1]; rfl
  refine ⟨⟨kp, kn, kc, c0, h2⟩, ?_, h.few⟩
  obtain ⟨e1, ⟨rfl, e2⟩ | ⟨r, cap, cur, rfl, hr, hh, hc, hm, hs, ht⟩⟩ := h4
  · rw [e2]
    exact ⟨none, 0, c1, ⟨e2, by omega, by omega, fun h0 => by omega⟩, fun _ => rfl⟩
  · refine ⟨some ⟨r, 0, none⟩, cap, c1, ⟨rfl, hc, by unfold maxLen at hm; omega, fun _ => ⟨r, 0, rfl, row_lt hh, fun i hi => ?_⟩⟩, fun h0 => by cases h0⟩
    obtain ⟨p, n, c, e3, e4, e5, _⟩ := h5 i hi
    refine ⟨p, n, c, ?_, e4, e5⟩
    rw [Nat.zero_add, cell_of_row _ _ _ _ _ _ hh]
    have e := congrArg (fun z : List Value => z[i]?) ht
    simp only [Nat.mul_one, List.getElem?_take, if_pos hi] at e
    rw [← Array.getElem?_toList, e, e3]
set_option maxHeartbeats 1000000 in
theorem new_any (w : World) (p : Option Addr) (n c : Nat) (xs : List Int) (hi : In8 w p n c xs) (hn : n ≤ 100) :
    Calls Tryd.prog 31 #[.slice p n c] w fun e w' => ∃ g, e = .returned (.tuple #[.pointer (some ⟨g, 0, none⟩), .int .i64 0]) ∧ LogAt w' w.heap.size g (.slice none 0 0) xs [] ∧ Below w.heap.size w w' := by
  go_enter Tryd.func31, Tryd.ntmps31
  go_wp2_with fail
  refine (clone_any w p n c xs hi).mono ?_
  rintro e w1 ⟨p', c', rfl, b1, hi1, _, hfr, hin⟩
  have h1 := heapN w1 (.cells #[.slice p' n c', .slice none 0 0] 116) _ rfl
  have B1 : Below w.heap.size w (w1.alloc (.cells #[.slice p' n c', .slice none 0 0] 116)) := b1.alloc b1.size _
  have b2 : Below w1.heap.size w1 (w1.alloc (.cells #[.slice p' n c', .slice none 0 0] 116)) := (Below.refl _ _).alloc (Nat.le_refl _) _
  have HL : Hid (LogAt (w1.alloc (.cells #[.slice p' n c', .slice none 0 0] 116)) w.heap.size w1.heap.size (.slice none 0 0) xs []) := by
    refine ⟨⟨p', n, c', h1, hi1.below b2, fun ad ha => ?_⟩, b1.size, by simp [Value.ownBlock], ⟨[], ⟨rfl, .inl ⟨rfl, rfl⟩⟩, fun i hi => by simp at hi⟩, by simp⟩
    subst ha
    have hlt := hin ad rfl
    exact ⟨hfr ad rfl, by simp; omega, by omega, by simp [Value.ownBlock]⟩
  clear h1 hi1 b2
  go_wp2_with fail
  go_ret2
  exact ⟨_, rfl, HL.out, B1⟩
theorem Kp.trans {X : Nat → Prop} {w w1 w2 : World} (h : Kp (fun _ => False) w w1) (h' : Kp X w1 w2) : Kp X w w2 :=
  ⟨h'.os.trans h.os, h'.tape.trans h.tape, h'.output.trans h.output, Nat.le_trans h.size h'.size, fun k hk hx => (h'.block k (Nat.lt_of_lt_of_le hk h.size) hx).trans (h.block k hk (fun z => z))⟩
theorem two_setCell {w : World} {b : Nat} {v v' u : Value} {t : TypeId} (h : w.heap[b]? = some (.cells #[v, v'] t (0, 0))) : (w.setCell ⟨b, 1, none⟩ u).heap[b]? = some (.cells #[v, u] t (0, 0)) := by
  have hlt := row_lt h
  have h' : w.heap[b] = .cells #[v, v'] t (0, 0) := by simpa [Array.getElem?_eq_getElem hlt] using h
  show (w.heap.modify b _)[b]? = _
  rw [Array.getElem?_eq_getElem (by simpa using hlt), Array.getElem_modify_self, h']
  rfl
theorem LogAt.shape {w : World} {B g : Nat} {ev : Value} {key : List Int} {es : List (List Int)} (h : LogAt w B g ev key es) : ∃ ep ec, ev = .slice ep es.length ec := by
  obtain ⟨vs, ⟨e1, ⟨rfl, e2⟩ | ⟨r, cap, cur, rfl, _⟩⟩, _⟩ := h.own
  · exact ⟨none, 0, by rw [e2]⟩
  · exact ⟨_, _, rfl⟩
theorem LogAt.cell {w : World} {B g : Nat} {ev : Value} {key : List Int} {es : List (List Int)} (h : LogAt w B g ev key es) : w.cell? ⟨g, 1, none⟩ = some ev := by
  obtain ⟨kp, kn, kc, h1, _⟩ := h.blk
  rw [cell_of_row _ _ _ _ _ _ h1]; rfl
theorem size_drew (w : World) : w.drew.heap.size = w.heap.size := rfl
end Go.Proofs.YtcmjlhcpoajbkaaDoor
