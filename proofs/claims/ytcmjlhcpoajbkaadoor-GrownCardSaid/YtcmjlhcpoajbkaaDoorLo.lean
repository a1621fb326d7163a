import Derived.Test.YtcmjlhcpoajbkaaDoorPt
import Derived.Test.YtcmjlhcpoajbkaaDoorAl
import Derived.Test.YtcmjlhcpoajbkaaDoorCl
namespace Go.Proofs.YtcmjlhcpoajbkaaDoor
set_option maxRecDepth 10000
set_option linter.unusedSimpArgs false
open Go.RowKit
/-- A log, as it is read. -/
structure LogR (w : World) (g : Nat) (key : List Int) (es : List (List Int)) : Prop where
  keyAt : ∃ kp kn kc, w.cell? ⟨g, 0, none⟩ = some (.slice kp kn kc) ∧ In8 w kp kn kc key
  entAt : ∃ ep ec, w.cell? ⟨g, 1, none⟩ = some (.slice ep es.length ec) ∧ E22 w ep es.length ec es ∧ (ep = none → ec = 0)
  few : es.length ≤ 64
theorem LogR.below {w w' : World} {g : Nat} {key : List Int} {es : List (List Int)} (h : LogR w g key es) (hb : Below w.heap.size w w') : LogR w' g key es := by
  obtain ⟨⟨kp, kn, kc, h1, h2⟩, ⟨ep, ec, h3, h4, h6⟩, h5⟩ := h
  exact ⟨⟨kp, kn, kc, by rw [hb.cell (block_lt_of_cell h1)]; exact h1, h2.below hb⟩, ⟨ep, ec, by rw [hb.cell (block_lt_of_cell h3)]; exact h3, h4.below hb, h6⟩, h5⟩
theorem LogR.lt {w : World} {g : Nat} {key : List Int} {es : List (List Int)} (h : LogR w g key es) : g < w.heap.size := by
  obtain ⟨⟨kp, kn, kc, h1, h2⟩, _⟩ := h
  exact block_lt_of_cell h1
theorem cell_alloc {w : World} {ad : Addr} {v : Value} (h : w.cell? ad = some v) (ob : Obj) : (w.alloc ob).cell? ad = some v := by
  rw [((Below.refl w.heap.size w).alloc (Nat.le_refl _) ob).cell (block_lt_of_cell h)]; exact h
theorem eslice_nil (p : Option Addr) (n c m : Nat) (hm : m ≤ n) (hn : n ≤ c) (hc : p = none → c = 0) (W : World) :
    (Instr.sliceAt 47 (.slice p n c) none (some (.int .i64 m)) none).run Tryd.prog W = .ok (.slice p m c) W := by
  cases p with
  | some ad => exact eslice_front ad n c m hm hn W
  | none =>
    have h0 := hc rfl
    subst h0
    have e1 : m = 0 := by omega
    have e2 : n = 0 := by omega
    subst e1 e2
    go_simp
def rootOut (n : Int) (es : List (List Int)) : List Int × Int := if n < 0 ∨ (es.length : Int) < n then (Z32, 1) else (rootP (es.take n.toNat), 0)
theorem rootOut_ok (n : Int) (es : List (List Int)) : (rootOut n es).1.length = 32 ∧ Bytes (rootOut n es).1 := by
  unfold rootOut
  split
  · exact ⟨rfl, Z32_bytes⟩
  · exact rootP_ok _
set_option maxHeartbeats 1000000 in
theorem logRoot_any (w : World) (g : Nat) (key : List Int) (es : List (List Int)) (n : Int) (hT : Tabs KS HS w) (hL : LogR w g key es) :
    Calls Tryd.prog 46 #[.pointer (some ⟨g, 0, none⟩), .int .i64 n] w fun e w' => e = .returned (.tuple #[.agg (A8 (rootOut n es).1), .int .i64 (rootOut n es).2]) ∧ Below w.heap.size w w' := by
  obtain ⟨_, ⟨ep, ec, hc1, hE, hnil⟩, hfew⟩ := hL
  have hb0 : Below w.heap.size w (w.alloc (.cells Z8x32 25)) := (Below.refl _ _).alloc (Nat.le_refl _) _
  have d0 : Hid (Dg (w.alloc (.cells Z8x32 25)) w.heap.size Z32) := Dg.new w _ rfl
  have hc := fun ob => cell_alloc hc1 ob
  have hf := hE.fits
  have HE : Hid (E22 w ep es.length ec es) := hE
  clear hE hc1
  by_cases h1 : n < 0
  · have HX : Hid (rootOut n es = (Z32, 1)) := by
      show rootOut n es = _
      unfold rootOut; rw [if_pos (.inl h1)]
    go_enter Tryd.func46, Tryd.ntmps46
    go_wp2_with (first
      | (with_reducible refine atStore 25 ?_
         refine store_D rfl _ _ rfl w.heap.size Z32 rfl rfl Z32 d0.out rfl ?_
         intro X hX
         refine hideGoal ?_))
    have dX : Hid (Dg X w.heap.size Z32) := hX.dg rfl
    have bX : Hid (Below w.heap.size w X) := hX.below _ _ (Nat.le_refl _) hb0
    clear hX d0
    refine openGoal ?_
    go_wp2_with fail
    exact bodyPost_ret (results_DT rfl _ _ w.heap.size Z32 rfl dX.out) rfl ⟨by rw [HX.out]; rfl, bX.out⟩
  · by_cases h2 : (es.length : Int) < n
    · have HX : Hid (rootOut n es = (Z32, 1)) := by
        show rootOut n es = _
        unfold rootOut; rw [if_pos (.inr h2)]
      go_enter Tryd.func46, Tryd.ntmps46
      go_wp2_with (first
        | (with_reducible refine atStore 25 ?_
           refine store_D rfl _ _ rfl w.heap.size Z32 rfl rfl Z32 d0.out rfl ?_
           intro X hX
           refine hideGoal ?_))
      have dX : Hid (Dg X w.heap.size Z32) := hX.dg rfl
      have bX : Hid (Below w.heap.size w X) := hX.below _ _ (Nat.le_refl _) hb0
      clear hX d0
      refine openGoal ?_
      go_wp2_with fail
      exact bodyPost_ret (results_DT rfl _ _ w.heap.size Z32 rfl dX.out) rfl ⟨by rw [HX.out]; rfl, bX.out⟩
    · obtain ⟨m, rfl⟩ : ∃ m : Nat, n = m := ⟨n.toNat, by omega⟩
      have HX : Hid (rootOut m es = (rootP (es.take m), 0)) := by
        show rootOut m es = _
        unfold rootOut; rw [if_neg (by omega), Int.toNat_natCast]
      have hsl := fun W => eslice_nil ep es.length ec m (by omega) hf hnil W
      go_enter Tryd.func46, Tryd.ntmps46
      go_wp2_with fail
      refine (troot_any m ep ec (es.take m) _ (hT.below hb0) ((HE.out.front m (by omega)).below hb0)).mono ?_
      rintro e w1 ⟨rfl, b1⟩
      have d1 : Hid (Dg w1 w.heap.size Z32) := d0.out.next b1
      have B1 : Below w.heap.size w w1 := hb0.trans (b1.mono (by simp))
      obtain ⟨hl, _⟩ := rootP_ok (es.take m)
      clear b1 d0 hsl hc
      obtain ⟨D, hD⟩ : ∃ D, rootP (es.take m) = D := ⟨_, rfl⟩
      rw [hD] at hl HX ⊢
      clear hD
      go_wp2_with (first
        | (with_reducible refine atStore 25 ?_
           refine store_D rfl _ _ rfl w.heap.size D rfl rfl Z32 d1.out hl ?_
           intro X hX
           refine hideGoal ?_))
      have dX : Hid (Dg X w.heap.size D) := hX.dg hl
      have bX : Hid (Below w.heap.size w X) := hX.below _ _ (Nat.le_refl _) B1
      clear hX d1 B1
      refine openGoal ?_
      go_wp2_with fail
      exact bodyPost_ret (results_DT rfl _ _ w.heap.size D rfl dX.out) rfl ⟨by rw [HX.out]; rfl, bX.out⟩
/-- What Link tells. -/
def linkOut (m n : Int) (es : List (List Int)) : List (List Int) × Int := if n < 0 ∨ (es.length : Int) < n ∨ m < 0 ∨ n < m then ([], 1) else (linkP m.toNat (es.take n.toNat), 0)
set_option maxHeartbeats 1000000 in
theorem tLink_any (n m : Nat) (p : Option Addr) (cap : Nat) (es : List (List Int)) (w : World) (hT : Tabs KS HS w) (hE : E22 w p n cap es) (hn : n ≤ 1000) (hmn : m ≤ n) :
    Calls Tryd.prog 87 #[.slice p n cap, .int .i64 m] w fun e w' => ∃ v, e = .returned v ∧ Own w' w.heap.size v (linkP m es) ∧ Below w.heap.size w w' := by
  by_cases h0 : m = 0
  · subst h0
    have HX : Hid (linkP 0 es = []) := rfl
    go_enter Tryd.func87, Tryd.ntmps87
    go_wp2_with fail
    go_ret
    exact ⟨_, rfl, by rw [HX.out]; exact ⟨rfl, .inl ⟨rfl, rfl⟩⟩, Below.refl _ _⟩
  · have HX : Hid (linkP m es = subP m es true) := by
      show linkP m es = _
      unfold linkP; rw [if_neg h0]
    have hm0 : ¬ (m : Int) = 0 := by omega
    go_enter Tryd.func87, Tryd.ntmps87
    go_wp2_with fail
    refine (sub_any n m true p cap es w hT hE hn (by omega) hmn).mono ?_
    rintro e w1 ⟨v, rfl, hO, b1⟩
    have HO : Hid (Own w1 w.heap.size v (subP m es true)) := hO
    clear hO
    go_wp2_with fail
    go_ret
    exact ⟨_, rfl, by rw [HX.out]; exact HO.out, b1⟩
set_option maxHeartbeats 1000000 in
theorem logLink_any (w : World) (g : Nat) (key : List Int) (es : List (List Int)) (m n : Int) (hT : Tabs KS HS w) (hL : LogR w g key es) :
    Calls Tryd.prog 49 #[.pointer (some ⟨g, 0, none⟩), .int .i64 m, .int .i64 n] w fun e w' => ∃ v, e = .returned (.tuple #[v, .int .i64 (linkOut m n es).2]) ∧ Own w' w.heap.size v (linkOut m n es).1 ∧ Below w.heap.size w w' := by
  obtain ⟨_, ⟨ep, ec, hc, hE, hnil⟩, hfew⟩ := hL
  have hf := hE.fits
  have HE : Hid (E22 w ep es.length ec es) := hE
  clear hE
  by_cases hbad : n < 0 ∨ (es.length : Int) < n ∨ m < 0 ∨ n < m
  · have HX : Hid (linkOut m n es = ([], 1)) := by
      show linkOut m n es = _
      unfold linkOut; rw [if_pos hbad]
    by_cases h1 : n < 0
    · go_enter Tryd.func49, Tryd.ntmps49
      go_wp2_with fail
      go_ret2
      exact ⟨_, by rw [HX.out]; rfl, by rw [HX.out]; exact ⟨rfl, .inl ⟨rfl, rfl⟩⟩, Below.refl _ _⟩
    · by_cases h2 : (es.length : Int) < n
      · go_enter Tryd.func49, Tryd.ntmps49
        go_wp2_with fail
        go_ret2
        exact ⟨_, by rw [HX.out]; rfl, by rw [HX.out]; exact ⟨rfl, .inl ⟨rfl, rfl⟩⟩, Below.refl _ _⟩
      · by_cases h3 : m < 0
        · go_enter Tryd.func49, Tryd.ntmps49
          go_wp2_with fail
          go_ret2
          exact ⟨_, by rw [HX.out]; rfl, by rw [HX.out]; exact ⟨rfl, .inl ⟨rfl, rfl⟩⟩, Below.refl _ _⟩
        · have h4 : n < m := by omega
          go_enter Tryd.func49, Tryd.ntmps49
          go_wp2_with fail
          go_ret2
          exact ⟨_, by rw [HX.out]; rfl, by rw [HX.out]; exact ⟨rfl, .inl ⟨rfl, rfl⟩⟩, Below.refl _ _⟩
  · have h1 : ¬ n < 0 := by omega
    have h2 : ¬ (es.length : Int) < n := by omega
    have h3 : ¬ m < 0 := by omega
    have h4 : ¬ n < m := by omega
    obtain ⟨a, rfl⟩ : ∃ a : Nat, m = a := ⟨m.toNat, by omega⟩
    obtain ⟨b, rfl⟩ : ∃ b : Nat, n = b := ⟨n.toNat, by omega⟩
    have HX : Hid (linkOut a b es = (linkP a (es.take b), 0)) := by
      show linkOut a b es = _
      unfold linkOut; rw [if_neg hbad, Int.toNat_natCast, Int.toNat_natCast]
    have hsl := fun W => eslice_nil ep es.length ec b (by omega) hf hnil W
    clear hbad
    go_enter Tryd.func49, Tryd.ntmps49
    go_wp2_with fail
    refine (tLink_any b a ep ec (es.take b) w hT (HE.out.front b (by omega)) (by omega) (by omega)).mono ?_
    rintro e w1 ⟨v, rfl, hO, b1⟩
    have HO : Hid (Own w1 w.heap.size v (linkP a (es.take b))) := hO
    clear hO hsl hc
    go_wp2_with fail
    go_ret2
    exact ⟨_, by rw [HX.out]; rfl, by rw [HX.out]; exact HO.out, b1⟩
end Go.Proofs.YtcmjlhcpoajbkaaDoor
