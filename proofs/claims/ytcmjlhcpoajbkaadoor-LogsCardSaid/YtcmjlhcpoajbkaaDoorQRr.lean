import Derived.Test.YtcmjlhcpoajbkaaDoorQPt
import Derived.Test.YtcmjlhcpoajbkaaDoorQTx
namespace Go.Proofs.YtcmjlhcpoajbkaaDoor
set_option maxRecDepth 10000
set_option linter.unusedSimpArgs false
open Go.RowKit
/-- A slice of entries as strings. -/
structure S59 (w : World) (p : Option Addr) (n cap : Nat) (es : List (List Int)) : Prop where
  len : es.length = n
  fits : n ≤ cap
  room : cap ≤ 9223372036854775807
  each : ∀ i, (es.getD i []).length ≤ 300 ∧ Bytes (es.getD i [])
  lies : 0 < n → ∃ b o, p = some ⟨b, o, none⟩ ∧ b < w.heap.size ∧ ∀ i, i < n → w.cell? ⟨b, o + i, none⟩ = some (strV (es.getD i []))
theorem S59.below {w w' : World} {p : Option Addr} {n cap : Nat} {es : List (List Int)} (h : S59 w p n cap es) (hb : Below w.heap.size w w') : S59 w' p n cap es :=
  ⟨h.len, h.fits, h.room, h.each, fun h0 => by
    obtain ⟨b, o, hp, hl, hc⟩ := h.lies h0
    exact ⟨b, o, hp, Nat.lt_of_lt_of_le hl hb.size, fun i hi => by rw [hb.cell (p := ⟨b, o + i, none⟩) hl]; exact hc i hi⟩⟩
theorem getD_take {es : List (List Int)} {k i : Nat} (hi : i < k) : (es.take k).getD i [] = es.getD i [] := by
  rw [List.getD_eq_getElem?_getD, List.getElem?_take, if_pos hi, ← List.getD_eq_getElem?_getD]
theorem getD_take_out {es : List (List Int)} {k i : Nat} (hi : ¬ i < k) : (es.take k).getD i [] = [] := by
  rw [List.getD_eq_getElem?_getD, List.getElem?_take, if_neg hi]; rfl
theorem getD_drop {es : List (List Int)} {k i : Nat} : (es.drop k).getD i [] = es.getD (k + i) [] := by
  rw [List.getD_eq_getElem?_getD, List.getElem?_drop, ← List.getD_eq_getElem?_getD]
theorem S59.front {w : World} {p : Option Addr} {n cap : Nat} {es : List (List Int)} (h : S59 w p n cap es) (k : Nat) (hk : k ≤ n) : S59 w p k cap (es.take k) :=
  ⟨by rw [List.length_take, h.len]; omega, by have := h.fits; omega, h.room, fun i => by
    by_cases hi : i < k
    · rw [getD_take hi]; exact h.each i
    · rw [getD_take_out hi]; exact ⟨by simp, fun j => by simp⟩, fun h0 => by
    obtain ⟨b, o, hp, hl, hc⟩ := h.lies (by omega)
    exact ⟨b, o, hp, hl, fun i hi => by rw [getD_take hi]; exact hc i (by omega)⟩⟩
theorem S59.back {w : World} {b o : Nat} {n cap : Nat} {es : List (List Int)} (h : S59 w (some ⟨b, o, none⟩) n cap es) (k : Nat) (hk : k < n) : S59 w (some ⟨b, o + k, none⟩) (n - k) (cap - k) (es.drop k) :=
  ⟨by rw [List.length_drop, h.len], by have := h.fits; omega, by have := h.room; omega, fun i => by rw [getD_drop]; exact h.each _, fun h0 => by
    obtain ⟨b', o', hp, hl, hc⟩ := h.lies (by omega)
    cases hp
    exact ⟨b, o + k, rfl, hl, fun i hi => by rw [getD_drop, Nat.add_assoc]; exact hc (k + i) (by omega)⟩⟩
theorem sslice_front (ad : Addr) (n c m : Nat) (hm : m ≤ n) (hn : n ≤ c) (W : World) :
    (Instr.sliceAt 59 (.slice (some ad) n c) none (some (.int .i64 m)) none).run Tryd.prog W = .ok (.slice (some ad) m c) W := by
  have h1 : (m : Int) ≤ c := by omega
  go_simp
theorem sslice_back (b o n c m : Nat) (hm : m < n) (hn : n ≤ c) (W : World) :
    (Instr.sliceAt 59 (.slice (some ⟨b, o, none⟩) n c) (some (.int .i64 m)) none none).run Tryd.prog W = .ok (.slice (some ⟨b, o + m, none⟩) (n - m) (c - m)) W := by
  have h1 : (m : Int) ≤ n := by omega
  have h2 : ¬ c = m := by omega
  have h3 : (⟨b, o, none⟩ : Addr).add m = ⟨b, o + m, none⟩ := addr_add _ _ _
  go_simp
theorem sindex_at (b o n c k : Nat) (hk : k < n) (W : World) : (Instr.indexAt 59 (.slice (some ⟨b, o, none⟩) n c) (.int .i64 k)).run Tryd.prog W = .ok (.pointer (some ⟨b, o + k, none⟩)) W := by
  have h1 : (k : Int) < n := by omega
  have h3 : (⟨b, o, none⟩ : Addr).add k = ⟨b, o + k, none⟩ := addr_add _ _ _
  go_simp
set_option maxHeartbeats 2000000 in
theorem refRoot_any : ∀ (n : Nat) (p : Option Addr) (cap : Nat) (es : List (List Int)) (w : World), S59 w p n cap es →
    Calls Tryd.prog 77 #[.slice p n cap] w fun e w' => e = .returned (.agg (A8 (rootP es))) ∧ Below w.heap.size w w' := by
  intro n
  induction n using Nat.strongRecOn with
  | ind n ih =>
    intro p cap es w hE
    have hb0 : Below w.heap.size w (w.alloc (.cells Z8x32 25)) := (Below.refl _ _).alloc (Nat.le_refl _) _
    have d0 : Hid (Dg (w.alloc (.cells Z8x32 25)) w.heap.size Z32) := Dg.new w _ rfl
    have hf := hE.fits
    have hr := hE.room
    have hlen := hE.len
    by_cases h0 : n = 0
    · subst h0
      have he : es = [] := List.length_eq_zero_iff.1 hlen
      subst he
      go_enter Tryd.func77, Tryd.ntmps77
      go_wp2_with fail
      refine (ref_any _ [] [] rfl rfl _ (by simp)).mono ?_
      rintro e w1 ⟨rfl, b1⟩
      have d1 : Hid (Dg w1 w.heap.size Z32) := d0.out.next b1
      have B1 : Below w.heap.size w w1 := hb0.trans (b1.mono (by simp))
      have hl := hP_len []
      clear b1 d0
      have e0 : Hid (rootP [] = hP []) := rfl
      obtain ⟨D, hD⟩ : ∃ D, hP [] = D := ⟨_, rfl⟩
      rw [hD] at hl e0 ⊢
      clear hD
      go_wp2_with (first
        | (with_reducible refine atStore 25 ?_
           refine store_D rfl _ _ rfl w.heap.size D rfl rfl Z32 d1.out hl ?_
           intro U hU))
      exact bodyPost_ret (results_D rfl _ _ w.heap.size D rfl (hU.dg hl)) rfl ⟨by rw [e0.out], hU.below _ _ (Nat.le_refl _) B1⟩
    · obtain ⟨b, o, rfl, hbl, hcs⟩ := hE.lies (by omega)
      by_cases h1 : n = 1
      · subst h1
        have hc1 := hcs 0 (by omega)
        obtain ⟨hx3, hxb⟩ := hE.each 0
        rw [Nat.add_zero] at hc1
        have hc0 : ∀ ob, (w.alloc ob).cell? ⟨b, o, none⟩ = some (strV (es.getD 0 [])) := fun ob => by
          rw [((Below.refl w.heap.size w).alloc (Nat.le_refl _) ob).cell (p := ⟨b, o, none⟩) hbl]; exact hc1
        have hix : ∀ W : World, (Instr.indexAt 59 (.slice (some ⟨b, o, none⟩) 1 cap) (.int .i64 0)).run Tryd.prog W = .ok (.pointer (some ⟨b, o, none⟩)) W := fun W => sindex_at b o 1 cap 0 (by omega) W
        clear hcs hc1
        have hx : es = [es.getD 0 []] := by
          match es, hlen with
          | [e], _ => rfl
        have HX : Hid (rootP es = leafP (es.getD 0 [])) := by
          show rootP es = _
          rw [hx]; rfl
        generalize es.getD 0 [] = x at *
        have hul := toU_len x
        unfold strV at hc0
        go_enter Tryd.func77, Tryd.ntmps77
        go_wp2_with fail
        refine (refLeaf_any _ (toU x) x (toI_toU x hxb) (by omega)).mono ?_
        rintro e w1 ⟨rfl, b1⟩
        have d1 : Hid (Dg w1 w.heap.size Z32) := d0.out.next b1
        have B1 : Below w.heap.size w w1 := hb0.trans (b1.mono (by simp))
        have hl := leafP_len x
        clear b1 d0 hc0
        obtain ⟨D, hD⟩ : ∃ D, leafP x = D := ⟨_, rfl⟩
        rw [hD] at hl HX ⊢
        clear hD
        go_wp2_with (first
          | (with_reducible refine atStore 25 ?_
             refine store_D rfl _ _ rfl w.heap.size D rfl rfl Z32 d1.out hl ?_
             intro U hU))
        exact bodyPost_ret (results_D rfl _ _ w.heap.size D rfl (hU.dg hl)) rfl ⟨by rw [HX.out], hU.below _ _ (Nat.le_refl _) B1⟩
      · have h0' : ¬ (n : Int) = 0 := by omega
        have h1' : ¬ (n : Int) = 1 := by omega
        obtain ⟨hk1, hk2, hk3⟩ := halfN_spec n (by omega) (by omega)
        have HX : Hid (rootP es = knotP (rootP (es.take (halfN n))) (rootP (es.drop (halfN n)))) := by
          show rootP es = _
          have := rootP_more es (by omega) (by omega)
          rw [hlen] at this
          exact this
        have hs1 := fun W => sslice_front ⟨b, o, none⟩ n cap (halfN n) (by omega) hf W
        have hs2 := fun W => sslice_back b o n cap (halfN n) hk1 hf W
        have HE : Hid (S59 w (some ⟨b, o, none⟩) n cap es) := hE
        clear hcs hE
        go_enter Tryd.func77, Tryd.ntmps77
        go_wp2_with fail
        refine (half_any n _ (by omega) (by omega)).mono ?_
        rintro e w1 ⟨rfl, rfl⟩
        generalize halfN n = k at *
        go_wp2_with fail
        refine (ih k (by omega) _ cap (es.take k) _ ((HE.out.front k (by omega)).below hb0)).mono ?_
        rintro e w2 ⟨rfl, b2⟩
        have d2 : Hid (Dg w2 w.heap.size Z32) := d0.out.next b2
        have B2 : Below w.heap.size w w2 := hb0.trans (b2.mono hb0.size)
        obtain ⟨hLl, hLb⟩ := rootP_ok (es.take k)
        clear b2 d0
        generalize rootP (es.take k) = L at *
        have dn : Hid (Dg (w2.alloc (.cells Z8x32 25)) w2.heap.size Z32) := Dg.new w2 _ rfl
        have hs2' := B2.size
        go_wp2_with (first
          | (with_reducible refine atStore 25 ?_
             refine store_D rfl _ _ rfl w2.heap.size L rfl rfl Z32 dn.out hLl ?_
             intro U hU
             refine hideGoal ?_))
        have bU : Below w2.heap.size w2 U := hU.below _ _ (Nat.le_refl _) ((Below.refl _ _).alloc (Nat.le_refl _) _)
        have dU : Hid (Dg U w.heap.size Z32) := d2.out.next bU
        have eU : Hid (Dg U w2.heap.size L) := hU.dg hLl
        have BU : Below w.heap.size w U := B2.trans (bU.mono B2.size)
        clear hU dn bU d2 B2 hs2'
        generalize w2.heap.size = gl at *
        refine openGoal ?_
        go_wp2_with fail
        refine (ih (n - k) (by omega) _ (cap - k) (es.drop k) U ((HE.out.back k hk1).below BU)).mono ?_
        rintro e w3 ⟨rfl, b3⟩
        have d3 : Hid (Dg w3 w.heap.size Z32) := dU.out.next b3
        have e3 : Hid (Dg w3 gl L) := eU.out.next b3
        have B3 : Below w.heap.size w w3 := BU.trans (b3.mono BU.size)
        obtain ⟨hRl, hRb⟩ := rootP_ok (es.drop k)
        clear b3 dU eU BU
        generalize rootP (es.drop k) = R at *
        have dn : Hid (Dg (w3.alloc (.cells Z8x32 25)) w3.heap.size Z32) := Dg.new w3 _ rfl
        have hs2' := B3.size
        go_wp2_with (first
          | (with_reducible refine atStore 25 ?_
             refine store_D rfl _ _ rfl w3.heap.size R rfl rfl Z32 dn.out hRl ?_
             intro X hX
             refine hideGoal ?_))
        have bX : Below w3.heap.size w3 X := hX.below _ _ (Nat.le_refl _) ((Below.refl _ _).alloc (Nat.le_refl _) _)
        have dX : Hid (Dg X w.heap.size Z32) := d3.out.next bX
        have eX : Hid (Dg X gl L) := e3.out.next bX
        have fX : Hid (Dg X w3.heap.size R) := hX.dg hRl
        have BX : Below w.heap.size w X := B3.trans (bX.mono B3.size)
        clear hX dn bX d3 e3 B3 hs2'
        generalize w3.heap.size = gr at *
        refine openGoal ?_
        go_wp2_with (first
          | (with_reducible refine atLoad 25 ?_
             first
               | refine load_D rfl (.tmp 4) rfl gl rfl L eX.out ?_
               | refine load_D rfl (.tmp 5) rfl gr rfl R fX.out ?_))
        refine (refKnot_any X L R hLl hRl hLb hRb).mono ?_
        rintro e w4 ⟨rfl, b4⟩
        have d4 : Hid (Dg w4 w.heap.size Z32) := dX.out.next b4
        have B4 : Below w.heap.size w w4 := BX.trans (b4.mono BX.size)
        have hl := knotP_len L R
        clear b4 dX BX
        obtain ⟨D, hD⟩ : ∃ D, knotP L R = D := ⟨_, rfl⟩
        rw [hD] at hl HX ⊢
        clear hD
        go_wp2_with (first
          | (with_reducible refine atStore 25 ?_
             refine store_D rfl _ _ rfl w.heap.size D rfl rfl Z32 d4.out hl ?_
             intro V hV))
        exact bodyPost_ret (results_D rfl _ _ w.heap.size D rfl (hV.dg hl)) rfl ⟨by rw [HX.out], hV.below _ _ (Nat.le_refl _) B4⟩
end Go.Proofs.YtcmjlhcpoajbkaaDoor
