import Derived.Test.YtcmjlhcpoajbkaaDoorQDs
import Derived.Test.YtcmjlhcpoajbkaaDoorQHalf
namespace Go.Proofs.YtcmjlhcpoajbkaaDoor
set_option maxRecDepth 10000
set_option linter.unusedSimpArgs false
open Go.RowKit
/-- The root of entries. -/
def rootF : Nat → List (List Int) → List Int
  | 0, _ => hP []
  | f + 1, es => if es.length = 0 then hP [] else if es.length = 1 then leafP (es.getD 0 []) else knotP (rootF f (es.take (halfN es.length))) (rootF f (es.drop (halfN es.length)))
def rootP (es : List (List Int)) : List Int := rootF es.length es
theorem rootF_ok (f : Nat) (es : List (List Int)) : (rootF f es).length = 32 ∧ Bytes (rootF f es) := by
  cases f with
  | zero => exact ⟨hP_len _, hP_bytes _⟩
  | succ f => unfold rootF; split
              · exact ⟨hP_len _, hP_bytes _⟩
              · split
                · exact ⟨leafP_len _, leafP_bytes _⟩
                · exact ⟨knotP_len _ _, knotP_bytes _ _⟩
theorem rootP_ok (es : List (List Int)) : (rootP es).length = 32 ∧ Bytes (rootP es) := rootF_ok _ _
theorem rootF_fuel : ∀ (f g : Nat) (es : List (List Int)), es.length ≤ f → es.length ≤ g → es.length < 2 ^ 63 → rootF f es = rootF g es := by
  intro f
  induction f with
  | zero =>
    intro g es h1 h2 h3
    have h0 : es.length = 0 := by omega
    cases g with
    | zero => rfl
    | succ g => simp [rootF, h0]
  | succ f ih =>
    intro g es h1 h2 h3
    cases g with
    | zero =>
      have h0 : es.length = 0 := by omega
      simp [rootF, h0]
    | succ g =>
      unfold rootF
      by_cases h0 : es.length = 0
      · rw [if_pos h0, if_pos h0]
      · rw [if_neg h0, if_neg h0]
        by_cases e1 : es.length = 1
        · rw [if_pos e1, if_pos e1]
        · rw [if_neg e1, if_neg e1]
          obtain ⟨a, b, c⟩ := halfN_spec es.length (by omega) (by omega)
          rw [ih g (es.take (halfN es.length)) (by rw [List.length_take]; omega) (by rw [List.length_take]; omega) (by rw [List.length_take]; omega),
            ih g (es.drop (halfN es.length)) (by rw [List.length_drop]; omega) (by rw [List.length_drop]; omega) (by rw [List.length_drop]; omega)]
theorem rootP_more (es : List (List Int)) (h : 2 ≤ es.length) (h3 : es.length < 2 ^ 63) : rootP es = knotP (rootP (es.take (halfN es.length))) (rootP (es.drop (halfN es.length))) := by
  obtain ⟨a, b, c⟩ := halfN_spec es.length h (by omega)
  have h1 : rootP es = rootF (es.length - 1 + 1) es := by unfold rootP; rw [Nat.sub_add_cancel (by omega)]
  rw [h1]
  unfold rootF
  rw [if_neg (by omega), if_neg (by omega)]
  unfold rootP
  rw [rootF_fuel (es.length - 1) (es.take (halfN es.length)).length (es.take (halfN es.length)) (by rw [List.length_take]; omega) (Nat.le_refl _) (by rw [List.length_take]; omega),
    rootF_fuel (es.length - 1) (es.drop (halfN es.length)).length (es.drop (halfN es.length)) (by rw [List.length_drop]; omega) (Nat.le_refl _) (by rw [List.length_drop]; omega)]
/-- A slice of entries. -/
structure E22 (w : World) (p : Option Addr) (n cap : Nat) (es : List (List Int)) : Prop where
  len : es.length = n
  fits : n ≤ cap
  room : cap ≤ 9223372036854775807
  lies : 0 < n → ∃ b o, p = some ⟨b, o, none⟩ ∧ b < w.heap.size ∧ ∀ i, i < n → ∃ p' n' c', w.cell? ⟨b, o + i, none⟩ = some (.slice p' n' c') ∧ In8 w p' n' c' (es.getD i []) ∧ n' ≤ 300
theorem E22.below {w w' : World} {p : Option Addr} {n cap : Nat} {es : List (List Int)} (h : E22 w p n cap es) (hb : Below w.heap.size w w') : E22 w' p n cap es :=
  ⟨h.len, h.fits, h.room, fun h0 => by
    obtain ⟨b, o, hp, hl, hc⟩ := h.lies h0
    refine ⟨b, o, hp, Nat.lt_of_lt_of_le hl hb.size, fun i hi => ?_⟩
    obtain ⟨p', n', c', h1, h2, h3⟩ := hc i hi
    exact ⟨p', n', c', by rw [hb.cell (p := ⟨b, o + i, none⟩) hl]; exact h1, h2.below hb, h3⟩⟩
theorem E22.front {w : World} {p : Option Addr} {n cap : Nat} {es : List (List Int)} (h : E22 w p n cap es) (m : Nat) (hm : m ≤ n) : E22 w p m cap (es.take m) :=
  ⟨by rw [List.length_take, h.len]; omega, by have := h.fits; omega, h.room, fun h0 => by
    obtain ⟨b, o, hp, hl, hc⟩ := h.lies (by omega)
    refine ⟨b, o, hp, hl, fun i hi => ?_⟩
    obtain ⟨p', n', c', h1, h2, h3⟩ := hc i (by omega)
    refine ⟨p', n', c', h1, ?_, h3⟩
    rw [List.getD_eq_getElem?_getD, List.getElem?_take, if_pos hi, ← List.getD_eq_getElem?_getD]
    exact h2⟩
theorem E22.back {w : World} {b o : Nat} {n cap : Nat} {es : List (List Int)} (h : E22 w (some ⟨b, o, none⟩) n cap es) (k : Nat) (hk : k < n) : E22 w (some ⟨b, o + k, none⟩) (n - k) (cap - k) (es.drop k) :=
  ⟨by rw [List.length_drop, h.len], by have := h.fits; omega, by have := h.room; omega, fun h0 => by
    obtain ⟨b', o', hp, hl, hc⟩ := h.lies (by omega)
    cases hp
    refine ⟨b, o + k, rfl, hl, fun i hi => ?_⟩
    obtain ⟨p', n', c', h1, h2, h3⟩ := hc (k + i) (by omega)
    refine ⟨p', n', c', by rw [Nat.add_assoc]; exact h1, ?_, h3⟩
    rw [List.getD_eq_getElem?_getD, List.getElem?_drop, ← List.getD_eq_getElem?_getD]
    exact h2⟩
theorem eslice_front (ad : Addr) (n c m : Nat) (hm : m ≤ n) (hn : n ≤ c) (W : World) :
    (Instr.sliceAt 47 (.slice (some ad) n c) none (some (.int .i64 m)) none).run Tryd.prog W = .ok (.slice (some ad) m c) W := by
  have h1 : (m : Int) ≤ c := by omega
  go_simp
theorem eslice_back (b o n c m : Nat) (hm : m < n) (hn : n ≤ c) (W : World) :
    (Instr.sliceAt 47 (.slice (some ⟨b, o, none⟩) n c) (some (.int .i64 m)) none none).run Tryd.prog W = .ok (.slice (some ⟨b, o + m, none⟩) (n - m) (c - m)) W := by
  have h1 : (m : Int) ≤ n := by omega
  have h2 : ¬ c = m := by omega
  have h3 : (⟨b, o, none⟩ : Addr).add m = ⟨b, o + m, none⟩ := addr_add _ _ _
  go_simp
set_option maxHeartbeats 1000000 in
theorem split_any (b o n c : Nat) (w : World) (h2 : 2 ≤ n) (hc : n ≤ c) (hr : c ≤ 9223372036854775807) :
    Calls Tryd.prog 102 #[.slice (some ⟨b, o, none⟩) n c] w fun e w' => e = .returned (.tuple #[.slice (some ⟨b, o, none⟩) (halfN n) c, .slice (some ⟨b, o + halfN n, none⟩) (n - halfN n) (c - halfN n)]) ∧ Below w.heap.size w w' := by
  obtain ⟨hk1, hk2, hk3⟩ := halfN_spec n h2 (by omega)
  have hpb := fun W => powerBelow_any n W h2 (by omega)
  have hs1 := fun W => eslice_front ⟨b, o, none⟩ n c (halfN n) (by omega) hc W
  have hs2 := fun W => eslice_back b o n c (halfN n) hk1 hc W
  go_enter Tryd.func102, Tryd.ntmps102
  go_wp2_with fail
  refine (hpb w).mono ?_
  rintro ex w1 ⟨rfl, rfl⟩
  clear hpb
  obtain ⟨k, hk⟩ : ∃ k, halfN n = k := ⟨_, rfl⟩
  have HK : Hid (halfN n = k) := hk
  rw [hk] at hk1 hk2 hk3 hs1 hs2 ⊢
  clear hk
  go_wp2_with fail
  refine wp_region_noPanic ?_
  refine wp_region_held (S := fun _ => True) follows ?_
  refine wpAnyH_take (i := 0) (v := .slice (some ⟨b, o, none⟩) n c) rfl (by kernel_rfl) (by kernel_rfl) (by kernel_rfl) (fun _ _ _ h => h) (.inl ⟨rfl, fun W _ => by go_simp⟩) trivial ?_
  simp only [Act.put, List.getElem_toArray, List.getElem_cons_zero, List.getElem_cons_succ, List.setIfInBounds_toArray, List.set_cons_zero, List.set_cons_succ]
  refine wpAnyH_take (i := 1) (v := .int .i64 k) rfl (by kernel_rfl) (by kernel_rfl) (by kernel_rfl) (fun _ _ _ h => h) (.inl ⟨rfl, fun W _ => by go_simp⟩) trivial ?_
  simp only [Act.put, List.getElem_toArray, List.getElem_cons_zero, List.getElem_cons_succ, List.setIfInBounds_toArray, List.set_cons_zero, List.set_cons_succ]
  refine wpAnyH_take (i := 2) (v := .slice (some ⟨b, o, none⟩) k c) rfl (by kernel_rfl) (by kernel_rfl) (by kernel_rfl) (fun _ _ _ h => h) (.inl ⟨rfl, fun W _ => by have e := hs1 W; go_simp⟩) trivial ?_
  simp only [Act.put, List.getElem_toArray, List.getElem_cons_zero, List.getElem_cons_succ, List.setIfInBounds_toArray, List.set_cons_zero, List.set_cons_succ]
  refine wpAnyH_take (i := 3) (v := .slice (some ⟨b, o, none⟩) n c) rfl (by kernel_rfl) (by kernel_rfl) (by kernel_rfl) (fun _ _ _ h => h) (.inl ⟨rfl, fun W _ => by go_simp⟩) trivial ?_
  simp only [Act.put, List.getElem_toArray, List.getElem_cons_zero, List.getElem_cons_succ, List.setIfInBounds_toArray, List.set_cons_zero, List.set_cons_succ]
  refine wpAnyH_take (i := 4) (v := .int .i64 k) rfl (by kernel_rfl) (by kernel_rfl) (by kernel_rfl) (fun _ _ _ h => h) (.inl ⟨rfl, fun W _ => by go_simp⟩) trivial ?_
  simp only [Act.put, List.getElem_toArray, List.getElem_cons_zero, List.getElem_cons_succ, List.setIfInBounds_toArray, List.set_cons_zero, List.set_cons_succ]
  refine wpAnyH_take (i := 5) (v := .slice (some ⟨b, o + k, none⟩) (n - k) (c - k)) rfl (by kernel_rfl) (by kernel_rfl) (by kernel_rfl) (fun _ _ _ h => h) (.inl ⟨rfl, fun W _ => by have e := hs2 W; go_simp⟩) trivial ?_
  simp only [Act.put, List.getElem_toArray, List.getElem_cons_zero, List.getElem_cons_succ, List.setIfInBounds_toArray, List.set_cons_zero, List.set_cons_succ]
  refine wpAnyH_take (i := 6) (v := .slice (some ⟨b, o, none⟩) k c) rfl (by kernel_rfl) (by kernel_rfl) (by kernel_rfl) (fun _ _ _ h => h) (.inl ⟨rfl, fun W _ => by go_simp⟩) trivial ?_
  simp only [Act.put, List.getElem_toArray, List.getElem_cons_zero, List.getElem_cons_succ, List.setIfInBounds_toArray, List.set_cons_zero, List.set_cons_succ]
  refine wpAnyH_take (i := 7) (v := .slice (some ⟨b, o + k, none⟩) (n - k) (c - k)) rfl (by kernel_rfl) (by kernel_rfl) (by kernel_rfl) (fun _ _ _ h => h) (.inl ⟨rfl, fun W _ => by go_simp⟩) trivial ?_
  simp only [Act.put, List.getElem_toArray, List.getElem_cons_zero, List.getElem_cons_succ, List.setIfInBounds_toArray, List.set_cons_zero, List.set_cons_succ]
  refine wpAnyH_done (by kernel_rfl) ?_ _
  refine NoPanic.normal ?_
  clear hs1 hs2
  have hb : Below w1.heap.size w1 w1.drew := (Below.refl _ _).drew
  go_wp2_with fail
  go_ret2
  exact ⟨by rw [HK.out]; rfl, hb⟩
set_option maxHeartbeats 2000000 in
theorem troot_any : ∀ (n : Nat) (p : Option Addr) (cap : Nat) (es : List (List Int)) (w : World), Tabs KS HS w → E22 w p n cap es →
    Calls Tryd.prog 76 #[.slice p n cap] w fun e w' => e = .returned (.agg (A8 (rootP es))) ∧ Below w.heap.size w w' := by
  intro n
  induction n using Nat.strongRecOn with
  | ind n ih =>
    intro p cap es w hT hE
    have hb0 : Below w.heap.size w (w.alloc (.cells Z8x32 25)) := (Below.refl _ _).alloc (Nat.le_refl _) _
    have d0 : Hid (Dg (w.alloc (.cells Z8x32 25)) w.heap.size Z32) := Dg.new w _ rfl
    have hf := hE.fits
    have hr := hE.room
    have hlen := hE.len
    by_cases h0 : n = 0
    · subst h0
      have he : es = [] := List.length_eq_zero_iff.1 hlen
      subst he
      go_enter Tryd.func76, Tryd.ntmps76
      go_wp2_with fail
      refine (hP_any _ (hT.below hb0) none 0 0 [] ⟨rfl, fun j => by simp, by omega, by omega, by omega, fun h => by simp at h⟩).mono ?_
      rintro e w1 ⟨rfl, b1⟩
      have d1 : Hid (Dg w1 w.heap.size Z32) := d0.out.next b1
      have B1 : Below w.heap.size w w1 := hb0.trans (b1.mono (by simp))
      have hl := hP_len []
      clear b1 d0
      have e0 : Hid (rootP [] = hP []) := rfl
      obtain ⟨D, hD⟩ : ∃ D, hP [] = D := ⟨_, rfl⟩
      rw [hD] at hl e0 ⊢
      clear hD
      go_wp2_with (first
        | (with_reducible refine atStore 25 ?_
           refine store_D rfl _ _ rfl w.heap.size D rfl rfl Z32 d1.out hl ?_
           intro U hU))
      exact bodyPost_ret (results_D rfl _ _ w.heap.size D rfl (hU.dg hl)) rfl ⟨by rw [e0.out], hU.below _ _ (Nat.le_refl _) B1⟩
    · obtain ⟨b, o, rfl, hbl, hcs⟩ := hE.lies (by omega)
      by_cases h1 : n = 1
      · subst h1
        obtain ⟨p', n', c', hc1, hi1, hn'⟩ := hcs 0 (by omega)
        rw [Nat.add_zero] at hc1
        have hc0 : ∀ ob, (w.alloc ob).cell? ⟨b, o, none⟩ = some (.slice p' n' c') := fun ob => by
          rw [((Below.refl w.heap.size w).alloc (Nat.le_refl _) ob).cell (p := ⟨b, o, none⟩) hbl]; exact hc1
        have hi0 := hi1.below hb0
        clear hcs hc1 hi1
        have hx : es = [es.getD 0 []] := by
          match es, hlen with
          | [e], _ => rfl
        have HX : Hid (rootP es = leafP (es.getD 0 [])) := by
          show rootP es = _
          rw [hx]; rfl
        generalize es.getD 0 [] = x at *
        go_enter Tryd.func76, Tryd.ntmps76
        go_wp2_with fail
        refine (leafOf_any _ (hT.below hb0) p' n' c' x hi0 (by omega)).mono ?_
        rintro e w1 ⟨rfl, b1⟩
        have d1 : Hid (Dg w1 w.heap.size Z32) := d0.out.next b1
        have B1 : Below w.heap.size w w1 := hb0.trans (b1.mono (by simp))
        have hl := leafP_len x
        clear b1 d0 hc0 hi0
        obtain ⟨D, hD⟩ : ∃ D, leafP x = D := ⟨_, rfl⟩
        rw [hD] at hl HX ⊢
        clear hD
        go_wp2_with (first
          | (with_reducible refine atStore 25 ?_
             refine store_D rfl _ _ rfl w.heap.size D rfl rfl Z32 d1.out hl ?_
             intro U hU))
        exact bodyPost_ret (results_D rfl _ _ w.heap.size D rfl (hU.dg hl)) rfl ⟨by rw [HX.out], hU.below _ _ (Nat.le_refl _) B1⟩
      · have h0' : ¬ (n : Int) = 0 := by omega
        have h1' : ¬ (n : Int) = 1 := by omega
        obtain ⟨hk1, hk2, hk3⟩ := halfN_spec n (by omega) (by omega)
        have HX : Hid (rootP es = knotP (rootP (es.take (halfN n))) (rootP (es.drop (halfN n)))) := by
          show rootP es = _
          have := rootP_more es (by omega) (by omega)
          rw [hlen] at this
          exact this
        clear hcs
        go_enter Tryd.func76, Tryd.ntmps76
        go_wp2_with fail
        refine (split_any b o n cap _ (by omega) hf hr).mono ?_
        rintro e w1 ⟨rfl, b1⟩
        have d1 : Hid (Dg w1 w.heap.size Z32) := d0.out.next b1
        have B1 : Below w.heap.size w w1 := hb0.trans (b1.mono (by simp))
        clear b1 d0
        generalize halfN n = k at *
        go_wp2_with fail
        refine (ih k (by omega) _ cap (es.take k) w1 (hT.below B1) ((hE.front k (by omega)).below B1)).mono ?_
        rintro e w2 ⟨rfl, b2⟩
        have d2 : Hid (Dg w2 w.heap.size Z32) := d1.out.next b2
        have B2 : Below w.heap.size w w2 := B1.trans (b2.mono B1.size)
        obtain ⟨hLl, hLb⟩ := rootP_ok (es.take k)
        clear b2 d1 B1
        generalize rootP (es.take k) = L at *
        go_wp2_with fail
        refine (ih (n - k) (by omega) _ (cap - k) (es.drop k) w2 (hT.below B2) ((hE.back k hk1).below B2)).mono ?_
        rintro e w3 ⟨rfl, b3⟩
        have d3 : Hid (Dg w3 w.heap.size Z32) := d2.out.next b3
        have B3 : Below w.heap.size w w3 := B2.trans (b3.mono B2.size)
        obtain ⟨hRl, hRb⟩ := rootP_ok (es.drop k)
        clear b3 d2 B2
        generalize rootP (es.drop k) = R at *
        go_wp2_with fail
        refine (knotOf_any w3 (hT.below B3) L R hLl hRl hLb hRb).mono ?_
        rintro e w4 ⟨rfl, b4⟩
        have d4 : Hid (Dg w4 w.heap.size Z32) := d3.out.next b4
        have B4 : Below w.heap.size w w4 := B3.trans (b4.mono B3.size)
        have hl := knotP_len L R
        clear b4 d3 B3
        obtain ⟨D, hD⟩ : ∃ D, knotP L R = D := ⟨_, rfl⟩
        rw [hD] at hl HX ⊢
        clear hD
        go_wp2_with (first
          | (with_reducible refine atStore 25 ?_
             refine store_D rfl _ _ rfl w.heap.size D rfl rfl Z32 d4.out hl ?_
             intro U hU))
        exact bodyPost_ret (results_D rfl _ _ w.heap.size D rfl (hU.dg hl)) rfl ⟨by rw [HX.out], hU.below _ _ (Nat.le_refl _) B4⟩
end Go.Proofs.YtcmjlhcpoajbkaaDoor
