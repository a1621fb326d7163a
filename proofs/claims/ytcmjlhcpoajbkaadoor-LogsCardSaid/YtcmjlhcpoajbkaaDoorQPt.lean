import Derived.Test.YtcmjlhcpoajbkaaDoorQDs
import Derived.Test.YtcmjlhcpoajbkaaDoorQHalf
import Derived.Test.YtcmjlhcpoajbkaaDoorQKd
namespace Go.Proofs.YtcmjlhcpoajbkaaDoor
set_option maxRecDepth 10000
set_option linter.unusedSimpArgs false
open Go.RowKit
/-- The root of entries. -/
def rootF : Nat → List (List Int) → List Int
  | 0, _ => hP []
  | f + 1, es => if es.length = 0 then hP [] else if es.length = 1 then leafP (es.getD 0 []) else knotP (rootF f (es.take (halfN es.length))) (rootF f (es.drop (halfN es.length)))
def rootP (es : List (List Int)) : List Int := rootF es.length es
theorem rootF_ok (f : Nat) (es : List (List Int)) : (rootF f es).length = 32 ∧ Bytes (rootF f es) := by
  cases f with
  | zero => exact ⟨hP_len _, hP_bytes _⟩
  | succ f => unfold rootF; split
              · exact ⟨hP_len _, hP_bytes _⟩
              · split
                · exact ⟨leafP_len _, leafP_bytes _⟩
                · exact ⟨knotP_len _ _, knotP_bytes _ _⟩
theorem rootP_ok (es : List (List Int)) : (rootP es).length = 32 ∧ Bytes (rootP es) := rootF_ok _ _
theorem rootF_fuel : ∀ (f g : Nat) (es : List (List Int)), es.length ≤ f → es.length ≤ g → es.length < 2 ^ 63 → rootF f es = rootF g es := by
  intro f
  induction f with
  | zero =>
    intro g es h1 h2 h3
    have h0 : es.length = 0 := by omega
    cases g with
    | zero => rfl
    | succ g => simp [rootF, h0]
  | succ f ih =>
    intro g es h1 h2 h3
    cases g with
    | zero =>
      have h0 : es.length = 0 := by omega
      simp [rootF, h0]
    | succ g =>
      unfold rootF
      by_cases h0 : es.length = 0
      · rw [if_pos h0, if_pos h0]
      · rw [if_neg h0, if_neg h0]
        by_cases e1 : es.length = 1
        · rw [if_pos e1, if_pos e1]
        · rw [if_neg e1, if_neg e1]
          obtain ⟨a, b, c⟩ := halfN_spec es.length (by omega) (by omega)
          rw [ih g (es.take (halfN es.length)) (by rw [List.length_take]; omega) (by rw [List.length_take]; omega) (by rw [List.length_take]; omega),
            ih g (es.drop (halfN es.length)) (by rw [List.length_drop]; omega) (by rw [List.length_drop]; omega) (by rw [List.length_drop]; omega)]
theorem rootP_more (es : List (List Int)) (h : 2 ≤ es.length) (h3 : es.length < 2 ^ 63) : rootP es = knotP (rootP (es.take (halfN es.length))) (rootP (es.drop (halfN es.length))) := by
  obtain ⟨a, b, c⟩ := halfN_spec es.length h (by omega)
  have h1 : rootP es = rootF (es.length - 1 + 1) es := by unfold rootP; rw [Nat.sub_add_cancel (by omega)]
  rw [h1]
  unfold rootF
  rw [if_neg (by omega), if_neg (by omega)]
  unfold rootP
  rw [rootF_fuel (es.length - 1) (es.take (halfN es.length)).length (es.take (halfN es.length)) (by rw [List.length_take]; omega) (Nat.le_refl _) (by rw [List.length_take]; omega),
    rootF_fuel (es.length - 1) (es.drop (halfN es.length)).length (es.drop (halfN es.length)) (by rw [List.length_drop]; omega) (Nat.le_refl _) (by rw [List.length_drop]; omega)]
/-- A slice of entries. -/
structure E22 (w : World) (p : Option Addr) (n cap : Nat) (es : List (List Int)) : Prop where
  len : es.length = n
  fits : n ≤ cap
  room : cap ≤ 9223372036854775807
  lies : 0 < n → ∃ b o, p = some ⟨b, o, none⟩ ∧ b < w.heap.size ∧ ∀ i, i < n → ∃ p' n' c', w.cell? ⟨b, o + i, none⟩ = some (.slice p' n' c') ∧ In8 w p' n' c' (es.getD i []) ∧ n' ≤ 300
theorem E22.below {w w' : World} {p : Option Addr} {n cap : Nat} {es : List (List Int)} (h : E22 w p n cap es) (hb : Below w.heap.size w w') : E22 w' p n cap es :=
  ⟨h.len, h.fits, h.room, fun h0 => by
    obtain ⟨b, o, hp, hl, hc⟩ := h.lies h0
    refine ⟨b, o, hp, Nat.lt_of_lt_of_le hl hb.size, fun i hi => ?_⟩
    obtain ⟨p', n', c', h1, h2, h3⟩ := hc i hi
    exact ⟨p', n', c', by rw [hb.cell (p := ⟨b, o + i, none⟩) hl]; exact h1, h2.below hb, h3⟩⟩
theorem E22.front {w : World} {p : Option Addr} {n cap : Nat} {es : List (List Int)} (h : E22 w p n cap es) (m : Nat) (hm : m ≤ n) : E22 w p m cap (es.take m) :=
  ⟨by rw [List.length_take, h.len]; omega, by have := h.fits; omega, h.room, fun h0 => by
    obtain ⟨b, o, hp, hl, hc⟩ := h.lies (by omega)
    refine ⟨b, o, hp, hl, fun i hi => ?_⟩
    obtain ⟨p', n', c', h1, h2, h3⟩ := hc i (by omega)
    refine ⟨p', n', c', h1, ?_, h3⟩
    rw [List.getD_eq_getElem?_getD, List.getElem?_take, if_pos hi, ← List.getD_eq_getElem?_getD]
    exact h2⟩
theorem E22.back {w : World} {b o : Nat} {n cap : Nat} {es : List (List Int)} (h : E22 w (some ⟨b, o, none⟩) n cap es) (k : Nat) (hk : k < n) : E22 w (some ⟨b, o + k, none⟩) (n - k) (cap - k) (es.drop k) :=
  ⟨by rw [List.length_drop, h.len], by have := h.fits; omega, by have := h.room; omega, fun h0 => by
    obtain ⟨b', o', hp, hl, hc⟩ := h.lies (by omega)
    cases hp
    refine ⟨b, o + k, rfl, hl, fun i hi => ?_⟩
    obtain ⟨p', n', c', h1, h2, h3⟩ := hc (k + i) (by omega)
    refine ⟨p', n', c', by rw [Nat.add_assoc]; exact h1, ?_, h3⟩
    rw [List.getD_eq_getElem?_getD, List.getElem?_drop, ← List.getD_eq_getElem?_getD]
    exact h2⟩
theorem eslice_front (ad : Addr) (n c m : Nat) (hm : m ≤ n) (hn : n ≤ c) (W : World) :
    (Instr.sliceAt 47 (.slice (some ad) n c) none (some (.int .i64 m)) none).run Tryd.prog W = .ok (.slice (some ad) m c) W := by
  have h1 : (m : Int) ≤ c := by omega
  go_simp
theorem eslice_back (b o n c m : Nat) (hm : m < n) (hn : n ≤ c) (W : World) :
    (Instr.sliceAt 47 (.slice (some ⟨b, o, none⟩) n c) (some (.int .i64 m)) none none).run Tryd.prog W = .ok (.slice (some ⟨b, o + m, none⟩) (n - m) (c - m)) W := by
  have h1 : (m : Int) ≤ n := by omega
  have h2 : ¬ c = m := by omega
  have h3 : (⟨b, o, none⟩ : Addr).add m = ⟨b, o + m, none⟩ := addr_add _ _ _
  go_simp
set_option maxHeartbeats 1000000 in
theorem split_any (b o n c : Nat) (w : World) (h2 : 2 ≤ n) (hc : n ≤ c) (hr : c ≤ 9223372036854775807) :
    Calls Tryd.prog 102 #[.slice (some ⟨b, o, none⟩) n c] w fun e w' => e = .returned (.tuple #[.slice (some ⟨b, o, none⟩) (halfN n) c, .slice (some ⟨b, o + halfN n, none⟩) (n - halfN n) (c - halfN n)]) ∧ Below w.heap.size w w' := by
  obtain ⟨hk1, hk2, hk3⟩ := halfN_spec n h2 (by omega)
  have hpb := fun W => powerBelow_any n W h2 (by omega)
  have hs1 := fun W => eslice_front ⟨b, o, none⟩ n c (halfN n) (by omega) hc W
  have hs2 := fun W => eslice_back b o n c (halfN n) hk1 hc W
  go_enter Tryd.func102, Tryd.ntmps102
  go_wp2_with fail
  refine (hpb w).mono ?_
  rintro ex w1 ⟨rfl, rfl⟩
  clear hpb
  obtain ⟨k, hk⟩ : ∃ k, halfN n = k := ⟨_, rfl⟩
  have HK : Hid (halfN n = k) := hk
  rw [hk] at hk1 hk2 hk3 hs1 hs2 ⊢
  clear hk
  go_wp2_with fail
  refine wp_region_noPanic ?_
  refine wp_region_held (S := fun _ => True) follows ?_
  refine wpAnyH_take (i := 0) (v := .slice (some ⟨b, o, none⟩) n c) rfl (by kernel_rfl) (by kernel_rfl) (by kernel_rfl) (fun _ _ _ h => h) (.inl ⟨rfl, fun W _ => by go_simp⟩) trivial ?_
  simp only [Act.put, List.getElem_toArray, List.getElem_cons_zero, List.getElem_cons_succ, List.setIfInBounds_toArray, List.set_cons_zero, List.set_cons_succ]
  refine wpAnyH_take (i := 1) (v := .int .i64 k) rfl (by kernel_rfl) (by kernel_rfl) (by kernel_rfl) (fun _ _ _ h => h) (.inl ⟨rfl, fun W _ => by go_simp⟩) trivial ?_
  simp only [Act.put, List.getElem_toArray, List.getElem_cons_zero, List.getElem_cons_succ, List.setIfInBounds_toArray, List.set_cons_zero, List.set_cons_succ]
  refine wpAnyH_take (i := 2) (v := .slice (some ⟨b, o, none⟩) k c) rfl (by kernel_rfl) (by kernel_rfl) (by kernel_rfl) (fun _ _ _ h => h) (.inl ⟨rfl, fun W _ => by have e := hs1 W; go_simp⟩) trivial ?_
  simp only [Act.put, List.getElem_toArray, List.getElem_cons_zero, List.getElem_cons_succ, List.setIfInBounds_toArray, List.set_cons_zero, List.set_cons_succ]
  refine wpAnyH_take (i := 3) (v := .slice (some ⟨b, o, none⟩) n c) rfl (by kernel_rfl) (by kernel_rfl) (by kernel_rfl) (fun _ _ _ h => h) (.inl ⟨rfl, fun W _ => by go_simp⟩) trivial ?_
  simp only [Act.put, List.getElem_toArray, List.getElem_cons_zero, List.getElem_cons_succ, List.setIfInBounds_toArray, List.set_cons_zero, List.set_cons_succ]
  refine wpAnyH_take (i := 4) (v := .int .i64 k) rfl (by kernel_rfl) (by kernel_rfl) (by kernel_rfl) (fun _ _ _ h => h) (.inl ⟨rfl, fun W _ => by go_simp⟩) trivial ?_
  simp only [Act.put, List.getElem_toArray, List.getElem_cons_zero, List.getElem_cons_succ, List.setIfInBounds_toArray, List.set_cons_zero, List.set_cons_succ]
  refine wpAnyH_take (i := 5) (v := .slice (some ⟨b, o + k, none⟩) (n - k) (c - k)) rfl (by kernel_rfl) (by kernel_rfl) (by kernel_rfl) (fun _ _ _ h => h) (.inl ⟨rfl, fun W _ => by have e := hs2 W; go_simp⟩) trivial ?_
  simp only [Act.put, List.getElem_toArray, List.getElem_cons_zero, List.getElem_cons_succ, List.setIfInBounds_toArray, List.set_cons_zero, List.set_cons_succ]
  refine wpAnyH_take (i := 6) (v := .slice (some ⟨b, o, none⟩) k c) rfl (by kernel_rfl) (by kernel_rfl) (by kernel_rfl) (fun _ _ _ h => h) (.inl ⟨rfl, fun W _ => by go_simp⟩) trivial ?_
  simp only [Act.put, List.getElem_toArray, List.getElem_cons_zero, List.getElem_cons_succ, List.setIfInBounds_toArray, List.set_cons_zero, List.set_cons_succ]
  refine wpAnyH_take (i := 7) (v := .slice (some ⟨b, o + k, none⟩) (n - k) (c - k)) rfl (by kernel_rfl) (by kernel_rfl) (by kernel_rfl) (fun _ _ _ h => h) (.inl ⟨rfl, fun W _ => by go_simp⟩) trivial ?_
  simp only [Act.put, List.getElem_toArray, List.getElem_cons_zero, List.getElem_cons_succ, List.setIfInBounds_toArray, List.set_cons_zero, List.set_cons_succ]
  refine wpAnyH_done (by kernel_rfl) ?_ _
  refine NoPanic.normal ?_
  clear hs1 hs2
  have hb : Below w1.heap.size w1 w1.drew := (Below.refl _ _).drew
  go_wp2_with fail
  go_ret2
  exact ⟨by rw [HK.out]; rfl, hb⟩
set_option maxHeartbeats 2000000 in
theorem troot_any : ∀ (n : Nat) (p : Option Addr) (cap : Nat) (es : List (List Int)) (w : World), Tabs KS HS w → E22 w p n cap es →
    Calls Tryd.prog 76 #[.slice p n cap] w fun e w' => e = .returned (.agg (A8 (rootP es))) ∧ Below w.heap.size w w' := by
  intro n
  induction n using Nat.strongRecOn with
  | ind n ih =>
    intro p cap es w hT hE
    have hb0 : Below w.heap.size w (w.alloc (.cells Z8x32 25)) := (Below.refl _ _).alloc (Nat.le_refl _) _
    have d0 : Hid (Dg (w.alloc (.cells Z8x32 25)) w.heap.size Z32) := Dg.new w _ rfl
    have hf := hE.fits
    have hr := hE.room
    have hlen := hE.len
    by_cases h0 : n = 0
    · subst h0
      have he : es = [] := List.length_eq_zero_iff.1 hlen
      subst he
      go_enter Tryd.func76, Tryd.ntmps76
      go_wp2_with fail
      refine (hP_any _ (hT.below hb0) none 0 0 [] ⟨rfl, fun j => by simp, by omega, by omega, by omega, fun h => by simp at h⟩).mono ?_
      rintro e w1 ⟨rfl, b1⟩
      have d1 : Hid (Dg w1 w.heap.size Z32) := d0.out.next b1
      have B1 : Below w.heap.size w w1 := hb0.trans (b1.mono (by simp))
      have hl := hP_len []
      clear b1 d0
      have e0 : Hid (rootP [] = hP []) := rfl
      obtain ⟨D, hD⟩ : ∃ D, hP [] = D := ⟨_, rfl⟩
      rw [hD] at hl e0 ⊢
      clear hD
      go_wp2_with (first
        | (with_reducible refine atStore 25 ?_
           refine store_D rfl _ _ rfl w.heap.size D rfl rfl Z32 d1.out hl ?_
           intro U hU))
      exact bodyPost_ret (results_D rfl _ _ w.heap.size D rfl (hU.dg hl)) rfl ⟨by rw [e0.out], hU.below _ _ (Nat.le_refl _) B1⟩
    · obtain ⟨b, o, rfl, hbl, hcs⟩ := hE.lies (by omega)
      by_cases h1 : n = 1
      · subst h1
        obtain ⟨p', n', c', hc1, hi1, hn'⟩ := hcs 0 (by omega)
        rw [Nat.add_zero] at hc1
        have hc0 : ∀ ob, (w.alloc ob).cell? ⟨b, o, none⟩ = some (.slice p' n' c') := fun ob => by
          rw [((Below.refl w.heap.size w).alloc (Nat.le_refl _) ob).cell (p := ⟨b, o, none⟩) hbl]; exact hc1
        have hi0 := hi1.below hb0
        clear hcs hc1 hi1
        have hx : es = [es.getD 0 []] := by
          match es, hlen with
          | [e], _ => rfl
        have HX : Hid (rootP es = leafP (es.getD 0 [])) := by
          show rootP es = _
          rw [hx]; rfl
        generalize es.getD 0 [] = x at *
        go_enter Tryd.func76, Tryd.ntmps76
        go_wp2_with fail
        refine (leafOf_any _ (hT.below hb0) p' n' c' x hi0 (by omega)).mono ?_
        rintro e w1 ⟨rfl, b1⟩
        have d1 : Hid (Dg w1 w.heap.size Z32) := d0.out.next b1
        have B1 : Below w.heap.size w w1 := hb0.trans (b1.mono (by simp))
        have hl := leafP_len x
        clear b1 d0 hc0 hi0
        obtain ⟨D, hD⟩ : ∃ D, leafP x = D := ⟨_, rfl⟩
        rw [hD] at hl HX ⊢
        clear hD
        go_wp2_with (first
          | (with_reducible refine atStore 25 ?_
             refine store_D rfl _ _ rfl w.heap.size D rfl rfl Z32 d1.out hl ?_
             intro U hU))
        exact bodyPost_ret (results_D rfl _ _ w.heap.size D rfl (hU.dg hl)) rfl ⟨by rw [HX.out], hU.below _ _ (Nat.le_refl _) B1⟩
      · have h0' : ¬ (n : Int) = 0 := by omega
        have h1' : ¬ (n : Int) = 1 := by omega
        obtain ⟨hk1, hk2, hk3⟩ := halfN_spec n (by omega) (by omega)
        have HX : Hid (rootP es = knotP (rootP (es.take (halfN n))) (rootP (es.drop (halfN n)))) := by
          show rootP es = _
          have := rootP_more es (by omega) (by omega)
          rw [hlen] at this
          exact this
        clear hcs
        go_enter Tryd.func76, Tryd.ntmps76
        go_wp2_with fail
        refine (split_any b o n cap _ (by omega) hf hr).mono ?_
        rintro e w1 ⟨rfl, b1⟩
        have d1 : Hid (Dg w1 w.heap.size Z32) := d0.out.next b1
        have B1 : Below w.heap.size w w1 := hb0.trans (b1.mono (by simp))
        clear b1 d0
        generalize halfN n = k at *
        go_wp2_with fail
        refine (ih k (by omega) _ cap (es.take k) w1 (hT.below B1) ((hE.front k (by omega)).below B1)).mono ?_
        rintro e w2 ⟨rfl, b2⟩
        have d2 : Hid (Dg w2 w.heap.size Z32) := d1.out.next b2
        have B2 : Below w.heap.size w w2 := B1.trans (b2.mono B1.size)
        obtain ⟨hLl, hLb⟩ := rootP_ok (es.take k)
        clear b2 d1 B1
        generalize rootP (es.take k) = L at *
        go_wp2_with fail
        refine (ih (n - k) (by omega) _ (cap - k) (es.drop k) w2 (hT.below B2) ((hE.back k hk1).below B2)).mono ?_
        rintro e w3 ⟨rfl, b3⟩
        have d3 : Hid (Dg w3 w.heap.size Z32) := d2.out.next b3
        have B3 : Below w.heap.size w w3 := B2.trans (b3.mono B2.size)
        obtain ⟨hRl, hRb⟩ := rootP_ok (es.drop k)
        clear b3 d2 B2
        generalize rootP (es.drop k) = R at *
        go_wp2_with fail
        refine (knotOf_any w3 (hT.below B3) L R hLl hRl hLb hRb).mono ?_
        rintro e w4 ⟨rfl, b4⟩
        have d4 : Hid (Dg w4 w.heap.size Z32) := d3.out.next b4
        have B4 : Below w.heap.size w w4 := B3.trans (b4.mono B3.size)
        have hl := knotP_len L R
        clear b4 d3 B3
        obtain ⟨D, hD⟩ : ∃ D, knotP L R = D := ⟨_, rfl⟩
        rw [hD] at hl HX ⊢
        clear hD
        go_wp2_with (first
          | (with_reducible refine atStore 25 ?_
             refine store_D rfl _ _ rfl w.heap.size D rfl rfl Z32 d4.out hl ?_
             intro U hU))
        exact bodyPost_ret (results_D rfl _ _ w.heap.size D rfl (hU.dg hl)) rfl ⟨by rw [HX.out], hU.below _ _ (Nat.le_refl _) B4⟩
end Go.Proofs.YtcmjlhcpoajbkaaDoor
namespace Go.Proofs.YtcmjlhcpoajbkaaDoor
set_option maxRecDepth 10000
set_option linter.unusedSimpArgs false
open Go.RowKit
/-- The part of a link that lies in these entries. -/
def subF : Nat → Nat → List (List Int) → Bool → List (List Int)
  | 0, _, _, _ => []
  | f + 1, m, es, whole => if m = es.length then (if whole then [] else [rootP es]) else
      if m ≤ halfN es.length then subF f m (es.take (halfN es.length)) whole ++ [rootP (es.drop (halfN es.length))]
      else subF f (m - halfN es.length) (es.drop (halfN es.length)) false ++ [rootP (es.take (halfN es.length))]
def subP (m : Nat) (es : List (List Int)) (whole : Bool) : List (List Int) := subF es.length m es whole
theorem subF_ok : ∀ (f m : Nat) (es : List (List Int)) (whole : Bool), ∀ d ∈ subF f m es whole, d.length = 32 ∧ Bytes d := by
  intro f
  induction f with
  | zero => intro m es whole d hd; simp [subF] at hd
  | succ f ih =>
    intro m es whole d hd
    unfold subF at hd
    split at hd
    · split at hd
      · simp at hd
      · simp only [List.mem_singleton] at hd; subst hd; exact rootP_ok _
    · split at hd
      · rcases List.mem_append.1 hd with h | h
        · exact ih _ _ _ d h
        · simp only [List.mem_singleton] at h; subst h; exact rootP_ok _
      · rcases List.mem_append.1 hd with h | h
        · exact ih _ _ _ d h
        · simp only [List.mem_singleton] at h; subst h; exact rootP_ok _
theorem subF_len : ∀ (f m : Nat) (es : List (List Int)) (whole : Bool), (subF f m es whole).length ≤ f := by
  intro f
  induction f with
  | zero => intro m es whole; simp [subF]
  | succ f ih =>
    intro m es whole
    unfold subF
    split
    · split
      · simp
      · simp
    · split
      · rw [List.length_append]; have := ih m (es.take (halfN es.length)) whole; simp; omega
      · rw [List.length_append]; have := ih (m - halfN es.length) (es.drop (halfN es.length)) false; simp; omega
theorem subF_fuel : ∀ (f g m : Nat) (es : List (List Int)) (whole : Bool), es.length ≤ f → es.length ≤ g → 1 ≤ m → m ≤ es.length → es.length < 2 ^ 63 → subF f m es whole = subF g m es whole := by
  intro f
  induction f with
  | zero => intro g m es whole h1 h2 h3 h4; omega
  | succ f ih =>
    intro g m es whole h1 h2 h3 h4 h5
    cases g with
    | zero => omega
    | succ g =>
      unfold subF
      by_cases e : m = es.length
      · rw [if_pos e, if_pos e]
      · rw [if_neg e, if_neg e]
        obtain ⟨a, b, c⟩ := halfN_spec es.length (by omega) (by omega)
        by_cases hk : m ≤ halfN es.length
        · rw [if_pos hk, if_pos hk, ih g m (es.take (halfN es.length)) whole (by rw [List.length_take]; omega) (by rw [List.length_take]; omega) h3 (by rw [List.length_take]; omega) (by rw [List.length_take]; omega)]
        · rw [if_neg hk, if_neg hk, ih g (m - halfN es.length) (es.drop (halfN es.length)) false (by rw [List.length_drop]; omega) (by rw [List.length_drop]; omega) (by omega) (by rw [List.length_drop]; omega) (by rw [List.length_drop]; omega)]
theorem eqNat (m n : Nat) : ((m : Int) == (n : Int)) = decide (m = n) := by
  by_cases h : m = n
  · subst h; simp
  · have : ¬ ((m : Int) = (n : Int)) := by omega
    simp [h, this]
theorem subP_all (es : List (List Int)) (whole : Bool) (h : 1 ≤ es.length) : subP es.length es whole = if whole then [] else [rootP es] := by
  have h1 : subP es.length es whole = subF (es.length - 1 + 1) es.length es whole := by unfold subP; rw [Nat.sub_add_cancel h]
  rw [h1]
  unfold subF
  rw [if_pos rfl]
theorem subP_left (m : Nat) (es : List (List Int)) (whole : Bool) (h1 : 1 ≤ m) (h2 : m < es.length) (h3 : es.length < 2 ^ 63) (hk : m ≤ halfN es.length) :
    subP m es whole = subP m (es.take (halfN es.length)) whole ++ [rootP (es.drop (halfN es.length))] := by
  obtain ⟨a, b, c⟩ := halfN_spec es.length (by omega) (by omega)
  have e1 : subP m es whole = subF (es.length - 1 + 1) m es whole := by unfold subP; rw [Nat.sub_add_cancel (by omega)]
  rw [e1]
  unfold subF
  rw [if_neg (by omega), if_pos hk]
  unfold subP
  rw [subF_fuel (es.length - 1) (es.take (halfN es.length)).length m (es.take (halfN es.length)) whole (by rw [List.length_take]; omega) (Nat.le_refl _) h1 (by rw [List.length_take]; omega) (by rw [List.length_take]; omega)]
theorem subP_right (m : Nat) (es : List (List Int)) (whole : Bool) (h2 : m < es.length) (h3 : es.length < 2 ^ 63) (hk : ¬ m ≤ halfN es.length) :
    subP m es whole = subP (m - halfN es.length) (es.drop (halfN es.length)) false ++ [rootP (es.take (halfN es.length))] := by
  obtain ⟨a, b, c⟩ := halfN_spec es.length (by omega) (by omega)
  have e1 : subP m es whole = subF (es.length - 1 + 1) m es whole := by unfold subP; rw [Nat.sub_add_cancel (by omega)]
  rw [e1]
  unfold subF
  rw [if_neg (by omega), if_neg hk]
  unfold subP
  rw [subF_fuel (es.length - 1) (es.drop (halfN es.length)).length (m - halfN es.length) (es.drop (halfN es.length)) false (by rw [List.length_drop]; omega) (Nat.le_refl _) (by omega) (by rw [List.length_drop]; omega) (by rw [List.length_drop]; omega)]
theorem subP_ok (m : Nat) (es : List (List Int)) (whole : Bool) : ∀ d ∈ subP m es whole, d.length = 32 ∧ Bytes d := subF_ok _ _ _ _
theorem subP_len (m : Nat) (es : List (List Int)) (whole : Bool) : (subP m es whole).length ≤ es.length := subF_len _ _ _ _
def linkP (m : Nat) (es : List (List Int)) : List (List Int) := if m = 0 then [] else subP m es true
/-- A row of digests of one's own. -/
def Own (w : World) (B : Nat) (v : Value) (ds : List (List Int)) : Prop := w.ownsRow B 25 32 v ds.length (F8 ds)
theorem Own.mono {w : World} {B B' : Nat} {v : Value} {ds : List (List Int)} (h : Own w B v ds) (hb : B' ≤ B) : Own w B' v ds := by
  obtain ⟨h1, h2 | ⟨g, cap, cur, hv, hg, r⟩⟩ := h
  · exact ⟨h1, .inl h2⟩
  · exact ⟨h1, .inr ⟨g, cap, cur, hv, by omega, r⟩⟩
theorem Own.below {w w' : World} {B : Nat} {v : Value} {ds : List (List Int)} (h : Own w B v ds) (hb : Below w.heap.size w w') : Own w' B v ds := by
  obtain ⟨h1, h2 | ⟨g, cap, cur, hv, hg, hh, r⟩⟩ := h
  · exact ⟨h1, .inl h2⟩
  · exact ⟨h1, .inr ⟨g, cap, cur, hv, hg, (hb.block g (row_lt hh)).trans hh, r⟩⟩
theorem bslice1 (R : List Int) (hR : R.length = 32) (w : World) : (Instr.buildSlice 31 1 #[(0, .agg (A8 R))]).run Tryd.prog w = .ok (.slice (some ⟨w.heap.size, 0, none⟩) 1 1) (w.alloc (.cells (A8 R) 25)) := by
  obtain ⟨x0, x1, x2, x3, x4, x5, x6, x7, x8, x9, x10, x11, x12, x13, x14, x15, x16, x17, x18, x19, x20, x21, x22, x23, x24, x25, x26, x27, x28, x29, x30, x31, rfl⟩ := list32 R hR
  kernel_rfl
theorem atBuildSlice {P : Program} {ops : Array Oper} {Q : Exit → Act → World → Prop} {rest : List Oper} {a : Act} {w : World} {d l ps t p af g} (ty : TypeId)
    (h : wpList P ops Q (⟨d, .buildSlice ty l ps, t, p, af, g⟩ :: rest) a w) : wpList P ops Q (⟨d, .buildSlice ty l ps, t, p, af, g⟩ :: rest) a w := h
theorem wpList_bs1 {ops : Array Oper} {rest : List Oper} {o : Oper} {a : Act} {w : World} {Q : Exit → Act → World → Prop} (hgd : o.guard = none) (x : Operand) (ho : o.op = .buildSlice 31 1 #[(0, x)])
    (R : List Int) (hx : a.eval x = .agg (A8 R)) (hR : R.length = 32)
    (h : wpList Tryd.prog ops Q rest (a.put o.dst (.slice (some ⟨w.heap.size, 0, none⟩) 1 1)) (w.alloc (.cells (A8 R) 25))) : wpList Tryd.prog ops Q (o :: rest) a w := by
  have hr := bslice1 R hR w
  refine wpList_plain hgd fun _ hK => ?_
  unfold Oper.wp execOp
  simp only [ho, Sem.run_bind, Sem.run_pure, Result.andThen_ok, List.map_toArray, List.map_cons, List.map_nil, hx, hr]
  exact hK _ _ h
theorem one_cells (w : World) (R : List Int) (hR : R.length = 32) (W : World) (h : W.heap[w.heap.size]? = some (.cells (A8 R) 25)) : ∀ k, k < 1 → ∀ j, j < 32 → W.cell? ((⟨w.heap.size, 0, none⟩ : Addr).add (k * 32 + j)) = some (.int .u8 (([R].getD k []).getD j 0)) := fun k hk j hj => by
  have e : k = 0 := by omega
  subst e
  rw [addr_add, cell_of_row _ _ _ _ _ _ h, Nat.zero_mul, Nat.zero_add, Nat.zero_add, A8_get _ _ (by omega)]
  rfl
theorem own_one (w : World) (R : List Int) (hR : R.length = 32) (B : Nat) (hB : B ≤ w.heap.size) : Own (w.alloc (.cells (A8 R) 25)) B (.slice (some ⟨w.heap.size, 0, none⟩) 1 1) [R] := by
  have e : F8 [R] = R.map (Value.int .u8) := by simp [F8]
  show (w.alloc (.cells (A8 R) 25)).ownsRow B 25 32 _ 1 (F8 [R])
  refine ⟨by rw [e, List.length_map, hR], .inr ⟨w.heap.size, 1, A8 R, rfl, hB, heapN w _ _ rfl, Nat.le_refl _, by unfold maxLen; omega, by rw [A8_size, hR], ?_⟩⟩
  rw [e]
  exact List.take_of_length_le (by simp [A8, hR])
set_option maxHeartbeats 4000000 in
theorem sub_any : ∀ (n m : Nat) (whole : Bool) (p : Option Addr) (cap : Nat) (es : List (List Int)) (w : World), Tabs KS HS w → E22 w p n cap es → n ≤ 1000 → 1 ≤ m → m ≤ n →
    Calls Tryd.prog 107 #[.int .i64 m, .slice p n cap, .bool whole] w fun e w' => ∃ v, e = .returned v ∧ Own w' w.heap.size v (subP m es whole) ∧ Below w.heap.size w w' := by
  intro n
  induction n using Nat.strongRecOn with
  | ind n ih =>
    intro m whole p cap es w hT hE hn hm1 hmn
    have hf := hE.fits
    have hr := hE.room
    have hlen := hE.len
    have hq := eqNat m n
    by_cases h0 : m = n
    · subst h0
      have hq : ((m : Int) == (m : Int)) = true := by simp
      have HX := subP_all es whole (by omega)
      rw [hlen] at HX
      cases whole with
      | true =>
        have HZ : Hid (subP m es true = []) := HX
        clear HX
        go_enter Tryd.func107, Tryd.ntmps107
        go_wp2_with fail
        go_ret
        exact ⟨_, rfl, by rw [HZ.out]; exact ⟨rfl, .inl ⟨rfl, rfl⟩⟩, Below.refl _ _⟩
      | false =>
        have HZ : Hid (subP m es false = [rootP es]) := HX
        clear HX
        go_enter Tryd.func107, Tryd.ntmps107
        go_wp2_with fail
        refine (troot_any m p cap es w hT hE).mono ?_
        rintro e w1 ⟨rfl, b1⟩
        obtain ⟨hRl, hRb⟩ := rootP_ok es
        have hs1 := b1.size
        obtain ⟨R, hR⟩ : ∃ R, rootP es = R := ⟨_, rfl⟩
        rw [hR] at hRl HZ ⊢
        clear hR hRb
        go_wp2_with (first
          | (with_reducible refine atBuildSlice 31 ?_
             refine wpList_bs1 rfl _ rfl R rfl hRl ?_))
        go_ret
        refine ⟨_, rfl, ?_, b1.alloc hs1 _⟩
        rw [HZ.out]
        exact own_one w1 R hRl w.heap.size hs1
    · rw [decide_eq_false h0] at hq
      obtain ⟨hk1, hk2, hk3⟩ := halfN_spec n (by omega) (by omega)
      obtain ⟨b, o, rfl, hbl, hcs⟩ := hE.lies (by omega)
      clear hcs
      have HL : Hid (m ≤ halfN n → subP m es whole = subP m (es.take (halfN n)) whole ++ [rootP (es.drop (halfN n))]) := fun hk => by
        have := subP_left m es whole hm1 (by omega) (by omega) (by rw [hlen]; exact hk)
        rw [hlen] at this; exact this
      have HR : Hid (¬ m ≤ halfN n → subP m es whole = subP (m - halfN n) (es.drop (halfN n)) false ++ [rootP (es.take (halfN n))]) := fun hk => by
        have := subP_right m es whole (by omega) (by omega) (by rw [hlen]; exact hk)
        rw [hlen] at this; exact this
      go_enter Tryd.func107, Tryd.ntmps107
      go_wp2_with fail
      refine (split_any b o n cap w (by omega) hf hr).mono ?_
      rintro e w1 ⟨rfl, b1⟩
      have hT1 := hT.below b1
      have eF := (hE.front (halfN n) (by omega)).below b1
      have eB := (hE.back (halfN n) hk1).below b1
      generalize halfN n = k at *
      by_cases hik : m ≤ k
      · have hik' : (m : Int) ≤ k := by omega
        have HX := HL.out hik
        have HX' : Hid (subP m es whole = _) := HX
        clear HL HR HX
        go_wp2_with fail
        refine (ih k (by omega) m whole _ cap (es.take k) w1 hT1 eF (by omega) hm1 hik).mono ?_
        rintro e w2 ⟨v, rfl, hO, b2⟩
        have hd := subP_ok m (es.take k) whole
        have hdl := subP_len m (es.take k) whole
        rw [eF.len] at hdl
        have hT2 := hT1.below b2
        have eB2 := eB.below b2
        have B2 : Below w.heap.size w w2 := b1.trans (b2.mono b1.size)
        have hO2 : Hid (Own w2 w.heap.size v (subP m (es.take k) whole)) := hO.mono b1.size
        clear hO b1 b2 eF eB
        generalize subP m (es.take k) whole = A at *
        go_wp2_with fail
        refine (troot_any (n - k) _ (cap - k) (es.drop k) w2 hT2 eB2).mono ?_
        rintro e w3 ⟨rfl, b3⟩
        obtain ⟨hRl, hRb⟩ := rootP_ok (es.drop k)
        have B3 : Below w.heap.size w w3 := B2.trans (b3.mono B2.size)
        have hO3 : Hid (Own w3 w.heap.size v A) := hO2.out.below b3
        have hs3 := B3.size
        clear b3 hO2 eB2 B2 hRb
        generalize rootP (es.drop k) = R at *
        have hT' : ∀ d ∈ [R], d.length = 32 := fun d hd => by simp only [List.mem_singleton] at hd; subst hd; exact hRl
        go_wp2_with (first
          | (with_reducible refine atBuildSlice 31 ?_
             refine wpList_bs1 rfl _ rfl R rfl hRl ?_)
          | (at_builtin
             refine wpList_app25 rfl (.tmp 29) (.tmp 32) rfl w.heap.size v A A.length rfl (owns_alloc8 hO3.out _) ⟨w3.heap.size, 0, none⟩ 1 1 [R] rfl rfl hT' (one_cells w3 R hRl _ (heapN w3 _ _ rfl)) (by omega) (by omega) (by simp; omega) ?_
             intro v2 w4 ho4 hs4 hb4
             refine hideGoal ?_))
        have B4 : Hid (Below w.heap.size w w4) := hb4 w (B3.alloc hs3 _)
        clear hb4 hO3 B3
        refine openGoal ?_
        go_wp2_with fail
        go_ret
        refine ⟨_, rfl, ?_, B4.out⟩
        rw [HX'.out]
        unfold Own
        rw [List.length_append]
        exact ho4.out
      · have hik' : ¬ (m : Int) ≤ k := by omega
        have ei : ((m : Int) - k) = ((m - k : Nat) : Int) := by omega
        have HX := HR.out hik
        have HX' : Hid (subP m es whole = _) := HX
        clear HL HR HX
        go_wp2_with fail
        refine (ih (n - k) (by omega) (m - k) false _ (cap - k) (es.drop k) w1 hT1 eB (by omega) (by omega) (by omega)).mono ?_
        rintro e w2 ⟨v, rfl, hO, b2⟩
        have hd := subP_ok (m - k) (es.drop k) false
        have hdl := subP_len (m - k) (es.drop k) false
        rw [eB.len] at hdl
        have hT2 := hT1.below b2
        have eF2 := eF.below b2
        have B2 : Below w.heap.size w w2 := b1.trans (b2.mono b1.size)
        have hO2 : Hid (Own w2 w.heap.size v (subP (m - k) (es.drop k) false)) := hO.mono b1.size
        clear hO b1 b2 eF eB
        generalize subP (m - k) (es.drop k) false = A at *
        go_wp2_with fail
        refine (troot_any k _ cap (es.take k) w2 hT2 eF2).mono ?_
        rintro e w3 ⟨rfl, b3⟩
        obtain ⟨hRl, hRb⟩ := rootP_ok (es.take k)
        have B3 : Below w.heap.size w w3 := B2.trans (b3.mono B2.size)
        have hO3 : Hid (Own w3 w.heap.size v A) := hO2.out.below b3
        have hs3 := B3.size
        clear b3 hO2 eF2 B2 hRb
        generalize rootP (es.take k) = R at *
        have hT' : ∀ d ∈ [R], d.length = 32 := fun d hd => by simp only [List.mem_singleton] at hd; subst hd; exact hRl
        go_wp2_with (first
          | (with_reducible refine atBuildSlice 31 ?_
             refine wpList_bs1 rfl _ rfl R rfl hRl ?_)
          | (at_builtin
             refine wpList_app25 rfl (.tmp 39) (.tmp 42) rfl w.heap.size v A A.length rfl (owns_alloc8 hO3.out _) ⟨w3.heap.size, 0, none⟩ 1 1 [R] rfl rfl hT' (one_cells w3 R hRl _ (heapN w3 _ _ rfl)) (by omega) (by omega) (by simp; omega) ?_
             intro v2 w4 ho4 hs4 hb4
             refine hideGoal ?_))
        have B4 : Hid (Below w.heap.size w w4) := hb4 w (B3.alloc hs3 _)
        clear hb4 hO3 B3
        refine openGoal ?_
        go_wp2_with fail
        go_ret
        refine ⟨_, rfl, ?_, B4.out⟩
        rw [HX'.out]
        unfold Own
        rw [List.length_append]
        exact ho4.out
end Go.Proofs.YtcmjlhcpoajbkaaDoor
namespace Go.Proofs.YtcmjlhcpoajbkaaDoor
set_option maxRecDepth 10000
set_option linter.unusedSimpArgs false
open Go.RowKit
/-- The path of the entry i. -/
def pathF : Nat → Nat → List (List Int) → List (List Int)
  | 0, _, _ => []
  | f + 1, i, es => if es.length ≤ 1 then [] else
      if i < halfN es.length then pathF f i (es.take (halfN es.length)) ++ [rootP (es.drop (halfN es.length))]
      else pathF f (i - halfN es.length) (es.drop (halfN es.length)) ++ [rootP (es.take (halfN es.length))]
def pathP (i : Nat) (es : List (List Int)) : List (List Int) := pathF es.length i es
theorem pathF_ok : ∀ (f i : Nat) (es : List (List Int)), ∀ d ∈ pathF f i es, d.length = 32 ∧ Bytes d := by
  intro f
  induction f with
  | zero => intro i es d hd; simp [pathF] at hd
  | succ f ih =>
    intro i es d hd
    unfold pathF at hd
    split at hd
    · simp at hd
    · split at hd
      · rcases List.mem_append.1 hd with h | h
        · exact ih _ _ d h
        · simp only [List.mem_singleton] at h; subst h; exact rootP_ok _
      · rcases List.mem_append.1 hd with h | h
        · exact ih _ _ d h
        · simp only [List.mem_singleton] at h; subst h; exact rootP_ok _
theorem pathF_len : ∀ (f i : Nat) (es : List (List Int)), (pathF f i es).length ≤ f := by
  intro f
  induction f with
  | zero => intro i es; simp [pathF]
  | succ f ih =>
    intro i es
    unfold pathF
    split
    · simp
    · split
      · rw [List.length_append]; have := ih i (es.take (halfN es.length)); simp; omega
      · rw [List.length_append]; have := ih (i - halfN es.length) (es.drop (halfN es.length)); simp; omega
theorem pathF_fuel : ∀ (f g i : Nat) (es : List (List Int)), es.length ≤ f → es.length ≤ g → es.length < 2 ^ 63 → pathF f i es = pathF g i es := by
  intro f
  induction f with
  | zero =>
    intro g i es h1 h2 h3
    cases g with
    | zero => rfl
    | succ g => unfold pathF; rw [if_pos (by omega)]
  | succ f ih =>
    intro g i es h1 h2 h3
    cases g with
    | zero => unfold pathF; rw [if_pos (by omega)]
    | succ g =>
      unfold pathF
      by_cases e : es.length ≤ 1
      · rw [if_pos e, if_pos e]
      · rw [if_neg e, if_neg e]
        obtain ⟨a, b, c⟩ := halfN_spec es.length (by omega) (by omega)
        rw [ih g i (es.take (halfN es.length)) (by rw [List.length_take]; omega) (by rw [List.length_take]; omega) (by rw [List.length_take]; omega),
          ih g (i - halfN es.length) (es.drop (halfN es.length)) (by rw [List.length_drop]; omega) (by rw [List.length_drop]; omega) (by rw [List.length_drop]; omega)]
theorem pathP_one (i : Nat) (es : List (List Int)) (h : es.length ≤ 1) : pathP i es = [] := by
  unfold pathP
  cases hl : es.length with
  | zero => rfl
  | succ n => unfold pathF; rw [if_pos h]
theorem pathP_more (i : Nat) (es : List (List Int)) (h : 2 ≤ es.length) (h3 : es.length < 2 ^ 63) :
    pathP i es = if i < halfN es.length then pathP i (es.take (halfN es.length)) ++ [rootP (es.drop (halfN es.length))] else pathP (i - halfN es.length) (es.drop (halfN es.length)) ++ [rootP (es.take (halfN es.length))] := by
  obtain ⟨a, b, c⟩ := halfN_spec es.length h (by omega)
  have h1 : pathP i es = pathF (es.length - 1 + 1) i es := by unfold pathP; rw [Nat.sub_add_cancel (by omega)]
  rw [h1]
  unfold pathF
  rw [if_neg (by omega)]
  unfold pathP
  rw [pathF_fuel (es.length - 1) (es.take (halfN es.length)).length i (es.take (halfN es.length)) (by rw [List.length_take]; omega) (Nat.le_refl _) (by rw [List.length_take]; omega),
    pathF_fuel (es.length - 1) (es.drop (halfN es.length)).length (i - halfN es.length) (es.drop (halfN es.length)) (by rw [List.length_drop]; omega) (Nat.le_refl _) (by rw [List.length_drop]; omega)]
theorem pathP_ok (i : Nat) (es : List (List Int)) : ∀ d ∈ pathP i es, d.length = 32 ∧ Bytes d := pathF_ok _ _ _
theorem pathP_len (i : Nat) (es : List (List Int)) : (pathP i es).length ≤ es.length := pathF_len _ _ _
set_option maxHeartbeats 4000000 in
theorem path_any : ∀ (n i : Nat) (p : Option Addr) (cap : Nat) (es : List (List Int)) (w : World), Tabs KS HS w → E22 w p n cap es → n ≤ 1000 → i < n →
    Calls Tryd.prog 85 #[.slice p n cap, .int .i64 i] w fun e w' => ∃ v, e = .returned v ∧ Own w' w.heap.size v (pathP i es) ∧ Below w.heap.size w w' := by
  intro n
  induction n using Nat.strongRecOn with
  | ind n ih =>
    intro i p cap es w hT hE hn hin
    have hf := hE.fits
    have hr := hE.room
    have hlen := hE.len
    by_cases h0 : n = 1
    · subst h0
      have HX : Hid (pathP i es = []) := pathP_one i es (by omega)
      go_enter Tryd.func85, Tryd.ntmps85
      go_wp2_with fail
      go_ret
      exact ⟨_, rfl, by rw [HX.out]; exact ⟨rfl, .inl ⟨rfl, rfl⟩⟩, Below.refl _ _⟩
    · have h0' : ¬ (n : Int) = 1 := by omega
      obtain ⟨hk1, hk2, hk3⟩ := halfN_spec n (by omega) (by omega)
      obtain ⟨b, o, rfl, hbl, hcs⟩ := hE.lies (by omega)
      clear hcs
      have HM := pathP_more i es (by omega) (by omega)
      rw [hlen] at HM
      have HM' : Hid (pathP i es = _) := HM
      clear HM
      go_enter Tryd.func85, Tryd.ntmps85
      go_wp2_with fail
      refine (split_any b o n cap w (by omega) hf hr).mono ?_
      rintro e w1 ⟨rfl, b1⟩
      have hT1 := hT.below b1
      have eF := (hE.front (halfN n) (by omega)).below b1
      have eB := (hE.back (halfN n) hk1).below b1
      generalize halfN n = k at *
      by_cases hik : i < k
      · have hik' : (i : Int) < k := by omega
        have HX := HM'.out
        rw [if_pos hik] at HX
        have HX' : Hid (pathP i es = _) := HX
        clear HM' HX
        go_wp2_with fail
        refine (ih k (by omega) i _ cap (es.take k) w1 hT1 eF (by omega) hik).mono ?_
        rintro e w2 ⟨v, rfl, hO, b2⟩
        have hd := pathP_ok i (es.take k)
        have hdl := pathP_len i (es.take k)
        rw [eF.len] at hdl
        have hT2 := hT1.below b2
        have eB2 := eB.below b2
        have B2 : Below w.heap.size w w2 := b1.trans (b2.mono b1.size)
        have hO2 : Hid (Own w2 w.heap.size v (pathP i (es.take k))) := hO.mono b1.size
        clear hO b1 b2 eF eB
        generalize pathP i (es.take k) = A at *
        go_wp2_with fail
        refine (troot_any (n - k) _ (cap - k) (es.drop k) w2 hT2 eB2).mono ?_
        rintro e w3 ⟨rfl, b3⟩
        obtain ⟨hRl, hRb⟩ := rootP_ok (es.drop k)
        have B3 : Below w.heap.size w w3 := B2.trans (b3.mono B2.size)
        have hO3 : Hid (Own w3 w.heap.size v A) := hO2.out.below b3
        have hs3 := B3.size
        clear b3 hO2 eB2 B2 hRb
        generalize rootP (es.drop k) = R at *
        have hT' : ∀ d ∈ [R], d.length = 32 := fun d hd => by simp only [List.mem_singleton] at hd; subst hd; exact hRl
        go_wp2_with (first
          | (with_reducible refine atBuildSlice 31 ?_
             refine wpList_bs1 rfl _ rfl R rfl hRl ?_)
          | (at_builtin
             refine wpList_app25 rfl (.tmp 21) (.tmp 24) rfl w.heap.size v A A.length rfl (owns_alloc8 hO3.out _) ⟨w3.heap.size, 0, none⟩ 1 1 [R] rfl rfl hT' (one_cells w3 R hRl _ (heapN w3 _ _ rfl)) (by omega) (by omega) (by simp; omega) ?_
             intro v2 w4 ho4 hs4 hb4
             refine hideGoal ?_))
        have B4 : Hid (Below w.heap.size w w4) := hb4 w (B3.alloc hs3 _)
        clear hb4 hO3 B3
        refine openGoal ?_
        go_wp2_with fail
        go_ret
        refine ⟨_, rfl, ?_, B4.out⟩
        rw [HX'.out]
        unfold Own
        rw [List.length_append]
        exact ho4.out
      · have hik' : ¬ (i : Int) < k := by omega
        have ei : ((i : Int) - k) = ((i - k : Nat) : Int) := by omega
        have HX := HM'.out
        rw [if_neg hik] at HX
        have HX' : Hid (pathP i es = _) := HX
        clear HM' HX
        go_wp2_with fail
        refine (ih (n - k) (by omega) (i - k) _ (cap - k) (es.drop k) w1 hT1 eB (by omega) (by omega)).mono ?_
        rintro e w2 ⟨v, rfl, hO, b2⟩
        have hd := pathP_ok (i - k) (es.drop k)
        have hdl := pathP_len (i - k) (es.drop k)
        rw [eB.len] at hdl
        have hT2 := hT1.below b2
        have eF2 := eF.below b2
        have B2 : Below w.heap.size w w2 := b1.trans (b2.mono b1.size)
        have hO2 : Hid (Own w2 w.heap.size v (pathP (i - k) (es.drop k))) := hO.mono b1.size
        clear hO b1 b2 eF eB
        generalize pathP (i - k) (es.drop k) = A at *
        go_wp2_with fail
        refine (troot_any k _ cap (es.take k) w2 hT2 eF2).mono ?_
        rintro e w3 ⟨rfl, b3⟩
        obtain ⟨hRl, hRb⟩ := rootP_ok (es.take k)
        have B3 : Below w.heap.size w w3 := B2.trans (b3.mono B2.size)
        have hO3 : Hid (Own w3 w.heap.size v A) := hO2.out.below b3
        have hs3 := B3.size
        clear b3 hO2 eF2 B2 hRb
        generalize rootP (es.take k) = R at *
        have hT' : ∀ d ∈ [R], d.length = 32 := fun d hd => by simp only [List.mem_singleton] at hd; subst hd; exact hRl
        go_wp2_with (first
          | (with_reducible refine atBuildSlice 31 ?_
             refine wpList_bs1 rfl _ rfl R rfl hRl ?_)
          | (at_builtin
             refine wpList_app25 rfl (.tmp 31) (.tmp 34) rfl w.heap.size v A A.length rfl (owns_alloc8 hO3.out _) ⟨w3.heap.size, 0, none⟩ 1 1 [R] rfl rfl hT' (one_cells w3 R hRl _ (heapN w3 _ _ rfl)) (by omega) (by omega) (by simp; omega) ?_
             intro v2 w4 ho4 hs4 hb4
             refine hideGoal ?_))
        have B4 : Hid (Below w.heap.size w w4) := hb4 w (B3.alloc hs3 _)
        clear hb4 hO3 B3
        refine openGoal ?_
        go_wp2_with fail
        go_ret
        refine ⟨_, rfl, ?_, B4.out⟩
        rw [HX'.out]
        unfold Own
        rw [List.length_append]
        exact ho4.out
end Go.Proofs.YtcmjlhcpoajbkaaDoor
