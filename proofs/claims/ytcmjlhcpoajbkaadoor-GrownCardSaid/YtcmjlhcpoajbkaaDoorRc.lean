import Derived.Test.YtcmjlhcpoajbkaaDoorRl
import Derived.Test.YtcmjlhcpoajbkaaDoorCl
namespace Go.Proofs.YtcmjlhcpoajbkaaDoor
set_option maxRecDepth 10000
set_option linter.unusedSimpArgs false
open Go.RowKit
theorem At8.below {w w' : World} {ad : Addr} {D : List Int} (h : At8 w ad D) (hb : Below w.heap.size w w') : At8 w' ad D := fun j hj => by
  rw [hb.cell (block_lt_of_cell (h j hj))]; exact h j hj
theorem At8.other {w U : World} {ad : Addr} {D : List Int} {g : Nat} {cs : Array Value} {t : TypeId} (h : At8 w ad D) (hU : Stored w U g cs t) (hne : ad.block ≠ g) : At8 U ad D := fun j hj => by
  have e : (ad.add j).block = ad.block := addr_block _ _
  rw [World.cell?_of_block (w := w) (hU.other _ (by rw [e]; exact hne))]
  exact h j hj
set_option maxHeartbeats 4000000 in
theorem refClimb_any (l : List UInt8) (e : List Int) (he : toI l = e) (hle : l.length ≤ 140737488355400) : ∀ (m i n : Nat) (p : Option Addr) (cap : Nat) (ds : List (List Int)) (w : World), D32 w p m cap ds → i < n → n ≤ 9223372036854775807 →
    Calls Tryd.prog 63 #[.string ⟨l.toArray⟩, .int .i64 i, .int .i64 n, .slice p m cap] w fun ex w' => ex = .returned (.tuple #[.agg (A8 (climbR e ds.reverse i n).1), .bool (climbR e ds.reverse i n).2]) ∧ Below w.heap.size w w' := by
  intro m
  induction m with
  | zero =>
    intro i n p cap ds w hD hi hn
    have hb0 : Below w.heap.size w (w.alloc (.cells Z8x32 25)) := (Below.refl _ _).alloc (Nat.le_refl _) _
    have d0 : Hid (Dg (w.alloc (.cells Z8x32 25)) w.heap.size Z32) := Dg.new w _ rfl
    have hds : ds = [] := List.length_eq_zero_iff.1 hD.len
    subst hds
    have hq := eq1 n
    by_cases h1 : n = 1
    · have HE : Hid (climbR e ([] : List (List Int)).reverse i n = (leafP e, true)) := by
        show climbR e [] i n = _
        simp [climbR, h1]
      rw [decide_eq_true h1] at hq
      go_enter Tryd.func63, Tryd.ntmps63
      go_wp2_with fail
      refine (refLeaf_any _ l e he hle).mono ?_
      rintro ex w1 ⟨rfl, b1⟩
      have d1 : Hid (Dg w1 w.heap.size Z32) := d0.out.next b1
      have B1 : Below w.heap.size w w1 := hb0.trans (b1.mono (by simp))
      have hl := leafP_len e
      clear b1 d0
      obtain ⟨D, hD'⟩ : ∃ D, leafP e = D := ⟨_, rfl⟩
      rw [hD'] at hl HE ⊢
      clear hD'
      go_wp2_with (first
        | (with_reducible refine atStore 25 ?_
           refine store_D rfl _ _ rfl w.heap.size D rfl rfl Z32 d1.out hl ?_
           intro U hU
           refine hideGoal ?_))
      have dU : Hid (Dg U w.heap.size D) := hU.dg hl
      have bU : Hid (Below w.heap.size w U) := hU.below _ _ (Nat.le_refl _) B1
      clear hU d1 B1
      refine openGoal ?_
      go_wp2_with fail
      exact bodyPost_ret (results_DT rfl _ _ w.heap.size D rfl dU.out) rfl ⟨by rw [HE.out]; rfl, bU.out⟩
    · have HE : Hid (climbR e ([] : List (List Int)).reverse i n = (Z32, false)) := by
        show climbR e [] i n = _
        simp [climbR, h1]
      rw [decide_eq_false h1] at hq
      go_enter Tryd.func63, Tryd.ntmps63
      go_wp2_with (first
        | (with_reducible refine atStore 25 ?_
           refine store_D rfl _ _ rfl w.heap.size Z32 rfl rfl Z32 d0.out rfl ?_
           intro X hX
           refine hideGoal ?_))
      have dX : Hid (Dg X w.heap.size Z32) := hX.dg rfl
      have bX : Hid (Below w.heap.size w X) := hX.below _ _ (Nat.le_refl _) hb0
      clear hX d0
      refine openGoal ?_
      go_wp2_with fail
      exact bodyPost_ret (results_DT rfl _ _ w.heap.size Z32 rfl dX.out) rfl ⟨by rw [HE.out]; rfl, bX.out⟩
  | succ m ih =>
    intro i n p cap ds w hD hi hn
    have hb0 : Below w.heap.size w (w.alloc (.cells Z8x32 25)) := (Below.refl _ _).alloc (Nat.le_refl _) _
    have d0 : Hid (Dg (w.alloc (.cells Z8x32 25)) w.heap.size Z32) := Dg.new w _ rfl
    have hrev := rev_last ds m hD.len
    obtain ⟨ad, rfl, hadl, _⟩ := hD.lies (by omega)
    have hq := eq1 n
    by_cases h1 : n = 1
    · have HE : Hid (climbR e ds.reverse i n = (leafP e, false)) := by
        show climbR e ds.reverse i n = _
        rw [hrev]; simp [climbR, h1]
      rw [decide_eq_true h1] at hq
      have hm0 : ¬ ((m : Int) + 1 = 0) := by omega
      go_enter Tryd.func63, Tryd.ntmps63
      go_wp2_with fail
      refine (refLeaf_any _ l e he hle).mono ?_
      rintro ex w1 ⟨rfl, b1⟩
      have d1 : Hid (Dg w1 w.heap.size Z32) := d0.out.next b1
      have B1 : Below w.heap.size w w1 := hb0.trans (b1.mono (by simp))
      have hl := leafP_len e
      clear b1 d0
      obtain ⟨D, hD'⟩ : ∃ D, leafP e = D := ⟨_, rfl⟩
      rw [hD'] at hl HE ⊢
      clear hD'
      go_wp2_with (first
        | (with_reducible refine atStore 25 ?_
           refine store_D rfl _ _ rfl w.heap.size D rfl rfl Z32 d1.out hl ?_
           intro U hU
           refine hideGoal ?_))
      have dU : Hid (Dg U w.heap.size D) := hU.dg hl
      have bU : Hid (Below w.heap.size w U) := hU.below _ _ (Nat.le_refl _) B1
      clear hU d1 B1
      refine openGoal ?_
      go_wp2_with fail
      exact bodyPost_ret (results_DT rfl _ _ w.heap.size D rfl dU.out) rfl ⟨by rw [HE.out]; simp [hm0], bU.out⟩
    · rw [decide_eq_false h1] at hq
      obtain ⟨hk1, hk2, hk3⟩ := halfN_spec n (by omega) (by omega)
      have HE : Hid (climbR e ds.reverse i n = if i < halfN n then (knotP (climbR e (ds.take m).reverse i (halfN n)).1 (ds.getD m []), (climbR e (ds.take m).reverse i (halfN n)).2) else (knotP (ds.getD m []) (climbR e (ds.take m).reverse (i - halfN n) (n - halfN n)).1, (climbR e (ds.take m).reverse (i - halfN n) (n - halfN n)).2)) := by
        show climbR e ds.reverse i n = _
        rw [hrev]; simp only [climbR, if_neg h1]
      have hpb := fun W => half_any n W (by omega) hn
      obtain ⟨hTl, hTb⟩ := hD.get m (by omega)
      have hA : Hid (At8 w (ad.add (m * 32)) (ds.getD m [])) := hD.at m (by omega)
      have hf := hD.fits
      have hr := hD.room
      have hDf := hD.front m (by omega)
      have hsl : ∀ W : World, (Instr.sliceAt 31 (.slice (some ad) (m + 1) cap) none (some (.int .i64 m)) none).run Tryd.prog W = .ok (.slice (some ad) m cap) W := fun W => slice_front ad (m + 1) cap m (by omega) hf W
      have hia : ∀ W : World, (Instr.indexAt 31 (.slice (some ad) (m + 1) cap) (.int .i64 m)).run Tryd.prog W = .ok (.pointer (some (ad.add (m * 32)))) W := fun W => index_at ad (m + 1) cap m (by omega) W
      have hab : (ad.add (m * 32)).block = ad.block := addr_block _ _
      clear hD
      go_enter Tryd.func63, Tryd.ntmps63
      go_wp2_with fail
      refine (hpb _).mono ?_
      rintro ex w2 ⟨rfl, rfl⟩
      clear hpb
      generalize halfN n = k at *
      generalize ds.getD m [] = T at *
      generalize ad.add (m * 32) = bd at *
      by_cases hik : i < k
      · have hik' : (i : Int) < k := by omega
        rw [if_pos hik] at HE
        go_wp2_with fail
        refine (ih i k (some ad) cap (ds.take m) _ (hDf.below hb0) hik (by omega)).mono ?_
        rintro ex w3 ⟨rfl, b3⟩
        obtain ⟨hcl, hcb⟩ := climbR_ok e (ds.take m).reverse i k
        have d3 : Hid (Dg w3 w.heap.size Z32) := d0.out.next b3
        have B3 : Below w.heap.size w w3 := hb0.trans (b3.mono (by simp))
        have l3 := d3.out.lt
        have n3 : Hid (Dg (w3.alloc (.cells Z8x32 25)) w3.heap.size Z32) := Dg.new w3 _ rfl
        clear b3 d0
        generalize climbR e (ds.take m).reverse i k = C at *
        obtain ⟨C, ok⟩ := C
        go_wp2_with (first
          | (with_reducible refine atStore 25 ?_
             refine store_D rfl _ _ rfl w3.heap.size C rfl rfl Z32 n3.out hcl ?_
             intro X hX
             refine hideGoal ?_))
        have dX : Hid (Dg X w.heap.size Z32) := (d3.out.alloc _).other hX (by omega)
        have cX : Dg X.drew w3.heap.size C := ⟨hcl, hX.here⟩
        have bX : Below w.heap.size w X := hX.below _ _ (by omega) (B3.alloc (by omega) _)
        have aX : At8 X.drew bd T := hA.out.below bX.drew
        clear hX d3 n3 B3
        have l3' : w.heap.size < w3.heap.size := l3
        generalize w3.heap.size = g3 at *
        refine openGoal ?_
        go_wp2_with fail
        have SX := And.intro cX aX
        refine wp_region_noPanic ?_
        refine wp_region_held (S := fun W => Dg W g3 C ∧ At8 W bd T) follows ?_
        refine wpAnyH_take (i := 0) (v := .agg (A8 C)) rfl (by kernel_rfl) (by kernel_rfl) (by kernel_rfl) (fun _ _ _ h => h) (yields_D rfl (.tmp 12) rfl g3 rfl C hcl (fun W hW => hW.1)) SX ?_
        simp only [Act.put, List.getElem_toArray, List.getElem_cons_zero, List.getElem_cons_succ, List.setIfInBounds_toArray, List.set_cons_zero, List.set_cons_succ]
        refine wpAnyH_take (i := 1) (v := .slice (some ad) (m + 1) cap) rfl (by kernel_rfl) (by kernel_rfl) (by kernel_rfl) (fun _ _ _ h => h) (.inl ⟨rfl, fun W _ => by go_simp⟩) SX ?_
        simp only [Act.put, List.getElem_toArray, List.getElem_cons_zero, List.getElem_cons_succ, List.setIfInBounds_toArray, List.set_cons_zero, List.set_cons_succ]
        refine wpAnyH_take (i := 2) (v := .int .i64 m) rfl (by kernel_rfl) (by kernel_rfl) (by kernel_rfl) (fun _ _ _ h => h) (.inl ⟨rfl, fun W _ => by go_simp⟩) SX ?_
        simp only [Act.put, List.getElem_toArray, List.getElem_cons_zero, List.getElem_cons_succ, List.setIfInBounds_toArray, List.set_cons_zero, List.set_cons_succ]
        refine wpAnyH_take (i := 3) (v := .pointer (some bd)) rfl (by kernel_rfl) (by kernel_rfl) (by kernel_rfl) (fun _ _ _ h => h) (.inl ⟨rfl, fun W _ => by have e := hia W; go_simp⟩) SX ?_
        simp only [Act.put, List.getElem_toArray, List.getElem_cons_zero, List.getElem_cons_succ, List.setIfInBounds_toArray, List.set_cons_zero, List.set_cons_succ]
        refine wpAnyH_take (i := 4) (v := .agg (A8 T)) rfl (by kernel_rfl) (by kernel_rfl) (by kernel_rfl) (fun _ _ _ h => h) (yields_at rfl (.tmp 47) rfl bd rfl T hTl (fun W hW => hW.2)) SX ?_
        simp only [Act.put, List.getElem_toArray, List.getElem_cons_zero, List.getElem_cons_succ, List.setIfInBounds_toArray, List.set_cons_zero, List.set_cons_succ]
        refine wpAnyH_take (i := 6) (v := .bool ok) rfl (by kernel_rfl) (by kernel_rfl) (by kernel_rfl) (fun _ _ _ h => h) (.inl ⟨rfl, fun W _ => by go_simp⟩) SX ?_
        simp only [Act.put, List.getElem_toArray, List.getElem_cons_zero, List.getElem_cons_succ, List.setIfInBounds_toArray, List.set_cons_zero, List.set_cons_succ]
        refine relist #[true, true, true, true, true, false, true, false, false] (by kernel_rfl) ?_
        refine any_one (i := 5) (by kernel_rfl) ?_
        refine wpOp_call (f := 96) (args := #[.agg (A8 C), .agg (A8 T)]) rfl rfl (by go_simp) ?_
        refine (refKnot_any _ C T hcl hTl hcb hTb).mono ?_
        rintro ex w4 ⟨rfl, b4⟩
        have b4' : Below X.heap.size X w4 := ((Below.refl _ _).drew).trans b4
        have S4 := And.intro (cX.below b4 cX.lt) (aX.below b4)
        have d4 : Dg w4 w.heap.size Z32 := dX.out.next b4'
        have B4 : Below w.heap.size w w4 := bX.trans (b4'.mono bX.size)
        have hkl := knotP_len C T
        obtain ⟨D, hD'⟩ : ∃ D, knotP C T = D := ⟨_, rfl⟩
        rw [hD'] at hkl HE ⊢
        clear hD'
        refine ⟨_, rfl, S4, ?_⟩
        simp only [Act.put, List.getElem_toArray, List.getElem_cons_zero, List.getElem_cons_succ, List.setIfInBounds_toArray, List.set_cons_zero, List.set_cons_succ]
        refine relist #[true, true, true, true, true, true, true, false, false] (by kernel_rfl) ?_
        refine any_one (i := 7) (by kernel_rfl) ?_
        refine wpOp_store_D rfl rfl (.tmp 8) (.tmp 49) rfl w.heap.size D rfl rfl Z32 d4 hkl ?_
        intro Y hY
        have S5 := And.intro (S4.1.other hY (by omega)) (S4.2.other hY (by omega))
        refine ⟨S5, ?_⟩
        simp only [Act.put, List.getElem_toArray, List.getElem_cons_zero, List.getElem_cons_succ, List.setIfInBounds_toArray, List.set_cons_zero, List.set_cons_succ]
        refine wpAnyH_take (i := 8) (v := .bool ok) rfl (by kernel_rfl) (by kernel_rfl) (by kernel_rfl) (fun _ _ _ h => h) (.inl ⟨rfl, fun W _ => by go_simp⟩) S5 ?_
        simp only [Act.put, List.getElem_toArray, List.getElem_cons_zero, List.getElem_cons_succ, List.setIfInBounds_toArray, List.set_cons_zero, List.set_cons_succ]
        refine wpAnyH_done (by kernel_rfl) ?_ _
        refine NoPanic.normal ?_
        have dY : Hid (Dg Y w.heap.size D) := hY.dg hkl
        have bY : Hid (Below w.heap.size w Y) := hY.below _ _ (Nat.le_refl _) B4
        clear hY d4 B4 S4 S5 SX b4 b4' aX cX hia hsl
        go_wp2_with fail
        exact bodyPost_ret (results_DT rfl _ _ w.heap.size D rfl dY.out) rfl ⟨by rw [HE.out]; rfl, bY.out⟩
      · have hik' : ¬ (i : Int) < k := by omega
        rw [if_neg hik] at HE
        have ei : ((i : Int) - k) = ((i - k : Nat) : Int) := by omega
        have en : ((n : Int) - k) = ((n - k : Nat) : Int) := by omega
        go_wp2_with fail
        refine (ih (i - k) (n - k) (some ad) cap (ds.take m) _ (hDf.below hb0) (by omega) (by omega)).mono ?_
        rintro ex w3 ⟨rfl, b3⟩
        obtain ⟨hcl, hcb⟩ := climbR_ok e (ds.take m).reverse (i - k) (n - k)
        have d3 : Hid (Dg w3 w.heap.size Z32) := d0.out.next b3
        have B3 : Below w.heap.size w w3 := hb0.trans (b3.mono (by simp))
        have l3 := d3.out.lt
        have n3 : Hid (Dg (w3.alloc (.cells Z8x32 25)) w3.heap.size Z32) := Dg.new w3 _ rfl
        clear b3 d0
        generalize climbR e (ds.take m).reverse (i - k) (n - k) = C at *
        obtain ⟨C, ok⟩ := C
        go_wp2_with (first
          | (with_reducible refine atStore 25 ?_
             refine store_D rfl _ _ rfl w3.heap.size C rfl rfl Z32 n3.out hcl ?_
             intro X hX
             refine hideGoal ?_))
        have dX : Hid (Dg X w.heap.size Z32) := (d3.out.alloc _).other hX (by omega)
        have cX : Dg X.drew w3.heap.size C := ⟨hcl, hX.here⟩
        have bX : Below w.heap.size w X := hX.below _ _ (by omega) (B3.alloc (by omega) _)
        have aX : At8 X.drew bd T := hA.out.below bX.drew
        clear hX d3 n3 B3
        have l3' : w.heap.size < w3.heap.size := l3
        generalize w3.heap.size = g3 at *
        refine openGoal ?_
        go_wp2_with fail
        have SX := And.intro cX aX
        refine wp_region_noPanic ?_
        refine wp_region_held (S := fun W => Dg W g3 C ∧ At8 W bd T) follows ?_
        refine wpAnyH_take (i := 0) (v := .slice (some ad) (m + 1) cap) rfl (by kernel_rfl) (by kernel_rfl) (by kernel_rfl) (fun _ _ _ h => h) (.inl ⟨rfl, fun W _ => by go_simp⟩) SX ?_
        simp only [Act.put, List.getElem_toArray, List.getElem_cons_zero, List.getElem_cons_succ, List.setIfInBounds_toArray, List.set_cons_zero, List.set_cons_succ]
        refine wpAnyH_take (i := 1) (v := .int .i64 m) rfl (by kernel_rfl) (by kernel_rfl) (by kernel_rfl) (fun _ _ _ h => h) (.inl ⟨rfl, fun W _ => by go_simp⟩) SX ?_
        simp only [Act.put, List.getElem_toArray, List.getElem_cons_zero, List.getElem_cons_succ, List.setIfInBounds_toArray, List.set_cons_zero, List.set_cons_succ]
        refine wpAnyH_take (i := 2) (v := .pointer (some bd)) rfl (by kernel_rfl) (by kernel_rfl) (by kernel_rfl) (fun _ _ _ h => h) (.inl ⟨rfl, fun W _ => by have e := hia W; go_simp⟩) SX ?_
        simp only [Act.put, List.getElem_toArray, List.getElem_cons_zero, List.getElem_cons_succ, List.setIfInBounds_toArray, List.set_cons_zero, List.set_cons_succ]
        refine wpAnyH_take (i := 3) (v := .agg (A8 T)) rfl (by kernel_rfl) (by kernel_rfl) (by kernel_rfl) (fun _ _ _ h => h) (yields_at rfl (.tmp 67) rfl bd rfl T hTl (fun W hW => hW.2)) SX ?_
        simp only [Act.put, List.getElem_toArray, List.getElem_cons_zero, List.getElem_cons_succ, List.setIfInBounds_toArray, List.set_cons_zero, List.set_cons_succ]
        refine wpAnyH_take (i := 4) (v := .agg (A8 C)) rfl (by kernel_rfl) (by kernel_rfl) (by kernel_rfl) (fun _ _ _ h => h) (yields_D rfl (.tmp 14) rfl g3 rfl C hcl (fun W hW => hW.1)) SX ?_
        simp only [Act.put, List.getElem_toArray, List.getElem_cons_zero, List.getElem_cons_succ, List.setIfInBounds_toArray, List.set_cons_zero, List.set_cons_succ]
        refine wpAnyH_take (i := 6) (v := .bool ok) rfl (by kernel_rfl) (by kernel_rfl) (by kernel_rfl) (fun _ _ _ h => h) (.inl ⟨rfl, fun W _ => by go_simp⟩) SX ?_
        simp only [Act.put, List.getElem_toArray, List.getElem_cons_zero, List.getElem_cons_succ, List.setIfInBounds_toArray, List.set_cons_zero, List.set_cons_succ]
        refine relist #[true, true, true, true, true, false, true, false, false] (by kernel_rfl) ?_
        refine any_one (i := 5) (by kernel_rfl) ?_
        refine wpOp_call (f := 96) (args := #[.agg (A8 T), .agg (A8 C)]) rfl rfl (by go_simp) ?_
        refine (refKnot_any _ T C hTl hcl hTb hcb).mono ?_
        rintro ex w4 ⟨rfl, b4⟩
        have b4' : Below X.heap.size X w4 := ((Below.refl _ _).drew).trans b4
        have S4 := And.intro (cX.below b4 cX.lt) (aX.below b4)
        have d4 : Dg w4 w.heap.size Z32 := dX.out.next b4'
        have B4 : Below w.heap.size w w4 := bX.trans (b4'.mono bX.size)
        have hkl := knotP_len T C
        obtain ⟨D, hD'⟩ : ∃ D, knotP T C = D := ⟨_, rfl⟩
        rw [hD'] at hkl HE ⊢
        clear hD'
        refine ⟨_, rfl, S4, ?_⟩
        simp only [Act.put, List.getElem_toArray, List.getElem_cons_zero, List.getElem_cons_succ, List.setIfInBounds_toArray, List.set_cons_zero, List.set_cons_succ]
        refine relist #[true, true, true, true, true, true, true, false, false] (by kernel_rfl) ?_
        refine any_one (i := 7) (by kernel_rfl) ?_
        refine wpOp_store_D rfl rfl (.tmp 8) (.tmp 70) rfl w.heap.size D rfl rfl Z32 d4 hkl ?_
        intro Y hY
        have S5 := And.intro (S4.1.other hY (by omega)) (S4.2.other hY (by omega))
        refine ⟨S5, ?_⟩
        simp only [Act.put, List.getElem_toArray, List.getElem_cons_zero, List.getElem_cons_succ, List.setIfInBounds_toArray, List.set_cons_zero, List.set_cons_succ]
        refine wpAnyH_take (i := 8) (v := .bool ok) rfl (by kernel_rfl) (by kernel_rfl) (by kernel_rfl) (fun _ _ _ h => h) (.inl ⟨rfl, fun W _ => by go_simp⟩) S5 ?_
        simp only [Act.put, List.getElem_toArray, List.getElem_cons_zero, List.getElem_cons_succ, List.setIfInBounds_toArray, List.set_cons_zero, List.set_cons_succ]
        refine wpAnyH_done (by kernel_rfl) ?_ _
        refine NoPanic.normal ?_
        have dY : Hid (Dg Y w.heap.size D) := hY.dg hkl
        have bY : Hid (Below w.heap.size w Y) := hY.below _ _ (Nat.le_refl _) B4
        clear hY d4 B4 S4 S5 SX b4 b4' aX cX hia hsl
        go_wp2_with fail
        exact bodyPost_ret (results_DT rfl _ _ w.heap.size D rfl dY.out) rfl ⟨by rw [HE.out]; rfl, bY.out⟩
end Go.Proofs.YtcmjlhcpoajbkaaDoor
