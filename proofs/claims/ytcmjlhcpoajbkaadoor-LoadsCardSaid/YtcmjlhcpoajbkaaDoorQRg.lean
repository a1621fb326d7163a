import Derived.Test.YtcmjlhcpoajbkaaDoorQGr
import Derived.Deep.DeepCutAuto
namespace Go.Proofs.YtcmjlhcpoajbkaaDoor
set_option maxRecDepth 10000
set_option linter.unusedSimpArgs false
open Go.RowKit
theorem any_three {P : Program} {ops : Array Oper} {Q : Exit → Act → World → Prop} {md : Region.Mode} {S : World → Prop} {i j l fuel : Nat} {listed : Array Bool} {a : Act} {w : World} (hr : Region.ready md ops listed = [i, j, l])
    (h1 : wpOp P ops Q i (fun a' w' => S w' ∧ wpAnyH P md ops Q S fuel (listed.setIfInBounds i true) a' w') a w)
    (h2 : wpOp P ops Q j (fun a' w' => S w' ∧ wpAnyH P md ops Q S fuel (listed.setIfInBounds j true) a' w') a w)
    (h3 : wpOp P ops Q l (fun a' w' => S w' ∧ wpAnyH P md ops Q S fuel (listed.setIfInBounds l true) a' w') a w) : wpAnyH P md ops Q S (fuel + 1) listed a w :=
  wpAnyH_all hr (by simp) (fun k hk => by
    have e : k = i ∨ k = j ∨ k = l := by simpa using hk
    rcases e with e | e | e
    · subst e; exact h1
    · subst e; exact h2
    · subst e; exact h3)
theorem reworld {P : Program} {ops : Array Oper} {Q : Exit → Act → World → Prop} {md : Region.Mode} {S : World → Prop} {fuel : Nat} {listed : Array Bool} {a : Act} {w w' : World} (hw : w = w')
    (h : wpAnyH P md ops Q S fuel listed a w') : wpAnyH P md ops Q S fuel listed a w := by subst hw; exact h
set_option maxHeartbeats 16000000 in
theorem leads_any (known : List Int) (hk : Ok32 known) : ∀ (q m n : Nat) (whole : Bool) (p : Option Addr) (cap : Nat) (ds : List (List Int)) (w : World), D32 w p q cap ds → 1 ≤ m → m ≤ n → n ≤ 9223372036854775807 →
    Calls Tryd.prog 68 #[.int .i64 m, .int .i64 n, .bool whole, .slice p q cap, .agg (A8 known)] w fun ex w' => ex = .returned (.tuple #[.agg (A8 (growR known known ds.reverse m n whole).1), .agg (A8 (growR known known ds.reverse m n whole).2.1), .bool (growR known known ds.reverse m n whole).2.2]) ∧ Below w.heap.size w w' := by
  intro q
  induction q with
  | zero =>
    intro m n whole p cap ds w hD hm1 hmn hn
    have hb0 := below3 w (.cells (A8 known) 25) (.cells Z8x32 25) (.cells Z8x32 25)
    have V0 := heap3 w (.cells (A8 known) 25) (.cells Z8x32 25) (.cells Z8x32 25)
    obtain ⟨V, hV⟩ : ∃ V, V = ((w.alloc (.cells (A8 known) 25)).alloc (.cells Z8x32 25)).alloc (.cells Z8x32 25) := ⟨_, rfl⟩
    rw [← hV] at hb0 V0
    have kV : Hid (Dg V w.heap.size known) := ⟨hk.1, V0.1⟩
    have aV : Hid (Dg V (w.heap.size + 1) Z32) := ⟨rfl, V0.2.1⟩
    have bV : Hid (Dg V (w.heap.size + 1 + 1) Z32) := ⟨rfl, V0.2.2⟩
    clear V0
    have hq1 := eqN m n
    have hkl := hk.1
    have hds : ds = [] := List.length_eq_zero_iff.1 hD.len
    subst hds
    by_cases h1 : m = n ∧ whole = true
    · obtain ⟨h1a, rfl⟩ := h1
      have HE : Hid (growR known known ([] : List (List Int)).reverse m n true = (known, known, true)) := by
        show growR known known [] m n true = _
        simp [growR, h1a]
      rw [decide_eq_true h1a] at hq1
      go_enter Tryd.func68, Tryd.ntmps68
      go_wp2_with fail
      have SX : Dg V.drew w.heap.size known := ⟨kV.out.len, kV.out.here⟩
      have d1 : Dg V.drew (w.heap.size + 1) Z32 := ⟨aV.out.len, aV.out.here⟩
      have d2 : Dg V.drew (w.heap.size + 1 + 1) Z32 := ⟨bV.out.len, bV.out.here⟩
      have B : Below w.heap.size w V.drew := hb0.drew
      refine wp_region_noPanic ?_
      refine wp_region_held (S := fun W => Dg W w.heap.size known) follows ?_
      rw [hV] at SX d1 d2 B
      refine wpAnyH_take (i := 0) (v := .agg (A8 known)) rfl (by kernel_rfl) (by kernel_rfl) (by kernel_rfl) (fun _ _ _ h => h) (yields_D rfl (.tmp 9) rfl w.heap.size rfl known hkl (fun W hW => hW)) SX ?_
      simp only [Act.put, List.getElem_toArray, List.getElem_cons_zero, List.getElem_cons_succ, List.setIfInBounds_toArray, List.set_cons_zero, List.set_cons_succ]
      refine wpAnyH_take (i := 1) (v := .agg (A8 known)) rfl (by kernel_rfl) (by kernel_rfl) (by kernel_rfl) (fun _ _ _ h => h) (yields_D rfl (.tmp 9) rfl w.heap.size rfl known hkl (fun W hW => hW)) SX ?_
      simp only [Act.put, List.getElem_toArray, List.getElem_cons_zero, List.getElem_cons_succ, List.setIfInBounds_toArray, List.set_cons_zero, List.set_cons_succ]
      refine wpAnyH_take (i := 2) (v := .int .i64 (-1)) rfl (by kernel_rfl) (by kernel_rfl) (by kernel_rfl) (fun _ _ _ h => h) (.inl ⟨rfl, fun W _ => by go_simp⟩) SX ?_
      simp only [Act.put, List.getElem_toArray, List.getElem_cons_zero, List.getElem_cons_succ, List.setIfInBounds_toArray, List.set_cons_zero, List.set_cons_succ]
      refine wpAnyH_take (i := 3) (v := .bool true) rfl (by kernel_rfl) (by kernel_rfl) (by kernel_rfl) (fun _ _ _ h => h) (.inl ⟨rfl, fun W _ => by go_simp⟩) SX ?_
      simp only [Act.put, List.getElem_toArray, List.getElem_cons_zero, List.getElem_cons_succ, List.setIfInBounds_toArray, List.set_cons_zero, List.set_cons_succ]
      refine relist #[true, true, true, true, false, false, false] (by kernel_rfl) ?_
      refine any_one (i := 4) (by kernel_rfl) ?_
      refine wpOp_store_D rfl rfl (.tmp 10) (.tmp 31) rfl (w.heap.size + 1) known rfl rfl Z32 d1 hkl ?_
      intro U hU
      have e2 := d2.other hU (by omega)
      have f1 : Dg U (w.heap.size + 1) known := hU.dg hkl
      have BU := hU.below _ _ (by omega) B
      have SU := SX.other hU (by omega)
      clear d1 d2 B hU
      refine ⟨SU, ?_⟩
      simp only [Act.put, List.getElem_toArray, List.getElem_cons_zero, List.getElem_cons_succ, List.setIfInBounds_toArray, List.set_cons_zero, List.set_cons_succ]
      refine relist #[true, true, true, true, true, false, false] (by kernel_rfl) ?_
      refine any_one (i := 5) (by kernel_rfl) ?_
      refine wpOp_store_D rfl rfl (.tmp 11) (.tmp 32) rfl (w.heap.size + 1 + 1) known rfl rfl Z32 e2 hkl ?_
      intro X hX
      have x1 : Hid (Dg X (w.heap.size + 1) known) := f1.other hX (by omega)
      have x2 : Hid (Dg X (w.heap.size + 1 + 1) known) := hX.dg hkl
      have BX : Hid (Below w.heap.size w X) := hX.below _ _ (by omega) BU
      have SX' := SU.other hX (by omega)
      clear f1 e2 BU hX
      refine ⟨SX', ?_⟩
      simp only [Act.put, List.getElem_toArray, List.getElem_cons_zero, List.getElem_cons_succ, List.setIfInBounds_toArray, List.set_cons_zero, List.set_cons_succ]
      refine wpAnyH_take (i := 6) (v := .bool true) rfl (by kernel_rfl) (by kernel_rfl) (by kernel_rfl) (fun _ _ _ h => h) (.inl ⟨rfl, fun W _ => by go_simp⟩) SX' ?_
      simp only [Act.put, List.getElem_toArray, List.getElem_cons_zero, List.getElem_cons_succ, List.setIfInBounds_toArray, List.set_cons_zero, List.set_cons_succ]
      refine wpAnyH_done (by kernel_rfl) ?_ _
      refine NoPanic.normal ?_
      clear SX SU SX' kV aV bV hb0
      go_wp2_with fail
      exact bodyPost_ret (results_DDT rfl _ _ (w.heap.size + 1) (w.heap.size + 1 + 1) known known rfl x1.out rfl x2.out) rfl ⟨by rw [HE.out]; rfl, BX.out⟩
    · have HE : Hid (growR known known ([] : List (List Int)).reverse m n whole = (known, known, false)) := by
        show growR known known [] m n whole = _
        simp only [growR, if_neg h1]
      by_cases h2 : m = n
      · have hw : whole = false := by
          cases whole
          · rfl
          · exact absurd ⟨h2, rfl⟩ h1
        subst hw
        rw [decide_eq_true h2] at hq1
        go_enter Tryd.func68, Tryd.ntmps68
        go_wp2_with fail
        have SX : Dg V.drew w.heap.size known := ⟨kV.out.len, kV.out.here⟩
        have d1 : Dg V.drew (w.heap.size + 1) Z32 := ⟨aV.out.len, aV.out.here⟩
        have d2 : Dg V.drew (w.heap.size + 1 + 1) Z32 := ⟨bV.out.len, bV.out.here⟩
        have B : Below w.heap.size w V.drew := hb0.drew
        refine wp_region_noPanic ?_
        refine wp_region_held (S := fun W => Dg W w.heap.size known) follows ?_
        rw [hV] at SX d1 d2 B
        refine wpAnyH_take (i := 0) (v := .agg (A8 known)) rfl (by kernel_rfl) (by kernel_rfl) (by kernel_rfl) (fun _ _ _ h => h) (yields_D rfl (.tmp 9) rfl w.heap.size rfl known hkl (fun W hW => hW)) SX ?_
        simp only [Act.put, List.getElem_toArray, List.getElem_cons_zero, List.getElem_cons_succ, List.setIfInBounds_toArray, List.set_cons_zero, List.set_cons_succ]
        refine wpAnyH_take (i := 1) (v := .agg (A8 known)) rfl (by kernel_rfl) (by kernel_rfl) (by kernel_rfl) (fun _ _ _ h => h) (yields_D rfl (.tmp 9) rfl w.heap.size rfl known hkl (fun W hW => hW)) SX ?_
        simp only [Act.put, List.getElem_toArray, List.getElem_cons_zero, List.getElem_cons_succ, List.setIfInBounds_toArray, List.set_cons_zero, List.set_cons_succ]
        refine relist #[true, true, false, false, false] (by kernel_rfl) ?_
        refine any_one (i := 2) (by kernel_rfl) ?_
        refine wpOp_store_D rfl rfl (.tmp 10) (.tmp 37) rfl (w.heap.size + 1) known rfl rfl Z32 d1 hkl ?_
        intro U hU
        have e2 := d2.other hU (by omega)
        have f1 : Dg U (w.heap.size + 1) known := hU.dg hkl
        have BU := hU.below _ _ (by omega) B
        have SU := SX.other hU (by omega)
        clear d1 d2 B hU
        refine ⟨SU, ?_⟩
        simp only [Act.put, List.getElem_toArray, List.getElem_cons_zero, List.getElem_cons_succ, List.setIfInBounds_toArray, List.set_cons_zero, List.set_cons_succ]
        refine relist #[true, true, true, false, false] (by kernel_rfl) ?_
        refine any_one (i := 3) (by kernel_rfl) ?_
        refine wpOp_store_D rfl rfl (.tmp 11) (.tmp 38) rfl (w.heap.size + 1 + 1) known rfl rfl Z32 e2 hkl ?_
        intro X hX
        have x1 : Hid (Dg X (w.heap.size + 1) known) := f1.other hX (by omega)
        have x2 : Hid (Dg X (w.heap.size + 1 + 1) known) := hX.dg hkl
        have BX : Hid (Below w.heap.size w X) := hX.below _ _ (by omega) BU
        have SX' := SU.other hX (by omega)
        clear f1 e2 BU hX
        refine ⟨SX', ?_⟩
        simp only [Act.put, List.getElem_toArray, List.getElem_cons_zero, List.getElem_cons_succ, List.setIfInBounds_toArray, List.set_cons_zero, List.set_cons_succ]
        refine wpAnyH_take (i := 4) (v := .bool false) rfl (by kernel_rfl) (by kernel_rfl) (by kernel_rfl) (fun _ _ _ h => h) (.inl ⟨rfl, fun W _ => by go_simp⟩) SX' ?_
        simp only [Act.put, List.getElem_toArray, List.getElem_cons_zero, List.getElem_cons_succ, List.setIfInBounds_toArray, List.set_cons_zero, List.set_cons_succ]
        refine wpAnyH_done (by kernel_rfl) ?_ _
        refine NoPanic.normal ?_
        clear SX SU SX' kV aV bV hb0
        go_wp2_with fail
        exact bodyPost_ret (results_DDT rfl _ _ (w.heap.size + 1) (w.heap.size + 1 + 1) known known rfl x1.out rfl x2.out) rfl ⟨by rw [HE.out]; rfl, BX.out⟩
      · rw [decide_eq_false h2] at hq1
        go_enter Tryd.func68, Tryd.ntmps68
        go_wp2_with fail
        have SX : Dg V.drew w.heap.size known := ⟨kV.out.len, kV.out.here⟩
        have d1 : Dg V.drew (w.heap.size + 1) Z32 := ⟨aV.out.len, aV.out.here⟩
        have d2 : Dg V.drew (w.heap.size + 1 + 1) Z32 := ⟨bV.out.len, bV.out.here⟩
        have B : Below w.heap.size w V.drew := hb0.drew
        refine wp_region_noPanic ?_
        refine wp_region_held (S := fun W => Dg W w.heap.size known) follows ?_
        rw [hV] at SX d1 d2 B
        refine wpAnyH_take (i := 0) (v := .agg (A8 known)) rfl (by kernel_rfl) (by kernel_rfl) (by kernel_rfl) (fun _ _ _ h => h) (yields_D rfl (.tmp 9) rfl w.heap.size rfl known hkl (fun W hW => hW)) SX ?_
        simp only [Act.put, List.getElem_toArray, List.getElem_cons_zero, List.getElem_cons_succ, List.setIfInBounds_toArray, List.set_cons_zero, List.set_cons_succ]
        refine wpAnyH_take (i := 1) (v := .agg (A8 known)) rfl (by kernel_rfl) (by kernel_rfl) (by kernel_rfl) (fun _ _ _ h => h) (yields_D rfl (.tmp 9) rfl w.heap.size rfl known hkl (fun W hW => hW)) SX ?_
        simp only [Act.put, List.getElem_toArray, List.getElem_cons_zero, List.getElem_cons_succ, List.setIfInBounds_toArray, List.set_cons_zero, List.set_cons_succ]
        refine relist #[true, true, false, false, false] (by kernel_rfl) ?_
        refine any_one (i := 2) (by kernel_rfl) ?_
        refine wpOp_store_D rfl rfl (.tmp 10) (.tmp 37) rfl (w.heap.size + 1) known rfl rfl Z32 d1 hkl ?_
        intro U hU
        have e2 := d2.other hU (by omega)
        have f1 : Dg U (w.heap.size + 1) known := hU.dg hkl
        have BU := hU.below _ _ (by omega) B
        have SU := SX.other hU (by omega)
        clear d1 d2 B hU
        refine ⟨SU, ?_⟩
        simp only [Act.put, List.getElem_toArray, List.getElem_cons_zero, List.getElem_cons_succ, List.setIfInBounds_toArray, List.set_cons_zero, List.set_cons_succ]
        refine relist #[true, true, true, false, false] (by kernel_rfl) ?_
        refine any_one (i := 3) (by kernel_rfl) ?_
        refine wpOp_store_D rfl rfl (.tmp 11) (.tmp 38) rfl (w.heap.size + 1 + 1) known rfl rfl Z32 e2 hkl ?_
        intro X hX
        have x1 : Hid (Dg X (w.heap.size + 1) known) := f1.other hX (by omega)
        have x2 : Hid (Dg X (w.heap.size + 1 + 1) known) := hX.dg hkl
        have BX : Hid (Below w.heap.size w X) := hX.below _ _ (by omega) BU
        have SX' := SU.other hX (by omega)
        clear f1 e2 BU hX
        refine ⟨SX', ?_⟩
        simp only [Act.put, List.getElem_toArray, List.getElem_cons_zero, List.getElem_cons_succ, List.setIfInBounds_toArray, List.set_cons_zero, List.set_cons_succ]
        refine wpAnyH_take (i := 4) (v := .bool false) rfl (by kernel_rfl) (by kernel_rfl) (by kernel_rfl) (fun _ _ _ h => h) (.inl ⟨rfl, fun W _ => by go_simp⟩) SX' ?_
        simp only [Act.put, List.getElem_toArray, List.getElem_cons_zero, List.getElem_cons_succ, List.setIfInBounds_toArray, List.set_cons_zero, List.set_cons_succ]
        refine wpAnyH_done (by kernel_rfl) ?_ _
        refine NoPanic.normal ?_
        clear SX SU SX' kV aV bV hb0
        go_wp2_with fail
        exact bodyPost_ret (results_DDT rfl _ _ (w.heap.size + 1) (w.heap.size + 1 + 1) known known rfl x1.out rfl x2.out) rfl ⟨by rw [HE.out]; rfl, BX.out⟩
  | succ q ih =>
    intro m n whole p cap ds w hD hm1 hmn hn
    have hb0 := below3 w (.cells (A8 known) 25) (.cells Z8x32 25) (.cells Z8x32 25)
    have V0 := heap3 w (.cells (A8 known) 25) (.cells Z8x32 25) (.cells Z8x32 25)
    obtain ⟨V, hV⟩ : ∃ V, V = ((w.alloc (.cells (A8 known) 25)).alloc (.cells Z8x32 25)).alloc (.cells Z8x32 25) := ⟨_, rfl⟩
    rw [← hV] at hb0 V0
    have kV : Hid (Dg V w.heap.size known) := ⟨hk.1, V0.1⟩
    have aV : Hid (Dg V (w.heap.size + 1) Z32) := ⟨rfl, V0.2.1⟩
    have bV : Hid (Dg V (w.heap.size + 1 + 1) Z32) := ⟨rfl, V0.2.2⟩
    clear V0
    have hq1 := eqN m n
    have hkl := hk.1
    have hrev := rev_last ds q hD.len
    have hr := hD.room
    have hf := hD.fits
    obtain ⟨ad, rfl, hadl, _⟩ := hD.lies (by omega)
    by_cases h1 : m = n ∧ whole = true
    · obtain ⟨h1a, rfl⟩ := h1
      have HE : Hid (growR known known ds.reverse m n true = (known, known, false)) := by
        show growR known known ds.reverse m n true = _
        rw [hrev]; simp [growR, h1a]
      rw [decide_eq_true h1a] at hq1
      have hq0 : ¬ ((q : Int) < 0) := by omega
      go_enter Tryd.func68, Tryd.ntmps68
      go_wp2_with fail
      have SX : Dg V.drew w.heap.size known := ⟨kV.out.len, kV.out.here⟩
      have d1 : Dg V.drew (w.heap.size + 1) Z32 := ⟨aV.out.len, aV.out.here⟩
      have d2 : Dg V.drew (w.heap.size + 1 + 1) Z32 := ⟨bV.out.len, bV.out.here⟩
      have B : Below w.heap.size w V.drew := hb0.drew
      refine wp_region_noPanic ?_
      refine wp_region_held (S := fun W => Dg W w.heap.size known) follows ?_
      rw [hV] at SX d1 d2 B
      refine wpAnyH_take (i := 0) (v := .agg (A8 known)) rfl (by kernel_rfl) (by kernel_rfl) (by kernel_rfl) (fun _ _ _ h => h) (yields_D rfl (.tmp 9) rfl w.heap.size rfl known hkl (fun W hW => hW)) SX ?_
      simp only [Act.put, List.getElem_toArray, List.getElem_cons_zero, List.getElem_cons_succ, List.setIfInBounds_toArray, List.set_cons_zero, List.set_cons_succ]
      refine wpAnyH_take (i := 1) (v := .agg (A8 known)) rfl (by kernel_rfl) (by kernel_rfl) (by kernel_rfl) (fun _ _ _ h => h) (yields_D rfl (.tmp 9) rfl w.heap.size rfl known hkl (fun W hW => hW)) SX ?_
      simp only [Act.put, List.getElem_toArray, List.getElem_cons_zero, List.getElem_cons_succ, List.setIfInBounds_toArray, List.set_cons_zero, List.set_cons_succ]
      refine wpAnyH_take (i := 2) (v := .int .i64 q) rfl (by kernel_rfl) (by kernel_rfl) (by kernel_rfl) (fun _ _ _ h => h) (.inl ⟨rfl, fun W _ => by go_simp⟩) SX ?_
      simp only [Act.put, List.getElem_toArray, List.getElem_cons_zero, List.getElem_cons_succ, List.setIfInBounds_toArray, List.set_cons_zero, List.set_cons_succ]
      refine wpAnyH_take (i := 3) (v := .bool false) rfl (by kernel_rfl) (by kernel_rfl) (by kernel_rfl) (fun _ _ _ h => h) (.inl ⟨rfl, fun W _ => by go_simp⟩) SX ?_
      simp only [Act.put, List.getElem_toArray, List.getElem_cons_zero, List.getElem_cons_succ, List.setIfInBounds_toArray, List.set_cons_zero, List.set_cons_succ]
      refine relist #[true, true, true, true, false, false, false] (by kernel_rfl) ?_
      refine any_one (i := 4) (by kernel_rfl) ?_
      refine wpOp_store_D rfl rfl (.tmp 10) (.tmp 31) rfl (w.heap.size + 1) known rfl rfl Z32 d1 hkl ?_
      intro U hU
      have e2 := d2.other hU (by omega)
      have f1 : Dg U (w.heap.size + 1) known := hU.dg hkl
      have BU := hU.below _ _ (by omega) B
      have SU := SX.other hU (by omega)
      clear d1 d2 B hU
      refine ⟨SU, ?_⟩
      simp only [Act.put, List.getElem_toArray, List.getElem_cons_zero, List.getElem_cons_succ, List.setIfInBounds_toArray, List.set_cons_zero, List.set_cons_succ]
      refine relist #[true, true, true, true, true, false, false] (by kernel_rfl) ?_
      refine any_one (i := 5) (by kernel_rfl) ?_
      refine wpOp_store_D rfl rfl (.tmp 11) (.tmp 32) rfl (w.heap.size + 1 + 1) known rfl rfl Z32 e2 hkl ?_
      intro X hX
      have x1 : Hid (Dg X (w.heap.size + 1) known) := f1.other hX (by omega)
      have x2 : Hid (Dg X (w.heap.size + 1 + 1) known) := hX.dg hkl
      have BX : Hid (Below w.heap.size w X) := hX.below _ _ (by omega) BU
      have SX' := SU.other hX (by omega)
      clear f1 e2 BU hX
      refine ⟨SX', ?_⟩
      simp only [Act.put, List.getElem_toArray, List.getElem_cons_zero, List.getElem_cons_succ, List.setIfInBounds_toArray, List.set_cons_zero, List.set_cons_succ]
      refine wpAnyH_take (i := 6) (v := .bool false) rfl (by kernel_rfl) (by kernel_rfl) (by kernel_rfl) (fun _ _ _ h => h) (.inl ⟨rfl, fun W _ => by go_simp⟩) SX' ?_
      simp only [Act.put, List.getElem_toArray, List.getElem_cons_zero, List.getElem_cons_succ, List.setIfInBounds_toArray, List.set_cons_zero, List.set_cons_succ]
      refine wpAnyH_done (by kernel_rfl) ?_ _
      refine NoPanic.normal ?_
      clear SX SU SX' kV aV bV hb0
      go_wp2_with fail
      exact bodyPost_ret (results_DDT rfl _ _ (w.heap.size + 1) (w.heap.size + 1 + 1) known known rfl x1.out rfl x2.out) rfl ⟨by rw [HE.out]; rfl, BX.out⟩
    · obtain ⟨hTl, hTb⟩ := hD.get q (by omega)
      have hAV : Hid (At8 V (ad.add (q * 32)) (ds.getD q [])) := (hD.below hb0).at q (by omega)
      have hsl : ∀ W : World, (Instr.sliceAt 31 (.slice (some ad) (q + 1) cap) none (some (.int .i64 q)) none).run Tryd.prog W = .ok (.slice (some ad) q cap) W := fun W => slice_front ad (q + 1) cap q (by omega) hf W
      have hia : ∀ W : World, (Instr.indexAt 31 (.slice (some ad) (q + 1) cap) (.int .i64 q)).run Tryd.prog W = .ok (.pointer (some (ad.add (q * 32)))) W := fun W => index_at ad (q + 1) cap q (by omega) W
      have hab : (ad.add (q * 32)).block = ad.block := addr_block _ _
      have hDf := hD.front q (by omega)
      have hsub0 : ∀ d ∈ (ds.take q).reverse, Ok32 d := fun d hd => hD.all d (List.mem_of_mem_take (List.mem_reverse.1 hd))
      have hq0' : ¬ ((q : Int) < 0) := by omega
      by_cases h2 : m = n
      · have hw : whole = false := by
          cases whole
          · rfl
          · exact absurd ⟨h2, rfl⟩ h1
        subst hw
        have HE : Hid (growR known known ds.reverse m n false = (ds.getD q [], ds.getD q [], decide (q = 0))) := by
          show growR known known ds.reverse m n false = _
          rw [hrev]
          simp only [growR, if_neg h1, if_pos h2]
          have hl : (ds.take q).reverse.length = q := by rw [List.length_reverse]; exact hDf.len
          generalize (ds.take q).reverse = L at hl
          congr 2
          rw [← hl]
          cases L <;> simp
        rw [decide_eq_true h2] at hq1
        have hq0 := eq0 q
        generalize ds.getD q [] = T at *
        generalize ad.add (q * 32) = bd at *
        go_enter Tryd.func68, Tryd.ntmps68
        go_wp2_with fail
        have SX : At8 V.drew bd T := hAV.out
        have d1 : Dg V.drew (w.heap.size + 1) Z32 := ⟨aV.out.len, aV.out.here⟩
        have d2 : Dg V.drew (w.heap.size + 1 + 1) Z32 := ⟨bV.out.len, bV.out.here⟩
        have B : Below w.heap.size w V.drew := hb0.drew
        refine wp_region_noPanic ?_
        refine wp_region_held (S := fun W => At8 W bd T) follows ?_
        rw [hV] at SX d1 d2 B
        refine wpAnyH_take (i := 0) (v := .slice (some ad) (q + 1) cap) rfl (by kernel_rfl) (by kernel_rfl) (by kernel_rfl) (fun _ _ _ h => h) (.inl ⟨rfl, fun W _ => by go_simp⟩) SX ?_
        simp only [Act.put, List.getElem_toArray, List.getElem_cons_zero, List.getElem_cons_succ, List.setIfInBounds_toArray, List.set_cons_zero, List.set_cons_succ]
        refine wpAnyH_take (i := 1) (v := .int .i64 q) rfl (by kernel_rfl) (by kernel_rfl) (by kernel_rfl) (fun _ _ _ h => h) (.inl ⟨rfl, fun W _ => by go_simp⟩) SX ?_
        simp only [Act.put, List.getElem_toArray, List.getElem_cons_zero, List.getElem_cons_succ, List.setIfInBounds_toArray, List.set_cons_zero, List.set_cons_succ]
        refine wpAnyH_take (i := 2) (v := .pointer (some bd)) rfl (by kernel_rfl) (by kernel_rfl) (by kernel_rfl) (fun _ _ _ h => h) (.inl ⟨rfl, fun W _ => by have e := hia W; go_simp⟩) SX ?_
        simp only [Act.put, List.getElem_toArray, List.getElem_cons_zero, List.getElem_cons_succ, List.setIfInBounds_toArray, List.set_cons_zero, List.set_cons_succ]
        refine wpAnyH_take (i := 3) (v := .agg (A8 T)) rfl (by kernel_rfl) (by kernel_rfl) (by kernel_rfl) (fun _ _ _ h => h) (yields_at rfl (.tmp 44) rfl bd rfl T hTl (fun W hW => hW)) SX ?_
        simp only [Act.put, List.getElem_toArray, List.getElem_cons_zero, List.getElem_cons_succ, List.setIfInBounds_toArray, List.set_cons_zero, List.set_cons_succ]
        refine wpAnyH_take (i := 4) (v := .slice (some ad) (q + 1) cap) rfl (by kernel_rfl) (by kernel_rfl) (by kernel_rfl) (fun _ _ _ h => h) (.inl ⟨rfl, fun W _ => by go_simp⟩) SX ?_
        simp only [Act.put, List.getElem_toArray, List.getElem_cons_zero, List.getElem_cons_succ, List.setIfInBounds_toArray, List.set_cons_zero, List.set_cons_succ]
        refine wpAnyH_take (i := 5) (v := .int .i64 q) rfl (by kernel_rfl) (by kernel_rfl) (by kernel_rfl) (fun _ _ _ h => h) (.inl ⟨rfl, fun W _ => by go_simp⟩) SX ?_
        simp only [Act.put, List.getElem_toArray, List.getElem_cons_zero, List.getElem_cons_succ, List.setIfInBounds_toArray, List.set_cons_zero, List.set_cons_succ]
        refine wpAnyH_take (i := 6) (v := .pointer (some bd)) rfl (by kernel_rfl) (by kernel_rfl) (by kernel_rfl) (fun _ _ _ h => h) (.inl ⟨rfl, fun W _ => by have e := hia W; go_simp⟩) SX ?_
        simp only [Act.put, List.getElem_toArray, List.getElem_cons_zero, List.getElem_cons_succ, List.setIfInBounds_toArray, List.set_cons_zero, List.set_cons_succ]
        refine wpAnyH_take (i := 7) (v := .agg (A8 T)) rfl (by kernel_rfl) (by kernel_rfl) (by kernel_rfl) (fun _ _ _ h => h) (yields_at rfl (.tmp 48) rfl bd rfl T hTl (fun W hW => hW)) SX ?_
        simp only [Act.put, List.getElem_toArray, List.getElem_cons_zero, List.getElem_cons_succ, List.setIfInBounds_toArray, List.set_cons_zero, List.set_cons_succ]
        refine wpAnyH_take (i := 8) (v := .int .i64 q) rfl (by kernel_rfl) (by kernel_rfl) (by kernel_rfl) (fun _ _ _ h => h) (.inl ⟨rfl, fun W _ => by go_simp⟩) SX ?_
        simp only [Act.put, List.getElem_toArray, List.getElem_cons_zero, List.getElem_cons_succ, List.setIfInBounds_toArray, List.set_cons_zero, List.set_cons_succ]
        refine wpAnyH_take (i := 9) (v := .bool (decide (q = 0))) rfl (by kernel_rfl) (by kernel_rfl) (by kernel_rfl) (fun _ _ _ h => h) (.inl ⟨rfl, fun W _ => by go_simp⟩) SX ?_
        simp only [Act.put, List.getElem_toArray, List.getElem_cons_zero, List.getElem_cons_succ, List.setIfInBounds_toArray, List.set_cons_zero, List.set_cons_succ]
        refine relist #[true, true, true, true, true, true, true, true, true, true, false, false, false] (by kernel_rfl) ?_
        refine any_one (i := 10) (by kernel_rfl) ?_
        refine wpOp_store_D rfl rfl (.tmp 10) (.tmp 45) rfl (w.heap.size + 1) T rfl rfl Z32 d1 hTl ?_
        intro U hU
        have e2 := d2.other hU (by omega)
        have f1 : Dg U (w.heap.size + 1) T := hU.dg hTl
        have BU := hU.below _ _ (by omega) B
        have SU := SX.other hU (by omega)
        clear d1 d2 B hU
        refine ⟨SU, ?_⟩
        simp only [Act.put, List.getElem_toArray, List.getElem_cons_zero, List.getElem_cons_succ, List.setIfInBounds_toArray, List.set_cons_zero, List.set_cons_succ]
        refine relist #[true, true, true, true, true, true, true, true, true, true, true, false, false] (by kernel_rfl) ?_
        refine any_one (i := 11) (by kernel_rfl) ?_
        refine wpOp_store_D rfl rfl (.tmp 11) (.tmp 49) rfl (w.heap.size + 1 + 1) T rfl rfl Z32 e2 hTl ?_
        intro X hX
        have x1 : Hid (Dg X (w.heap.size + 1) T) := f1.other hX (by omega)
        have x2 : Hid (Dg X (w.heap.size + 1 + 1) T) := hX.dg hTl
        have BX : Hid (Below w.heap.size w X) := hX.below _ _ (by omega) BU
        have SX' := SU.other hX (by omega)
        clear f1 e2 BU hX
        refine ⟨SX', ?_⟩
        simp only [Act.put, List.getElem_toArray, List.getElem_cons_zero, List.getElem_cons_succ, List.setIfInBounds_toArray, List.set_cons_zero, List.set_cons_succ]
        refine wpAnyH_take (i := 12) (v := .bool (decide (q = 0))) rfl (by kernel_rfl) (by kernel_rfl) (by kernel_rfl) (fun _ _ _ h => h) (.inl ⟨rfl, fun W _ => by go_simp⟩) SX' ?_
        simp only [Act.put, List.getElem_toArray, List.getElem_cons_zero, List.getElem_cons_succ, List.setIfInBounds_toArray, List.set_cons_zero, List.set_cons_succ]
        refine wpAnyH_done (by kernel_rfl) ?_ _
        refine NoPanic.normal ?_
        clear SX SU SX' kV aV bV hb0 hia hsl hAV
        go_wp2_with fail
        exact bodyPost_ret (results_DDT rfl _ _ (w.heap.size + 1) (w.heap.size + 1 + 1) T T rfl x1.out rfl x2.out) rfl ⟨by rw [HE.out]; rfl, BX.out⟩
      · rw [decide_eq_false h2] at hq1
        obtain ⟨hk1, hk2, hk3⟩ := halfN_spec n (by omega) (by omega)
        have hpb := fun W => half_any n W (by omega) hn
        have HE : Hid (growR known known ds.reverse m n whole = if m ≤ halfN n then ((growR known known (ds.take q).reverse m (halfN n) whole).1, knotP (growR known known (ds.take q).reverse m (halfN n) whole).2.1 (ds.getD q []), (growR known known (ds.take q).reverse m (halfN n) whole).2.2) else (knotP (ds.getD q []) (growR known known (ds.take q).reverse (m - halfN n) (n - halfN n) false).1, knotP (ds.getD q []) (growR known known (ds.take q).reverse (m - halfN n) (n - halfN n) false).2.1, (growR known known (ds.take q).reverse (m - halfN n) (n - halfN n) false).2.2)) := by
          show growR known known ds.reverse m n whole = _
          rw [hrev]; simp only [growR, if_neg h1, if_neg h2]
        generalize ds.getD q [] = T at *
        generalize ad.add (q * 32) = bd at *
        go_enter Tryd.func68, Tryd.ntmps68
        go_wp2_with fail
        refine (hpb _).mono ?_
        rintro ex w2 ⟨rfl, hw2⟩
        have e2 : w2 = V := by rw [hw2, hV]; rfl
        have kW : Hid (Dg w2 w.heap.size known) := by rw [e2]; exact kV.out
        have aW : Hid (Dg w2 (w.heap.size + 1) Z32) := by rw [e2]; exact aV.out
        have cW : Hid (Dg w2 (w.heap.size + 1 + 1) Z32) := by rw [e2]; exact bV.out
        have B2 : Below w.heap.size w w2 := by rw [e2]; exact hb0
        have hA2 : Hid (At8 w2 bd T) := by rw [e2]; exact hAV.out
        have n2 : Hid (Dg (w2.alloc (.cells Z8x32 25)) w2.heap.size Z32) := Dg.new w2 _ rfl
        have l2 := cW.out.lt
        clear hpb hw2 e2 kV aV bV hb0 hAV
        generalize halfN n = k at *
        go_wp2_with (first
          | (with_reducible refine atLoad 25 ?_
             refine load_at rfl _ rfl bd rfl T hTl hA2.out ?_)
          | (with_reducible refine atStore 25 ?_
             refine store_D rfl _ _ rfl w2.heap.size T rfl rfl Z32 n2.out hTl ?_
             intro U hU
             refine hideGoal ?_))
        have kU : Hid (Dg U w.heap.size known) := (kW.out.alloc _).other hU (by omega)
        have aU : Hid (Dg U (w.heap.size + 1) Z32) := (aW.out.alloc _).other hU (by omega)
        have cU : Hid (Dg U (w.heap.size + 1 + 1) Z32) := (cW.out.alloc _).other hU (by omega)
        have tU : Hid (Dg U w2.heap.size T) := hU.dg hTl
        have bU : Hid (Below w.heap.size w U) := hU.below _ _ (by omega) (B2.alloc (by omega) _)
        have lU := tU.out.lt
        clear hU kW aW cW B2 hA2 n2
        generalize w2.heap.size = g5 at *
        have hDU : Hid (D32 U (some ad) q cap (ds.take q)) := hDf.below bU.out
        refine openGoal ?_
        by_cases hik : m ≤ k
        · have hik' : (m : Int) ≤ k := by omega
          rw [if_pos hik] at HE
          obtain ⟨hO, hN⟩ := growR_ok known known hk hk (ds.take q).reverse m k whole hsub0
          obtain ⟨C, hC⟩ : ∃ C, growR known known (ds.take q).reverse m k whole = C := ⟨_, rfl⟩
          rw [hC] at hO hN HE
          obtain ⟨O, N, ok⟩ := C
          have hOl : O.length = 32 := hO.1
          have hOb : Bytes O := hO.2
          have hNl : N.length = 32 := hN.1
          have hNb : Bytes N := hN.2
          clear hO hN
          go_wp2_with fail
          go_cut [16, 17, 18] (fun sa sb sc wc => ∃ ga gb, sa = .pointer (some ⟨ga, 0, none⟩) ∧ sb = .pointer (some ⟨gb, 0, none⟩) ∧ sc = .bool ok ∧ Dg wc ga O ∧ Dg wc gb N ∧ U.heap.size ≤ ga ∧ U.heap.size ≤ gb ∧ Below U.heap.size U wc)
          case first =>
            have Syz : Dg U.drew w.heap.size known := ⟨kU.out.len, kU.out.here⟩
            have Byz : Below U.heap.size U U.drew := (Below.refl _ _).drew
            refine wp_region_noPanic ?_
            refine wp_region_held (S := fun W => Dg W w.heap.size known) follows ?_
            refine wpAnyH_take (i := 0) (v := .int .i64 m) rfl (by kernel_rfl) (by kernel_rfl) (by kernel_rfl) (fun _ _ _ h => h) (.inl ⟨rfl, fun W _ => by go_simp⟩) Syz ?_
            simp only [Act.put, List.getElem_toArray, List.getElem_cons_zero, List.getElem_cons_succ, List.setIfInBounds_toArray, List.set_cons_zero, List.set_cons_succ]
            refine wpAnyH_take (i := 1) (v := .int .i64 k) rfl (by kernel_rfl) (by kernel_rfl) (by kernel_rfl) (fun _ _ _ h => h) (.inl ⟨rfl, fun W _ => by go_simp⟩) Syz ?_
            simp only [Act.put, List.getElem_toArray, List.getElem_cons_zero, List.getElem_cons_succ, List.setIfInBounds_toArray, List.set_cons_zero, List.set_cons_succ]
            refine wpAnyH_take (i := 2) (v := .bool whole) rfl (by kernel_rfl) (by kernel_rfl) (by kernel_rfl) (fun _ _ _ h => h) (.inl ⟨rfl, fun W _ => by go_simp⟩) Syz ?_
            simp only [Act.put, List.getElem_toArray, List.getElem_cons_zero, List.getElem_cons_succ, List.setIfInBounds_toArray, List.set_cons_zero, List.set_cons_succ]
            refine wpAnyH_take (i := 3) (v := .slice (some ad) (q + 1) cap) rfl (by kernel_rfl) (by kernel_rfl) (by kernel_rfl) (fun _ _ _ h => h) (.inl ⟨rfl, fun W _ => by go_simp⟩) Syz ?_
            simp only [Act.put, List.getElem_toArray, List.getElem_cons_zero, List.getElem_cons_succ, List.setIfInBounds_toArray, List.set_cons_zero, List.set_cons_succ]
            refine wpAnyH_take (i := 4) (v := .int .i64 q) rfl (by kernel_rfl) (by kernel_rfl) (by kernel_rfl) (fun _ _ _ h => h) (.inl ⟨rfl, fun W _ => by go_simp⟩) Syz ?_
            simp only [Act.put, List.getElem_toArray, List.getElem_cons_zero, List.getElem_cons_succ, List.setIfInBounds_toArray, List.set_cons_zero, List.set_cons_succ]
            refine wpAnyH_take (i := 5) (v := .slice (some ad) q cap) rfl (by kernel_rfl) (by kernel_rfl) (by kernel_rfl) (fun _ _ _ h => h) (.inl ⟨rfl, fun W _ => by have e := hsl W; go_simp⟩) Syz ?_
            simp only [Act.put, List.getElem_toArray, List.getElem_cons_zero, List.getElem_cons_succ, List.setIfInBounds_toArray, List.set_cons_zero, List.set_cons_succ]
            refine wpAnyH_take (i := 6) (v := .agg (A8 known)) rfl (by kernel_rfl) (by kernel_rfl) (by kernel_rfl) (fun _ _ _ h => h) (yields_D rfl (.tmp 9) rfl w.heap.size rfl known hkl (fun W hW => hW)) Syz ?_
            simp only [Act.put, List.getElem_toArray, List.getElem_cons_zero, List.getElem_cons_succ, List.setIfInBounds_toArray, List.set_cons_zero, List.set_cons_succ]
            obtain ⟨yz, hyz⟩ : ∃ y, y = U.drew := ⟨_, rfl⟩
            rw [← hyz] at Syz Byz
            refine reworld hyz.symm ?_
            refine relist #[true, true, true, true, true, true, true, false, false, false, false, false, false, false, false, false, false] (by kernel_rfl) ?_
            refine any_three (i := 7) (j := 12) (l := 13) (by kernel_rfl) ?_ ?_ ?_
            · refine wpOp_call (f := 68) (args := #[.int .i64 m, .int .i64 k, .bool whole, .slice (some ad) q cap, .agg (A8 known)]) rfl rfl (by go_simp) ?_
              refine (ih m k whole (some ad) cap (ds.take q) _ (hDU.out.below Byz) hm1 hik (by omega)).mono ?_
              rintro ex y1 ⟨rfl, by1⟩
              have By1 : Below U.heap.size U y1 := Byz.trans (by1.mono Byz.size)
              have Sy1 : Dg y1 w.heap.size known := ⟨kU.out.len, (By1.block _ (by omega)).trans kU.out.here⟩
              have hy1 := By1.size
              rw [hC]
              refine ⟨_, rfl, Sy1, ?_⟩
              simp only [Act.put, List.getElem_toArray, List.getElem_cons_zero, List.getElem_cons_succ, List.setIfInBounds_toArray, List.set_cons_zero, List.set_cons_succ]
              refine wpAnyH_take (i := 8) (v := .tuple #[.agg (A8 O), .agg (A8 N), .bool ok]) rfl (by kernel_rfl) (by kernel_rfl) (by kernel_rfl) (fun _ _ _ h => h) (.inl ⟨rfl, fun W _ => by go_simp⟩) Sy1 ?_
              simp only [Act.put, List.getElem_toArray, List.getElem_cons_zero, List.getElem_cons_succ, List.setIfInBounds_toArray, List.set_cons_zero, List.set_cons_succ]
              refine wpAnyH_take (i := 9) (v := .agg (A8 O)) rfl (by kernel_rfl) (by kernel_rfl) (by kernel_rfl) (fun _ _ _ h => h) (.inl ⟨rfl, fun W _ => by go_simp⟩) Sy1 ?_
              simp only [Act.put, List.getElem_toArray, List.getElem_cons_zero, List.getElem_cons_succ, List.setIfInBounds_toArray, List.set_cons_zero, List.set_cons_succ]
              refine wpAnyH_take (i := 10) (v := .agg (A8 N)) rfl (by kernel_rfl) (by kernel_rfl) (by kernel_rfl) (fun _ _ _ h => h) (.inl ⟨rfl, fun W _ => by go_simp⟩) Sy1 ?_
              simp only [Act.put, List.getElem_toArray, List.getElem_cons_zero, List.getElem_cons_succ, List.setIfInBounds_toArray, List.set_cons_zero, List.set_cons_succ]
              refine wpAnyH_take (i := 11) (v := .bool ok) rfl (by kernel_rfl) (by kernel_rfl) (by kernel_rfl) (fun _ _ _ h => h) (.inl ⟨rfl, fun W _ => by go_simp⟩) Sy1 ?_
              simp only [Act.put, List.getElem_toArray, List.getElem_cons_zero, List.getElem_cons_succ, List.setIfInBounds_toArray, List.set_cons_zero, List.set_cons_succ]
              refine relist #[true, true, true, true, true, true, true, true, true, true, true, true, false, false, false, false, false] (by kernel_rfl) ?_
              refine any_two (i := 12) (j := 13) (by kernel_rfl) ?_ ?_
              · have ey2 : ∃ G, G = y1.heap.size := ⟨_, rfl⟩
                obtain ⟨gAy2, hgAy2⟩ := ey2
                refine wpOp_val (v := .pointer (some ⟨y1.heap.size, 0, none⟩)) (w' := y1.alloc (.cells Z8x32 25)) rfl rfl (by unfold Z8x32; go_simp) ?_
                obtain ⟨y2, hwy2⟩ : ∃ y, y = y1.alloc (.cells Z8x32 25) := ⟨_, rfl⟩
                have fAy2 : Dg y2 gAy2 Z32 := by rw [hgAy2, hwy2]; exact Dg.new _ _ rfl
                have By2 : Below U.heap.size U y2 := by rw [hwy2]; exact By1.alloc By1.size _
                have hsy2 : U.heap.size ≤ gAy2 := by rw [hgAy2]; exact By1.size
                have Sy2 : Dg y2 w.heap.size known := ⟨kU.out.len, (By2.block _ (by omega)).trans kU.out.here⟩
                have hy2 := By2.size
                rw [← hgAy2, ← hwy2]
                refine ⟨Sy2, ?_⟩
                simp only [Act.put, List.getElem_toArray, List.getElem_cons_zero, List.getElem_cons_succ, List.setIfInBounds_toArray, List.set_cons_zero, List.set_cons_succ]
                refine relist #[true, true, true, true, true, true, true, true, true, true, true, true, true, false, false, false, false] (by kernel_rfl) ?_
                refine any_one (i := 13) (by kernel_rfl) ?_
                have ey3 : ∃ G, G = y2.heap.size := ⟨_, rfl⟩
                obtain ⟨gBy3, hgBy3⟩ := ey3
                refine wpOp_val (v := .pointer (some ⟨y2.heap.size, 0, none⟩)) (w' := y2.alloc (.cells Z8x32 25)) rfl rfl (by unfold Z8x32; go_simp) ?_
                obtain ⟨y3, hwy3⟩ : ∃ y, y = y2.alloc (.cells Z8x32 25) := ⟨_, rfl⟩
                have fBy3 : Dg y3 gBy3 Z32 := by rw [hgBy3, hwy3]; exact Dg.new _ _ rfl
                have By3 : Below U.heap.size U y3 := by rw [hwy3]; exact By2.alloc By2.size _
                have fAy3 : Dg y3 gAy2 Z32 := by rw [hwy3]; exact fAy2.alloc _
                have ltAy3 := fAy2.lt
                have hsy3 : U.heap.size ≤ gBy3 := by rw [hgBy3]; exact By2.size
                have Sy3 : Dg y3 w.heap.size known := ⟨kU.out.len, (By3.block _ (by omega)).trans kU.out.here⟩
                have hy3 := By3.size
                rw [← hgBy3, ← hwy3]
                refine ⟨Sy3, ?_⟩
                simp only [Act.put, List.getElem_toArray, List.getElem_cons_zero, List.getElem_cons_succ, List.setIfInBounds_toArray, List.set_cons_zero, List.set_cons_succ]
                refine relist #[true, true, true, true, true, true, true, true, true, true, true, true, true, true, false, false, false] (by kernel_rfl) ?_
                refine any_one (i := 14) (by kernel_rfl) ?_
                refine wpOp_store_D rfl rfl (.tmp 16) (.tmp 70) rfl gAy2 O rfl rfl Z32 fAy3 hOl ?_
                intro X hX
                have xa : Dg X gAy2 O := hX.dg hOl
                have xb : Dg X gBy3 Z32 := fBy3.other hX (by omega)
                have xB := hX.below _ _ (by omega) By3
                have xS : Dg X w.heap.size known := Sy3.other hX (by omega)
                refine ⟨xS, ?_⟩
                simp only [Act.put, List.getElem_toArray, List.getElem_cons_zero, List.getElem_cons_succ, List.setIfInBounds_toArray, List.set_cons_zero, List.set_cons_succ]
                refine relist #[true, true, true, true, true, true, true, true, true, true, true, true, true, true, true, false, false] (by kernel_rfl) ?_
                refine any_one (i := 15) (by kernel_rfl) ?_
                refine wpOp_store_D rfl rfl (.tmp 17) (.tmp 71) rfl gBy3 N rfl rfl Z32 xb hNl ?_
                intro Y hY
                have ya : Hid (Dg Y gAy2 O) := xa.other hY (by omega)
                have yb : Hid (Dg Y gBy3 N) := hY.dg hNl
                have yB : Hid (Below U.heap.size U Y) := hY.below _ _ (by omega) xB
                have yS : Dg Y w.heap.size known := xS.other hY (by omega)
                refine ⟨yS, ?_⟩
                simp only [Act.put, List.getElem_toArray, List.getElem_cons_zero, List.getElem_cons_succ, List.setIfInBounds_toArray, List.set_cons_zero, List.set_cons_succ]
                refine wpAnyH_take (i := 16) (v := .bool ok) rfl (by kernel_rfl) (by kernel_rfl) (by kernel_rfl) (fun _ _ _ h => h) (.inl ⟨rfl, fun W _ => by go_simp⟩) yS ?_
                simp only [Act.put, List.getElem_toArray, List.getElem_cons_zero, List.getElem_cons_succ, List.setIfInBounds_toArray, List.set_cons_zero, List.set_cons_succ]
                refine wpAnyH_done (by kernel_rfl) ?_ _
                refine NoPanic.normal ?_
                clear hX hY xa xb xB xS yS
                go_wp2_with fail
                go_meet
                case rel => exact ⟨gAy2, gBy3, rfl, rfl, rfl, ya.out, yb.out, by omega, by omega, yB.out⟩
              · have ey2 : ∃ G, G = y1.heap.size := ⟨_, rfl⟩
                obtain ⟨gBy2, hgBy2⟩ := ey2
                refine wpOp_val (v := .pointer (some ⟨y1.heap.size, 0, none⟩)) (w' := y1.alloc (.cells Z8x32 25)) rfl rfl (by unfold Z8x32; go_simp) ?_
                obtain ⟨y2, hwy2⟩ : ∃ y, y = y1.alloc (.cells Z8x32 25) := ⟨_, rfl⟩
                have fBy2 : Dg y2 gBy2 Z32 := by rw [hgBy2, hwy2]; exact Dg.new _ _ rfl
                have By2 : Below U.heap.size U y2 := by rw [hwy2]; exact By1.alloc By1.size _
                have hsy2 : U.heap.size ≤ gBy2 := by rw [hgBy2]; exact By1.size
                have Sy2 : Dg y2 w.heap.size known := ⟨kU.out.len, (By2.block _ (by omega)).trans kU.out.here⟩
                have hy2 := By2.size
                rw [← hgBy2, ← hwy2]
                refine ⟨Sy2, ?_⟩
                simp only [Act.put, List.getElem_toArray, List.getElem_cons_zero, List.getElem_cons_succ, List.setIfInBounds_toArray, List.set_cons_zero, List.set_cons_succ]
                refine relist #[true, true, true, true, true, true, true, true, true, true, true, true, false, true, false, false, false] (by kernel_rfl) ?_
                refine any_one (i := 12) (by kernel_rfl) ?_
                have ey3 : ∃ G, G = y2.heap.size := ⟨_, rfl⟩
                obtain ⟨gAy3, hgAy3⟩ := ey3
                refine wpOp_val (v := .pointer (some ⟨y2.heap.size, 0, none⟩)) (w' := y2.alloc (.cells Z8x32 25)) rfl rfl (by unfold Z8x32; go_simp) ?_
                obtain ⟨y3, hwy3⟩ : ∃ y, y = y2.alloc (.cells Z8x32 25) := ⟨_, rfl⟩
                have fAy3 : Dg y3 gAy3 Z32 := by rw [hgAy3, hwy3]; exact Dg.new _ _ rfl
                have By3 : Below U.heap.size U y3 := by rw [hwy3]; exact By2.alloc By2.size _
                have fBy3 : Dg y3 gBy2 Z32 := by rw [hwy3]; exact fBy2.alloc _
                have ltBy3 := fBy2.lt
                have hsy3 : U.heap.size ≤ gAy3 := by rw [hgAy3]; exact By2.size
                have Sy3 : Dg y3 w.heap.size known := ⟨kU.out.len, (By3.block _ (by omega)).trans kU.out.here⟩
                have hy3 := By3.size
                rw [← hgAy3, ← hwy3]
                refine ⟨Sy3, ?_⟩
                simp only [Act.put, List.getElem_toArray, List.getElem_cons_zero, List.getElem_cons_succ, List.setIfInBounds_toArray, List.set_cons_zero, List.set_cons_succ]
                refine relist #[true, true, true, true, true, true, true, true, true, true, true, true, true, true, false, false, false] (by kernel_rfl) ?_
                refine any_one (i := 14) (by kernel_rfl) ?_
                refine wpOp_store_D rfl rfl (.tmp 16) (.tmp 70) rfl gAy3 O rfl rfl Z32 fAy3 hOl ?_
                intro X hX
                have xa : Dg X gAy3 O := hX.dg hOl
                have xb : Dg X gBy2 Z32 := fBy3.other hX (by omega)
                have xB := hX.below _ _ (by omega) By3
                have xS : Dg X w.heap.size known := Sy3.other hX (by omega)
                refine ⟨xS, ?_⟩
                simp only [Act.put, List.getElem_toArray, List.getElem_cons_zero, List.getElem_cons_succ, List.setIfInBounds_toArray, List.set_cons_zero, List.set_cons_succ]
                refine relist #[true, true, true, true, true, true, true, true, true, true, true, true, true, true, true, false, false] (by kernel_rfl) ?_
                refine any_one (i := 15) (by kernel_rfl) ?_
                refine wpOp_store_D rfl rfl (.tmp 17) (.tmp 71) rfl gBy2 N rfl rfl Z32 xb hNl ?_
                intro Y hY
                have ya : Hid (Dg Y gAy3 O) := xa.other hY (by omega)
                have yb : Hid (Dg Y gBy2 N) := hY.dg hNl
                have yB : Hid (Below U.heap.size U Y) := hY.below _ _ (by omega) xB
                have yS : Dg Y w.heap.size known := xS.other hY (by omega)
                refine ⟨yS, ?_⟩
                simp only [Act.put, List.getElem_toArray, List.getElem_cons_zero, List.getElem_cons_succ, List.setIfInBounds_toArray, List.set_cons_zero, List.set_cons_succ]
                refine wpAnyH_take (i := 16) (v := .bool ok) rfl (by kernel_rfl) (by kernel_rfl) (by kernel_rfl) (fun _ _ _ h => h) (.inl ⟨rfl, fun W _ => by go_simp⟩) yS ?_
                simp only [Act.put, List.getElem_toArray, List.getElem_cons_zero, List.getElem_cons_succ, List.setIfInBounds_toArray, List.set_cons_zero, List.set_cons_succ]
                refine wpAnyH_done (by kernel_rfl) ?_ _
                refine NoPanic.normal ?_
                clear hX hY xa xb xB xS yS
                go_wp2_with fail
                go_meet
                case rel => exact ⟨gAy3, gBy2, rfl, rfl, rfl, ya.out, yb.out, by omega, by omega, yB.out⟩
            · have ey1 : ∃ G, G = yz.heap.size := ⟨_, rfl⟩
              obtain ⟨gAy1, hgAy1⟩ := ey1
              refine wpOp_val (v := .pointer (some ⟨yz.heap.size, 0, none⟩)) (w' := yz.alloc (.cells Z8x32 25)) rfl rfl (by unfold Z8x32; go_simp) ?_
              obtain ⟨y1, hwy1⟩ : ∃ y, y = yz.alloc (.cells Z8x32 25) := ⟨_, rfl⟩
              have fAy1 : Dg y1 gAy1 Z32 := by rw [hgAy1, hwy1]; exact Dg.new _ _ rfl
              have By1 : Below U.heap.size U y1 := by rw [hwy1]; exact Byz.alloc Byz.size _
              have hsy1 : U.heap.size ≤ gAy1 := by rw [hgAy1]; exact Byz.size
              have Sy1 : Dg y1 w.heap.size known := ⟨kU.out.len, (By1.block _ (by omega)).trans kU.out.here⟩
              have hy1 := By1.size
              rw [← hgAy1, ← hwy1]
              refine ⟨Sy1, ?_⟩
              simp only [Act.put, List.getElem_toArray, List.getElem_cons_zero, List.getElem_cons_succ, List.setIfInBounds_toArray, List.set_cons_zero, List.set_cons_succ]
              refine relist #[true, true, true, true, true, true, true, false, false, false, false, false, true, false, false, false, false] (by kernel_rfl) ?_
              refine any_two (i := 7) (j := 13) (by kernel_rfl) ?_ ?_
              · refine wpOp_call (f := 68) (args := #[.int .i64 m, .int .i64 k, .bool whole, .slice (some ad) q cap, .agg (A8 known)]) rfl rfl (by go_simp) ?_
                refine (ih m k whole (some ad) cap (ds.take q) _ (hDU.out.below By1) hm1 hik (by omega)).mono ?_
                rintro ex y2 ⟨rfl, by2⟩
                have By2 : Below U.heap.size U y2 := By1.trans (by2.mono By1.size)
                have fAy2 := fAy1.next by2
                have Sy2 : Dg y2 w.heap.size known := ⟨kU.out.len, (By2.block _ (by omega)).trans kU.out.here⟩
                have hy2 := By2.size
                rw [hC]
                refine ⟨_, rfl, Sy2, ?_⟩
                simp only [Act.put, List.getElem_toArray, List.getElem_cons_zero, List.getElem_cons_succ, List.setIfInBounds_toArray, List.set_cons_zero, List.set_cons_succ]
                refine wpAnyH_take (i := 8) (v := .tuple #[.agg (A8 O), .agg (A8 N), .bool ok]) rfl (by kernel_rfl) (by kernel_rfl) (by kernel_rfl) (fun _ _ _ h => h) (.inl ⟨rfl, fun W _ => by go_simp⟩) Sy2 ?_
                simp only [Act.put, List.getElem_toArray, List.getElem_cons_zero, List.getElem_cons_succ, List.setIfInBounds_toArray, List.set_cons_zero, List.set_cons_succ]
                refine wpAnyH_take (i := 9) (v := .agg (A8 O)) rfl (by kernel_rfl) (by kernel_rfl) (by kernel_rfl) (fun _ _ _ h => h) (.inl ⟨rfl, fun W _ => by go_simp⟩) Sy2 ?_
                simp only [Act.put, List.getElem_toArray, List.getElem_cons_zero, List.getElem_cons_succ, List.setIfInBounds_toArray, List.set_cons_zero, List.set_cons_succ]
                refine wpAnyH_take (i := 10) (v := .agg (A8 N)) rfl (by kernel_rfl) (by kernel_rfl) (by kernel_rfl) (fun _ _ _ h => h) (.inl ⟨rfl, fun W _ => by go_simp⟩) Sy2 ?_
                simp only [Act.put, List.getElem_toArray, List.getElem_cons_zero, List.getElem_cons_succ, List.setIfInBounds_toArray, List.set_cons_zero, List.set_cons_succ]
                refine wpAnyH_take (i := 11) (v := .bool ok) rfl (by kernel_rfl) (by kernel_rfl) (by kernel_rfl) (fun _ _ _ h => h) (.inl ⟨rfl, fun W _ => by go_simp⟩) Sy2 ?_
                simp only [Act.put, List.getElem_toArray, List.getElem_cons_zero, List.getElem_cons_succ, List.setIfInBounds_toArray, List.set_cons_zero, List.set_cons_succ]
                refine relist #[true, true, true, true, true, true, true, true, true, true, true, true, true, false, false, false, false] (by kernel_rfl) ?_
                refine any_one (i := 13) (by kernel_rfl) ?_
                have ey3 : ∃ G, G = y2.heap.size := ⟨_, rfl⟩
                obtain ⟨gBy3, hgBy3⟩ := ey3
                refine wpOp_val (v := .pointer (some ⟨y2.heap.size, 0, none⟩)) (w' := y2.alloc (.cells Z8x32 25)) rfl rfl (by unfold Z8x32; go_simp) ?_
                obtain ⟨y3, hwy3⟩ : ∃ y, y = y2.alloc (.cells Z8x32 25) := ⟨_, rfl⟩
                have fBy3 : Dg y3 gBy3 Z32 := by rw [hgBy3, hwy3]; exact Dg.new _ _ rfl
                have By3 : Below U.heap.size U y3 := by rw [hwy3]; exact By2.alloc By2.size _
                have fAy3 : Dg y3 gAy1 Z32 := by rw [hwy3]; exact fAy2.alloc _
                have ltAy3 := fAy2.lt
                have hsy3 : U.heap.size ≤ gBy3 := by rw [hgBy3]; exact By2.size
                have Sy3 : Dg y3 w.heap.size known := ⟨kU.out.len, (By3.block _ (by omega)).trans kU.out.here⟩
                have hy3 := By3.size
                rw [← hgBy3, ← hwy3]
                refine ⟨Sy3, ?_⟩
                simp only [Act.put, List.getElem_toArray, List.getElem_cons_zero, List.getElem_cons_succ, List.setIfInBounds_toArray, List.set_cons_zero, List.set_cons_succ]
                refine relist #[true, true, true, true, true, true, true, true, true, true, true, true, true, true, false, false, false] (by kernel_rfl) ?_
                refine any_one (i := 14) (by kernel_rfl) ?_
                refine wpOp_store_D rfl rfl (.tmp 16) (.tmp 70) rfl gAy1 O rfl rfl Z32 fAy3 hOl ?_
                intro X hX
                have xa : Dg X gAy1 O := hX.dg hOl
                have xb : Dg X gBy3 Z32 := fBy3.other hX (by omega)
                have xB := hX.below _ _ (by omega) By3
                have xS : Dg X w.heap.size known := Sy3.other hX (by omega)
                refine ⟨xS, ?_⟩
                simp only [Act.put, List.getElem_toArray, List.getElem_cons_zero, List.getElem_cons_succ, List.setIfInBounds_toArray, List.set_cons_zero, List.set_cons_succ]
                refine relist #[true, true, true, true, true, true, true, true, true, true, true, true, true, true, true, false, false] (by kernel_rfl) ?_
                refine any_one (i := 15) (by kernel_rfl) ?_
                refine wpOp_store_D rfl rfl (.tmp 17) (.tmp 71) rfl gBy3 N rfl rfl Z32 xb hNl ?_
                intro Y hY
                have ya : Hid (Dg Y gAy1 O) := xa.other hY (by omega)
                have yb : Hid (Dg Y gBy3 N) := hY.dg hNl
                have yB : Hid (Below U.heap.size U Y) := hY.below _ _ (by omega) xB
                have yS : Dg Y w.heap.size known := xS.other hY (by omega)
                refine ⟨yS, ?_⟩
                simp only [Act.put, List.getElem_toArray, List.getElem_cons_zero, List.getElem_cons_succ, List.setIfInBounds_toArray, List.set_cons_zero, List.set_cons_succ]
                refine wpAnyH_take (i := 16) (v := .bool ok) rfl (by kernel_rfl) (by kernel_rfl) (by kernel_rfl) (fun _ _ _ h => h) (.inl ⟨rfl, fun W _ => by go_simp⟩) yS ?_
                simp only [Act.put, List.getElem_toArray, List.getElem_cons_zero, List.getElem_cons_succ, List.setIfInBounds_toArray, List.set_cons_zero, List.set_cons_succ]
                refine wpAnyH_done (by kernel_rfl) ?_ _
                refine NoPanic.normal ?_
                clear hX hY xa xb xB xS yS
                go_wp2_with fail
                go_meet
                case rel => exact ⟨gAy1, gBy3, rfl, rfl, rfl, ya.out, yb.out, by omega, by omega, yB.out⟩
              · have ey2 : ∃ G, G = y1.heap.size := ⟨_, rfl⟩
                obtain ⟨gBy2, hgBy2⟩ := ey2
                refine wpOp_val (v := .pointer (some ⟨y1.heap.size, 0, none⟩)) (w' := y1.alloc (.cells Z8x32 25)) rfl rfl (by unfold Z8x32; go_simp) ?_
                obtain ⟨y2, hwy2⟩ : ∃ y, y = y1.alloc (.cells Z8x32 25) := ⟨_, rfl⟩
                have fBy2 : Dg y2 gBy2 Z32 := by rw [hgBy2, hwy2]; exact Dg.new _ _ rfl
                have By2 : Below U.heap.size U y2 := by rw [hwy2]; exact By1.alloc By1.size _
                have fAy2 : Dg y2 gAy1 Z32 := by rw [hwy2]; exact fAy1.alloc _
                have ltAy2 := fAy1.lt
                have hsy2 : U.heap.size ≤ gBy2 := by rw [hgBy2]; exact By1.size
                have Sy2 : Dg y2 w.heap.size known := ⟨kU.out.len, (By2.block _ (by omega)).trans kU.out.here⟩
                have hy2 := By2.size
                rw [← hgBy2, ← hwy2]
                refine ⟨Sy2, ?_⟩
                simp only [Act.put, List.getElem_toArray, List.getElem_cons_zero, List.getElem_cons_succ, List.setIfInBounds_toArray, List.set_cons_zero, List.set_cons_succ]
                refine relist #[true, true, true, true, true, true, true, false, false, false, false, false, true, true, false, false, false] (by kernel_rfl) ?_
                refine any_one (i := 7) (by kernel_rfl) ?_
                refine wpOp_call (f := 68) (args := #[.int .i64 m, .int .i64 k, .bool whole, .slice (some ad) q cap, .agg (A8 known)]) rfl rfl (by go_simp) ?_
                refine (ih m k whole (some ad) cap (ds.take q) _ (hDU.out.below By2) hm1 hik (by omega)).mono ?_
                rintro ex y3 ⟨rfl, by3⟩
                have By3 : Below U.heap.size U y3 := By2.trans (by3.mono By2.size)
                have fAy3 := fAy2.next by3
                have fBy3 := fBy2.next by3
                have Sy3 : Dg y3 w.heap.size known := ⟨kU.out.len, (By3.block _ (by omega)).trans kU.out.here⟩
                have hy3 := By3.size
                rw [hC]
                refine ⟨_, rfl, Sy3, ?_⟩
                simp only [Act.put, List.getElem_toArray, List.getElem_cons_zero, List.getElem_cons_succ, List.setIfInBounds_toArray, List.set_cons_zero, List.set_cons_succ]
                refine wpAnyH_take (i := 8) (v := .tuple #[.agg (A8 O), .agg (A8 N), .bool ok]) rfl (by kernel_rfl) (by kernel_rfl) (by kernel_rfl) (fun _ _ _ h => h) (.inl ⟨rfl, fun W _ => by go_simp⟩) Sy3 ?_
                simp only [Act.put, List.getElem_toArray, List.getElem_cons_zero, List.getElem_cons_succ, List.setIfInBounds_toArray, List.set_cons_zero, List.set_cons_succ]
                refine wpAnyH_take (i := 9) (v := .agg (A8 O)) rfl (by kernel_rfl) (by kernel_rfl) (by kernel_rfl) (fun _ _ _ h => h) (.inl ⟨rfl, fun W _ => by go_simp⟩) Sy3 ?_
                simp only [Act.put, List.getElem_toArray, List.getElem_cons_zero, List.getElem_cons_succ, List.setIfInBounds_toArray, List.set_cons_zero, List.set_cons_succ]
                refine wpAnyH_take (i := 10) (v := .agg (A8 N)) rfl (by kernel_rfl) (by kernel_rfl) (by kernel_rfl) (fun _ _ _ h => h) (.inl ⟨rfl, fun W _ => by go_simp⟩) Sy3 ?_
                simp only [Act.put, List.getElem_toArray, List.getElem_cons_zero, List.getElem_cons_succ, List.setIfInBounds_toArray, List.set_cons_zero, List.set_cons_succ]
                refine wpAnyH_take (i := 11) (v := .bool ok) rfl (by kernel_rfl) (by kernel_rfl) (by kernel_rfl) (fun _ _ _ h => h) (.inl ⟨rfl, fun W _ => by go_simp⟩) Sy3 ?_
                simp only [Act.put, List.getElem_toArray, List.getElem_cons_zero, List.getElem_cons_succ, List.setIfInBounds_toArray, List.set_cons_zero, List.set_cons_succ]
                refine relist #[true, true, true, true, true, true, true, true, true, true, true, true, true, true, false, false, false] (by kernel_rfl) ?_
                refine any_one (i := 14) (by kernel_rfl) ?_
                refine wpOp_store_D rfl rfl (.tmp 16) (.tmp 70) rfl gAy1 O rfl rfl Z32 fAy3 hOl ?_
                intro X hX
                have xa : Dg X gAy1 O := hX.dg hOl
                have xb : Dg X gBy2 Z32 := fBy3.other hX (by omega)
                have xB := hX.below _ _ (by omega) By3
                have xS : Dg X w.heap.size known := Sy3.other hX (by omega)
                refine ⟨xS, ?_⟩
                simp only [Act.put, List.getElem_toArray, List.getElem_cons_zero, List.getElem_cons_succ, List.setIfInBounds_toArray, List.set_cons_zero, List.set_cons_succ]
                refine relist #[true, true, true, true, true, true, true, true, true, true, true, true, true, true, true, false, false] (by kernel_rfl) ?_
                refine any_one (i := 15) (by kernel_rfl) ?_
                refine wpOp_store_D rfl rfl (.tmp 17) (.tmp 71) rfl gBy2 N rfl rfl Z32 xb hNl ?_
                intro Y hY
                have ya : Hid (Dg Y gAy1 O) := xa.other hY (by omega)
                have yb : Hid (Dg Y gBy2 N) := hY.dg hNl
                have yB : Hid (Below U.heap.size U Y) := hY.below _ _ (by omega) xB
                have yS : Dg Y w.heap.size known := xS.other hY (by omega)
                refine ⟨yS, ?_⟩
                simp only [Act.put, List.getElem_toArray, List.getElem_cons_zero, List.getElem_cons_succ, List.setIfInBounds_toArray, List.set_cons_zero, List.set_cons_succ]
                refine wpAnyH_take (i := 16) (v := .bool ok) rfl (by kernel_rfl) (by kernel_rfl) (by kernel_rfl) (fun _ _ _ h => h) (.inl ⟨rfl, fun W _ => by go_simp⟩) yS ?_
                simp only [Act.put, List.getElem_toArray, List.getElem_cons_zero, List.getElem_cons_succ, List.setIfInBounds_toArray, List.set_cons_zero, List.set_cons_succ]
                refine wpAnyH_done (by kernel_rfl) ?_ _
                refine NoPanic.normal ?_
                clear hX hY xa xb xB xS yS
                go_wp2_with fail
                go_meet
                case rel => exact ⟨gAy1, gBy2, rfl, rfl, rfl, ya.out, yb.out, by omega, by omega, yB.out⟩
            · have ey1 : ∃ G, G = yz.heap.size := ⟨_, rfl⟩
              obtain ⟨gBy1, hgBy1⟩ := ey1
              refine wpOp_val (v := .pointer (some ⟨yz.heap.size, 0, none⟩)) (w' := yz.alloc (.cells Z8x32 25)) rfl rfl (by unfold Z8x32; go_simp) ?_
              obtain ⟨y1, hwy1⟩ : ∃ y, y = yz.alloc (.cells Z8x32 25) := ⟨_, rfl⟩
              have fBy1 : Dg y1 gBy1 Z32 := by rw [hgBy1, hwy1]; exact Dg.new _ _ rfl
              have By1 : Below U.heap.size U y1 := by rw [hwy1]; exact Byz.alloc Byz.size _
              have hsy1 : U.heap.size ≤ gBy1 := by rw [hgBy1]; exact Byz.size
              have Sy1 : Dg y1 w.heap.size known := ⟨kU.out.len, (By1.block _ (by omega)).trans kU.out.here⟩
              have hy1 := By1.size
              rw [← hgBy1, ← hwy1]
              refine ⟨Sy1, ?_⟩
              simp only [Act.put, List.getElem_toArray, List.getElem_cons_zero, List.getElem_cons_succ, List.setIfInBounds_toArray, List.set_cons_zero, List.set_cons_succ]
              refine relist #[true, true, true, true, true, true, true, false, false, false, false, false, false, true, false, false, false] (by kernel_rfl) ?_
              refine any_two (i := 7) (j := 12) (by kernel_rfl) ?_ ?_
              · refine wpOp_call (f := 68) (args := #[.int .i64 m, .int .i64 k, .bool whole, .slice (some ad) q cap, .agg (A8 known)]) rfl rfl (by go_simp) ?_
                refine (ih m k whole (some ad) cap (ds.take q) _ (hDU.out.below By1) hm1 hik (by omega)).mono ?_
                rintro ex y2 ⟨rfl, by2⟩
                have By2 : Below U.heap.size U y2 := By1.trans (by2.mono By1.size)
                have fBy2 := fBy1.next by2
                have Sy2 : Dg y2 w.heap.size known := ⟨kU.out.len, (By2.block _ (by omega)).trans kU.out.here⟩
                have hy2 := By2.size
                rw [hC]
                refine ⟨_, rfl, Sy2, ?_⟩
                simp only [Act.put, List.getElem_toArray, List.getElem_cons_zero, List.getElem_cons_succ, List.setIfInBounds_toArray, List.set_cons_zero, List.set_cons_succ]
                refine wpAnyH_take (i := 8) (v := .tuple #[.agg (A8 O), .agg (A8 N), .bool ok]) rfl (by kernel_rfl) (by kernel_rfl) (by kernel_rfl) (fun _ _ _ h => h) (.inl ⟨rfl, fun W _ => by go_simp⟩) Sy2 ?_
                simp only [Act.put, List.getElem_toArray, List.getElem_cons_zero, List.getElem_cons_succ, List.setIfInBounds_toArray, List.set_cons_zero, List.set_cons_succ]
                refine wpAnyH_take (i := 9) (v := .agg (A8 O)) rfl (by kernel_rfl) (by kernel_rfl) (by kernel_rfl) (fun _ _ _ h => h) (.inl ⟨rfl, fun W _ => by go_simp⟩) Sy2 ?_
                simp only [Act.put, List.getElem_toArray, List.getElem_cons_zero, List.getElem_cons_succ, List.setIfInBounds_toArray, List.set_cons_zero, List.set_cons_succ]
                refine wpAnyH_take (i := 10) (v := .agg (A8 N)) rfl (by kernel_rfl) (by kernel_rfl) (by kernel_rfl) (fun _ _ _ h => h) (.inl ⟨rfl, fun W _ => by go_simp⟩) Sy2 ?_
                simp only [Act.put, List.getElem_toArray, List.getElem_cons_zero, List.getElem_cons_succ, List.setIfInBounds_toArray, List.set_cons_zero, List.set_cons_succ]
                refine wpAnyH_take (i := 11) (v := .bool ok) rfl (by kernel_rfl) (by kernel_rfl) (by kernel_rfl) (fun _ _ _ h => h) (.inl ⟨rfl, fun W _ => by go_simp⟩) Sy2 ?_
                simp only [Act.put, List.getElem_toArray, List.getElem_cons_zero, List.getElem_cons_succ, List.setIfInBounds_toArray, List.set_cons_zero, List.set_cons_succ]
                refine relist #[true, true, true, true, true, true, true, true, true, true, true, true, false, true, false, false, false] (by kernel_rfl) ?_
                refine any_one (i := 12) (by kernel_rfl) ?_
                have ey3 : ∃ G, G = y2.heap.size := ⟨_, rfl⟩
                obtain ⟨gAy3, hgAy3⟩ := ey3
                refine wpOp_val (v := .pointer (some ⟨y2.heap.size, 0, none⟩)) (w' := y2.alloc (.cells Z8x32 25)) rfl rfl (by unfold Z8x32; go_simp) ?_
                obtain ⟨y3, hwy3⟩ : ∃ y, y = y2.alloc (.cells Z8x32 25) := ⟨_, rfl⟩
                have fAy3 : Dg y3 gAy3 Z32 := by rw [hgAy3, hwy3]; exact Dg.new _ _ rfl
                have By3 : Below U.heap.size U y3 := by rw [hwy3]; exact By2.alloc By2.size _
                have fBy3 : Dg y3 gBy1 Z32 := by rw [hwy3]; exact fBy2.alloc _
                have ltBy3 := fBy2.lt
                have hsy3 : U.heap.size ≤ gAy3 := by rw [hgAy3]; exact By2.size
                have Sy3 : Dg y3 w.heap.size known := ⟨kU.out.len, (By3.block _ (by omega)).trans kU.out.here⟩
                have hy3 := By3.size
                rw [← hgAy3, ← hwy3]
                refine ⟨Sy3, ?_⟩
                simp only [Act.put, List.getElem_toArray, List.getElem_cons_zero, List.getElem_cons_succ, List.setIfInBounds_toArray, List.set_cons_zero, List.set_cons_succ]
                refine relist #[true, true, true, true, true, true, true, true, true, true, true, true, true, true, false, false, false] (by kernel_rfl) ?_
                refine any_one (i := 14) (by kernel_rfl) ?_
                refine wpOp_store_D rfl rfl (.tmp 16) (.tmp 70) rfl gAy3 O rfl rfl Z32 fAy3 hOl ?_
                intro X hX
                have xa : Dg X gAy3 O := hX.dg hOl
                have xb : Dg X gBy1 Z32 := fBy3.other hX (by omega)
                have xB := hX.below _ _ (by omega) By3
                have xS : Dg X w.heap.size known := Sy3.other hX (by omega)
                refine ⟨xS, ?_⟩
                simp only [Act.put, List.getElem_toArray, List.getElem_cons_zero, List.getElem_cons_succ, List.setIfInBounds_toArray, List.set_cons_zero, List.set_cons_succ]
                refine relist #[true, true, true, true, true, true, true, true, true, true, true, true, true, true, true, false, false] (by kernel_rfl) ?_
                refine any_one (i := 15) (by kernel_rfl) ?_
                refine wpOp_store_D rfl rfl (.tmp 17) (.tmp 71) rfl gBy1 N rfl rfl Z32 xb hNl ?_
                intro Y hY
                have ya : Hid (Dg Y gAy3 O) := xa.other hY (by omega)
                have yb : Hid (Dg Y gBy1 N) := hY.dg hNl
                have yB : Hid (Below U.heap.size U Y) := hY.below _ _ (by omega) xB
                have yS : Dg Y w.heap.size known := xS.other hY (by omega)
                refine ⟨yS, ?_⟩
                simp only [Act.put, List.getElem_toArray, List.getElem_cons_zero, List.getElem_cons_succ, List.setIfInBounds_toArray, List.set_cons_zero, List.set_cons_succ]
                refine wpAnyH_take (i := 16) (v := .bool ok) rfl (by kernel_rfl) (by kernel_rfl) (by kernel_rfl) (fun _ _ _ h => h) (.inl ⟨rfl, fun W _ => by go_simp⟩) yS ?_
                simp only [Act.put, List.getElem_toArray, List.getElem_cons_zero, List.getElem_cons_succ, List.setIfInBounds_toArray, List.set_cons_zero, List.set_cons_succ]
                refine wpAnyH_done (by kernel_rfl) ?_ _
                refine NoPanic.normal ?_
                clear hX hY xa xb xB xS yS
                go_wp2_with fail
                go_meet
                case rel => exact ⟨gAy3, gBy1, rfl, rfl, rfl, ya.out, yb.out, by omega, by omega, yB.out⟩
              · have ey2 : ∃ G, G = y1.heap.size := ⟨_, rfl⟩
                obtain ⟨gAy2, hgAy2⟩ := ey2
                refine wpOp_val (v := .pointer (some ⟨y1.heap.size, 0, none⟩)) (w' := y1.alloc (.cells Z8x32 25)) rfl rfl (by unfold Z8x32; go_simp) ?_
                obtain ⟨y2, hwy2⟩ : ∃ y, y = y1.alloc (.cells Z8x32 25) := ⟨_, rfl⟩
                have fAy2 : Dg y2 gAy2 Z32 := by rw [hgAy2, hwy2]; exact Dg.new _ _ rfl
                have By2 : Below U.heap.size U y2 := by rw [hwy2]; exact By1.alloc By1.size _
                have fBy2 : Dg y2 gBy1 Z32 := by rw [hwy2]; exact fBy1.alloc _
                have ltBy2 := fBy1.lt
                have hsy2 : U.heap.size ≤ gAy2 := by rw [hgAy2]; exact By1.size
                have Sy2 : Dg y2 w.heap.size known := ⟨kU.out.len, (By2.block _ (by omega)).trans kU.out.here⟩
                have hy2 := By2.size
                rw [← hgAy2, ← hwy2]
                refine ⟨Sy2, ?_⟩
                simp only [Act.put, List.getElem_toArray, List.getElem_cons_zero, List.getElem_cons_succ, List.setIfInBounds_toArray, List.set_cons_zero, List.set_cons_succ]
                refine relist #[true, true, true, true, true, true, true, false, false, false, false, false, true, true, false, false, false] (by kernel_rfl) ?_
                refine any_one (i := 7) (by kernel_rfl) ?_
                refine wpOp_call (f := 68) (args := #[.int .i64 m, .int .i64 k, .bool whole, .slice (some ad) q cap, .agg (A8 known)]) rfl rfl (by go_simp) ?_
                refine (ih m k whole (some ad) cap (ds.take q) _ (hDU.out.below By2) hm1 hik (by omega)).mono ?_
                rintro ex y3 ⟨rfl, by3⟩
                have By3 : Below U.heap.size U y3 := By2.trans (by3.mono By2.size)
                have fBy3 := fBy2.next by3
                have fAy3 := fAy2.next by3
                have Sy3 : Dg y3 w.heap.size known := ⟨kU.out.len, (By3.block _ (by omega)).trans kU.out.here⟩
                have hy3 := By3.size
                rw [hC]
                refine ⟨_, rfl, Sy3, ?_⟩
                simp only [Act.put, List.getElem_toArray, List.getElem_cons_zero, List.getElem_cons_succ, List.setIfInBounds_toArray, List.set_cons_zero, List.set_cons_succ]
                refine wpAnyH_take (i := 8) (v := .tuple #[.agg (A8 O), .agg (A8 N), .bool ok]) rfl (by kernel_rfl) (by kernel_rfl) (by kernel_rfl) (fun _ _ _ h => h) (.inl ⟨rfl, fun W _ => by go_simp⟩) Sy3 ?_
                simp only [Act.put, List.getElem_toArray, List.getElem_cons_zero, List.getElem_cons_succ, List.setIfInBounds_toArray, List.set_cons_zero, List.set_cons_succ]
                refine wpAnyH_take (i := 9) (v := .agg (A8 O)) rfl (by kernel_rfl) (by kernel_rfl) (by kernel_rfl) (fun _ _ _ h => h) (.inl ⟨rfl, fun W _ => by go_simp⟩) Sy3 ?_
                simp only [Act.put, List.getElem_toArray, List.getElem_cons_zero, List.getElem_cons_succ, List.setIfInBounds_toArray, List.set_cons_zero, List.set_cons_succ]
                refine wpAnyH_take (i := 10) (v := .agg (A8 N)) rfl (by kernel_rfl) (by kernel_rfl) (by kernel_rfl) (fun _ _ _ h => h) (.inl ⟨rfl, fun W _ => by go_simp⟩) Sy3 ?_
                simp only [Act.put, List.getElem_toArray, List.getElem_cons_zero, List.getElem_cons_succ, List.setIfInBounds_toArray, List.set_cons_zero, List.set_cons_succ]
                refine wpAnyH_take (i := 11) (v := .bool ok) rfl (by kernel_rfl) (by kernel_rfl) (by kernel_rfl) (fun _ _ _ h => h) (.inl ⟨rfl, fun W _ => by go_simp⟩) Sy3 ?_
                simp only [Act.put, List.getElem_toArray, List.getElem_cons_zero, List.getElem_cons_succ, List.setIfInBounds_toArray, List.set_cons_zero, List.set_cons_succ]
                refine relist #[true, true, true, true, true, true, true, true, true, true, true, true, true, true, false, false, false] (by kernel_rfl) ?_
                refine any_one (i := 14) (by kernel_rfl) ?_
                refine wpOp_store_D rfl rfl (.tmp 16) (.tmp 70) rfl gAy2 O rfl rfl Z32 fAy3 hOl ?_
                intro X hX
                have xa : Dg X gAy2 O := hX.dg hOl
                have xb : Dg X gBy1 Z32 := fBy3.other hX (by omega)
                have xB := hX.below _ _ (by omega) By3
                have xS : Dg X w.heap.size known := Sy3.other hX (by omega)
                refine ⟨xS, ?_⟩
                simp only [Act.put, List.getElem_toArray, List.getElem_cons_zero, List.getElem_cons_succ, List.setIfInBounds_toArray, List.set_cons_zero, List.set_cons_succ]
                refine relist #[true, true, true, true, true, true, true, true, true, true, true, true, true, true, true, false, false] (by kernel_rfl) ?_
                refine any_one (i := 15) (by kernel_rfl) ?_
                refine wpOp_store_D rfl rfl (.tmp 17) (.tmp 71) rfl gBy1 N rfl rfl Z32 xb hNl ?_
                intro Y hY
                have ya : Hid (Dg Y gAy2 O) := xa.other hY (by omega)
                have yb : Hid (Dg Y gBy1 N) := hY.dg hNl
                have yB : Hid (Below U.heap.size U Y) := hY.below _ _ (by omega) xB
                have yS : Dg Y w.heap.size known := xS.other hY (by omega)
                refine ⟨yS, ?_⟩
                simp only [Act.put, List.getElem_toArray, List.getElem_cons_zero, List.getElem_cons_succ, List.setIfInBounds_toArray, List.set_cons_zero, List.set_cons_succ]
                refine wpAnyH_take (i := 16) (v := .bool ok) rfl (by kernel_rfl) (by kernel_rfl) (by kernel_rfl) (fun _ _ _ h => h) (.inl ⟨rfl, fun W _ => by go_simp⟩) yS ?_
                simp only [Act.put, List.getElem_toArray, List.getElem_cons_zero, List.getElem_cons_succ, List.setIfInBounds_toArray, List.set_cons_zero, List.set_cons_succ]
                refine wpAnyH_done (by kernel_rfl) ?_ _
                refine NoPanic.normal ?_
                clear hX hY xa xb xB xS yS
                go_wp2_with fail
                go_meet
                case rel => exact ⟨gAy2, gBy1, rfl, rfl, rfl, ya.out, yb.out, by omega, by omega, yB.out⟩
          case rest =>
            obtain ⟨ga, gb, rfl, rfl, rfl, xa, xb, hga, hgb, xB⟩ := hcut
            have tC : Dg wc.drew g5 T := ⟨hTl, (xB.block _ lU).trans tU.out.here⟩
            have aC : Dg wc.drew ga O := ⟨xa.len, xa.here⟩
            have bC : Dg wc.drew gb N := ⟨xb.len, xb.here⟩
            have q1 : Dg wc.drew (w.heap.size + 1) Z32 := ⟨rfl, (xB.block _ (by omega)).trans aU.out.here⟩
            have q2 : Dg wc.drew (w.heap.size + 1 + 1) Z32 := ⟨rfl, (xB.block _ (by omega)).trans cU.out.here⟩
            have BC : Below w.heap.size w wc.drew := (bU.out.trans (xB.mono bU.out.size)).drew
            have S0 := And.intro aC (And.intro bC tC)
            clear xa xb kU aU cU tU bU hDU hC xB
            go_wp2_with fail
            refine wp_region_noPanic ?_
            refine wp_region_held (S := fun W => Dg W ga O ∧ Dg W gb N ∧ Dg W g5 T) follows ?_
            refine wpAnyH_take (i := 0) (v := .agg (A8 O)) rfl (by kernel_rfl) (by kernel_rfl) (by kernel_rfl) (fun _ _ _ h => h) (yields_D rfl (.tmp 16) rfl ga rfl O hOl (fun W hW => hW.1)) S0 ?_
            simp only [Act.put, List.getElem_toArray, List.getElem_cons_zero, List.getElem_cons_succ, List.setIfInBounds_toArray, List.set_cons_zero, List.set_cons_succ]
            refine wpAnyH_take (i := 1) (v := .agg (A8 N)) rfl (by kernel_rfl) (by kernel_rfl) (by kernel_rfl) (fun _ _ _ h => h) (yields_D rfl (.tmp 17) rfl gb rfl N hNl (fun W hW => hW.2.1)) S0 ?_
            simp only [Act.put, List.getElem_toArray, List.getElem_cons_zero, List.getElem_cons_succ, List.setIfInBounds_toArray, List.set_cons_zero, List.set_cons_succ]
            refine wpAnyH_take (i := 2) (v := .agg (A8 T)) rfl (by kernel_rfl) (by kernel_rfl) (by kernel_rfl) (fun _ _ _ h => h) (yields_D rfl (.tmp 15) rfl g5 rfl T hTl (fun W hW => hW.2.2)) S0 ?_
            simp only [Act.put, List.getElem_toArray, List.getElem_cons_zero, List.getElem_cons_succ, List.setIfInBounds_toArray, List.set_cons_zero, List.set_cons_succ]
            refine wpAnyH_take (i := 4) (v := .bool ok) rfl (by kernel_rfl) (by kernel_rfl) (by kernel_rfl) (fun _ _ _ h => h) (.inl ⟨rfl, fun W _ => by go_simp⟩) S0 ?_
            simp only [Act.put, List.getElem_toArray, List.getElem_cons_zero, List.getElem_cons_succ, List.setIfInBounds_toArray, List.set_cons_zero, List.set_cons_succ]
            refine relist #[true, true, true, false, true, false, false, false] (by kernel_rfl) ?_
            refine any_one (i := 3) (by kernel_rfl) ?_
            refine wpOp_call (f := 96) (args := #[.agg (A8 N), .agg (A8 T)]) rfl rfl (by go_simp) ?_
            refine (refKnot_any _ N T hNl hTl hNb hTb).mono ?_
            rintro ex w4 ⟨rfl, b4⟩
            have d1 := q1.next b4
            have d2 := q2.next b4
            have SX := And.intro (aC.next b4) (And.intro (bC.next b4) (tC.next b4))
            have B : Below w.heap.size w w4 := BC.trans (b4.mono BC.size)
            have hKl := knotP_len N T
            obtain ⟨K, hK⟩ : ∃ K, knotP N T = K := ⟨_, rfl⟩
            rw [hK] at hKl HE ⊢
            clear hK b4 q1 q2 aC bC tC BC S0
            refine ⟨_, rfl, SX, ?_⟩
            simp only [Act.put, List.getElem_toArray, List.getElem_cons_zero, List.getElem_cons_succ, List.setIfInBounds_toArray, List.set_cons_zero, List.set_cons_succ]
            refine relist #[true, true, true, true, true, false, false, false] (by kernel_rfl) ?_
            refine any_one (i := 5) (by kernel_rfl) ?_
            refine wpOp_store_D rfl rfl (.tmp 10) (.tmp 73) rfl (w.heap.size + 1) O rfl rfl Z32 d1 hOl ?_
            intro U hU
            have e2 := d2.other hU (by omega)
            have f1 : Dg U (w.heap.size + 1) O := hU.dg hOl
            have BU := hU.below _ _ (by omega) B
            have SU := And.intro (SX.1.other hU (by omega)) (And.intro (SX.2.1.other hU (by omega)) (SX.2.2.other hU (by omega)))
            clear d1 d2 B hU
            refine ⟨SU, ?_⟩
            simp only [Act.put, List.getElem_toArray, List.getElem_cons_zero, List.getElem_cons_succ, List.setIfInBounds_toArray, List.set_cons_zero, List.set_cons_succ]
            refine relist #[true, true, true, true, true, true, false, false] (by kernel_rfl) ?_
            refine any_one (i := 6) (by kernel_rfl) ?_
            refine wpOp_store_D rfl rfl (.tmp 11) (.tmp 76) rfl (w.heap.size + 1 + 1) K rfl rfl Z32 e2 hKl ?_
            intro X hX
            have x1 : Hid (Dg X (w.heap.size + 1) O) := f1.other hX (by omega)
            have x2 : Hid (Dg X (w.heap.size + 1 + 1) K) := hX.dg hKl
            have BX : Hid (Below w.heap.size w X) := hX.below _ _ (by omega) BU
            have SX' := And.intro (SU.1.other hX (by omega)) (And.intro (SU.2.1.other hX (by omega)) (SU.2.2.other hX (by omega)))
            clear f1 e2 BU hX
            refine ⟨SX', ?_⟩
            simp only [Act.put, List.getElem_toArray, List.getElem_cons_zero, List.getElem_cons_succ, List.setIfInBounds_toArray, List.set_cons_zero, List.set_cons_succ]
            refine wpAnyH_take (i := 7) (v := .bool ok) rfl (by kernel_rfl) (by kernel_rfl) (by kernel_rfl) (fun _ _ _ h => h) (.inl ⟨rfl, fun W _ => by go_simp⟩) SX' ?_
            simp only [Act.put, List.getElem_toArray, List.getElem_cons_zero, List.getElem_cons_succ, List.setIfInBounds_toArray, List.set_cons_zero, List.set_cons_succ]
            refine wpAnyH_done (by kernel_rfl) ?_ _
            refine NoPanic.normal ?_
            clear SX SU SX' hia hsl
            go_wp2_with fail
            exact bodyPost_ret (results_DDT rfl _ _ (w.heap.size + 1) (w.heap.size + 1 + 1) O K rfl x1.out rfl x2.out) rfl ⟨by rw [HE.out]; rfl, BX.out⟩
        · have hik' : ¬ (m : Int) ≤ k := by omega
          rw [if_neg hik] at HE
          have ei : ((m : Int) - k) = ((m - k : Nat) : Int) := by omega
          have en : ((n : Int) - k) = ((n - k : Nat) : Int) := by omega
          have ei' : IntKind.i64.wrap ((m - k : Nat) : Int) = ((m - k : Nat) : Int) := i64_wrap _ (by omega) (by omega)
          have en' : IntKind.i64.wrap ((n - k : Nat) : Int) = ((n - k : Nat) : Int) := i64_wrap _ (by omega) (by omega)
          obtain ⟨hO, hN⟩ := growR_ok known known hk hk (ds.take q).reverse (m - k) (n - k) false hsub0
          obtain ⟨C, hC⟩ : ∃ C, growR known known (ds.take q).reverse (m - k) (n - k) false = C := ⟨_, rfl⟩
          rw [hC] at hO hN HE
          obtain ⟨O, N, ok⟩ := C
          have hOl : O.length = 32 := hO.1
          have hOb : Bytes O := hO.2
          have hNl : N.length = 32 := hN.1
          have hNb : Bytes N := hN.2
          clear hO hN
          go_wp2_with fail
          go_cut [19, 20, 21] (fun sa sb sc wc => ∃ ga gb, sa = .pointer (some ⟨ga, 0, none⟩) ∧ sb = .pointer (some ⟨gb, 0, none⟩) ∧ sc = .bool ok ∧ Dg wc ga O ∧ Dg wc gb N ∧ U.heap.size ≤ ga ∧ U.heap.size ≤ gb ∧ Below U.heap.size U wc)
          case first =>
            have Syz : Dg U.drew w.heap.size known := ⟨kU.out.len, kU.out.here⟩
            have Byz : Below U.heap.size U U.drew := (Below.refl _ _).drew
            refine wp_region_noPanic ?_
            refine wp_region_held (S := fun W => Dg W w.heap.size known) follows ?_
            refine wpAnyH_take (i := 0) (v := .int .i64 m) rfl (by kernel_rfl) (by kernel_rfl) (by kernel_rfl) (fun _ _ _ h => h) (.inl ⟨rfl, fun W _ => by go_simp⟩) Syz ?_
            simp only [Act.put, List.getElem_toArray, List.getElem_cons_zero, List.getElem_cons_succ, List.setIfInBounds_toArray, List.set_cons_zero, List.set_cons_succ]
            refine wpAnyH_take (i := 1) (v := .int .i64 k) rfl (by kernel_rfl) (by kernel_rfl) (by kernel_rfl) (fun _ _ _ h => h) (.inl ⟨rfl, fun W _ => by go_simp⟩) Syz ?_
            simp only [Act.put, List.getElem_toArray, List.getElem_cons_zero, List.getElem_cons_succ, List.setIfInBounds_toArray, List.set_cons_zero, List.set_cons_succ]
            refine wpAnyH_take (i := 2) (v := .int .i64 ((m - k : Nat) : Int)) rfl (by kernel_rfl) (by kernel_rfl) (by kernel_rfl) (fun _ _ _ h => h) (.inl ⟨rfl, fun W _ => by go_simp⟩) Syz ?_
            simp only [Act.put, List.getElem_toArray, List.getElem_cons_zero, List.getElem_cons_succ, List.setIfInBounds_toArray, List.set_cons_zero, List.set_cons_succ]
            refine wpAnyH_take (i := 3) (v := .int .i64 n) rfl (by kernel_rfl) (by kernel_rfl) (by kernel_rfl) (fun _ _ _ h => h) (.inl ⟨rfl, fun W _ => by go_simp⟩) Syz ?_
            simp only [Act.put, List.getElem_toArray, List.getElem_cons_zero, List.getElem_cons_succ, List.setIfInBounds_toArray, List.set_cons_zero, List.set_cons_succ]
            refine wpAnyH_take (i := 4) (v := .int .i64 k) rfl (by kernel_rfl) (by kernel_rfl) (by kernel_rfl) (fun _ _ _ h => h) (.inl ⟨rfl, fun W _ => by go_simp⟩) Syz ?_
            simp only [Act.put, List.getElem_toArray, List.getElem_cons_zero, List.getElem_cons_succ, List.setIfInBounds_toArray, List.set_cons_zero, List.set_cons_succ]
            refine wpAnyH_take (i := 5) (v := .int .i64 ((n - k : Nat) : Int)) rfl (by kernel_rfl) (by kernel_rfl) (by kernel_rfl) (fun _ _ _ h => h) (.inl ⟨rfl, fun W _ => by go_simp⟩) Syz ?_
            simp only [Act.put, List.getElem_toArray, List.getElem_cons_zero, List.getElem_cons_succ, List.setIfInBounds_toArray, List.set_cons_zero, List.set_cons_succ]
            refine wpAnyH_take (i := 6) (v := .slice (some ad) (q + 1) cap) rfl (by kernel_rfl) (by kernel_rfl) (by kernel_rfl) (fun _ _ _ h => h) (.inl ⟨rfl, fun W _ => by go_simp⟩) Syz ?_
            simp only [Act.put, List.getElem_toArray, List.getElem_cons_zero, List.getElem_cons_succ, List.setIfInBounds_toArray, List.set_cons_zero, List.set_cons_succ]
            refine wpAnyH_take (i := 7) (v := .int .i64 q) rfl (by kernel_rfl) (by kernel_rfl) (by kernel_rfl) (fun _ _ _ h => h) (.inl ⟨rfl, fun W _ => by go_simp⟩) Syz ?_
            simp only [Act.put, List.getElem_toArray, List.getElem_cons_zero, List.getElem_cons_succ, List.setIfInBounds_toArray, List.set_cons_zero, List.set_cons_succ]
            refine wpAnyH_take (i := 8) (v := .slice (some ad) q cap) rfl (by kernel_rfl) (by kernel_rfl) (by kernel_rfl) (fun _ _ _ h => h) (.inl ⟨rfl, fun W _ => by have e := hsl W; go_simp⟩) Syz ?_
            simp only [Act.put, List.getElem_toArray, List.getElem_cons_zero, List.getElem_cons_succ, List.setIfInBounds_toArray, List.set_cons_zero, List.set_cons_succ]
            refine wpAnyH_take (i := 9) (v := .agg (A8 known)) rfl (by kernel_rfl) (by kernel_rfl) (by kernel_rfl) (fun _ _ _ h => h) (yields_D rfl (.tmp 9) rfl w.heap.size rfl known hkl (fun W hW => hW)) Syz ?_
            simp only [Act.put, List.getElem_toArray, List.getElem_cons_zero, List.getElem_cons_succ, List.setIfInBounds_toArray, List.set_cons_zero, List.set_cons_succ]
            obtain ⟨yz, hyz⟩ : ∃ y, y = U.drew := ⟨_, rfl⟩
            rw [← hyz] at Syz Byz
            refine reworld hyz.symm ?_
            refine relist #[true, true, true, true, true, true, true, true, true, true, false, false, false, false, false, false, false, false, false, false] (by kernel_rfl) ?_
            refine any_three (i := 10) (j := 15) (l := 16) (by kernel_rfl) ?_ ?_ ?_
            · refine wpOp_call (f := 68) (args := #[.int .i64 ((m - k : Nat) : Int), .int .i64 ((n - k : Nat) : Int), .bool false, .slice (some ad) q cap, .agg (A8 known)]) rfl rfl (by go_simp) ?_
              refine (ih (m - k) (n - k) false (some ad) cap (ds.take q) _ (hDU.out.below Byz) (by omega) (by omega) (by omega)).mono ?_
              rintro ex y1 ⟨rfl, by1⟩
              have By1 : Below U.heap.size U y1 := Byz.trans (by1.mono Byz.size)
              have Sy1 : Dg y1 w.heap.size known := ⟨kU.out.len, (By1.block _ (by omega)).trans kU.out.here⟩
              have hy1 := By1.size
              rw [hC]
              refine ⟨_, rfl, Sy1, ?_⟩
              simp only [Act.put, List.getElem_toArray, List.getElem_cons_zero, List.getElem_cons_succ, List.setIfInBounds_toArray, List.set_cons_zero, List.set_cons_succ]
              refine wpAnyH_take (i := 11) (v := .tuple #[.agg (A8 O), .agg (A8 N), .bool ok]) rfl (by kernel_rfl) (by kernel_rfl) (by kernel_rfl) (fun _ _ _ h => h) (.inl ⟨rfl, fun W _ => by go_simp⟩) Sy1 ?_
              simp only [Act.put, List.getElem_toArray, List.getElem_cons_zero, List.getElem_cons_succ, List.setIfInBounds_toArray, List.set_cons_zero, List.set_cons_succ]
              refine wpAnyH_take (i := 12) (v := .agg (A8 O)) rfl (by kernel_rfl) (by kernel_rfl) (by kernel_rfl) (fun _ _ _ h => h) (.inl ⟨rfl, fun W _ => by go_simp⟩) Sy1 ?_
              simp only [Act.put, List.getElem_toArray, List.getElem_cons_zero, List.getElem_cons_succ, List.setIfInBounds_toArray, List.set_cons_zero, List.set_cons_succ]
              refine wpAnyH_take (i := 13) (v := .agg (A8 N)) rfl (by kernel_rfl) (by kernel_rfl) (by kernel_rfl) (fun _ _ _ h => h) (.inl ⟨rfl, fun W _ => by go_simp⟩) Sy1 ?_
              simp only [Act.put, List.getElem_toArray, List.getElem_cons_zero, List.getElem_cons_succ, List.setIfInBounds_toArray, List.set_cons_zero, List.set_cons_succ]
              refine wpAnyH_take (i := 14) (v := .bool ok) rfl (by kernel_rfl) (by kernel_rfl) (by kernel_rfl) (fun _ _ _ h => h) (.inl ⟨rfl, fun W _ => by go_simp⟩) Sy1 ?_
              simp only [Act.put, List.getElem_toArray, List.getElem_cons_zero, List.getElem_cons_succ, List.setIfInBounds_toArray, List.set_cons_zero, List.set_cons_succ]
              refine relist #[true, true, true, true, true, true, true, true, true, true, true, true, true, true, true, false, false, false, false, false] (by kernel_rfl) ?_
              refine any_two (i := 15) (j := 16) (by kernel_rfl) ?_ ?_
              · have ey2 : ∃ G, G = y1.heap.size := ⟨_, rfl⟩
                obtain ⟨gAy2, hgAy2⟩ := ey2
                refine wpOp_val (v := .pointer (some ⟨y1.heap.size, 0, none⟩)) (w' := y1.alloc (.cells Z8x32 25)) rfl rfl (by unfold Z8x32; go_simp) ?_
                obtain ⟨y2, hwy2⟩ : ∃ y, y = y1.alloc (.cells Z8x32 25) := ⟨_, rfl⟩
                have fAy2 : Dg y2 gAy2 Z32 := by rw [hgAy2, hwy2]; exact Dg.new _ _ rfl
                have By2 : Below U.heap.size U y2 := by rw [hwy2]; exact By1.alloc By1.size _
                have hsy2 : U.heap.size ≤ gAy2 := by rw [hgAy2]; exact By1.size
                have Sy2 : Dg y2 w.heap.size known := ⟨kU.out.len, (By2.block _ (by omega)).trans kU.out.here⟩
                have hy2 := By2.size
                rw [← hgAy2, ← hwy2]
                refine ⟨Sy2, ?_⟩
                simp only [Act.put, List.getElem_toArray, List.getElem_cons_zero, List.getElem_cons_succ, List.setIfInBounds_toArray, List.set_cons_zero, List.set_cons_succ]
                refine relist #[true, true, true, true, true, true, true, true, true, true, true, true, true, true, true, true, false, false, false, false] (by kernel_rfl) ?_
                refine any_one (i := 16) (by kernel_rfl) ?_
                have ey3 : ∃ G, G = y2.heap.size := ⟨_, rfl⟩
                obtain ⟨gBy3, hgBy3⟩ := ey3
                refine wpOp_val (v := .pointer (some ⟨y2.heap.size, 0, none⟩)) (w' := y2.alloc (.cells Z8x32 25)) rfl rfl (by unfold Z8x32; go_simp) ?_
                obtain ⟨y3, hwy3⟩ : ∃ y, y = y2.alloc (.cells Z8x32 25) := ⟨_, rfl⟩
                have fBy3 : Dg y3 gBy3 Z32 := by rw [hgBy3, hwy3]; exact Dg.new _ _ rfl
                have By3 : Below U.heap.size U y3 := by rw [hwy3]; exact By2.alloc By2.size _
                have fAy3 : Dg y3 gAy2 Z32 := by rw [hwy3]; exact fAy2.alloc _
                have ltAy3 := fAy2.lt
                have hsy3 : U.heap.size ≤ gBy3 := by rw [hgBy3]; exact By2.size
                have Sy3 : Dg y3 w.heap.size known := ⟨kU.out.len, (By3.block _ (by omega)).trans kU.out.here⟩
                have hy3 := By3.size
                rw [← hgBy3, ← hwy3]
                refine ⟨Sy3, ?_⟩
                simp only [Act.put, List.getElem_toArray, List.getElem_cons_zero, List.getElem_cons_succ, List.setIfInBounds_toArray, List.set_cons_zero, List.set_cons_succ]
                refine relist #[true, true, true, true, true, true, true, true, true, true, true, true, true, true, true, true, true, false, false, false] (by kernel_rfl) ?_
                refine any_one (i := 17) (by kernel_rfl) ?_
                refine wpOp_store_D rfl rfl (.tmp 19) (.tmp 90) rfl gAy2 O rfl rfl Z32 fAy3 hOl ?_
                intro X hX
                have xa : Dg X gAy2 O := hX.dg hOl
                have xb : Dg X gBy3 Z32 := fBy3.other hX (by omega)
                have xB := hX.below _ _ (by omega) By3
                have xS : Dg X w.heap.size known := Sy3.other hX (by omega)
                refine ⟨xS, ?_⟩
                simp only [Act.put, List.getElem_toArray, List.getElem_cons_zero, List.getElem_cons_succ, List.setIfInBounds_toArray, List.set_cons_zero, List.set_cons_succ]
                refine relist #[true, true, true, true, true, true, true, true, true, true, true, true, true, true, true, true, true, true, false, false] (by kernel_rfl) ?_
                refine any_one (i := 18) (by kernel_rfl) ?_
                refine wpOp_store_D rfl rfl (.tmp 20) (.tmp 91) rfl gBy3 N rfl rfl Z32 xb hNl ?_
                intro Y hY
                have ya : Hid (Dg Y gAy2 O) := xa.other hY (by omega)
                have yb : Hid (Dg Y gBy3 N) := hY.dg hNl
                have yB : Hid (Below U.heap.size U Y) := hY.below _ _ (by omega) xB
                have yS : Dg Y w.heap.size known := xS.other hY (by omega)
                refine ⟨yS, ?_⟩
                simp only [Act.put, List.getElem_toArray, List.getElem_cons_zero, List.getElem_cons_succ, List.setIfInBounds_toArray, List.set_cons_zero, List.set_cons_succ]
                refine wpAnyH_take (i := 19) (v := .bool ok) rfl (by kernel_rfl) (by kernel_rfl) (by kernel_rfl) (fun _ _ _ h => h) (.inl ⟨rfl, fun W _ => by go_simp⟩) yS ?_
                simp only [Act.put, List.getElem_toArray, List.getElem_cons_zero, List.getElem_cons_succ, List.setIfInBounds_toArray, List.set_cons_zero, List.set_cons_succ]
                refine wpAnyH_done (by kernel_rfl) ?_ _
                refine NoPanic.normal ?_
                clear hX hY xa xb xB xS yS
                go_wp2_with fail
                go_meet
                case rel => exact ⟨gAy2, gBy3, rfl, rfl, rfl, ya.out, yb.out, by omega, by omega, yB.out⟩
              · have ey2 : ∃ G, G = y1.heap.size := ⟨_, rfl⟩
                obtain ⟨gBy2, hgBy2⟩ := ey2
                refine wpOp_val (v := .pointer (some ⟨y1.heap.size, 0, none⟩)) (w' := y1.alloc (.cells Z8x32 25)) rfl rfl (by unfold Z8x32; go_simp) ?_
                obtain ⟨y2, hwy2⟩ : ∃ y, y = y1.alloc (.cells Z8x32 25) := ⟨_, rfl⟩
                have fBy2 : Dg y2 gBy2 Z32 := by rw [hgBy2, hwy2]; exact Dg.new _ _ rfl
                have By2 : Below U.heap.size U y2 := by rw [hwy2]; exact By1.alloc By1.size _
                have hsy2 : U.heap.size ≤ gBy2 := by rw [hgBy2]; exact By1.size
                have Sy2 : Dg y2 w.heap.size known := ⟨kU.out.len, (By2.block _ (by omega)).trans kU.out.here⟩
                have hy2 := By2.size
                rw [← hgBy2, ← hwy2]
                refine ⟨Sy2, ?_⟩
                simp only [Act.put, List.getElem_toArray, List.getElem_cons_zero, List.getElem_cons_succ, List.setIfInBounds_toArray, List.set_cons_zero, List.set_cons_succ]
                refine relist #[true, true, true, true, true, true, true, true, true, true, true, true, true, true, true, false, true, false, false, false] (by kernel_rfl) ?_
                refine any_one (i := 15) (by kernel_rfl) ?_
                have ey3 : ∃ G, G = y2.heap.size := ⟨_, rfl⟩
                obtain ⟨gAy3, hgAy3⟩ := ey3
                refine wpOp_val (v := .pointer (some ⟨y2.heap.size, 0, none⟩)) (w' := y2.alloc (.cells Z8x32 25)) rfl rfl (by unfold Z8x32; go_simp) ?_
                obtain ⟨y3, hwy3⟩ : ∃ y, y = y2.alloc (.cells Z8x32 25) := ⟨_, rfl⟩
                have fAy3 : Dg y3 gAy3 Z32 := by rw [hgAy3, hwy3]; exact Dg.new _ _ rfl
                have By3 : Below U.heap.size U y3 := by rw [hwy3]; exact By2.alloc By2.size _
                have fBy3 : Dg y3 gBy2 Z32 := by rw [hwy3]; exact fBy2.alloc _
                have ltBy3 := fBy2.lt
                have hsy3 : U.heap.size ≤ gAy3 := by rw [hgAy3]; exact By2.size
                have Sy3 : Dg y3 w.heap.size known := ⟨kU.out.len, (By3.block _ (by omega)).trans kU.out.here⟩
                have hy3 := By3.size
                rw [← hgAy3, ← hwy3]
                refine ⟨Sy3, ?_⟩
                simp only [Act.put, List.getElem_toArray, List.getElem_cons_zero, List.getElem_cons_succ, List.setIfInBounds_toArray, List.set_cons_zero, List.set_cons_succ]
                refine relist #[true, true, true, true, true, true, true, true, true, true, true, true, true, true, true, true, true, false, false, false] (by kernel_rfl) ?_
                refine any_one (i := 17) (by kernel_rfl) ?_
                refine wpOp_store_D rfl rfl (.tmp 19) (.tmp 90) rfl gAy3 O rfl rfl Z32 fAy3 hOl ?_
                intro X hX
                have xa : Dg X gAy3 O := hX.dg hOl
                have xb : Dg X gBy2 Z32 := fBy3.other hX (by omega)
                have xB := hX.below _ _ (by omega) By3
                have xS : Dg X w.heap.size known := Sy3.other hX (by omega)
                refine ⟨xS, ?_⟩
                simp only [Act.put, List.getElem_toArray, List.getElem_cons_zero, List.getElem_cons_succ, List.setIfInBounds_toArray, List.set_cons_zero, List.set_cons_succ]
                refine relist #[true, true, true, true, true, true, true, true, true, true, true, true, true, true, true, true, true, true, false, false] (by kernel_rfl) ?_
                refine any_one (i := 18) (by kernel_rfl) ?_
                refine wpOp_store_D rfl rfl (.tmp 20) (.tmp 91) rfl gBy2 N rfl rfl Z32 xb hNl ?_
                intro Y hY
                have ya : Hid (Dg Y gAy3 O) := xa.other hY (by omega)
                have yb : Hid (Dg Y gBy2 N) := hY.dg hNl
                have yB : Hid (Below U.heap.size U Y) := hY.below _ _ (by omega) xB
                have yS : Dg Y w.heap.size known := xS.other hY (by omega)
                refine ⟨yS, ?_⟩
                simp only [Act.put, List.getElem_toArray, List.getElem_cons_zero, List.getElem_cons_succ, List.setIfInBounds_toArray, List.set_cons_zero, List.set_cons_succ]
                refine wpAnyH_take (i := 19) (v := .bool ok) rfl (by kernel_rfl) (by kernel_rfl) (by kernel_rfl) (fun _ _ _ h => h) (.inl ⟨rfl, fun W _ => by go_simp⟩) yS ?_
                simp only [Act.put, List.getElem_toArray, List.getElem_cons_zero, List.getElem_cons_succ, List.setIfInBounds_toArray, List.set_cons_zero, List.set_cons_succ]
                refine wpAnyH_done (by kernel_rfl) ?_ _
                refine NoPanic.normal ?_
                clear hX hY xa xb xB xS yS
                go_wp2_with fail
                go_meet
                case rel => exact ⟨gAy3, gBy2, rfl, rfl, rfl, ya.out, yb.out, by omega, by omega, yB.out⟩
            · have ey1 : ∃ G, G = yz.heap.size := ⟨_, rfl⟩
              obtain ⟨gAy1, hgAy1⟩ := ey1
              refine wpOp_val (v := .pointer (some ⟨yz.heap.size, 0, none⟩)) (w' := yz.alloc (.cells Z8x32 25)) rfl rfl (by unfold Z8x32; go_simp) ?_
              obtain ⟨y1, hwy1⟩ : ∃ y, y = yz.alloc (.cells Z8x32 25) := ⟨_, rfl⟩
              have fAy1 : Dg y1 gAy1 Z32 := by rw [hgAy1, hwy1]; exact Dg.new _ _ rfl
              have By1 : Below U.heap.size U y1 := by rw [hwy1]; exact Byz.alloc Byz.size _
              have hsy1 : U.heap.size ≤ gAy1 := by rw [hgAy1]; exact Byz.size
              have Sy1 : Dg y1 w.heap.size known := ⟨kU.out.len, (By1.block _ (by omega)).trans kU.out.here⟩
              have hy1 := By1.size
              rw [← hgAy1, ← hwy1]
              refine ⟨Sy1, ?_⟩
              simp only [Act.put, List.getElem_toArray, List.getElem_cons_zero, List.getElem_cons_succ, List.setIfInBounds_toArray, List.set_cons_zero, List.set_cons_succ]
              refine relist #[true, true, true, true, true, true, true, true, true, true, false, false, false, false, false, true, false, false, false, false] (by kernel_rfl) ?_
              refine any_two (i := 10) (j := 16) (by kernel_rfl) ?_ ?_
              · refine wpOp_call (f := 68) (args := #[.int .i64 ((m - k : Nat) : Int), .int .i64 ((n - k : Nat) : Int), .bool false, .slice (some ad) q cap, .agg (A8 known)]) rfl rfl (by go_simp) ?_
                refine (ih (m - k) (n - k) false (some ad) cap (ds.take q) _ (hDU.out.below By1) (by omega) (by omega) (by omega)).mono ?_
                rintro ex y2 ⟨rfl, by2⟩
                have By2 : Below U.heap.size U y2 := By1.trans (by2.mono By1.size)
                have fAy2 := fAy1.next by2
                have Sy2 : Dg y2 w.heap.size known := ⟨kU.out.len, (By2.block _ (by omega)).trans kU.out.here⟩
                have hy2 := By2.size
                rw [hC]
                refine ⟨_, rfl, Sy2, ?_⟩
                simp only [Act.put, List.getElem_toArray, List.getElem_cons_zero, List.getElem_cons_succ, List.setIfInBounds_toArray, List.set_cons_zero, List.set_cons_succ]
                refine wpAnyH_take (i := 11) (v := .tuple #[.agg (A8 O), .agg (A8 N), .bool ok]) rfl (by kernel_rfl) (by kernel_rfl) (by kernel_rfl) (fun _ _ _ h => h) (.inl ⟨rfl, fun W _ => by go_simp⟩) Sy2 ?_
                simp only [Act.put, List.getElem_toArray, List.getElem_cons_zero, List.getElem_cons_succ, List.setIfInBounds_toArray, List.set_cons_zero, List.set_cons_succ]
                refine wpAnyH_take (i := 12) (v := .agg (A8 O)) rfl (by kernel_rfl) (by kernel_rfl) (by kernel_rfl) (fun _ _ _ h => h) (.inl ⟨rfl, fun W _ => by go_simp⟩) Sy2 ?_
                simp only [Act.put, List.getElem_toArray, List.getElem_cons_zero, List.getElem_cons_succ, List.setIfInBounds_toArray, List.set_cons_zero, List.set_cons_succ]
                refine wpAnyH_take (i := 13) (v := .agg (A8 N)) rfl (by kernel_rfl) (by kernel_rfl) (by kernel_rfl) (fun _ _ _ h => h) (.inl ⟨rfl, fun W _ => by go_simp⟩) Sy2 ?_
                simp only [Act.put, List.getElem_toArray, List.getElem_cons_zero, List.getElem_cons_succ, List.setIfInBounds_toArray, List.set_cons_zero, List.set_cons_succ]
                refine wpAnyH_take (i := 14) (v := .bool ok) rfl (by kernel_rfl) (by kernel_rfl) (by kernel_rfl) (fun _ _ _ h => h) (.inl ⟨rfl, fun W _ => by go_simp⟩) Sy2 ?_
                simp only [Act.put, List.getElem_toArray, List.getElem_cons_zero, List.getElem_cons_succ, List.setIfInBounds_toArray, List.set_cons_zero, List.set_cons_succ]
                refine relist #[true, true, true, true, true, true, true, true, true, true, true, true, true, true, true, true, false, false, false, false] (by kernel_rfl) ?_
                refine any_one (i := 16) (by kernel_rfl) ?_
                have ey3 : ∃ G, G = y2.heap.size := ⟨_, rfl⟩
                obtain ⟨gBy3, hgBy3⟩ := ey3
                refine wpOp_val (v := .pointer (some ⟨y2.heap.size, 0, none⟩)) (w' := y2.alloc (.cells Z8x32 25)) rfl rfl (by unfold Z8x32; go_simp) ?_
                obtain ⟨y3, hwy3⟩ : ∃ y, y = y2.alloc (.cells Z8x32 25) := ⟨_, rfl⟩
                have fBy3 : Dg y3 gBy3 Z32 := by rw [hgBy3, hwy3]; exact Dg.new _ _ rfl
                have By3 : Below U.heap.size U y3 := by rw [hwy3]; exact By2.alloc By2.size _
                have fAy3 : Dg y3 gAy1 Z32 := by rw [hwy3]; exact fAy2.alloc _
                have ltAy3 := fAy2.lt
                have hsy3 : U.heap.size ≤ gBy3 := by rw [hgBy3]; exact By2.size
                have Sy3 : Dg y3 w.heap.size known := ⟨kU.out.len, (By3.block _ (by omega)).trans kU.out.here⟩
                have hy3 := By3.size
                rw [← hgBy3, ← hwy3]
                refine ⟨Sy3, ?_⟩
                simp only [Act.put, List.getElem_toArray, List.getElem_cons_zero, List.getElem_cons_succ, List.setIfInBounds_toArray, List.set_cons_zero, List.set_cons_succ]
                refine relist #[true, true, true, true, true, true, true, true, true, true, true, true, true, true, true, true, true, false, false, false] (by kernel_rfl) ?_
                refine any_one (i := 17) (by kernel_rfl) ?_
                refine wpOp_store_D rfl rfl (.tmp 19) (.tmp 90) rfl gAy1 O rfl rfl Z32 fAy3 hOl ?_
                intro X hX
                have xa : Dg X gAy1 O := hX.dg hOl
                have xb : Dg X gBy3 Z32 := fBy3.other hX (by omega)
                have xB := hX.below _ _ (by omega) By3
                have xS : Dg X w.heap.size known := Sy3.other hX (by omega)
                refine ⟨xS, ?_⟩
                simp only [Act.put, List.getElem_toArray, List.getElem_cons_zero, List.getElem_cons_succ, List.setIfInBounds_toArray, List.set_cons_zero, List.set_cons_succ]
                refine relist #[true, true, true, true, true, true, true, true, true, true, true, true, true, true, true, true, true, true, false, false] (by kernel_rfl) ?_
                refine any_one (i := 18) (by kernel_rfl) ?_
                refine wpOp_store_D rfl rfl (.tmp 20) (.tmp 91) rfl gBy3 N rfl rfl Z32 xb hNl ?_
                intro Y hY
                have ya : Hid (Dg Y gAy1 O) := xa.other hY (by omega)
                have yb : Hid (Dg Y gBy3 N) := hY.dg hNl
                have yB : Hid (Below U.heap.size U Y) := hY.below _ _ (by omega) xB
                have yS : Dg Y w.heap.size known := xS.other hY (by omega)
                refine ⟨yS, ?_⟩
                simp only [Act.put, List.getElem_toArray, List.getElem_cons_zero, List.getElem_cons_succ, List.setIfInBounds_toArray, List.set_cons_zero, List.set_cons_succ]
                refine wpAnyH_take (i := 19) (v := .bool ok) rfl (by kernel_rfl) (by kernel_rfl) (by kernel_rfl) (fun _ _ _ h => h) (.inl ⟨rfl, fun W _ => by go_simp⟩) yS ?_
                simp only [Act.put, List.getElem_toArray, List.getElem_cons_zero, List.getElem_cons_succ, List.setIfInBounds_toArray, List.set_cons_zero, List.set_cons_succ]
                refine wpAnyH_done (by kernel_rfl) ?_ _
                refine NoPanic.normal ?_
                clear hX hY xa xb xB xS yS
                go_wp2_with fail
                go_meet
                case rel => exact ⟨gAy1, gBy3, rfl, rfl, rfl, ya.out, yb.out, by omega, by omega, yB.out⟩
              · have ey2 : ∃ G, G = y1.heap.size := ⟨_, rfl⟩
                obtain ⟨gBy2, hgBy2⟩ := ey2
                refine wpOp_val (v := .pointer (some ⟨y1.heap.size, 0, none⟩)) (w' := y1.alloc (.cells Z8x32 25)) rfl rfl (by unfold Z8x32; go_simp) ?_
                obtain ⟨y2, hwy2⟩ : ∃ y, y = y1.alloc (.cells Z8x32 25) := ⟨_, rfl⟩
                have fBy2 : Dg y2 gBy2 Z32 := by rw [hgBy2, hwy2]; exact Dg.new _ _ rfl
                have By2 : Below U.heap.size U y2 := by rw [hwy2]; exact By1.alloc By1.size _
                have fAy2 : Dg y2 gAy1 Z32 := by rw [hwy2]; exact fAy1.alloc _
                have ltAy2 := fAy1.lt
                have hsy2 : U.heap.size ≤ gBy2 := by rw [hgBy2]; exact By1.size
                have Sy2 : Dg y2 w.heap.size known := ⟨kU.out.len, (By2.block _ (by omega)).trans kU.out.here⟩
                have hy2 := By2.size
                rw [← hgBy2, ← hwy2]
                refine ⟨Sy2, ?_⟩
                simp only [Act.put, List.getElem_toArray, List.getElem_cons_zero, List.getElem_cons_succ, List.setIfInBounds_toArray, List.set_cons_zero, List.set_cons_succ]
                refine relist #[true, true, true, true, true, true, true, true, true, true, false, false, false, false, false, true, true, false, false, false] (by kernel_rfl) ?_
                refine any_one (i := 10) (by kernel_rfl) ?_
                refine wpOp_call (f := 68) (args := #[.int .i64 ((m - k : Nat) : Int), .int .i64 ((n - k : Nat) : Int), .bool false, .slice (some ad) q cap, .agg (A8 known)]) rfl rfl (by go_simp) ?_
                refine (ih (m - k) (n - k) false (some ad) cap (ds.take q) _ (hDU.out.below By2) (by omega) (by omega) (by omega)).mono ?_
                rintro ex y3 ⟨rfl, by3⟩
                have By3 : Below U.heap.size U y3 := By2.trans (by3.mono By2.size)
                have fAy3 := fAy2.next by3
                have fBy3 := fBy2.next by3
                have Sy3 : Dg y3 w.heap.size known := ⟨kU.out.len, (By3.block _ (by omega)).trans kU.out.here⟩
                have hy3 := By3.size
                rw [hC]
                refine ⟨_, rfl, Sy3, ?_⟩
                simp only [Act.put, List.getElem_toArray, List.getElem_cons_zero, List.getElem_cons_succ, List.setIfInBounds_toArray, List.set_cons_zero, List.set_cons_succ]
                refine wpAnyH_take (i := 11) (v := .tuple #[.agg (A8 O), .agg (A8 N), .bool ok]) rfl (by kernel_rfl) (by kernel_rfl) (by kernel_rfl) (fun _ _ _ h => h) (.inl ⟨rfl, fun W _ => by go_simp⟩) Sy3 ?_
                simp only [Act.put, List.getElem_toArray, List.getElem_cons_zero, List.getElem_cons_succ, List.setIfInBounds_toArray, List.set_cons_zero, List.set_cons_succ]
                refine wpAnyH_take (i := 12) (v := .agg (A8 O)) rfl (by kernel_rfl) (by kernel_rfl) (by kernel_rfl) (fun _ _ _ h => h) (.inl ⟨rfl, fun W _ => by go_simp⟩) Sy3 ?_
                simp only [Act.put, List.getElem_toArray, List.getElem_cons_zero, List.getElem_cons_succ, List.setIfInBounds_toArray, List.set_cons_zero, List.set_cons_succ]
                refine wpAnyH_take (i := 13) (v := .agg (A8 N)) rfl (by kernel_rfl) (by kernel_rfl) (by kernel_rfl) (fun _ _ _ h => h) (.inl ⟨rfl, fun W _ => by go_simp⟩) Sy3 ?_
                simp only [Act.put, List.getElem_toArray, List.getElem_cons_zero, List.getElem_cons_succ, List.setIfInBounds_toArray, List.set_cons_zero, List.set_cons_succ]
                refine wpAnyH_take (i := 14) (v := .bool ok) rfl (by kernel_rfl) (by kernel_rfl) (by kernel_rfl) (fun _ _ _ h => h) (.inl ⟨rfl, fun W _ => by go_simp⟩) Sy3 ?_
                simp only [Act.put, List.getElem_toArray, List.getElem_cons_zero, List.getElem_cons_succ, List.setIfInBounds_toArray, List.set_cons_zero, List.set_cons_succ]
                refine relist #[true, true, true, true, true, true, true, true, true, true, true, true, true, true, true, true, true, false, false, false] (by kernel_rfl) ?_
                refine any_one (i := 17) (by kernel_rfl) ?_
                refine wpOp_store_D rfl rfl (.tmp 19) (.tmp 90) rfl gAy1 O rfl rfl Z32 fAy3 hOl ?_
                intro X hX
                have xa : Dg X gAy1 O := hX.dg hOl
                have xb : Dg X gBy2 Z32 := fBy3.other hX (by omega)
                have xB := hX.below _ _ (by omega) By3
                have xS : Dg X w.heap.size known := Sy3.other hX (by omega)
                refine ⟨xS, ?_⟩
                simp only [Act.put, List.getElem_toArray, List.getElem_cons_zero, List.getElem_cons_succ, List.setIfInBounds_toArray, List.set_cons_zero, List.set_cons_succ]
                refine relist #[true, true, true, true, true, true, true, true, true, true, true, true, true, true, true, true, true, true, false, false] (by kernel_rfl) ?_
                refine any_one (i := 18) (by kernel_rfl) ?_
                refine wpOp_store_D rfl rfl (.tmp 20) (.tmp 91) rfl gBy2 N rfl rfl Z32 xb hNl ?_
                intro Y hY
                have ya : Hid (Dg Y gAy1 O) := xa.other hY (by omega)
                have yb : Hid (Dg Y gBy2 N) := hY.dg hNl
                have yB : Hid (Below U.heap.size U Y) := hY.below _ _ (by omega) xB
                have yS : Dg Y w.heap.size known := xS.other hY (by omega)
                refine ⟨yS, ?_⟩
                simp only [Act.put, List.getElem_toArray, List.getElem_cons_zero, List.getElem_cons_succ, List.setIfInBounds_toArray, List.set_cons_zero, List.set_cons_succ]
                refine wpAnyH_take (i := 19) (v := .bool ok) rfl (by kernel_rfl) (by kernel_rfl) (by kernel_rfl) (fun _ _ _ h => h) (.inl ⟨rfl, fun W _ => by go_simp⟩) yS ?_
                simp only [Act.put, List.getElem_toArray, List.getElem_cons_zero, List.getElem_cons_succ, List.setIfInBounds_toArray, List.set_cons_zero, List.set_cons_succ]
                refine wpAnyH_done (by kernel_rfl) ?_ _
                refine NoPanic.normal ?_
                clear hX hY xa xb xB xS yS
                go_wp2_with fail
                go_meet
                case rel => exact ⟨gAy1, gBy2, rfl, rfl, rfl, ya.out, yb.out, by omega, by omega, yB.out⟩
            · have ey1 : ∃ G, G = yz.heap.size := ⟨_, rfl⟩
              obtain ⟨gBy1, hgBy1⟩ := ey1
              refine wpOp_val (v := .pointer (some ⟨yz.heap.size, 0, none⟩)) (w' := yz.alloc (.cells Z8x32 25)) rfl rfl (by unfold Z8x32; go_simp) ?_
              obtain ⟨y1, hwy1⟩ : ∃ y, y = yz.alloc (.cells Z8x32 25) := ⟨_, rfl⟩
              have fBy1 : Dg y1 gBy1 Z32 := by rw [hgBy1, hwy1]; exact Dg.new _ _ rfl
              have By1 : Below U.heap.size U y1 := by rw [hwy1]; exact Byz.alloc Byz.size _
              have hsy1 : U.heap.size ≤ gBy1 := by rw [hgBy1]; exact Byz.size
              have Sy1 : Dg y1 w.heap.size known := ⟨kU.out.len, (By1.block _ (by omega)).trans kU.out.here⟩
              have hy1 := By1.size
              rw [← hgBy1, ← hwy1]
              refine ⟨Sy1, ?_⟩
              simp only [Act.put, List.getElem_toArray, List.getElem_cons_zero, List.getElem_cons_succ, List.setIfInBounds_toArray, List.set_cons_zero, List.set_cons_succ]
              refine relist #[true, true, true, true, true, true, true, true, true, true, false, false, false, false, false, false, true, false, false, false] (by kernel_rfl) ?_
              refine any_two (i := 10) (j := 15) (by kernel_rfl) ?_ ?_
              · refine wpOp_call (f := 68) (args := #[.int .i64 ((m - k : Nat) : Int), .int .i64 ((n - k : Nat) : Int), .bool false, .slice (some ad) q cap, .agg (A8 known)]) rfl rfl (by go_simp) ?_
                refine (ih (m - k) (n - k) false (some ad) cap (ds.take q) _ (hDU.out.below By1) (by omega) (by omega) (by omega)).mono ?_
                rintro ex y2 ⟨rfl, by2⟩
                have By2 : Below U.heap.size U y2 := By1.trans (by2.mono By1.size)
                have fBy2 := fBy1.next by2
                have Sy2 : Dg y2 w.heap.size known := ⟨kU.out.len, (By2.block _ (by omega)).trans kU.out.here⟩
                have hy2 := By2.size
                rw [hC]
                refine ⟨_, rfl, Sy2, ?_⟩
                simp only [Act.put, List.getElem_toArray, List.getElem_cons_zero, List.getElem_cons_succ, List.setIfInBounds_toArray, List.set_cons_zero, List.set_cons_succ]
                refine wpAnyH_take (i := 11) (v := .tuple #[.agg (A8 O), .agg (A8 N), .bool ok]) rfl (by kernel_rfl) (by kernel_rfl) (by kernel_rfl) (fun _ _ _ h => h) (.inl ⟨rfl, fun W _ => by go_simp⟩) Sy2 ?_
                simp only [Act.put, List.getElem_toArray, List.getElem_cons_zero, List.getElem_cons_succ, List.setIfInBounds_toArray, List.set_cons_zero, List.set_cons_succ]
                refine wpAnyH_take (i := 12) (v := .agg (A8 O)) rfl (by kernel_rfl) (by kernel_rfl) (by kernel_rfl) (fun _ _ _ h => h) (.inl ⟨rfl, fun W _ => by go_simp⟩) Sy2 ?_
                simp only [Act.put, List.getElem_toArray, List.getElem_cons_zero, List.getElem_cons_succ, List.setIfInBounds_toArray, List.set_cons_zero, List.set_cons_succ]
                refine wpAnyH_take (i := 13) (v := .agg (A8 N)) rfl (by kernel_rfl) (by kernel_rfl) (by kernel_rfl) (fun _ _ _ h => h) (.inl ⟨rfl, fun W _ => by go_simp⟩) Sy2 ?_
                simp only [Act.put, List.getElem_toArray, List.getElem_cons_zero, List.getElem_cons_succ, List.setIfInBounds_toArray, List.set_cons_zero, List.set_cons_succ]
                refine wpAnyH_take (i := 14) (v := .bool ok) rfl (by kernel_rfl) (by kernel_rfl) (by kernel_rfl) (fun _ _ _ h => h) (.inl ⟨rfl, fun W _ => by go_simp⟩) Sy2 ?_
                simp only [Act.put, List.getElem_toArray, List.getElem_cons_zero, List.getElem_cons_succ, List.setIfInBounds_toArray, List.set_cons_zero, List.set_cons_succ]
                refine relist #[true, true, true, true, true, true, true, true, true, true, true, true, true, true, true, false, true, false, false, false] (by kernel_rfl) ?_
                refine any_one (i := 15) (by kernel_rfl) ?_
                have ey3 : ∃ G, G = y2.heap.size := ⟨_, rfl⟩
                obtain ⟨gAy3, hgAy3⟩ := ey3
                refine wpOp_val (v := .pointer (some ⟨y2.heap.size, 0, none⟩)) (w' := y2.alloc (.cells Z8x32 25)) rfl rfl (by unfold Z8x32; go_simp) ?_
                obtain ⟨y3, hwy3⟩ : ∃ y, y = y2.alloc (.cells Z8x32 25) := ⟨_, rfl⟩
                have fAy3 : Dg y3 gAy3 Z32 := by rw [hgAy3, hwy3]; exact Dg.new _ _ rfl
                have By3 : Below U.heap.size U y3 := by rw [hwy3]; exact By2.alloc By2.size _
                have fBy3 : Dg y3 gBy1 Z32 := by rw [hwy3]; exact fBy2.alloc _
                have ltBy3 := fBy2.lt
                have hsy3 : U.heap.size ≤ gAy3 := by rw [hgAy3]; exact By2.size
                have Sy3 : Dg y3 w.heap.size known := ⟨kU.out.len, (By3.block _ (by omega)).trans kU.out.here⟩
                have hy3 := By3.size
                rw [← hgAy3, ← hwy3]
                refine ⟨Sy3, ?_⟩
                simp only [Act.put, List.getElem_toArray, List.getElem_cons_zero, List.getElem_cons_succ, List.setIfInBounds_toArray, List.set_cons_zero, List.set_cons_succ]
                refine relist #[true, true, true, true, true, true, true, true, true, true, true, true, true, true, true, true, true, false, false, false] (by kernel_rfl) ?_
                refine any_one (i := 17) (by kernel_rfl) ?_
                refine wpOp_store_D rfl rfl (.tmp 19) (.tmp 90) rfl gAy3 O rfl rfl Z32 fAy3 hOl ?_
                intro X hX
                have xa : Dg X gAy3 O := hX.dg hOl
                have xb : Dg X gBy1 Z32 := fBy3.other hX (by omega)
                have xB := hX.below _ _ (by omega) By3
                have xS : Dg X w.heap.size known := Sy3.other hX (by omega)
                refine ⟨xS, ?_⟩
                simp only [Act.put, List.getElem_toArray, List.getElem_cons_zero, List.getElem_cons_succ, List.setIfInBounds_toArray, List.set_cons_zero, List.set_cons_succ]
                refine relist #[true, true, true, true, true, true, true, true, true, true, true, true, true, true, true, true, true, true, false, false] (by kernel_rfl) ?_
                refine any_one (i := 18) (by kernel_rfl) ?_
                refine wpOp_store_D rfl rfl (.tmp 20) (.tmp 91) rfl gBy1 N rfl rfl Z32 xb hNl ?_
                intro Y hY
                have ya : Hid (Dg Y gAy3 O) := xa.other hY (by omega)
                have yb : Hid (Dg Y gBy1 N) := hY.dg hNl
                have yB : Hid (Below U.heap.size U Y) := hY.below _ _ (by omega) xB
                have yS : Dg Y w.heap.size known := xS.other hY (by omega)
                refine ⟨yS, ?_⟩
                simp only [Act.put, List.getElem_toArray, List.getElem_cons_zero, List.getElem_cons_succ, List.setIfInBounds_toArray, List.set_cons_zero, List.set_cons_succ]
                refine wpAnyH_take (i := 19) (v := .bool ok) rfl (by kernel_rfl) (by kernel_rfl) (by kernel_rfl) (fun _ _ _ h => h) (.inl ⟨rfl, fun W _ => by go_simp⟩) yS ?_
                simp only [Act.put, List.getElem_toArray, List.getElem_cons_zero, List.getElem_cons_succ, List.setIfInBounds_toArray, List.set_cons_zero, List.set_cons_succ]
                refine wpAnyH_done (by kernel_rfl) ?_ _
                refine NoPanic.normal ?_
                clear hX hY xa xb xB xS yS
                go_wp2_with fail
                go_meet
                case rel => exact ⟨gAy3, gBy1, rfl, rfl, rfl, ya.out, yb.out, by omega, by omega, yB.out⟩
              · have ey2 : ∃ G, G = y1.heap.size := ⟨_, rfl⟩
                obtain ⟨gAy2, hgAy2⟩ := ey2
                refine wpOp_val (v := .pointer (some ⟨y1.heap.size, 0, none⟩)) (w' := y1.alloc (.cells Z8x32 25)) rfl rfl (by unfold Z8x32; go_simp) ?_
                obtain ⟨y2, hwy2⟩ : ∃ y, y = y1.alloc (.cells Z8x32 25) := ⟨_, rfl⟩
                have fAy2 : Dg y2 gAy2 Z32 := by rw [hgAy2, hwy2]; exact Dg.new _ _ rfl
                have By2 : Below U.heap.size U y2 := by rw [hwy2]; exact By1.alloc By1.size _
                have fBy2 : Dg y2 gBy1 Z32 := by rw [hwy2]; exact fBy1.alloc _
                have ltBy2 := fBy1.lt
                have hsy2 : U.heap.size ≤ gAy2 := by rw [hgAy2]; exact By1.size
                have Sy2 : Dg y2 w.heap.size known := ⟨kU.out.len, (By2.block _ (by omega)).trans kU.out.here⟩
                have hy2 := By2.size
                rw [← hgAy2, ← hwy2]
                refine ⟨Sy2, ?_⟩
                simp only [Act.put, List.getElem_toArray, List.getElem_cons_zero, List.getElem_cons_succ, List.setIfInBounds_toArray, List.set_cons_zero, List.set_cons_succ]
                refine relist #[true, true, true, true, true, true, true, true, true, true, false, false, false, false, false, true, true, false, false, false] (by kernel_rfl) ?_
                refine any_one (i := 10) (by kernel_rfl) ?_
                refine wpOp_call (f := 68) (args := #[.int .i64 ((m - k : Nat) : Int), .int .i64 ((n - k : Nat) : Int), .bool false, .slice (some ad) q cap, .agg (A8 known)]) rfl rfl (by go_simp) ?_
                refine (ih (m - k) (n - k) false (some ad) cap (ds.take q) _ (hDU.out.below By2) (by omega) (by omega) (by omega)).mono ?_
                rintro ex y3 ⟨rfl, by3⟩
                have By3 : Below U.heap.size U y3 := By2.trans (by3.mono By2.size)
                have fBy3 := fBy2.next by3
                have fAy3 := fAy2.next by3
                have Sy3 : Dg y3 w.heap.size known := ⟨kU.out.len, (By3.block _ (by omega)).trans kU.out.here⟩
                have hy3 := By3.size
                rw [hC]
                refine ⟨_, rfl, Sy3, ?_⟩
                simp only [Act.put, List.getElem_toArray, List.getElem_cons_zero, List.getElem_cons_succ, List.setIfInBounds_toArray, List.set_cons_zero, List.set_cons_succ]
                refine wpAnyH_take (i := 11) (v := .tuple #[.agg (A8 O), .agg (A8 N), .bool ok]) rfl (by kernel_rfl) (by kernel_rfl) (by kernel_rfl) (fun _ _ _ h => h) (.inl ⟨rfl, fun W _ => by go_simp⟩) Sy3 ?_
                simp only [Act.put, List.getElem_toArray, List.getElem_cons_zero, List.getElem_cons_succ, List.setIfInBounds_toArray, List.set_cons_zero, List.set_cons_succ]
                refine wpAnyH_take (i := 12) (v := .agg (A8 O)) rfl (by kernel_rfl) (by kernel_rfl) (by kernel_rfl) (fun _ _ _ h => h) (.inl ⟨rfl, fun W _ => by go_simp⟩) Sy3 ?_
                simp only [Act.put, List.getElem_toArray, List.getElem_cons_zero, List.getElem_cons_succ, List.setIfInBounds_toArray, List.set_cons_zero, List.set_cons_succ]
                refine wpAnyH_take (i := 13) (v := .agg (A8 N)) rfl (by kernel_rfl) (by kernel_rfl) (by kernel_rfl) (fun _ _ _ h => h) (.inl ⟨rfl, fun W _ => by go_simp⟩) Sy3 ?_
                simp only [Act.put, List.getElem_toArray, List.getElem_cons_zero, List.getElem_cons_succ, List.setIfInBounds_toArray, List.set_cons_zero, List.set_cons_succ]
                refine wpAnyH_take (i := 14) (v := .bool ok) rfl (by kernel_rfl) (by kernel_rfl) (by kernel_rfl) (fun _ _ _ h => h) (.inl ⟨rfl, fun W _ => by go_simp⟩) Sy3 ?_
                simp only [Act.put, List.getElem_toArray, List.getElem_cons_zero, List.getElem_cons_succ, List.setIfInBounds_toArray, List.set_cons_zero, List.set_cons_succ]
                refine relist #[true, true, true, true, true, true, true, true, true, true, true, true, true, true, true, true, true, false, false, false] (by kernel_rfl) ?_
                refine any_one (i := 17) (by kernel_rfl) ?_
                refine wpOp_store_D rfl rfl (.tmp 19) (.tmp 90) rfl gAy2 O rfl rfl Z32 fAy3 hOl ?_
                intro X hX
                have xa : Dg X gAy2 O := hX.dg hOl
                have xb : Dg X gBy1 Z32 := fBy3.other hX (by omega)
                have xB := hX.below _ _ (by omega) By3
                have xS : Dg X w.heap.size known := Sy3.other hX (by omega)
                refine ⟨xS, ?_⟩
                simp only [Act.put, List.getElem_toArray, List.getElem_cons_zero, List.getElem_cons_succ, List.setIfInBounds_toArray, List.set_cons_zero, List.set_cons_succ]
                refine relist #[true, true, true, true, true, true, true, true, true, true, true, true, true, true, true, true, true, true, false, false] (by kernel_rfl) ?_
                refine any_one (i := 18) (by kernel_rfl) ?_
                refine wpOp_store_D rfl rfl (.tmp 20) (.tmp 91) rfl gBy1 N rfl rfl Z32 xb hNl ?_
                intro Y hY
                have ya : Hid (Dg Y gAy2 O) := xa.other hY (by omega)
                have yb : Hid (Dg Y gBy1 N) := hY.dg hNl
                have yB : Hid (Below U.heap.size U Y) := hY.below _ _ (by omega) xB
                have yS : Dg Y w.heap.size known := xS.other hY (by omega)
                refine ⟨yS, ?_⟩
                simp only [Act.put, List.getElem_toArray, List.getElem_cons_zero, List.getElem_cons_succ, List.setIfInBounds_toArray, List.set_cons_zero, List.set_cons_succ]
                refine wpAnyH_take (i := 19) (v := .bool ok) rfl (by kernel_rfl) (by kernel_rfl) (by kernel_rfl) (fun _ _ _ h => h) (.inl ⟨rfl, fun W _ => by go_simp⟩) yS ?_
                simp only [Act.put, List.getElem_toArray, List.getElem_cons_zero, List.getElem_cons_succ, List.setIfInBounds_toArray, List.set_cons_zero, List.set_cons_succ]
                refine wpAnyH_done (by kernel_rfl) ?_ _
                refine NoPanic.normal ?_
                clear hX hY xa xb xB xS yS
                go_wp2_with fail
                go_meet
                case rel => exact ⟨gAy2, gBy1, rfl, rfl, rfl, ya.out, yb.out, by omega, by omega, yB.out⟩
          case rest =>
            obtain ⟨ga, gb, rfl, rfl, rfl, xa, xb, hga, hgb, xB⟩ := hcut
            have tC : Dg wc.drew g5 T := ⟨hTl, (xB.block _ lU).trans tU.out.here⟩
            have aC : Dg wc.drew ga O := ⟨xa.len, xa.here⟩
            have bC : Dg wc.drew gb N := ⟨xb.len, xb.here⟩
            have q1 : Dg wc.drew (w.heap.size + 1) Z32 := ⟨rfl, (xB.block _ (by omega)).trans aU.out.here⟩
            have q2 : Dg wc.drew (w.heap.size + 1 + 1) Z32 := ⟨rfl, (xB.block _ (by omega)).trans cU.out.here⟩
            have BC : Below w.heap.size w wc.drew := (bU.out.trans (xB.mono bU.out.size)).drew
            have S0 := And.intro aC (And.intro bC tC)
            clear xa xb kU aU cU tU bU hDU hC xB
            go_wp2_with fail
            refine wp_region_noPanic ?_
            refine wp_region_held (S := fun W => Dg W ga O ∧ Dg W gb N ∧ Dg W g5 T) follows ?_
            refine wpAnyH_take (i := 0) (v := .agg (A8 T)) rfl (by kernel_rfl) (by kernel_rfl) (by kernel_rfl) (fun _ _ _ h => h) (yields_D rfl (.tmp 15) rfl g5 rfl T hTl (fun W hW => hW.2.2)) S0 ?_
            simp only [Act.put, List.getElem_toArray, List.getElem_cons_zero, List.getElem_cons_succ, List.setIfInBounds_toArray, List.set_cons_zero, List.set_cons_succ]
            refine wpAnyH_take (i := 1) (v := .agg (A8 O)) rfl (by kernel_rfl) (by kernel_rfl) (by kernel_rfl) (fun _ _ _ h => h) (yields_D rfl (.tmp 19) rfl ga rfl O hOl (fun W hW => hW.1)) S0 ?_
            simp only [Act.put, List.getElem_toArray, List.getElem_cons_zero, List.getElem_cons_succ, List.setIfInBounds_toArray, List.set_cons_zero, List.set_cons_succ]
            refine wpAnyH_take (i := 3) (v := .agg (A8 T)) rfl (by kernel_rfl) (by kernel_rfl) (by kernel_rfl) (fun _ _ _ h => h) (yields_D rfl (.tmp 15) rfl g5 rfl T hTl (fun W hW => hW.2.2)) S0 ?_
            simp only [Act.put, List.getElem_toArray, List.getElem_cons_zero, List.getElem_cons_succ, List.setIfInBounds_toArray, List.set_cons_zero, List.set_cons_succ]
            refine wpAnyH_take (i := 4) (v := .agg (A8 N)) rfl (by kernel_rfl) (by kernel_rfl) (by kernel_rfl) (fun _ _ _ h => h) (yields_D rfl (.tmp 20) rfl gb rfl N hNl (fun W hW => hW.2.1)) S0 ?_
            simp only [Act.put, List.getElem_toArray, List.getElem_cons_zero, List.getElem_cons_succ, List.setIfInBounds_toArray, List.set_cons_zero, List.set_cons_succ]
            refine wpAnyH_take (i := 6) (v := .bool ok) rfl (by kernel_rfl) (by kernel_rfl) (by kernel_rfl) (fun _ _ _ h => h) (.inl ⟨rfl, fun W _ => by go_simp⟩) S0 ?_
            simp only [Act.put, List.getElem_toArray, List.getElem_cons_zero, List.getElem_cons_succ, List.setIfInBounds_toArray, List.set_cons_zero, List.set_cons_succ]
            refine relist #[true, true, false, true, true, false, true, false, false, false] (by kernel_rfl) ?_
            refine any_one (i := 2) (by kernel_rfl) ?_
            refine wpOp_call (f := 96) (args := #[.agg (A8 T), .agg (A8 O)]) rfl rfl (by go_simp) ?_
            refine (refKnot_any _ T O hTl hOl hTb hOb).mono ?_
            rintro ex w4 ⟨rfl, b4⟩
            have r1 := q1.next b4
            have r2 := q2.next b4
            have S4 := And.intro (aC.next b4) (And.intro (bC.next b4) (tC.next b4))
            have B4 : Below w.heap.size w w4 := BC.trans (b4.mono BC.size)
            have hJl := knotP_len T O
            obtain ⟨J, hJ⟩ : ∃ J, knotP T O = J := ⟨_, rfl⟩
            rw [hJ] at hJl HE ⊢
            clear hJ b4 q1 q2 aC bC tC BC S0
            refine ⟨_, rfl, S4, ?_⟩
            simp only [Act.put, List.getElem_toArray, List.getElem_cons_zero, List.getElem_cons_succ, List.setIfInBounds_toArray, List.set_cons_zero, List.set_cons_succ]
            refine relist #[true, true, true, true, true, false, true, false, false, false] (by kernel_rfl) ?_
            refine any_one (i := 5) (by kernel_rfl) ?_
            refine wpOp_call (f := 96) (args := #[.agg (A8 T), .agg (A8 N)]) rfl rfl (by go_simp) ?_
            refine (refKnot_any _ T N hTl hNl hTb hNb).mono ?_
            rintro ex w5 ⟨rfl, b5⟩
            have d1 := r1.next b5
            have d2 := r2.next b5
            have SX := And.intro (S4.1.next b5) (And.intro (S4.2.1.next b5) (S4.2.2.next b5))
            have B : Below w.heap.size w w5 := B4.trans (b5.mono B4.size)
            have hKl := knotP_len T N
            obtain ⟨K, hK⟩ : ∃ K, knotP T N = K := ⟨_, rfl⟩
            rw [hK] at hKl HE ⊢
            clear hK b5 r1 r2 S4 B4
            refine ⟨_, rfl, SX, ?_⟩
            simp only [Act.put, List.getElem_toArray, List.getElem_cons_zero, List.getElem_cons_succ, List.setIfInBounds_toArray, List.set_cons_zero, List.set_cons_succ]
            refine relist #[true, true, true, true, true, true, true, false, false, false] (by kernel_rfl) ?_
            refine any_one (i := 7) (by kernel_rfl) ?_
            refine wpOp_store_D rfl rfl (.tmp 10) (.tmp 95) rfl (w.heap.size + 1) J rfl rfl Z32 d1 hJl ?_
            intro U hU
            have e2 := d2.other hU (by omega)
            have f1 : Dg U (w.heap.size + 1) J := hU.dg hJl
            have BU := hU.below _ _ (by omega) B
            have SU := And.intro (SX.1.other hU (by omega)) (And.intro (SX.2.1.other hU (by omega)) (SX.2.2.other hU (by omega)))
            clear d1 d2 B hU
            refine ⟨SU, ?_⟩
            simp only [Act.put, List.getElem_toArray, List.getElem_cons_zero, List.getElem_cons_succ, List.setIfInBounds_toArray, List.set_cons_zero, List.set_cons_succ]
            refine relist #[true, true, true, true, true, true, true, true, false, false] (by kernel_rfl) ?_
            refine any_one (i := 8) (by kernel_rfl) ?_
            refine wpOp_store_D rfl rfl (.tmp 11) (.tmp 98) rfl (w.heap.size + 1 + 1) K rfl rfl Z32 e2 hKl ?_
            intro X hX
            have x1 : Hid (Dg X (w.heap.size + 1) J) := f1.other hX (by omega)
            have x2 : Hid (Dg X (w.heap.size + 1 + 1) K) := hX.dg hKl
            have BX : Hid (Below w.heap.size w X) := hX.below _ _ (by omega) BU
            have SX' := And.intro (SU.1.other hX (by omega)) (And.intro (SU.2.1.other hX (by omega)) (SU.2.2.other hX (by omega)))
            clear f1 e2 BU hX
            refine ⟨SX', ?_⟩
            simp only [Act.put, List.getElem_toArray, List.getElem_cons_zero, List.getElem_cons_succ, List.setIfInBounds_toArray, List.set_cons_zero, List.set_cons_succ]
            refine wpAnyH_take (i := 9) (v := .bool ok) rfl (by kernel_rfl) (by kernel_rfl) (by kernel_rfl) (fun _ _ _ h => h) (.inl ⟨rfl, fun W _ => by go_simp⟩) SX' ?_
            simp only [Act.put, List.getElem_toArray, List.getElem_cons_zero, List.getElem_cons_succ, List.setIfInBounds_toArray, List.set_cons_zero, List.set_cons_succ]
            refine wpAnyH_done (by kernel_rfl) ?_ _
            refine NoPanic.normal ?_
            clear SX SU SX' hia hsl
            go_wp2_with fail
            exact bodyPost_ret (results_DDT rfl _ _ (w.heap.size + 1) (w.heap.size + 1 + 1) J K rfl x1.out rfl x2.out) rfl ⟨by rw [HE.out]; rfl, BX.out⟩
end Go.Proofs.YtcmjlhcpoajbkaaDoor
