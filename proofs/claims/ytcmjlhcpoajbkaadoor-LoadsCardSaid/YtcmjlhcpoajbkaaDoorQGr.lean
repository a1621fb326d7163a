import Derived.Test.YtcmjlhcpoajbkaaDoorQRc
namespace Go.Proofs.YtcmjlhcpoajbkaaDoor
set_option maxRecDepth 10000
set_option linter.unusedSimpArgs false
open Go.RowKit
/-- Where a link leads, from the root down: the old root, the new one, whether it has so many digests. -/
def growR (z known : List Int) : List (List Int) → Nat → Nat → Bool → List Int × List Int × Bool
  | [], m, n, whole => if m = n ∧ whole = true then (known, known, true) else (z, z, false)
  | top :: rest, m, n, whole =>
    if m = n ∧ whole = true then (known, known, false) else
    if m = n then (top, top, rest.isEmpty) else
    if m ≤ halfN n then ((growR z known rest m (halfN n) whole).1, knotP (growR z known rest m (halfN n) whole).2.1 top, (growR z known rest m (halfN n) whole).2.2)
    else (knotP top (growR z known rest (m - halfN n) (n - halfN n) false).1, knotP top (growR z known rest (m - halfN n) (n - halfN n) false).2.1, (growR z known rest (m - halfN n) (n - halfN n) false).2.2)
def Ok32 (D : List Int) : Prop := D.length = 32 ∧ Bytes D
theorem growR_ok (z known : List Int) (hz : Ok32 z) (hk : Ok32 known) (l : List (List Int)) : ∀ (m n : Nat) (whole : Bool), (∀ d ∈ l, Ok32 d) → Ok32 (growR z known l m n whole).1 ∧ Ok32 (growR z known l m n whole).2.1 := by
  induction l with
  | nil =>
    intro m n whole _
    unfold growR
    split
    · exact ⟨hk, hk⟩
    · exact ⟨hz, hz⟩
  | cons t r ih =>
    intro m n whole h
    have ht : Ok32 t := h t List.mem_cons_self
    have hr : ∀ d ∈ r, Ok32 d := fun d hd => h d (List.mem_cons_of_mem _ hd)
    unfold growR
    split
    · exact ⟨hk, hk⟩
    · split
      · exact ⟨ht, ht⟩
      · split
        · exact ⟨(ih m (halfN n) whole hr).1, knotP_len _ _, knotP_bytes _ _⟩
        · exact ⟨⟨knotP_len _ _, knotP_bytes _ _⟩, knotP_len _ _, knotP_bytes _ _⟩
theorem eqN (m n : Nat) : ((m : Int) == (n : Int)) = decide (m = n) := by
  by_cases h : m = n
  · subst h; simp
  · have : ¬ ((m : Int) = (n : Int)) := by omega
    simp [h, this]
theorem eq0 (q : Nat) : ((q : Int) == 0) = decide (q = 0) := eqN q 0
set_option maxHeartbeats 8000000 in
theorem tgrow_any (known : List Int) (hk : Ok32 known) : ∀ (q m n : Nat) (whole : Bool) (p : Option Addr) (cap : Nat) (ds : List (List Int)) (w : World), Tabs KS HS w → D32 w p q cap ds → 1 ≤ m → m ≤ n → n ≤ 9223372036854775807 →
    Calls Tryd.prog 98 #[.int .i64 m, .int .i64 n, .slice p q cap, .agg (A8 known), .bool whole] w fun ex w' => ex = .returned (.tuple #[.agg (A8 (growR Z32 known ds.reverse m n whole).1), .agg (A8 (growR Z32 known ds.reverse m n whole).2.1), .bool (growR Z32 known ds.reverse m n whole).2.2]) ∧ Below w.heap.size w w' := by
  intro q
  induction q with
  | zero =>
    intro m n whole p cap ds w hT hD hm1 hmn hn
    have hb0 := below3 w (.cells (A8 known) 25) (.cells Z8x32 25) (.cells Z8x32 25)
    have V0 := heap3 w (.cells (A8 known) 25) (.cells Z8x32 25) (.cells Z8x32 25)
    obtain ⟨V, hV⟩ : ∃ V, V = ((w.alloc (.cells (A8 known) 25)).alloc (.cells Z8x32 25)).alloc (.cells Z8x32 25) := ⟨_, rfl⟩
    rw [← hV] at hb0 V0
    have kV : Hid (Dg V w.heap.size known) := ⟨hk.1, V0.1⟩
    have aV : Hid (Dg V (w.heap.size + 1) Z32) := ⟨rfl, V0.2.1⟩
    have bV : Hid (Dg V (w.heap.size + 1 + 1) Z32) := ⟨rfl, V0.2.2⟩
    clear V0
    have hq1 := eqN m n
    have hkl := hk.1
    have hds : ds = [] := List.length_eq_zero_iff.1 hD.len
    subst hds
    by_cases h1 : m = n ∧ whole = true
    · obtain ⟨h1a, rfl⟩ := h1
      have HE : Hid (growR Z32 known ([] : List (List Int)).reverse m n true = (known, known, true)) := by
        show growR Z32 known [] m n true = _
        simp [growR, h1a]
      rw [decide_eq_true h1a] at hq1
      go_enter Tryd.func98, Tryd.ntmps98
      go_wp2_with fail
      have SX : Dg V.drew w.heap.size known := ⟨kV.out.len, kV.out.here⟩
      have d1 : Dg V.drew (w.heap.size + 1) Z32 := ⟨aV.out.len, aV.out.here⟩
      have d2 : Dg V.drew (w.heap.size + 1 + 1) Z32 := ⟨bV.out.len, bV.out.here⟩
      have B : Below w.heap.size w V.drew := hb0.drew
      refine wp_region_noPanic ?_
      refine wp_region_held (S := fun W => Dg W w.heap.size known) follows ?_
      rw [hV] at SX d1 d2 B
      refine wpAnyH_take (i := 0) (v := .agg (A8 known)) rfl (by kernel_rfl) (by kernel_rfl) (by kernel_rfl) (fun _ _ _ h => h) (yields_D rfl (.tmp 8) rfl w.heap.size rfl known hkl (fun W hW => hW)) SX ?_
      simp only [Act.put, List.getElem_toArray, List.getElem_cons_zero, List.getElem_cons_succ, List.setIfInBounds_toArray, List.set_cons_zero, List.set_cons_succ]
      refine wpAnyH_take (i := 1) (v := .agg (A8 known)) rfl (by kernel_rfl) (by kernel_rfl) (by kernel_rfl) (fun _ _ _ h => h) (yields_D rfl (.tmp 8) rfl w.heap.size rfl known hkl (fun W hW => hW)) SX ?_
      simp only [Act.put, List.getElem_toArray, List.getElem_cons_zero, List.getElem_cons_succ, List.setIfInBounds_toArray, List.set_cons_zero, List.set_cons_succ]
      refine wpAnyH_take (i := 2) (v := .slice p 0 cap) rfl (by kernel_rfl) (by kernel_rfl) (by kernel_rfl) (fun _ _ _ h => h) (.inl ⟨rfl, fun W _ => by go_simp⟩) SX ?_
      simp only [Act.put, List.getElem_toArray, List.getElem_cons_zero, List.getElem_cons_succ, List.setIfInBounds_toArray, List.set_cons_zero, List.set_cons_succ]
      refine wpAnyH_take (i := 3) (v := .int .i64 0) rfl (by kernel_rfl) (by kernel_rfl) (by kernel_rfl) (fun _ _ _ h => h) (.inl ⟨rfl, fun W _ => by go_simp⟩) SX ?_
      simp only [Act.put, List.getElem_toArray, List.getElem_cons_zero, List.getElem_cons_succ, List.setIfInBounds_toArray, List.set_cons_zero, List.set_cons_succ]
      refine wpAnyH_take (i := 4) (v := .bool true) rfl (by kernel_rfl) (by kernel_rfl) (by kernel_rfl) (fun _ _ _ h => h) (.inl ⟨rfl, fun W _ => by go_simp⟩) SX ?_
      simp only [Act.put, List.getElem_toArray, List.getElem_cons_zero, List.getElem_cons_succ, List.setIfInBounds_toArray, List.set_cons_zero, List.set_cons_succ]
      refine relist #[true, true, true, true, true, false, false, false] (by kernel_rfl) ?_
      refine any_one (i := 5) (by kernel_rfl) ?_
      refine wpOp_store_D rfl rfl (.tmp 10) (.tmp 22) rfl (w.heap.size + 1) known rfl rfl Z32 d1 hkl ?_
      intro U hU
      have e2 := d2.other hU (by omega)
      have f1 : Dg U (w.heap.size + 1) known := hU.dg hkl
      have BU := hU.below _ _ (by omega) B
      have SU := SX.other hU (by omega)
      clear d1 d2 B hU
      refine ⟨SU, ?_⟩
      simp only [Act.put, List.getElem_toArray, List.getElem_cons_zero, List.getElem_cons_succ, List.setIfInBounds_toArray, List.set_cons_zero, List.set_cons_succ]
      refine relist #[true, true, true, true, true, true, false, false] (by kernel_rfl) ?_
      refine any_one (i := 6) (by kernel_rfl) ?_
      refine wpOp_store_D rfl rfl (.tmp 11) (.tmp 23) rfl (w.heap.size + 1 + 1) known rfl rfl Z32 e2 hkl ?_
      intro X hX
      have x1 : Hid (Dg X (w.heap.size + 1) known) := f1.other hX (by omega)
      have x2 : Hid (Dg X (w.heap.size + 1 + 1) known) := hX.dg hkl
      have BX : Hid (Below w.heap.size w X) := hX.below _ _ (by omega) BU
      have SX' := SU.other hX (by omega)
      clear f1 e2 BU hX
      refine ⟨SX', ?_⟩
      simp only [Act.put, List.getElem_toArray, List.getElem_cons_zero, List.getElem_cons_succ, List.setIfInBounds_toArray, List.set_cons_zero, List.set_cons_succ]
      refine wpAnyH_take (i := 7) (v := .bool true) rfl (by kernel_rfl) (by kernel_rfl) (by kernel_rfl) (fun _ _ _ h => h) (.inl ⟨rfl, fun W _ => by go_simp⟩) SX' ?_
      simp only [Act.put, List.getElem_toArray, List.getElem_cons_zero, List.getElem_cons_succ, List.setIfInBounds_toArray, List.set_cons_zero, List.set_cons_succ]
      refine wpAnyH_done (by kernel_rfl) ?_ _
      refine NoPanic.normal ?_
      clear SX SU SX' kV aV bV hb0
      go_wp2_with fail
      exact bodyPost_ret (results_DDT rfl _ _ (w.heap.size + 1) (w.heap.size + 1 + 1) known known rfl x1.out rfl x2.out) rfl ⟨by rw [HE.out]; rfl, BX.out⟩
    · have HE : Hid (growR Z32 known ([] : List (List Int)).reverse m n whole = (Z32, Z32, false)) := by
        show growR Z32 known [] m n whole = _
        simp only [growR, if_neg h1]
      have hpk : Hid (∀ b : Bool, b = whole → (decide (m = n) && b) = false) := fun b hb => by
        subst hb
        by_cases h : m = n
        · cases b
          · simp
          · exact absurd ⟨h, rfl⟩ h1
        · simp [h]
      by_cases h2 : m = n
      · have hw : whole = false := by
          cases whole
          · rfl
          · exact absurd ⟨h2, rfl⟩ h1
        subst hw
        rw [decide_eq_true h2] at hq1
        go_enter Tryd.func98, Tryd.ntmps98
        go_wp2_with fail
        refine (cut_none _ p cap).mono ?_
        rintro ex w1 ⟨rfl, b1⟩
        have b1' : Below V.heap.size V w1 := by rw [hV]; exact b1
        have k1 := kV.out.next b1'
        have a1 := aV.out.next b1'
        have c1 := bV.out.next b1'
        have B1 : Below w.heap.size w w1 := hb0.trans (b1'.mono hb0.size)
        have l1 := c1.lt
        have n1 : Hid (Dg (w1.alloc (.cells Z8x32 25)) w1.heap.size Z32) := Dg.new w1 _ rfl
        clear b1 b1' kV aV bV hb0
        go_wp2_with (first
          | (with_reducible refine atStore 25 ?_
             refine store_D rfl _ _ rfl w1.heap.size Z32 rfl rfl Z32 n1.out rfl ?_
             intro U hU
             refine hideGoal ?_))
        have aU : Hid (Dg U (w.heap.size + 1) Z32) := (a1.alloc _).other hU (by omega)
        have cU : Hid (Dg U (w.heap.size + 1 + 1) Z32) := (c1.alloc _).other hU (by omega)
        have bU : Hid (Below w.heap.size w U) := hU.below _ _ (by omega) (B1.alloc (by omega) _)
        clear hU a1 c1 k1 B1 n1
        refine openGoal ?_
        go_wp2_with (first
          | (with_reducible refine atStore 25 ?_
             refine store_D rfl _ _ rfl (w.heap.size + 1) Z32 rfl rfl Z32 aU.out rfl ?_
             intro X hX
             refine hideGoal ?_))
        have aX : Hid (Dg X (w.heap.size + 1) Z32) := hX.dg rfl
        have cX : Hid (Dg X (w.heap.size + 1 + 1) Z32) := cU.out.other hX (by omega)
        have bX : Hid (Below w.heap.size w X) := hX.below _ _ (by omega) bU.out
        clear hX aU cU bU
        refine openGoal ?_
        go_wp2_with (first
          | (with_reducible refine atStore 25 ?_
             refine store_D rfl _ _ rfl (w.heap.size + 1 + 1) Z32 rfl rfl Z32 cX.out rfl ?_
             intro Y hY
             refine hideGoal ?_))
        have aY : Hid (Dg Y (w.heap.size + 1) Z32) := aX.out.other hY (by omega)
        have cY : Hid (Dg Y (w.heap.size + 1 + 1) Z32) := hY.dg rfl
        have bY : Hid (Below w.heap.size w Y) := hY.below _ _ (by omega) bX.out
        clear hY aX cX bX
        refine openGoal ?_
        go_wp2_with fail
        exact bodyPost_ret (results_DDT rfl _ _ (w.heap.size + 1) (w.heap.size + 1 + 1) Z32 Z32 rfl aY.out rfl cY.out) rfl ⟨by rw [HE.out]; rfl, bY.out⟩
      · rw [decide_eq_false h2] at hq1
        go_enter Tryd.func98, Tryd.ntmps98
        go_wp2_with fail
        refine (cut_none _ p cap).mono ?_
        rintro ex w1 ⟨rfl, b1⟩
        have b1' : Below V.heap.size V w1 := by rw [hV]; exact b1
        have k1 := kV.out.next b1'
        have a1 := aV.out.next b1'
        have c1 := bV.out.next b1'
        have B1 : Below w.heap.size w w1 := hb0.trans (b1'.mono hb0.size)
        have l1 := c1.lt
        have n1 : Hid (Dg (w1.alloc (.cells Z8x32 25)) w1.heap.size Z32) := Dg.new w1 _ rfl
        clear b1 b1' kV aV bV hb0
        go_wp2_with (first
          | (with_reducible refine atStore 25 ?_
             refine store_D rfl _ _ rfl w1.heap.size Z32 rfl rfl Z32 n1.out rfl ?_
             intro U hU
             refine hideGoal ?_))
        have aU : Hid (Dg U (w.heap.size + 1) Z32) := (a1.alloc _).other hU (by omega)
        have cU : Hid (Dg U (w.heap.size + 1 + 1) Z32) := (c1.alloc _).other hU (by omega)
        have bU : Hid (Below w.heap.size w U) := hU.below _ _ (by omega) (B1.alloc (by omega) _)
        clear hU a1 c1 k1 B1 n1
        refine openGoal ?_
        go_wp2_with (first
          | (with_reducible refine atStore 25 ?_
             refine store_D rfl _ _ rfl (w.heap.size + 1) Z32 rfl rfl Z32 aU.out rfl ?_
             intro X hX
             refine hideGoal ?_))
        have aX : Hid (Dg X (w.heap.size + 1) Z32) := hX.dg rfl
        have cX : Hid (Dg X (w.heap.size + 1 + 1) Z32) := cU.out.other hX (by omega)
        have bX : Hid (Below w.heap.size w X) := hX.below _ _ (by omega) bU.out
        clear hX aU cU bU
        refine openGoal ?_
        go_wp2_with (first
          | (with_reducible refine atStore 25 ?_
             refine store_D rfl _ _ rfl (w.heap.size + 1 + 1) Z32 rfl rfl Z32 cX.out rfl ?_
             intro Y hY
             refine hideGoal ?_))
        have aY : Hid (Dg Y (w.heap.size + 1) Z32) := aX.out.other hY (by omega)
        have cY : Hid (Dg Y (w.heap.size + 1 + 1) Z32) := hY.dg rfl
        have bY : Hid (Below w.heap.size w Y) := hY.below _ _ (by omega) bX.out
        clear hY aX cX bX
        refine openGoal ?_
        go_wp2_with fail
        exact bodyPost_ret (results_DDT rfl _ _ (w.heap.size + 1) (w.heap.size + 1 + 1) Z32 Z32 rfl aY.out rfl cY.out) rfl ⟨by rw [HE.out]; rfl, bY.out⟩
  | succ q ih =>
    intro m n whole p cap ds w hT hD hm1 hmn hn
    have hb0 := below3 w (.cells (A8 known) 25) (.cells Z8x32 25) (.cells Z8x32 25)
    have V0 := heap3 w (.cells (A8 known) 25) (.cells Z8x32 25) (.cells Z8x32 25)
    obtain ⟨V, hV⟩ : ∃ V, V = ((w.alloc (.cells (A8 known) 25)).alloc (.cells Z8x32 25)).alloc (.cells Z8x32 25) := ⟨_, rfl⟩
    rw [← hV] at hb0 V0
    have kV : Hid (Dg V w.heap.size known) := ⟨hk.1, V0.1⟩
    have aV : Hid (Dg V (w.heap.size + 1) Z32) := ⟨rfl, V0.2.1⟩
    have bV : Hid (Dg V (w.heap.size + 1 + 1) Z32) := ⟨rfl, V0.2.2⟩
    clear V0
    have hq1 := eqN m n
    have hkl := hk.1
    have hrev := rev_last ds q hD.len
    obtain ⟨ad, rfl, _, _⟩ := hD.lies (by omega)
    by_cases h1 : m = n ∧ whole = true
    · obtain ⟨h1a, rfl⟩ := h1
      have HE : Hid (growR Z32 known ds.reverse m n true = (known, known, false)) := by
        show growR Z32 known ds.reverse m n true = _
        rw [hrev]; simp [growR, h1a]
      rw [decide_eq_true h1a] at hq1
      have hq0 : ¬ ((q : Int) + 1 = 0) := by omega
      go_enter Tryd.func98, Tryd.ntmps98
      go_wp2_with fail
      have SX : Dg V.drew w.heap.size known := ⟨kV.out.len, kV.out.here⟩
      have d1 : Dg V.drew (w.heap.size + 1) Z32 := ⟨aV.out.len, aV.out.here⟩
      have d2 : Dg V.drew (w.heap.size + 1 + 1) Z32 := ⟨bV.out.len, bV.out.here⟩
      have B : Below w.heap.size w V.drew := hb0.drew
      refine wp_region_noPanic ?_
      refine wp_region_held (S := fun W => Dg W w.heap.size known) follows ?_
      rw [hV] at SX d1 d2 B
      refine wpAnyH_take (i := 0) (v := .agg (A8 known)) rfl (by kernel_rfl) (by kernel_rfl) (by kernel_rfl) (fun _ _ _ h => h) (yields_D rfl (.tmp 8) rfl w.heap.size rfl known hkl (fun W hW => hW)) SX ?_
      simp only [Act.put, List.getElem_toArray, List.getElem_cons_zero, List.getElem_cons_succ, List.setIfInBounds_toArray, List.set_cons_zero, List.set_cons_succ]
      refine wpAnyH_take (i := 1) (v := .agg (A8 known)) rfl (by kernel_rfl) (by kernel_rfl) (by kernel_rfl) (fun _ _ _ h => h) (yields_D rfl (.tmp 8) rfl w.heap.size rfl known hkl (fun W hW => hW)) SX ?_
      simp only [Act.put, List.getElem_toArray, List.getElem_cons_zero, List.getElem_cons_succ, List.setIfInBounds_toArray, List.set_cons_zero, List.set_cons_succ]
      refine wpAnyH_take (i := 2) (v := .slice (some ad) (q + 1) cap) rfl (by kernel_rfl) (by kernel_rfl) (by kernel_rfl) (fun _ _ _ h => h) (.inl ⟨rfl, fun W _ => by go_simp⟩) SX ?_
      simp only [Act.put, List.getElem_toArray, List.getElem_cons_zero, List.getElem_cons_succ, List.setIfInBounds_toArray, List.set_cons_zero, List.set_cons_succ]
      refine wpAnyH_take (i := 3) (v := .int .i64 (q + 1)) rfl (by kernel_rfl) (by kernel_rfl) (by kernel_rfl) (fun _ _ _ h => h) (.inl ⟨rfl, fun W _ => by go_simp⟩) SX ?_
      simp only [Act.put, List.getElem_toArray, List.getElem_cons_zero, List.getElem_cons_succ, List.setIfInBounds_toArray, List.set_cons_zero, List.set_cons_succ]
      refine wpAnyH_take (i := 4) (v := .bool false) rfl (by kernel_rfl) (by kernel_rfl) (by kernel_rfl) (fun _ _ _ h => h) (.inl ⟨rfl, fun W _ => by go_simp⟩) SX ?_
      simp only [Act.put, List.getElem_toArray, List.getElem_cons_zero, List.getElem_cons_succ, List.setIfInBounds_toArray, List.set_cons_zero, List.set_cons_succ]
      refine relist #[true, true, true, true, true, false, false, false] (by kernel_rfl) ?_
      refine any_one (i := 5) (by kernel_rfl) ?_
      refine wpOp_store_D rfl rfl (.tmp 10) (.tmp 22) rfl (w.heap.size + 1) known rfl rfl Z32 d1 hkl ?_
      intro U hU
      have e2 := d2.other hU (by omega)
      have f1 : Dg U (w.heap.size + 1) known := hU.dg hkl
      have BU := hU.below _ _ (by omega) B
      have SU := SX.other hU (by omega)
      clear d1 d2 B hU
      refine ⟨SU, ?_⟩
      simp only [Act.put, List.getElem_toArray, List.getElem_cons_zero, List.getElem_cons_succ, List.setIfInBounds_toArray, List.set_cons_zero, List.set_cons_succ]
      refine relist #[true, true, true, true, true, true, false, false] (by kernel_rfl) ?_
      refine any_one (i := 6) (by kernel_rfl) ?_
      refine wpOp_store_D rfl rfl (.tmp 11) (.tmp 23) rfl (w.heap.size + 1 + 1) known rfl rfl Z32 e2 hkl ?_
      intro X hX
      have x1 : Hid (Dg X (w.heap.size + 1) known) := f1.other hX (by omega)
      have x2 : Hid (Dg X (w.heap.size + 1 + 1) known) := hX.dg hkl
      have BX : Hid (Below w.heap.size w X) := hX.below _ _ (by omega) BU
      have SX' := SU.other hX (by omega)
      clear f1 e2 BU hX
      refine ⟨SX', ?_⟩
      simp only [Act.put, List.getElem_toArray, List.getElem_cons_zero, List.getElem_cons_succ, List.setIfInBounds_toArray, List.set_cons_zero, List.set_cons_succ]
      refine wpAnyH_take (i := 7) (v := .bool false) rfl (by kernel_rfl) (by kernel_rfl) (by kernel_rfl) (fun _ _ _ h => h) (.inl ⟨rfl, fun W _ => by go_simp⟩) SX' ?_
      simp only [Act.put, List.getElem_toArray, List.getElem_cons_zero, List.getElem_cons_succ, List.setIfInBounds_toArray, List.set_cons_zero, List.set_cons_succ]
      refine wpAnyH_done (by kernel_rfl) ?_ _
      refine NoPanic.normal ?_
      clear SX SU SX' kV aV bV hb0
      go_wp2_with fail
      exact bodyPost_ret (results_DDT rfl _ _ (w.heap.size + 1) (w.heap.size + 1 + 1) known known rfl x1.out rfl x2.out) rfl ⟨by rw [HE.out]; rfl, BX.out⟩
    · obtain ⟨hTl, hTb⟩ := hD.get q (by omega)
      by_cases h2 : m = n
      · have hw : whole = false := by
          cases whole
          · rfl
          · exact absurd ⟨h2, rfl⟩ h1
        subst hw
        have HE : Hid (growR Z32 known ds.reverse m n false = (ds.getD q [], ds.getD q [], decide (q = 0))) := by
          show growR Z32 known ds.reverse m n false = _
          rw [hrev]
          simp only [growR, if_neg h1, if_pos h2]
          have hl : (ds.take q).reverse.length = q := by rw [List.length_reverse]; exact (hD.front q (by omega)).len
          generalize (ds.take q).reverse = L at hl
          congr 2
          rw [← hl]
          cases L <;> simp
        rw [decide_eq_true h2] at hq1
        have hq0 := eq0 q
        go_enter Tryd.func98, Tryd.ntmps98
        go_wp2_with fail
        refine (cut_some _ ad q cap ds (hV ▸ hD.below hb0)).mono ?_
        rintro ex w1 ⟨rfl, b1⟩
        have b1' : Below V.heap.size V w1 := by rw [hV]; exact b1
        have k1 := kV.out.next b1'
        have a1 := aV.out.next b1'
        have c1 := bV.out.next b1'
        have B1 : Below w.heap.size w w1 := hb0.trans (b1'.mono hb0.size)
        have l1 := c1.lt
        have n1 : Hid (Dg (w1.alloc (.cells Z8x32 25)) w1.heap.size Z32) := Dg.new w1 _ rfl
        clear b1 b1' kV aV bV hb0
        generalize ds.getD q [] = T at *
        go_wp2_with (first
          | (with_reducible refine atStore 25 ?_
             refine store_D rfl _ _ rfl w1.heap.size T rfl rfl Z32 n1.out hTl ?_
             intro U hU
             refine hideGoal ?_))
        have kU : Hid (Dg U w.heap.size known) := (k1.alloc _).other hU (by omega)
        have aU : Hid (Dg U (w.heap.size + 1) Z32) := (a1.alloc _).other hU (by omega)
        have cU : Hid (Dg U (w.heap.size + 1 + 1) Z32) := (c1.alloc _).other hU (by omega)
        have tU : Hid (Dg U w1.heap.size T) := hU.dg hTl
        have bU : Hid (Below w.heap.size w U) := hU.below _ _ (by omega) (B1.alloc (by omega) _)
        clear hU a1 c1 k1 B1 n1
        generalize w1.heap.size = g4 at *
        refine openGoal ?_
        go_wp2_with fail
        have SX : Dg U.drew g4 T := ⟨tU.out.len, tU.out.here⟩
        have d1 : Dg U.drew (w.heap.size + 1) Z32 := ⟨aU.out.len, aU.out.here⟩
        have d2 : Dg U.drew (w.heap.size + 1 + 1) Z32 := ⟨cU.out.len, cU.out.here⟩
        have B : Below w.heap.size w U.drew := bU.out.drew
        refine wp_region_noPanic ?_
        refine wp_region_held (S := fun W => Dg W g4 T) follows ?_
        refine wpAnyH_take (i := 0) (v := .agg (A8 T)) rfl (by kernel_rfl) (by kernel_rfl) (by kernel_rfl) (fun _ _ _ h => h) (yields_D rfl (.tmp 14) rfl g4 rfl T hTl (fun W hW => hW)) SX ?_
        simp only [Act.put, List.getElem_toArray, List.getElem_cons_zero, List.getElem_cons_succ, List.setIfInBounds_toArray, List.set_cons_zero, List.set_cons_succ]
        refine wpAnyH_take (i := 1) (v := .agg (A8 T)) rfl (by kernel_rfl) (by kernel_rfl) (by kernel_rfl) (fun _ _ _ h => h) (yields_D rfl (.tmp 14) rfl g4 rfl T hTl (fun W hW => hW)) SX ?_
        simp only [Act.put, List.getElem_toArray, List.getElem_cons_zero, List.getElem_cons_succ, List.setIfInBounds_toArray, List.set_cons_zero, List.set_cons_succ]
        refine wpAnyH_take (i := 2) (v := .slice (some ad) q cap) rfl (by kernel_rfl) (by kernel_rfl) (by kernel_rfl) (fun _ _ _ h => h) (.inl ⟨rfl, fun W _ => by go_simp⟩) SX ?_
        simp only [Act.put, List.getElem_toArray, List.getElem_cons_zero, List.getElem_cons_succ, List.setIfInBounds_toArray, List.set_cons_zero, List.set_cons_succ]
        refine wpAnyH_take (i := 3) (v := .int .i64 q) rfl (by kernel_rfl) (by kernel_rfl) (by kernel_rfl) (fun _ _ _ h => h) (.inl ⟨rfl, fun W _ => by go_simp⟩) SX ?_
        simp only [Act.put, List.getElem_toArray, List.getElem_cons_zero, List.getElem_cons_succ, List.setIfInBounds_toArray, List.set_cons_zero, List.set_cons_succ]
        refine wpAnyH_take (i := 4) (v := .bool (decide (q = 0))) rfl (by kernel_rfl) (by kernel_rfl) (by kernel_rfl) (fun _ _ _ h => h) (.inl ⟨rfl, fun W _ => by go_simp⟩) SX ?_
        simp only [Act.put, List.getElem_toArray, List.getElem_cons_zero, List.getElem_cons_succ, List.setIfInBounds_toArray, List.set_cons_zero, List.set_cons_succ]
        refine relist #[true, true, true, true, true, false, false, false] (by kernel_rfl) ?_
        refine any_one (i := 5) (by kernel_rfl) ?_
        refine wpOp_store_D rfl rfl (.tmp 10) (.tmp 40) rfl (w.heap.size + 1) T rfl rfl Z32 d1 hTl ?_
        intro U hU
        have e2 := d2.other hU (by omega)
        have f1 : Dg U (w.heap.size + 1) T := hU.dg hTl
        have BU := hU.below _ _ (by omega) B
        have SU := SX.other hU (by omega)
        clear d1 d2 B hU
        refine ⟨SU, ?_⟩
        simp only [Act.put, List.getElem_toArray, List.getElem_cons_zero, List.getElem_cons_succ, List.setIfInBounds_toArray, List.set_cons_zero, List.set_cons_succ]
        refine relist #[true, true, true, true, true, true, false, false] (by kernel_rfl) ?_
        refine any_one (i := 6) (by kernel_rfl) ?_
        refine wpOp_store_D rfl rfl (.tmp 11) (.tmp 41) rfl (w.heap.size + 1 + 1) T rfl rfl Z32 e2 hTl ?_
        intro X hX
        have x1 : Hid (Dg X (w.heap.size + 1) T) := f1.other hX (by omega)
        have x2 : Hid (Dg X (w.heap.size + 1 + 1) T) := hX.dg hTl
        have BX : Hid (Below w.heap.size w X) := hX.below _ _ (by omega) BU
        have SX' := SU.other hX (by omega)
        clear f1 e2 BU hX
        refine ⟨SX', ?_⟩
        simp only [Act.put, List.getElem_toArray, List.getElem_cons_zero, List.getElem_cons_succ, List.setIfInBounds_toArray, List.set_cons_zero, List.set_cons_succ]
        refine wpAnyH_take (i := 7) (v := .bool (decide (q = 0))) rfl (by kernel_rfl) (by kernel_rfl) (by kernel_rfl) (fun _ _ _ h => h) (.inl ⟨rfl, fun W _ => by go_simp⟩) SX' ?_
        simp only [Act.put, List.getElem_toArray, List.getElem_cons_zero, List.getElem_cons_succ, List.setIfInBounds_toArray, List.set_cons_zero, List.set_cons_succ]
        refine wpAnyH_done (by kernel_rfl) ?_ _
        refine NoPanic.normal ?_
        clear SX SU SX' kU aU cU tU bU
        go_wp2_with fail
        exact bodyPost_ret (results_DDT rfl _ _ (w.heap.size + 1) (w.heap.size + 1 + 1) T T rfl x1.out rfl x2.out) rfl ⟨by rw [HE.out]; rfl, BX.out⟩
      · rw [decide_eq_false h2] at hq1
        obtain ⟨hk1, hk2, hk3⟩ := halfN_spec n (by omega) (by omega)
        have hpb := fun W => powerBelow_any n W (by omega) hn
        have hsub0 : ∀ d ∈ (ds.take q).reverse, Ok32 d := fun d hd => hD.all d (List.mem_of_mem_take (List.mem_reverse.1 hd))
        have HE : Hid (growR Z32 known ds.reverse m n whole = if m ≤ halfN n then ((growR Z32 known (ds.take q).reverse m (halfN n) whole).1, knotP (growR Z32 known (ds.take q).reverse m (halfN n) whole).2.1 (ds.getD q []), (growR Z32 known (ds.take q).reverse m (halfN n) whole).2.2) else (knotP (ds.getD q []) (growR Z32 known (ds.take q).reverse (m - halfN n) (n - halfN n) false).1, knotP (ds.getD q []) (growR Z32 known (ds.take q).reverse (m - halfN n) (n - halfN n) false).2.1, (growR Z32 known (ds.take q).reverse (m - halfN n) (n - halfN n) false).2.2)) := by
          show growR Z32 known ds.reverse m n whole = _
          rw [hrev]; simp only [growR, if_neg h1, if_neg h2]
        go_enter Tryd.func98, Tryd.ntmps98
        go_wp2_with fail
        refine (cut_some _ ad q cap ds (hV ▸ hD.below hb0)).mono ?_
        rintro ex w1 ⟨rfl, b1⟩
        have b1' : Below V.heap.size V w1 := by rw [hV]; exact b1
        have k1 := kV.out.next b1'
        have a1 := aV.out.next b1'
        have c1 := bV.out.next b1'
        have B1 : Below w.heap.size w w1 := hb0.trans (b1'.mono hb0.size)
        have l1 := c1.lt
        have n1 : Hid (Dg (w1.alloc (.cells Z8x32 25)) w1.heap.size Z32) := Dg.new w1 _ rfl
        clear b1 b1' kV aV bV hb0
        generalize ds.getD q [] = T at *
        go_wp2_with (first
          | (with_reducible refine atStore 25 ?_
             refine store_D rfl _ _ rfl w1.heap.size T rfl rfl Z32 n1.out hTl ?_
             intro U hU
             refine hideGoal ?_))
        have kU : Hid (Dg U w.heap.size known) := (k1.alloc _).other hU (by omega)
        have aU : Hid (Dg U (w.heap.size + 1) Z32) := (a1.alloc _).other hU (by omega)
        have cU : Hid (Dg U (w.heap.size + 1 + 1) Z32) := (c1.alloc _).other hU (by omega)
        have tU : Hid (Dg U w1.heap.size T) := hU.dg hTl
        have bU : Hid (Below w.heap.size w U) := hU.below _ _ (by omega) (B1.alloc (by omega) _)
        clear hU a1 c1 k1 B1 n1
        generalize w1.heap.size = g4 at *
        refine openGoal ?_
        go_wp2_with fail
        refine (hpb U).mono ?_
        rintro ex w2 ⟨rfl, rfl⟩
        clear hpb
        generalize halfN n = k at *
        have hTU := hT.below bU.out
        have hDU := (hD.front q (by omega)).below bU.out
        have hsub := hsub0
        by_cases hik : m ≤ k
        · have hik' : (m : Int) ≤ k := by omega
          rw [if_pos hik] at HE
          go_wp2_with (first
            | (with_reducible refine atLoad 25 ?_
               refine load_D rfl _ rfl w.heap.size rfl known kU.out ?_))
          refine (ih m k whole (some ad) cap (ds.take q) w2 hTU hDU hm1 hik (by omega)).mono ?_
          rintro ex w3 ⟨rfl, b3⟩
          obtain ⟨hO, hN⟩ := growR_ok Z32 known ⟨rfl, Z32_bytes⟩ hk (ds.take q).reverse m k whole hsub
          have a3 := aU.out.next b3
          have c3 := cU.out.next b3
          have t3 := tU.out.next b3
          have B3 : Below w.heap.size w w3 := bU.out.trans (b3.mono bU.out.size)
          clear b3 kU aU cU tU bU
          generalize growR Z32 known (ds.take q).reverse m k whole = C at *
          obtain ⟨O, N, ok⟩ := C
          have hOl : O.length = 32 := hO.1
          have hOb : Bytes O := hO.2
          have hNl : N.length = 32 := hN.1
          have hNb : Bytes N := hN.2
          have A3 : Hid (Dg w3 (w.heap.size + 1) Z32) := a3
          have C3 : Hid (Dg w3 (w.heap.size + 1 + 1) Z32) := c3
          clear a3 c3 hO hN
          go_wp2_with (first
            | (with_reducible refine atStore 25 ?_
               refine store_D rfl _ _ rfl (w.heap.size + 1) O rfl rfl Z32 A3.out hOl ?_
               intro X hX
               refine hideGoal ?_))
          have aX : Hid (Dg X (w.heap.size + 1) O) := hX.dg hOl
          have cX : Hid (Dg X (w.heap.size + 1 + 1) Z32) := C3.out.other hX (by omega)
          have tX : Hid (Dg X g4 T) := t3.other hX (by omega)
          have bX : Hid (Below w.heap.size w X) := hX.below _ _ (by omega) B3
          clear hX A3 C3 t3 B3
          refine openGoal ?_
          go_wp2_with (first
            | (with_reducible refine atStore 25 ?_
               refine store_D rfl _ _ rfl (w.heap.size + 1 + 1) N rfl rfl Z32 cX.out hNl ?_
               intro Y hY
               refine hideGoal ?_))
          have aY : Hid (Dg Y (w.heap.size + 1) O) := aX.out.other hY (by omega)
          have cY : Hid (Dg Y (w.heap.size + 1 + 1) N) := hY.dg hNl
          have tY : Hid (Dg Y g4 T) := tX.out.other hY (by omega)
          have bY : Hid (Below w.heap.size w Y) := hY.below _ _ (by omega) bX.out
          clear hY aX cX tX bX
          refine openGoal ?_
          go_wp2_with fail
          have tW : Dg Y.drew g4 T := ⟨tY.out.len, tY.out.here⟩
          have aW : Dg Y.drew (w.heap.size + 1) O := ⟨aY.out.len, aY.out.here⟩
          have cW : Dg Y.drew (w.heap.size + 1 + 1) N := ⟨cY.out.len, cY.out.here⟩
          have BW : Below w.heap.size w Y.drew := bY.out.drew
          refine wp_region_noPanic ?_
          refine wp_region_held (S := fun W => Dg W (w.heap.size + 1) O ∧ Dg W g4 T) follows ?_
          have S0 := And.intro aW tW
          refine wpAnyH_take (i := 0) (v := .agg (A8 O)) rfl (by kernel_rfl) (by kernel_rfl) (by kernel_rfl) (fun _ _ _ h => h) (yields_D rfl (.tmp 10) rfl (w.heap.size + 1) rfl O hOl (fun W hW => hW.1)) S0 ?_
          simp only [Act.put, List.getElem_toArray, List.getElem_cons_zero, List.getElem_cons_succ, List.setIfInBounds_toArray, List.set_cons_zero, List.set_cons_succ]
          refine wpAnyH_take (i := 2) (v := .agg (A8 T)) rfl (by kernel_rfl) (by kernel_rfl) (by kernel_rfl) (fun _ _ _ h => h) (yields_D rfl (.tmp 14) rfl g4 rfl T hTl (fun W hW => hW.2)) S0 ?_
          simp only [Act.put, List.getElem_toArray, List.getElem_cons_zero, List.getElem_cons_succ, List.setIfInBounds_toArray, List.set_cons_zero, List.set_cons_succ]
          refine wpAnyH_take (i := 4) (v := .bool ok) rfl (by kernel_rfl) (by kernel_rfl) (by kernel_rfl) (fun _ _ _ h => h) (.inl ⟨rfl, fun W _ => by go_simp⟩) S0 ?_
          simp only [Act.put, List.getElem_toArray, List.getElem_cons_zero, List.getElem_cons_succ, List.setIfInBounds_toArray, List.set_cons_zero, List.set_cons_succ]
          refine relist #[true, false, true, false, true, false, false, false] (by kernel_rfl) ?_
          refine any_one (i := 1) (by kernel_rfl) ?_
          refine wpOp_load_D rfl rfl (.tmp 11) rfl (w.heap.size + 1 + 1) rfl N cW ⟨S0, ?_⟩
          simp only [Act.put, List.getElem_toArray, List.getElem_cons_zero, List.getElem_cons_succ, List.setIfInBounds_toArray, List.set_cons_zero, List.set_cons_succ]
          refine relist #[true, true, true, false, true, false, false, false] (by kernel_rfl) ?_
          refine any_one (i := 3) (by kernel_rfl) ?_
          refine wpOp_call (f := 103) (args := #[.agg (A8 N), .agg (A8 T)]) rfl rfl (by go_simp) ?_
          refine (knotOf_any _ (hT.below BW) N T hNl hTl hNb hTb).mono ?_
          rintro ex w4 ⟨rfl, b4⟩
          have d1 := aW.next b4
          have d2 := cW.next b4
          have SX := And.intro d1 (tW.next b4)
          have B : Below w.heap.size w w4 := BW.trans (b4.mono BW.size)
          have hKl := knotP_len N T
          obtain ⟨K, hK⟩ : ∃ K, knotP N T = K := ⟨_, rfl⟩
          rw [hK] at hKl HE ⊢
          clear hK b4 aW cW tW BW S0
          refine ⟨_, rfl, SX, ?_⟩
          simp only [Act.put, List.getElem_toArray, List.getElem_cons_zero, List.getElem_cons_succ, List.setIfInBounds_toArray, List.set_cons_zero, List.set_cons_succ]
          refine relist #[true, true, true, true, true, false, false, false] (by kernel_rfl) ?_
          refine any_one (i := 5) (by kernel_rfl) ?_
          refine wpOp_store_D rfl rfl (.tmp 10) (.tmp 60) rfl (w.heap.size + 1) O rfl rfl O d1 hOl ?_
          intro U hU
          have e2 := d2.other hU (by omega)
          have f1 : Dg U (w.heap.size + 1) O := hU.dg hOl
          have BU := hU.below _ _ (by omega) B
          have SU := And.intro f1 (SX.2.other hU (by omega))
          clear d1 d2 B hU
          refine ⟨SU, ?_⟩
          simp only [Act.put, List.getElem_toArray, List.getElem_cons_zero, List.getElem_cons_succ, List.setIfInBounds_toArray, List.set_cons_zero, List.set_cons_succ]
          refine relist #[true, true, true, true, true, true, false, false] (by kernel_rfl) ?_
          refine any_one (i := 6) (by kernel_rfl) ?_
          refine wpOp_store_D rfl rfl (.tmp 11) (.tmp 63) rfl (w.heap.size + 1 + 1) K rfl rfl N e2 hKl ?_
          intro X hX
          have x1 : Hid (Dg X (w.heap.size + 1) O) := f1.other hX (by omega)
          have x2 : Hid (Dg X (w.heap.size + 1 + 1) K) := hX.dg hKl
          have BX : Hid (Below w.heap.size w X) := hX.below _ _ (by omega) BU
          have SX' := And.intro x1.out (SU.2.other hX (by omega))
          clear f1 e2 BU hX
          refine ⟨SX', ?_⟩
          simp only [Act.put, List.getElem_toArray, List.getElem_cons_zero, List.getElem_cons_succ, List.setIfInBounds_toArray, List.set_cons_zero, List.set_cons_succ]
          refine wpAnyH_take (i := 7) (v := .bool ok) rfl (by kernel_rfl) (by kernel_rfl) (by kernel_rfl) (fun _ _ _ h => h) (.inl ⟨rfl, fun W _ => by go_simp⟩) SX' ?_
          simp only [Act.put, List.getElem_toArray, List.getElem_cons_zero, List.getElem_cons_succ, List.setIfInBounds_toArray, List.set_cons_zero, List.set_cons_succ]
          refine wpAnyH_done (by kernel_rfl) ?_ _
          refine NoPanic.normal ?_
          clear SX SU SX' aY cY tY bY
          go_wp2_with fail
          exact bodyPost_ret (results_DDT rfl _ _ (w.heap.size + 1) (w.heap.size + 1 + 1) O K rfl x1.out rfl x2.out) rfl ⟨by rw [HE.out]; rfl, BX.out⟩
        · have hik' : ¬ (m : Int) ≤ k := by omega
          rw [if_neg hik] at HE
          have ei : ((m : Int) - k) = ((m - k : Nat) : Int) := by omega
          have en : ((n : Int) - k) = ((n - k : Nat) : Int) := by omega
          go_wp2_with (first
            | (with_reducible refine atLoad 25 ?_
               refine load_D rfl _ rfl w.heap.size rfl known kU.out ?_))
          refine (ih (m - k) (n - k) false (some ad) cap (ds.take q) w2 hTU hDU (by omega) (by omega) (by omega)).mono ?_
          rintro ex w3 ⟨rfl, b3⟩
          obtain ⟨hO, hN⟩ := growR_ok Z32 known ⟨rfl, Z32_bytes⟩ hk (ds.take q).reverse (m - k) (n - k) false hsub
          have a3 := aU.out.next b3
          have c3 := cU.out.next b3
          have t3 := tU.out.next b3
          have B3 : Below w.heap.size w w3 := bU.out.trans (b3.mono bU.out.size)
          clear b3 kU aU cU tU bU
          generalize growR Z32 known (ds.take q).reverse (m - k) (n - k) false = C at *
          obtain ⟨O, N, ok⟩ := C
          have hOl : O.length = 32 := hO.1
          have hOb : Bytes O := hO.2
          have hNl : N.length = 32 := hN.1
          have hNb : Bytes N := hN.2
          have A3 : Hid (Dg w3 (w.heap.size + 1) Z32) := a3
          have C3 : Hid (Dg w3 (w.heap.size + 1 + 1) Z32) := c3
          clear a3 c3 hO hN
          go_wp2_with (first
            | (with_reducible refine atStore 25 ?_
               refine store_D rfl _ _ rfl (w.heap.size + 1) O rfl rfl Z32 A3.out hOl ?_
               intro X hX
               refine hideGoal ?_))
          have aX : Hid (Dg X (w.heap.size + 1) O) := hX.dg hOl
          have cX : Hid (Dg X (w.heap.size + 1 + 1) Z32) := C3.out.other hX (by omega)
          have tX : Hid (Dg X g4 T) := t3.other hX (by omega)
          have bX : Hid (Below w.heap.size w X) := hX.below _ _ (by omega) B3
          clear hX A3 C3 t3 B3
          refine openGoal ?_
          go_wp2_with (first
            | (with_reducible refine atStore 25 ?_
               refine store_D rfl _ _ rfl (w.heap.size + 1 + 1) N rfl rfl Z32 cX.out hNl ?_
               intro Y hY
               refine hideGoal ?_))
          have aY : Hid (Dg Y (w.heap.size + 1) O) := aX.out.other hY (by omega)
          have cY : Hid (Dg Y (w.heap.size + 1 + 1) N) := hY.dg hNl
          have tY : Hid (Dg Y g4 T) := tX.out.other hY (by omega)
          have bY : Hid (Below w.heap.size w Y) := hY.below _ _ (by omega) bX.out
          clear hY aX cX tX bX
          refine openGoal ?_
          go_wp2_with fail
          have tW : Dg Y.drew g4 T := ⟨tY.out.len, tY.out.here⟩
          have aW : Dg Y.drew (w.heap.size + 1) O := ⟨aY.out.len, aY.out.here⟩
          have cW : Dg Y.drew (w.heap.size + 1 + 1) N := ⟨cY.out.len, cY.out.here⟩
          have BW : Below w.heap.size w Y.drew := bY.out.drew
          refine wp_region_noPanic ?_
          refine wp_region_held (S := fun W => Dg W g4 T) follows ?_
          refine wpAnyH_take (i := 0) (v := .agg (A8 T)) rfl (by kernel_rfl) (by kernel_rfl) (by kernel_rfl) (fun _ _ _ h => h) (yields_D rfl (.tmp 14) rfl g4 rfl T hTl (fun W hW => hW)) tW ?_
          simp only [Act.put, List.getElem_toArray, List.getElem_cons_zero, List.getElem_cons_succ, List.setIfInBounds_toArray, List.set_cons_zero, List.set_cons_succ]
          refine wpAnyH_take (i := 3) (v := .agg (A8 T)) rfl (by kernel_rfl) (by kernel_rfl) (by kernel_rfl) (fun _ _ _ h => h) (yields_D rfl (.tmp 14) rfl g4 rfl T hTl (fun W hW => hW)) tW ?_
          simp only [Act.put, List.getElem_toArray, List.getElem_cons_zero, List.getElem_cons_succ, List.setIfInBounds_toArray, List.set_cons_zero, List.set_cons_succ]
          refine wpAnyH_take (i := 6) (v := .bool ok) rfl (by kernel_rfl) (by kernel_rfl) (by kernel_rfl) (fun _ _ _ h => h) (.inl ⟨rfl, fun W _ => by go_simp⟩) tW ?_
          simp only [Act.put, List.getElem_toArray, List.getElem_cons_zero, List.getElem_cons_succ, List.setIfInBounds_toArray, List.set_cons_zero, List.set_cons_succ]
          refine relist #[true, false, false, true, false, false, true, false, false, false] (by kernel_rfl) ?_
          refine any_two (i := 1) (j := 4) (by kernel_rfl) ?_ ?_
          · refine wpOp_load_D rfl rfl (.tmp 10) rfl (w.heap.size + 1) rfl O aW ⟨tW, ?_⟩
            simp only [Act.put, List.getElem_toArray, List.getElem_cons_zero, List.getElem_cons_succ, List.setIfInBounds_toArray, List.set_cons_zero, List.set_cons_succ]
            refine relist #[true, true, false, true, false, false, true, false, false, false] (by kernel_rfl) ?_
            refine any_two (i := 2) (j := 4) (by kernel_rfl) ?_ ?_
            · refine wpOp_call (f := 103) (args := #[.agg (A8 T), .agg (A8 O)]) rfl rfl (by go_simp) ?_
              refine (knotOf_any _ (hT.below BW) T O hTl hOl hTb hOb).mono ?_
              rintro ex w4 ⟨rfl, b4⟩
              have a4 := aW.next b4
              have c4 := cW.next b4
              have S4 := tW.next b4
              have B4 : Below w.heap.size w w4 := BW.trans (b4.mono BW.size)
              have hJl := knotP_len T O
              obtain ⟨J, hJ⟩ : ∃ J, knotP T O = J := ⟨_, rfl⟩
              rw [hJ] at hJl HE ⊢
              clear hJ b4 aW cW tW BW
              refine ⟨_, rfl, S4, ?_⟩
              simp only [Act.put, List.getElem_toArray, List.getElem_cons_zero, List.getElem_cons_succ, List.setIfInBounds_toArray, List.set_cons_zero, List.set_cons_succ]
              refine relist #[true, true, true, true, false, false, true, false, false, false] (by kernel_rfl) ?_
              refine any_one (i := 4) (by kernel_rfl) ?_
              refine wpOp_load_D rfl rfl (.tmp 11) rfl (w.heap.size + 1 + 1) rfl N c4 ⟨S4, ?_⟩
              simp only [Act.put, List.getElem_toArray, List.getElem_cons_zero, List.getElem_cons_succ, List.setIfInBounds_toArray, List.set_cons_zero, List.set_cons_succ]
              refine relist #[true, true, true, true, true, false, true, false, false, false] (by kernel_rfl) ?_
              refine any_one (i := 5) (by kernel_rfl) ?_
              refine wpOp_call (f := 103) (args := #[.agg (A8 T), .agg (A8 N)]) rfl rfl (by go_simp) ?_
              refine (knotOf_any _ (hT.below B4) T N hTl hNl hTb hNb).mono ?_
              rintro ex w5 ⟨rfl, b5⟩
              have d1 := a4.next b5
              have d2 := c4.next b5
              have SX := S4.next b5
              have B : Below w.heap.size w w5 := B4.trans (b5.mono B4.size)
              have hKl := knotP_len T N
              obtain ⟨K, hK⟩ : ∃ K, knotP T N = K := ⟨_, rfl⟩
              rw [hK] at hKl HE ⊢
              clear hK b5 a4 c4 S4 B4
              refine ⟨_, rfl, SX, ?_⟩
              simp only [Act.put, List.getElem_toArray, List.getElem_cons_zero, List.getElem_cons_succ, List.setIfInBounds_toArray, List.set_cons_zero, List.set_cons_succ]
              refine relist #[true, true, true, true, true, true, true, false, false, false] (by kernel_rfl) ?_
              refine any_one (i := 7) (by kernel_rfl) ?_
              refine wpOp_store_D rfl rfl (.tmp 10) (.tmp 80) rfl (w.heap.size + 1) J rfl rfl O d1 hJl ?_
              intro U hU
              have e2 := d2.other hU (by omega)
              have f1 : Dg U (w.heap.size + 1) J := hU.dg hJl
              have BU := hU.below _ _ (by omega) B
              have SU := SX.other hU (by omega)
              clear d1 d2 B hU
              refine ⟨SU, ?_⟩
              simp only [Act.put, List.getElem_toArray, List.getElem_cons_zero, List.getElem_cons_succ, List.setIfInBounds_toArray, List.set_cons_zero, List.set_cons_succ]
              refine relist #[true, true, true, true, true, true, true, true, false, false] (by kernel_rfl) ?_
              refine any_one (i := 8) (by kernel_rfl) ?_
              refine wpOp_store_D rfl rfl (.tmp 11) (.tmp 83) rfl (w.heap.size + 1 + 1) K rfl rfl N e2 hKl ?_
              intro X hX
              have x1 : Hid (Dg X (w.heap.size + 1) J) := f1.other hX (by omega)
              have x2 : Hid (Dg X (w.heap.size + 1 + 1) K) := hX.dg hKl
              have BX : Hid (Below w.heap.size w X) := hX.below _ _ (by omega) BU
              have SX' := SU.other hX (by omega)
              clear f1 e2 BU hX
              refine ⟨SX', ?_⟩
              simp only [Act.put, List.getElem_toArray, List.getElem_cons_zero, List.getElem_cons_succ, List.setIfInBounds_toArray, List.set_cons_zero, List.set_cons_succ]
              refine wpAnyH_take (i := 9) (v := .bool ok) rfl (by kernel_rfl) (by kernel_rfl) (by kernel_rfl) (fun _ _ _ h => h) (.inl ⟨rfl, fun W _ => by go_simp⟩) SX' ?_
              simp only [Act.put, List.getElem_toArray, List.getElem_cons_zero, List.getElem_cons_succ, List.setIfInBounds_toArray, List.set_cons_zero, List.set_cons_succ]
              refine wpAnyH_done (by kernel_rfl) ?_ _
              refine NoPanic.normal ?_
              clear SX SU SX' aY cY tY bY
              go_wp2_with fail
              exact bodyPost_ret (results_DDT rfl _ _ (w.heap.size + 1) (w.heap.size + 1 + 1) J K rfl x1.out rfl x2.out) rfl ⟨by rw [HE.out]; rfl, BX.out⟩
            · refine wpOp_load_D rfl rfl (.tmp 11) rfl (w.heap.size + 1 + 1) rfl N cW ⟨tW, ?_⟩
              simp only [Act.put, List.getElem_toArray, List.getElem_cons_zero, List.getElem_cons_succ, List.setIfInBounds_toArray, List.set_cons_zero, List.set_cons_succ]
              refine relist #[true, true, false, true, true, false, true, false, false, false] (by kernel_rfl) ?_
              refine any_one (i := 2) (by kernel_rfl) ?_
              refine wpOp_call (f := 103) (args := #[.agg (A8 T), .agg (A8 O)]) rfl rfl (by go_simp) ?_
              refine (knotOf_any _ (hT.below BW) T O hTl hOl hTb hOb).mono ?_
              rintro ex w4 ⟨rfl, b4⟩
              have a4 := aW.next b4
              have c4 := cW.next b4
              have S4 := tW.next b4
              have B4 : Below w.heap.size w w4 := BW.trans (b4.mono BW.size)
              have hJl := knotP_len T O
              obtain ⟨J, hJ⟩ : ∃ J, knotP T O = J := ⟨_, rfl⟩
              rw [hJ] at hJl HE ⊢
              clear hJ b4 aW cW tW BW
              refine ⟨_, rfl, S4, ?_⟩
              simp only [Act.put, List.getElem_toArray, List.getElem_cons_zero, List.getElem_cons_succ, List.setIfInBounds_toArray, List.set_cons_zero, List.set_cons_succ]
              refine relist #[true, true, true, true, true, false, true, false, false, false] (by kernel_rfl) ?_
              refine any_one (i := 5) (by kernel_rfl) ?_
              refine wpOp_call (f := 103) (args := #[.agg (A8 T), .agg (A8 N)]) rfl rfl (by go_simp) ?_
              refine (knotOf_any _ (hT.below B4) T N hTl hNl hTb hNb).mono ?_
              rintro ex w5 ⟨rfl, b5⟩
              have d1 := a4.next b5
              have d2 := c4.next b5
              have SX := S4.next b5
              have B : Below w.heap.size w w5 := B4.trans (b5.mono B4.size)
              have hKl := knotP_len T N
              obtain ⟨K, hK⟩ : ∃ K, knotP T N = K := ⟨_, rfl⟩
              rw [hK] at hKl HE ⊢
              clear hK b5 a4 c4 S4 B4
              refine ⟨_, rfl, SX, ?_⟩
              simp only [Act.put, List.getElem_toArray, List.getElem_cons_zero, List.getElem_cons_succ, List.setIfInBounds_toArray, List.set_cons_zero, List.set_cons_succ]
              refine relist #[true, true, true, true, true, true, true, false, false, false] (by kernel_rfl) ?_
              refine any_one (i := 7) (by kernel_rfl) ?_
              refine wpOp_store_D rfl rfl (.tmp 10) (.tmp 80) rfl (w.heap.size + 1) J rfl rfl O d1 hJl ?_
              intro U hU
              have e2 := d2.other hU (by omega)
              have f1 : Dg U (w.heap.size + 1) J := hU.dg hJl
              have BU := hU.below _ _ (by omega) B
              have SU := SX.other hU (by omega)
              clear d1 d2 B hU
              refine ⟨SU, ?_⟩
              simp only [Act.put, List.getElem_toArray, List.getElem_cons_zero, List.getElem_cons_succ, List.setIfInBounds_toArray, List.set_cons_zero, List.set_cons_succ]
              refine relist #[true, true, true, true, true, true, true, true, false, false] (by kernel_rfl) ?_
              refine any_one (i := 8) (by kernel_rfl) ?_
              refine wpOp_store_D rfl rfl (.tmp 11) (.tmp 83) rfl (w.heap.size + 1 + 1) K rfl rfl N e2 hKl ?_
              intro X hX
              have x1 : Hid (Dg X (w.heap.size + 1) J) := f1.other hX (by omega)
              have x2 : Hid (Dg X (w.heap.size + 1 + 1) K) := hX.dg hKl
              have BX : Hid (Below w.heap.size w X) := hX.below _ _ (by omega) BU
              have SX' := SU.other hX (by omega)
              clear f1 e2 BU hX
              refine ⟨SX', ?_⟩
              simp only [Act.put, List.getElem_toArray, List.getElem_cons_zero, List.getElem_cons_succ, List.setIfInBounds_toArray, List.set_cons_zero, List.set_cons_succ]
              refine wpAnyH_take (i := 9) (v := .bool ok) rfl (by kernel_rfl) (by kernel_rfl) (by kernel_rfl) (fun _ _ _ h => h) (.inl ⟨rfl, fun W _ => by go_simp⟩) SX' ?_
              simp only [Act.put, List.getElem_toArray, List.getElem_cons_zero, List.getElem_cons_succ, List.setIfInBounds_toArray, List.set_cons_zero, List.set_cons_succ]
              refine wpAnyH_done (by kernel_rfl) ?_ _
              refine NoPanic.normal ?_
              clear SX SU SX' aY cY tY bY
              go_wp2_with fail
              exact bodyPost_ret (results_DDT rfl _ _ (w.heap.size + 1) (w.heap.size + 1 + 1) J K rfl x1.out rfl x2.out) rfl ⟨by rw [HE.out]; rfl, BX.out⟩
          · refine wpOp_load_D rfl rfl (.tmp 11) rfl (w.heap.size + 1 + 1) rfl N cW ⟨tW, ?_⟩
            simp only [Act.put, List.getElem_toArray, List.getElem_cons_zero, List.getElem_cons_succ, List.setIfInBounds_toArray, List.set_cons_zero, List.set_cons_succ]
            refine relist #[true, false, false, true, true, false, true, false, false, false] (by kernel_rfl) ?_
            refine any_one (i := 1) (by kernel_rfl) ?_
            refine wpOp_load_D rfl rfl (.tmp 10) rfl (w.heap.size + 1) rfl O aW ⟨tW, ?_⟩
            simp only [Act.put, List.getElem_toArray, List.getElem_cons_zero, List.getElem_cons_succ, List.setIfInBounds_toArray, List.set_cons_zero, List.set_cons_succ]
            refine relist #[true, true, false, true, true, false, true, false, false, false] (by kernel_rfl) ?_
            refine any_one (i := 2) (by kernel_rfl) ?_
            refine wpOp_call (f := 103) (args := #[.agg (A8 T), .agg (A8 O)]) rfl rfl (by go_simp) ?_
            refine (knotOf_any _ (hT.below BW) T O hTl hOl hTb hOb).mono ?_
            rintro ex w4 ⟨rfl, b4⟩
            have a4 := aW.next b4
            have c4 := cW.next b4
            have S4 := tW.next b4
            have B4 : Below w.heap.size w w4 := BW.trans (b4.mono BW.size)
            have hJl := knotP_len T O
            obtain ⟨J, hJ⟩ : ∃ J, knotP T O = J := ⟨_, rfl⟩
            rw [hJ] at hJl HE ⊢
            clear hJ b4 aW cW tW BW
            refine ⟨_, rfl, S4, ?_⟩
            simp only [Act.put, List.getElem_toArray, List.getElem_cons_zero, List.getElem_cons_succ, List.setIfInBounds_toArray, List.set_cons_zero, List.set_cons_succ]
            refine relist #[true, true, true, true, true, false, true, false, false, false] (by kernel_rfl) ?_
            refine any_one (i := 5) (by kernel_rfl) ?_
            refine wpOp_call (f := 103) (args := #[.agg (A8 T), .agg (A8 N)]) rfl rfl (by go_simp) ?_
            refine (knotOf_any _ (hT.below B4) T N hTl hNl hTb hNb).mono ?_
            rintro ex w5 ⟨rfl, b5⟩
            have d1 := a4.next b5
            have d2 := c4.next b5
            have SX := S4.next b5
            have B : Below w.heap.size w w5 := B4.trans (b5.mono B4.size)
            have hKl := knotP_len T N
            obtain ⟨K, hK⟩ : ∃ K, knotP T N = K := ⟨_, rfl⟩
            rw [hK] at hKl HE ⊢
            clear hK b5 a4 c4 S4 B4
            refine ⟨_, rfl, SX, ?_⟩
            simp only [Act.put, List.getElem_toArray, List.getElem_cons_zero, List.getElem_cons_succ, List.setIfInBounds_toArray, List.set_cons_zero, List.set_cons_succ]
            refine relist #[true, true, true, true, true, true, true, false, false, false] (by kernel_rfl) ?_
            refine any_one (i := 7) (by kernel_rfl) ?_
            refine wpOp_store_D rfl rfl (.tmp 10) (.tmp 80) rfl (w.heap.size + 1) J rfl rfl O d1 hJl ?_
            intro U hU
            have e2 := d2.other hU (by omega)
            have f1 : Dg U (w.heap.size + 1) J := hU.dg hJl
            have BU := hU.below _ _ (by omega) B
            have SU := SX.other hU (by omega)
            clear d1 d2 B hU
            refine ⟨SU, ?_⟩
            simp only [Act.put, List.getElem_toArray, List.getElem_cons_zero, List.getElem_cons_succ, List.setIfInBounds_toArray, List.set_cons_zero, List.set_cons_succ]
            refine relist #[true, true, true, true, true, true, true, true, false, false] (by kernel_rfl) ?_
            refine any_one (i := 8) (by kernel_rfl) ?_
            refine wpOp_store_D rfl rfl (.tmp 11) (.tmp 83) rfl (w.heap.size + 1 + 1) K rfl rfl N e2 hKl ?_
            intro X hX
            have x1 : Hid (Dg X (w.heap.size + 1) J) := f1.other hX (by omega)
            have x2 : Hid (Dg X (w.heap.size + 1 + 1) K) := hX.dg hKl
            have BX : Hid (Below w.heap.size w X) := hX.below _ _ (by omega) BU
            have SX' := SU.other hX (by omega)
            clear f1 e2 BU hX
            refine ⟨SX', ?_⟩
            simp only [Act.put, List.getElem_toArray, List.getElem_cons_zero, List.getElem_cons_succ, List.setIfInBounds_toArray, List.set_cons_zero, List.set_cons_succ]
            refine wpAnyH_take (i := 9) (v := .bool ok) rfl (by kernel_rfl) (by kernel_rfl) (by kernel_rfl) (fun _ _ _ h => h) (.inl ⟨rfl, fun W _ => by go_simp⟩) SX' ?_
            simp only [Act.put, List.getElem_toArray, List.getElem_cons_zero, List.getElem_cons_succ, List.setIfInBounds_toArray, List.set_cons_zero, List.set_cons_succ]
            refine wpAnyH_done (by kernel_rfl) ?_ _
            refine NoPanic.normal ?_
            clear SX SU SX' aY cY tY bY
            go_wp2_with fail
            exact bodyPost_ret (results_DDT rfl _ _ (w.heap.size + 1) (w.heap.size + 1 + 1) J K rfl x1.out rfl x2.out) rfl ⟨by rw [HE.out]; rfl, BX.out⟩
end Go.Proofs.YtcmjlhcpoajbkaaDoor
