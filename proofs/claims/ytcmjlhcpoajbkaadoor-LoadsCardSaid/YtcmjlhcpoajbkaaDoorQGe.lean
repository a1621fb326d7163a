import Derived.Test.YtcmjlhcpoajbkaaDoorQRg
import Derived.Test.YtcmjlhcpoajbkaaDoorQLc
import Derived.Test.YtcmjlhcpoajbkaaDoorQLs
namespace Go.Proofs.YtcmjlhcpoajbkaaDoor
set_option maxRecDepth 10000
set_option linter.unusedSimpArgs false
open Go.RowKit
theorem growR_indep (z z' known : List Int) (l : List (List Int)) : ∀ (m n : Nat) (whole : Bool), (growR z known l m n whole).2.2 = (growR z' known l m n whole).2.2 ∧ ((growR z known l m n whole).2.2 = true → growR z known l m n whole = growR z' known l m n whole) := by
  induction l with
  | nil =>
    intro m n whole
    unfold growR
    split
    · exact ⟨rfl, fun _ => rfl⟩
    · exact ⟨rfl, fun h => by cases h⟩
  | cons t r ih =>
    intro m n whole
    unfold growR
    split
    · exact ⟨rfl, fun _ => rfl⟩
    · split
      · exact ⟨rfl, fun _ => rfl⟩
      · split
        · obtain ⟨h1, h2⟩ := ih m (halfN n) whole
          exact ⟨h1, fun h => by rw [h2 h]⟩
        · obtain ⟨h1, h2⟩ := ih (m - halfN n) (n - halfN n) false
          exact ⟨h1, fun h => by rw [h2 h]⟩
/-- What Extends tells. -/
def extP (z : List Int) (m n : Int) (ds : List (List Int)) (old now : List Int) : Bool :=
  if m < 0 ∨ n < m then false else if m = n then decide (ds = []) && decide (old = now) else if m = 0 then decide (ds = []) && decide (old = hP []) else
    (growR z old ds.reverse m.toNat n.toNat true).2.2 && (decide ((growR z old ds.reverse m.toNat n.toNat true).1 = old) && decide ((growR z old ds.reverse m.toNat n.toNat true).2.1 = now))
theorem extP_indep (z z' : List Int) (m n : Int) (ds : List (List Int)) (old now : List Int) : extP z m n ds old now = extP z' m n ds old now := by
  unfold extP
  split
  · rfl
  · split
    · rfl
    · split
      · rfl
      · obtain ⟨h1, h2⟩ := growR_indep z z' old ds.reverse m.toNat n.toNat true
        by_cases h : (growR z old ds.reverse m.toNat n.toNat true).2.2 = true
        · rw [h2 h]
        · have h' : (growR z old ds.reverse m.toNat n.toNat true).2.2 = false := by simpa using h
          rw [← h1, h', Bool.false_and, Bool.false_and]
set_option maxHeartbeats 1000000 in
theorem tGrow_any (known : List Int) (hk : Ok32 known) (q m n : Nat) (p : Option Addr) (cap : Nat) (ds : List (List Int)) (w : World) (hT : Tabs KS HS w) (hD : D32 w p q cap ds) (hm1 : 1 ≤ m) (hmn : m ≤ n) (hn : n ≤ 9223372036854775807) :
    Calls Tryd.prog 67 #[.int .i64 m, .int .i64 n, .slice p q cap, .agg (A8 known)] w fun ex w' => ex = .returned (.tuple #[.agg (A8 (growR Z32 known ds.reverse m n true).1), .agg (A8 (growR Z32 known ds.reverse m n true).2.1), .bool (growR Z32 known ds.reverse m n true).2.2]) ∧ Below w.heap.size w w' := by
  have hb0 := below3 w (.cells (A8 known) 25) (.cells Z8x32 25) (.cells Z8x32 25)
  have V0 := heap3 w (.cells (A8 known) 25) (.cells Z8x32 25) (.cells Z8x32 25)
  obtain ⟨V, hV⟩ : ∃ V, V = ((w.alloc (.cells (A8 known) 25)).alloc (.cells Z8x32 25)).alloc (.cells Z8x32 25) := ⟨_, rfl⟩
  rw [← hV] at hb0 V0
  have kV : Hid (Dg V w.heap.size known) := ⟨hk.1, V0.1⟩
  have aV : Hid (Dg V (w.heap.size + 1) Z32) := ⟨rfl, V0.2.1⟩
  have bV : Hid (Dg V (w.heap.size + 1 + 1) Z32) := ⟨rfl, V0.2.2⟩
  clear V0
  obtain ⟨hO, hN⟩ := growR_ok Z32 known ⟨rfl, Z32_bytes⟩ hk ds.reverse m n true (fun d hd => hD.all d (List.mem_reverse.1 hd))
  go_enter Tryd.func67, Tryd.ntmps67
  go_wp2_with (first
    | (with_reducible refine atLoad 25 ?_
       refine load_D rfl _ rfl w.heap.size rfl known (hV ▸ kV.out) ?_))
  refine (tgrow_any known hk q m n true p cap ds _ (hV ▸ hT.below hb0) (hV ▸ hD.below hb0) hm1 hmn hn).mono ?_
  rintro ex w1 ⟨rfl, b1⟩
  have b1' : Below V.heap.size V w1 := by rw [hV]; exact b1
  have A1 : Hid (Dg w1 (w.heap.size + 1) Z32) := aV.out.next b1'
  have C1 : Hid (Dg w1 (w.heap.size + 1 + 1) Z32) := bV.out.next b1'
  have B1 : Below w.heap.size w w1 := hb0.trans (b1'.mono hb0.size)
  clear b1 b1' kV aV bV hb0
  obtain ⟨C, hC⟩ : ∃ C, growR Z32 known ds.reverse m n true = C := ⟨_, rfl⟩
  have HC : Hid (growR Z32 known ds.reverse m n true = C) := hC
  rw [hC] at hO hN ⊢
  clear hC
  obtain ⟨O, N, ok⟩ := C
  have hOl : O.length = 32 := hO.1
  have hNl : N.length = 32 := hN.1
  clear hO hN
  go_wp2_with (first
    | (with_reducible refine atStore 25 ?_
       refine store_D rfl _ _ rfl (w.heap.size + 1) O rfl rfl Z32 A1.out hOl ?_
       intro X hX
       refine hideGoal ?_))
  have aX : Hid (Dg X (w.heap.size + 1) O) := hX.dg hOl
  have cX : Hid (Dg X (w.heap.size + 1 + 1) Z32) := C1.out.other hX (by omega)
  have bX : Hid (Below w.heap.size w X) := hX.below _ _ (by omega) B1
  clear hX A1 C1 B1
  refine openGoal ?_
  go_wp2_with (first
    | (with_reducible refine atStore 25 ?_
       refine store_D rfl _ _ rfl (w.heap.size + 1 + 1) N rfl rfl Z32 cX.out hNl ?_
       intro Y hY
       refine hideGoal ?_))
  have aY : Hid (Dg Y (w.heap.size + 1) O) := aX.out.other hY (by omega)
  have cY : Hid (Dg Y (w.heap.size + 1 + 1) N) := hY.dg hNl
  have bY : Hid (Below w.heap.size w Y) := hY.below _ _ (by omega) bX.out
  clear hY aX cX bX
  refine openGoal ?_
  go_wp2_with fail
  exact bodyPost_ret (results_DDT rfl _ _ (w.heap.size + 1) (w.heap.size + 1 + 1) O N rfl aY.out rfl cY.out) rfl ⟨by rw [HC.out]; rfl, bY.out⟩
theorem in8_nil (w : World) : In8 w none 0 0 [] := ⟨rfl, fun j => by simp, by omega, by omega, by omega, fun h => by simp at h⟩
set_option maxHeartbeats 4000000 in
theorem extends_any (m n : Int) (q : Nat) (p : Option Addr) (cap : Nat) (ds : List (List Int)) (old now : List Int) (ho : Ok32 old) (hw : Ok32 now) (w : World) (hT : Tabs KS HS w) (hD : D32 w p q cap ds) (hn : n ≤ 9223372036854775807) :
    Calls Tryd.prog 29 #[.int .i64 m, .int .i64 n, .slice p q cap, .agg (A8 old), .agg (A8 now)] w fun ex w' => ex = .returned (.bool (extP Z32 m n ds old now)) ∧ Below w.heap.size w w' := by
  have hb0 := below2 w (.cells (A8 old) 25) (.cells (A8 now) 25)
  have V0 := heap2 w (.cells (A8 old) 25) (.cells (A8 now) 25)
  obtain ⟨V, hV⟩ : ∃ V, V = (w.alloc (.cells (A8 old) 25)).alloc (.cells (A8 now) 25) := ⟨_, rfl⟩
  rw [← hV] at hb0 V0
  have oV : Hid (Dg V w.heap.size old) := ⟨ho.1, V0.1⟩
  have wV : Hid (Dg V (w.heap.size + 1) now) := ⟨hw.1, V0.2⟩
  clear V0
  have hol := ho.1
  have hob := ho.2
  have hwl := hw.1
  have hwb := hw.2
  have hq0 := eq0 q
  have hdsq : ds = [] ↔ q = 0 := by rw [← List.length_eq_zero_iff, hD.len]
  by_cases h1 : m < 0
  · have HE : Hid (extP Z32 m n ds old now = false) := by
      show extP Z32 m n ds old now = _
      unfold extP; rw [if_pos (.inl h1)]
    go_enter Tryd.func29, Tryd.ntmps29
    go_wp2_with fail
    go_ret
    exact ⟨by rw [HE.out]; rfl, by rw [← hV]; exact hb0⟩
  · by_cases h2 : n < m
    · have HE : Hid (extP Z32 m n ds old now = false) := by
        show extP Z32 m n ds old now = _
        unfold extP; rw [if_pos (.inr h2)]
      go_enter Tryd.func29, Tryd.ntmps29
      go_wp2_with fail
      go_ret
      exact ⟨by rw [HE.out]; rfl, by rw [← hV]; exact hb0⟩
    · have h12 : ¬ (m < 0 ∨ n < m) := by omega
      by_cases h3 : m = n
      · subst h3
        have hmn : (m == m) = true := by simp
        have HE : Hid (extP Z32 m m ds old now = (decide (q = 0) && decide (old = now))) := by
          show extP Z32 m m ds old now = _
          unfold extP; rw [if_neg h12, if_pos rfl]
          simp only [hdsq]
        by_cases hz : q = 0
        · rw [decide_eq_true hz] at hq0 HE
          go_enter Tryd.func29, Tryd.ntmps29
          go_wp2_with (first
            | (with_reducible refine atLoad 25 ?_
               first
                 | refine load_D rfl _ rfl w.heap.size rfl old (hV ▸ oV.out) ?_
                 | refine load_D rfl _ rfl (w.heap.size + 1) rfl now (hV ▸ wV.out) ?_)
            | (with_reducible refine atBin .eql 25 25 ?_
               refine wpList_eql rfl _ _ rfl old now hol hob hwl hwb rfl rfl ?_))
          go_ret
          exact ⟨by rw [HE.out]; rfl, by rw [← hV]; exact hb0⟩
        · rw [decide_eq_false hz] at hq0 HE
          go_enter Tryd.func29, Tryd.ntmps29
          go_wp2_with fail
          go_ret
          exact ⟨by rw [HE.out]; rfl, by rw [← hV]; exact hb0⟩
      · have hmn : (m == n) = false := by simp [h3]
        by_cases h4 : m = 0
        · have hm0 : (m == 0) = true := by simp [h4]
          have HE : Hid (extP Z32 m n ds old now = (decide (q = 0) && decide (old = hP []))) := by
            show extP Z32 m n ds old now = _
            unfold extP; rw [if_neg h12, if_neg h3, if_pos h4]
            simp only [hdsq]
          have bV : Below V.heap.size V V.drew := (Below.refl _ _).drew
          have S0 : Dg V.drew w.heap.size old := ⟨oV.out.len, oV.out.here⟩
          have l0 := oV.out.lt
          by_cases hz : q = 0
          · rw [decide_eq_true hz] at hq0 HE
            go_enter Tryd.func29, Tryd.ntmps29
            go_wp2_with fail
            refine wp_region_noPanic ?_
            refine wp_region_held (S := fun W => Dg W w.heap.size old) follows ?_
            refine wpAnyH_take (i := 0) (v := .slice p q cap) rfl (by kernel_rfl) (by kernel_rfl) (by kernel_rfl) (fun _ _ _ h => h) (.inl ⟨rfl, fun W _ => by go_simp⟩) (hV ▸ S0) ?_
            simp only [Act.put, List.getElem_toArray, List.getElem_cons_zero, List.getElem_cons_succ, List.setIfInBounds_toArray, List.set_cons_zero, List.set_cons_succ]
            refine wpAnyH_take (i := 1) (v := .int .i64 q) rfl (by kernel_rfl) (by kernel_rfl) (by kernel_rfl) (fun _ _ _ h => h) (.inl ⟨rfl, fun W _ => by go_simp⟩) (hV ▸ S0) ?_
            simp only [Act.put, List.getElem_toArray, List.getElem_cons_zero, List.getElem_cons_succ, List.setIfInBounds_toArray, List.set_cons_zero, List.set_cons_succ]
            refine wpAnyH_take (i := 2) (v := .bool true) rfl (by kernel_rfl) (by kernel_rfl) (by kernel_rfl) (fun _ _ _ h => h) (.inl ⟨rfl, fun W _ => by go_simp⟩) (hV ▸ S0) ?_
            simp only [Act.put, List.getElem_toArray, List.getElem_cons_zero, List.getElem_cons_succ, List.setIfInBounds_toArray, List.set_cons_zero, List.set_cons_succ]
            refine wpAnyH_take (i := 3) (v := .bool true) rfl (by kernel_rfl) (by kernel_rfl) (by kernel_rfl) (fun _ _ _ h => h) (.inl ⟨rfl, fun W _ => by go_simp⟩) (hV ▸ S0) ?_
            simp only [Act.put, List.getElem_toArray, List.getElem_cons_zero, List.getElem_cons_succ, List.setIfInBounds_toArray, List.set_cons_zero, List.set_cons_succ]
            refine wpAnyH_take (i := 4) (v := .agg (A8 old)) rfl (by kernel_rfl) (by kernel_rfl) (by kernel_rfl) (fun _ _ _ h => h) (yields_D rfl (.tmp 8) rfl w.heap.size rfl old hol (fun W hW => hW)) (hV ▸ S0) ?_
            simp only [Act.put, List.getElem_toArray, List.getElem_cons_zero, List.getElem_cons_succ, List.setIfInBounds_toArray, List.set_cons_zero, List.set_cons_succ]
            refine relist #[true, true, true, true, true, false, false, false, false] (by kernel_rfl) ?_
            refine any_one (i := 5) (by kernel_rfl) ?_
            refine wpOp_callG (f := 54) (args := #[.slice none 0 0]) rfl rfl (by go_simp) ?_
            refine (hP_any _ (hV ▸ hT.below (hb0.trans (bV.mono hb0.size))) none 0 0 [] (in8_nil _)).mono ?_
            rintro ex w1 ⟨rfl, b1⟩
            have B1 : Below V.heap.size V w1 := by rw [hV]; exact ((Below.refl _ _).drew).trans b1
            have S1 : Dg w1 w.heap.size old := oV.out.below B1 l0
            have hhl := hP_len []
            have hhb := hP_bytes []
            obtain ⟨D, hD'⟩ : ∃ D, hP [] = D := ⟨_, rfl⟩
            rw [hD'] at hhl hhb HE ⊢
            clear hD'
            refine ⟨_, rfl, S1, ?_⟩
            simp only [Act.put, List.getElem_toArray, List.getElem_cons_zero, List.getElem_cons_succ, List.setIfInBounds_toArray, List.set_cons_zero, List.set_cons_succ]
            refine wpAnyH_take (i := 6) (v := .bool (decide (old = D))) rfl (by kernel_rfl) (by kernel_rfl) (by kernel_rfl) (fun _ _ _ h => h) (yields_eql rfl (.tmp 41) (.tmp 42) rfl old D hol hob hhl hhb rfl rfl) S1 ?_
            simp only [Act.put, List.getElem_toArray, List.getElem_cons_zero, List.getElem_cons_succ, List.setIfInBounds_toArray, List.set_cons_zero, List.set_cons_succ]
            generalize decide (old = D) = r at *
            refine wpAnyH_take (i := 7) (v := .bool r) rfl (by kernel_rfl) (by kernel_rfl) (by kernel_rfl) (fun _ _ _ h => h) (.inl ⟨rfl, fun W _ => by go_simp⟩) S1 ?_
            simp only [Act.put, List.getElem_toArray, List.getElem_cons_zero, List.getElem_cons_succ, List.setIfInBounds_toArray, List.set_cons_zero, List.set_cons_succ]
            refine wpAnyH_take (i := 8) (v := .bool r) rfl (by kernel_rfl) (by kernel_rfl) (by kernel_rfl) (fun _ _ _ h => h) (.inl ⟨rfl, fun W _ => by go_simp⟩) S1 ?_
            simp only [Act.put, List.getElem_toArray, List.getElem_cons_zero, List.getElem_cons_succ, List.setIfInBounds_toArray, List.set_cons_zero, List.set_cons_succ]
            refine wpAnyH_done (by kernel_rfl) ?_ _
            refine NoPanic.normal ?_
            have bU : Hid (Below w.heap.size w w1) := hb0.trans (B1.mono hb0.size)
            clear B1 b1 S0 S1 hb0 bV
            go_wp2_with fail
            go_ret
            exact ⟨by rw [HE.out]; rfl, bU.out⟩
          · rw [decide_eq_false hz] at hq0 HE
            go_enter Tryd.func29, Tryd.ntmps29
            go_wp2_with fail
            refine wp_region_noPanic ?_
            refine wp_region_held (S := fun W => Dg W w.heap.size old) follows ?_
            refine wpAnyH_take (i := 0) (v := .slice p q cap) rfl (by kernel_rfl) (by kernel_rfl) (by kernel_rfl) (fun _ _ _ h => h) (.inl ⟨rfl, fun W _ => by go_simp⟩) (hV ▸ S0) ?_
            simp only [Act.put, List.getElem_toArray, List.getElem_cons_zero, List.getElem_cons_succ, List.setIfInBounds_toArray, List.set_cons_zero, List.set_cons_succ]
            refine wpAnyH_take (i := 1) (v := .int .i64 q) rfl (by kernel_rfl) (by kernel_rfl) (by kernel_rfl) (fun _ _ _ h => h) (.inl ⟨rfl, fun W _ => by go_simp⟩) (hV ▸ S0) ?_
            simp only [Act.put, List.getElem_toArray, List.getElem_cons_zero, List.getElem_cons_succ, List.setIfInBounds_toArray, List.set_cons_zero, List.set_cons_succ]
            refine wpAnyH_take (i := 2) (v := .bool false) rfl (by kernel_rfl) (by kernel_rfl) (by kernel_rfl) (fun _ _ _ h => h) (.inl ⟨rfl, fun W _ => by go_simp⟩) (hV ▸ S0) ?_
            simp only [Act.put, List.getElem_toArray, List.getElem_cons_zero, List.getElem_cons_succ, List.setIfInBounds_toArray, List.set_cons_zero, List.set_cons_succ]
            refine wpAnyH_take (i := 3) (v := .bool false) rfl (by kernel_rfl) (by kernel_rfl) (by kernel_rfl) (fun _ _ _ h => h) (.inl ⟨rfl, fun W _ => by go_simp⟩) (hV ▸ S0) ?_
            simp only [Act.put, List.getElem_toArray, List.getElem_cons_zero, List.getElem_cons_succ, List.setIfInBounds_toArray, List.set_cons_zero, List.set_cons_succ]
            refine wpAnyH_take (i := 4) (v := undef) rfl (by kernel_rfl) (by kernel_rfl) (by kernel_rfl) (fun _ _ _ h => h) (.inr ⟨rfl, rfl⟩) (hV ▸ S0) ?_
            simp only [Act.put, List.getElem_toArray, List.getElem_cons_zero, List.getElem_cons_succ, List.setIfInBounds_toArray, List.set_cons_zero, List.set_cons_succ]
            refine relist #[true, true, true, true, true, false, false, false, false] (by kernel_rfl) ?_
            refine any_one (i := 5) (by kernel_rfl) ?_
            refine wpOp_unwanted rfl rfl ⟨(hV ▸ S0), ?_⟩
            simp only [Act.put, List.getElem_toArray, List.getElem_cons_zero, List.getElem_cons_succ, List.setIfInBounds_toArray, List.set_cons_zero, List.set_cons_succ]
            refine wpAnyH_take (i := 6) (v := undef) rfl (by kernel_rfl) (by kernel_rfl) (by kernel_rfl) (fun _ _ _ h => h) (.inr ⟨rfl, rfl⟩) (hV ▸ S0) ?_
            simp only [Act.put, List.getElem_toArray, List.getElem_cons_zero, List.getElem_cons_succ, List.setIfInBounds_toArray, List.set_cons_zero, List.set_cons_succ]
            refine wpAnyH_take (i := 7) (v := .bool false) rfl (by kernel_rfl) (by kernel_rfl) (by kernel_rfl) (fun _ _ _ h => h) (.inl ⟨rfl, fun W _ => by go_simp⟩) (hV ▸ S0) ?_
            simp only [Act.put, List.getElem_toArray, List.getElem_cons_zero, List.getElem_cons_succ, List.setIfInBounds_toArray, List.set_cons_zero, List.set_cons_succ]
            refine wpAnyH_take (i := 8) (v := .bool false) rfl (by kernel_rfl) (by kernel_rfl) (by kernel_rfl) (fun _ _ _ h => h) (.inl ⟨rfl, fun W _ => by go_simp⟩) (hV ▸ S0) ?_
            simp only [Act.put, List.getElem_toArray, List.getElem_cons_zero, List.getElem_cons_succ, List.setIfInBounds_toArray, List.set_cons_zero, List.set_cons_succ]
            refine wpAnyH_done (by kernel_rfl) ?_ _
            refine NoPanic.normal ?_
            have bU : Hid (Below w.heap.size w V.drew) := hb0.trans (bV.mono hb0.size)
            clear S0 hb0 bV
            go_wp2_with fail
            go_ret
            exact ⟨by rw [HE.out]; rfl, by have := bU.out; rw [hV] at this; exact this⟩
        · have hm0 : (m == 0) = false := by simp [h4]
          obtain ⟨a, rfl⟩ : ∃ a : Nat, m = a := ⟨m.toNat, by omega⟩
          obtain ⟨b, rfl⟩ : ∃ b : Nat, n = b := ⟨n.toNat, by omega⟩
          have HE : Hid (extP Z32 a b ds old now = ((growR Z32 old ds.reverse a b true).2.2 && (decide ((growR Z32 old ds.reverse a b true).1 = old) && decide ((growR Z32 old ds.reverse a b true).2.1 = now)))) := by
            show extP Z32 a b ds old now = _
            unfold extP; rw [if_neg h12, if_neg h3, if_neg h4, Int.toNat_natCast, Int.toNat_natCast]
          obtain ⟨hO, hN⟩ := growR_ok Z32 old ⟨rfl, Z32_bytes⟩ ho ds.reverse a b true (fun d hd => hD.all d (List.mem_reverse.1 hd))
          go_enter Tryd.func29, Tryd.ntmps29
          go_wp2_with (first
            | (with_reducible refine atLoad 25 ?_
               refine load_D rfl _ rfl w.heap.size rfl old (hV ▸ oV.out) ?_))
          refine (tGrow_any old ho q a b p cap ds _ (hV ▸ hT.below hb0) (hV ▸ hD.below hb0) (by omega) (by omega) (by omega)).mono ?_
          rintro ex w1 ⟨rfl, b1⟩
          have b1' : Below V.heap.size V w1 := by rw [hV]; exact b1
          have o1 := oV.out.next b1'
          have n1 := wV.out.next b1'
          have B1 : Below w.heap.size w w1 := hb0.trans (b1'.mono hb0.size)
          have l1 := n1.lt
          have V1 := heap2 w1 (.cells Z8x32 25) (.cells Z8x32 25)
          have e1 : Hid (Dg ((w1.alloc (.cells Z8x32 25)).alloc (.cells Z8x32 25)) w1.heap.size Z32) := ⟨rfl, V1.1⟩
          have e2 : Hid (Dg ((w1.alloc (.cells Z8x32 25)).alloc (.cells Z8x32 25)) (w1.heap.size + 1) Z32) := ⟨rfl, V1.2⟩
          clear b1 b1' oV wV hb0 V1
          obtain ⟨C, hC⟩ : ∃ C, growR Z32 old ds.reverse a b true = C := ⟨_, rfl⟩
          rw [hC] at hO hN HE ⊢
          clear hC
          obtain ⟨O, N, ok⟩ := C
          have hOl : O.length = 32 := hO.1
          have hOb : Bytes O := hO.2
          have hNl : N.length = 32 := hN.1
          have hNb : Bytes N := hN.2
          clear hO hN
          go_wp2_with (first
            | (with_reducible refine atStore 25 ?_
               refine store_D rfl _ _ rfl w1.heap.size O rfl rfl Z32 e1.out hOl ?_
               intro X hX
               refine hideGoal ?_))
          have aX : Hid (Dg X w1.heap.size O) := hX.dg hOl
          have cX : Hid (Dg X (w1.heap.size + 1) Z32) := e2.out.other hX (by omega)
          have oX : Hid (Dg X w.heap.size old) := ((o1.alloc _).alloc _).other hX (by omega)
          have nX : Hid (Dg X (w.heap.size + 1) now) := ((n1.alloc _).alloc _).other hX (by omega)
          have bX : Hid (Below w.heap.size w X) := hX.below _ _ (by omega) ((B1.alloc (by omega) _).alloc (by simp; omega) _)
          clear hX e1 e2 o1 n1 B1
          generalize w1.heap.size = g1 at *
          refine openGoal ?_
          go_wp2_with (first
            | (with_reducible refine atStore 25 ?_
               refine store_D rfl _ _ rfl (g1 + 1) N rfl rfl Z32 cX.out hNl ?_
               intro Y hY
               refine hideGoal ?_))
          have aY : Hid (Dg Y g1 O) := aX.out.other hY (by omega)
          have cY : Hid (Dg Y (g1 + 1) N) := hY.dg hNl
          have oY : Hid (Dg Y w.heap.size old) := oX.out.other hY (by omega)
          have nY : Hid (Dg Y (w.heap.size + 1) now) := nX.out.other hY (by omega)
          have bY : Hid (Below w.heap.size w Y) := hY.below _ _ (by omega) bX.out
          clear hY aX cX oX nX bX
          refine openGoal ?_
          cases ok with
          | false =>
            go_wp2_with fail
            go_ret
            exact ⟨by rw [HE.out]; rfl, bY.out⟩
          | true =>
            by_cases hB : O = old
            · have hd : decide (O = old) = true := decide_eq_true hB
              rw [hd] at HE
              have hBd : Hid (decide (O = old) = true) := hd
              clear hB hd
              go_wp2_with (first
                | (with_reducible refine atLoad 25 ?_
                   first
                     | refine load_D rfl _ rfl g1 rfl O aY.out ?_
                     | refine load_D rfl _ rfl w.heap.size rfl old oY.out ?_
                     | refine load_D rfl _ rfl (g1 + 1) rfl N cY.out ?_
                     | refine load_D rfl _ rfl (w.heap.size + 1) rfl now nY.out ?_)
                | (with_reducible refine atBin .eql 25 25 ?_
                   first
                     | (refine wpList_eql rfl _ _ rfl O old hOl hOb hol hob rfl rfl ?_
                        rw [hBd.out])
                     | refine wpList_eql rfl _ _ rfl N now hNl hNb hwl hwb rfl rfl ?_))
              go_ret
              exact ⟨by rw [HE.out]; rfl, bY.out⟩
            · have hd : decide (O = old) = false := decide_eq_false hB
              rw [hd] at HE
              have hBd : Hid (decide (O = old) = false) := hd
              clear hB hd
              go_wp2_with (first
                | (with_reducible refine atLoad 25 ?_
                   first
                     | refine load_D rfl _ rfl g1 rfl O aY.out ?_
                     | refine load_D rfl _ rfl w.heap.size rfl old oY.out ?_)
                | (with_reducible refine atBin .eql 25 25 ?_
                   refine wpList_eql rfl _ _ rfl O old hOl hOb hol hob rfl rfl ?_
                   rw [hBd.out]))
              go_ret
              exact ⟨by rw [HE.out]; rfl, bY.out⟩
set_option maxHeartbeats 4000000 in
theorem refExtends_any (m n : Int) (q : Nat) (p : Option Addr) (cap : Nat) (ds : List (List Int)) (old now : List Int) (ho : Ok32 old) (hw : Ok32 now) (w : World) (hD : D32 w p q cap ds) (hn : n ≤ 9223372036854775807) :
    Calls Tryd.prog 30 #[.int .i64 m, .int .i64 n, .slice p q cap, .agg (A8 old), .agg (A8 now)] w fun ex w' => ex = .returned (.bool (extP old m n ds old now)) ∧ Below w.heap.size w w' := by
  have hb0 := below2 w (.cells (A8 old) 25) (.cells (A8 now) 25)
  have V0 := heap2 w (.cells (A8 old) 25) (.cells (A8 now) 25)
  obtain ⟨V, hV⟩ : ∃ V, V = (w.alloc (.cells (A8 old) 25)).alloc (.cells (A8 now) 25) := ⟨_, rfl⟩
  rw [← hV] at hb0 V0
  have oV : Hid (Dg V w.heap.size old) := ⟨ho.1, V0.1⟩
  have wV : Hid (Dg V (w.heap.size + 1) now) := ⟨hw.1, V0.2⟩
  clear V0
  have hol := ho.1
  have hob := ho.2
  have hwl := hw.1
  have hwb := hw.2
  have hq0 := eq0 q
  have hdsq : ds = [] ↔ q = 0 := by rw [← List.length_eq_zero_iff, hD.len]
  by_cases h1 : m < 0
  · have HE : Hid (extP old m n ds old now = false) := by
      show extP old m n ds old now = _
      unfold extP; rw [if_pos (.inl h1)]
    go_enter Tryd.func30, Tryd.ntmps30
    go_wp2_with fail
    go_ret
    exact ⟨by rw [HE.out]; rfl, by rw [← hV]; exact hb0⟩
  · by_cases h2 : n < m
    · have HE : Hid (extP old m n ds old now = false) := by
        show extP old m n ds old now = _
        unfold extP; rw [if_pos (.inr h2)]
      go_enter Tryd.func30, Tryd.ntmps30
      go_wp2_with fail
      go_ret
      exact ⟨by rw [HE.out]; rfl, by rw [← hV]; exact hb0⟩
    · have h12 : ¬ (m < 0 ∨ n < m) := by omega
      by_cases h3 : m = n
      · subst h3
        have hmn : (m == m) = true := by simp
        have HE : Hid (extP old m m ds old now = (decide (q = 0) && decide (old = now))) := by
          show extP old m m ds old now = _
          unfold extP; rw [if_neg h12, if_pos rfl]
          simp only [hdsq]
        by_cases hz : q = 0
        · rw [decide_eq_true hz] at hq0 HE
          go_enter Tryd.func30, Tryd.ntmps30
          go_wp2_with (first
            | (with_reducible refine atLoad 25 ?_
               first
                 | refine load_D rfl _ rfl w.heap.size rfl old (hV ▸ oV.out) ?_
                 | refine load_D rfl _ rfl (w.heap.size + 1) rfl now (hV ▸ wV.out) ?_)
            | (with_reducible refine atBin .eql 25 25 ?_
               refine wpList_eql rfl _ _ rfl old now hol hob hwl hwb rfl rfl ?_))
          go_ret
          exact ⟨by rw [HE.out]; rfl, by rw [← hV]; exact hb0⟩
        · rw [decide_eq_false hz] at hq0 HE
          go_enter Tryd.func30, Tryd.ntmps30
          go_wp2_with fail
          go_ret
          exact ⟨by rw [HE.out]; rfl, by rw [← hV]; exact hb0⟩
      · have hmn : (m == n) = false := by simp [h3]
        by_cases h4 : m = 0
        · have hm0 : (m == 0) = true := by simp [h4]
          have HE : Hid (extP old m n ds old now = (decide (q = 0) && decide (old = hP []))) := by
            show extP old m n ds old now = _
            unfold extP; rw [if_neg h12, if_neg h3, if_pos h4]
            simp only [hdsq]
          have bV : Below V.heap.size V V.drew := (Below.refl _ _).drew
          have S0 : Dg V.drew w.heap.size old := ⟨oV.out.len, oV.out.here⟩
          have l0 := oV.out.lt
          by_cases hz : q = 0
          · rw [decide_eq_true hz] at hq0 HE
            go_enter Tryd.func30, Tryd.ntmps30
            go_wp2_with fail
            refine wp_region_noPanic ?_
            refine wp_region_held (S := fun W => Dg W w.heap.size old) follows ?_
            refine wpAnyH_take (i := 0) (v := .slice p q cap) rfl (by kernel_rfl) (by kernel_rfl) (by kernel_rfl) (fun _ _ _ h => h) (.inl ⟨rfl, fun W _ => by go_simp⟩) (hV ▸ S0) ?_
            simp only [Act.put, List.getElem_toArray, List.getElem_cons_zero, List.getElem_cons_succ, List.setIfInBounds_toArray, List.set_cons_zero, List.set_cons_succ]
            refine wpAnyH_take (i := 1) (v := .int .i64 q) rfl (by kernel_rfl) (by kernel_rfl) (by kernel_rfl) (fun _ _ _ h => h) (.inl ⟨rfl, fun W _ => by go_simp⟩) (hV ▸ S0) ?_
            simp only [Act.put, List.getElem_toArray, List.getElem_cons_zero, List.getElem_cons_succ, List.setIfInBounds_toArray, List.set_cons_zero, List.set_cons_succ]
            refine wpAnyH_take (i := 2) (v := .bool true) rfl (by kernel_rfl) (by kernel_rfl) (by kernel_rfl) (fun _ _ _ h => h) (.inl ⟨rfl, fun W _ => by go_simp⟩) (hV ▸ S0) ?_
            simp only [Act.put, List.getElem_toArray, List.getElem_cons_zero, List.getElem_cons_succ, List.setIfInBounds_toArray, List.set_cons_zero, List.set_cons_succ]
            refine wpAnyH_take (i := 3) (v := .bool true) rfl (by kernel_rfl) (by kernel_rfl) (by kernel_rfl) (fun _ _ _ h => h) (.inl ⟨rfl, fun W _ => by go_simp⟩) (hV ▸ S0) ?_
            simp only [Act.put, List.getElem_toArray, List.getElem_cons_zero, List.getElem_cons_succ, List.setIfInBounds_toArray, List.set_cons_zero, List.set_cons_succ]
            refine wpAnyH_take (i := 4) (v := .agg (A8 old)) rfl (by kernel_rfl) (by kernel_rfl) (by kernel_rfl) (fun _ _ _ h => h) (yields_D rfl (.tmp 8) rfl w.heap.size rfl old hol (fun W hW => hW)) (hV ▸ S0) ?_
            simp only [Act.put, List.getElem_toArray, List.getElem_cons_zero, List.getElem_cons_succ, List.setIfInBounds_toArray, List.set_cons_zero, List.set_cons_succ]
            refine relist #[true, true, true, true, true, false, false, false, false] (by kernel_rfl) ?_
            refine any_one (i := 5) (by kernel_rfl) ?_
            refine wpOp_callG (f := 19) (args := #[.string ⟨#[]⟩]) rfl rfl (by go_simp) ?_
            refine (ref_any _ [] [] rfl rfl _ (by simp)).mono ?_
            rintro ex w1 ⟨rfl, b1⟩
            have B1 : Below V.heap.size V w1 := by rw [hV]; exact ((Below.refl _ _).drew).trans b1
            have S1 : Dg w1 w.heap.size old := oV.out.below B1 l0
            have hhl := hP_len []
            have hhb := hP_bytes []
            obtain ⟨D, hD'⟩ : ∃ D, hP [] = D := ⟨_, rfl⟩
            rw [hD'] at hhl hhb HE ⊢
            clear hD'
            refine ⟨_, rfl, S1, ?_⟩
            simp only [Act.put, List.getElem_toArray, List.getElem_cons_zero, List.getElem_cons_succ, List.setIfInBounds_toArray, List.set_cons_zero, List.set_cons_succ]
            refine wpAnyH_take (i := 6) (v := .bool (decide (old = D))) rfl (by kernel_rfl) (by kernel_rfl) (by kernel_rfl) (fun _ _ _ h => h) (yields_eql rfl (.tmp 38) (.tmp 39) rfl old D hol hob hhl hhb rfl rfl) S1 ?_
            simp only [Act.put, List.getElem_toArray, List.getElem_cons_zero, List.getElem_cons_succ, List.setIfInBounds_toArray, List.set_cons_zero, List.set_cons_succ]
            generalize decide (old = D) = r at *
            refine wpAnyH_take (i := 7) (v := .bool r) rfl (by kernel_rfl) (by kernel_rfl) (by kernel_rfl) (fun _ _ _ h => h) (.inl ⟨rfl, fun W _ => by go_simp⟩) S1 ?_
            simp only [Act.put, List.getElem_toArray, List.getElem_cons_zero, List.getElem_cons_succ, List.setIfInBounds_toArray, List.set_cons_zero, List.set_cons_succ]
            refine wpAnyH_take (i := 8) (v := .bool r) rfl (by kernel_rfl) (by kernel_rfl) (by kernel_rfl) (fun _ _ _ h => h) (.inl ⟨rfl, fun W _ => by go_simp⟩) S1 ?_
            simp only [Act.put, List.getElem_toArray, List.getElem_cons_zero, List.getElem_cons_succ, List.setIfInBounds_toArray, List.set_cons_zero, List.set_cons_succ]
            refine wpAnyH_done (by kernel_rfl) ?_ _
            refine NoPanic.normal ?_
            have bU : Hid (Below w.heap.size w w1) := hb0.trans (B1.mono hb0.size)
            clear B1 b1 S0 S1 hb0 bV
            go_wp2_with fail
            go_ret
            exact ⟨by rw [HE.out]; rfl, bU.out⟩
          · rw [decide_eq_false hz] at hq0 HE
            go_enter Tryd.func30, Tryd.ntmps30
            go_wp2_with fail
            refine wp_region_noPanic ?_
            refine wp_region_held (S := fun W => Dg W w.heap.size old) follows ?_
            refine wpAnyH_take (i := 0) (v := .slice p q cap) rfl (by kernel_rfl) (by kernel_rfl) (by kernel_rfl) (fun _ _ _ h => h) (.inl ⟨rfl, fun W _ => by go_simp⟩) (hV ▸ S0) ?_
            simp only [Act.put, List.getElem_toArray, List.getElem_cons_zero, List.getElem_cons_succ, List.setIfInBounds_toArray, List.set_cons_zero, List.set_cons_succ]
            refine wpAnyH_take (i := 1) (v := .int .i64 q) rfl (by kernel_rfl) (by kernel_rfl) (by kernel_rfl) (fun _ _ _ h => h) (.inl ⟨rfl, fun W _ => by go_simp⟩) (hV ▸ S0) ?_
            simp only [Act.put, List.getElem_toArray, List.getElem_cons_zero, List.getElem_cons_succ, List.setIfInBounds_toArray, List.set_cons_zero, List.set_cons_succ]
            refine wpAnyH_take (i := 2) (v := .bool false) rfl (by kernel_rfl) (by kernel_rfl) (by kernel_rfl) (fun _ _ _ h => h) (.inl ⟨rfl, fun W _ => by go_simp⟩) (hV ▸ S0) ?_
            simp only [Act.put, List.getElem_toArray, List.getElem_cons_zero, List.getElem_cons_succ, List.setIfInBounds_toArray, List.set_cons_zero, List.set_cons_succ]
            refine wpAnyH_take (i := 3) (v := .bool false) rfl (by kernel_rfl) (by kernel_rfl) (by kernel_rfl) (fun _ _ _ h => h) (.inl ⟨rfl, fun W _ => by go_simp⟩) (hV ▸ S0) ?_
            simp only [Act.put, List.getElem_toArray, List.getElem_cons_zero, List.getElem_cons_succ, List.setIfInBounds_toArray, List.set_cons_zero, List.set_cons_succ]
            refine wpAnyH_take (i := 4) (v := undef) rfl (by kernel_rfl) (by kernel_rfl) (by kernel_rfl) (fun _ _ _ h => h) (.inr ⟨rfl, rfl⟩) (hV ▸ S0) ?_
            simp only [Act.put, List.getElem_toArray, List.getElem_cons_zero, List.getElem_cons_succ, List.setIfInBounds_toArray, List.set_cons_zero, List.set_cons_succ]
            refine relist #[true, true, true, true, true, false, false, false, false] (by kernel_rfl) ?_
            refine any_one (i := 5) (by kernel_rfl) ?_
            refine wpOp_unwanted rfl rfl ⟨(hV ▸ S0), ?_⟩
            simp only [Act.put, List.getElem_toArray, List.getElem_cons_zero, List.getElem_cons_succ, List.setIfInBounds_toArray, List.set_cons_zero, List.set_cons_succ]
            refine wpAnyH_take (i := 6) (v := undef) rfl (by kernel_rfl) (by kernel_rfl) (by kernel_rfl) (fun _ _ _ h => h) (.inr ⟨rfl, rfl⟩) (hV ▸ S0) ?_
            simp only [Act.put, List.getElem_toArray, List.getElem_cons_zero, List.getElem_cons_succ, List.setIfInBounds_toArray, List.set_cons_zero, List.set_cons_succ]
            refine wpAnyH_take (i := 7) (v := .bool false) rfl (by kernel_rfl) (by kernel_rfl) (by kernel_rfl) (fun _ _ _ h => h) (.inl ⟨rfl, fun W _ => by go_simp⟩) (hV ▸ S0) ?_
            simp only [Act.put, List.getElem_toArray, List.getElem_cons_zero, List.getElem_cons_succ, List.setIfInBounds_toArray, List.set_cons_zero, List.set_cons_succ]
            refine wpAnyH_take (i := 8) (v := .bool false) rfl (by kernel_rfl) (by kernel_rfl) (by kernel_rfl) (fun _ _ _ h => h) (.inl ⟨rfl, fun W _ => by go_simp⟩) (hV ▸ S0) ?_
            simp only [Act.put, List.getElem_toArray, List.getElem_cons_zero, List.getElem_cons_succ, List.setIfInBounds_toArray, List.set_cons_zero, List.set_cons_succ]
            refine wpAnyH_done (by kernel_rfl) ?_ _
            refine NoPanic.normal ?_
            have bU : Hid (Below w.heap.size w V.drew) := hb0.trans (bV.mono hb0.size)
            clear S0 hb0 bV
            go_wp2_with fail
            go_ret
            exact ⟨by rw [HE.out]; rfl, by have := bU.out; rw [hV] at this; exact this⟩
        · have hm0 : (m == 0) = false := by simp [h4]
          obtain ⟨a, rfl⟩ : ∃ a : Nat, m = a := ⟨m.toNat, by omega⟩
          obtain ⟨b, rfl⟩ : ∃ b : Nat, n = b := ⟨n.toNat, by omega⟩
          have HE : Hid (extP old a b ds old now = ((growR old old ds.reverse a b true).2.2 && (decide ((growR old old ds.reverse a b true).1 = old) && decide ((growR old old ds.reverse a b true).2.1 = now)))) := by
            show extP old a b ds old now = _
            unfold extP; rw [if_neg h12, if_neg h3, if_neg h4, Int.toNat_natCast, Int.toNat_natCast]
          obtain ⟨hO, hN⟩ := growR_ok old old ho ho ds.reverse a b true (fun d hd => hD.all d (List.mem_reverse.1 hd))
          go_enter Tryd.func30, Tryd.ntmps30
          go_wp2_with (first
            | (with_reducible refine atLoad 25 ?_
               refine load_D rfl _ rfl w.heap.size rfl old (hV ▸ oV.out) ?_))
          refine (leads_any old ho q a b true p cap ds _ (hV ▸ hD.below hb0) (by omega) (by omega) (by omega)).mono ?_
          rintro ex w1 ⟨rfl, b1⟩
          have b1' : Below V.heap.size V w1 := by rw [hV]; exact b1
          have o1 := oV.out.next b1'
          have n1 := wV.out.next b1'
          have B1 : Below w.heap.size w w1 := hb0.trans (b1'.mono hb0.size)
          have l1 := n1.lt
          have V1 := heap2 w1 (.cells Z8x32 25) (.cells Z8x32 25)
          have e1 : Hid (Dg ((w1.alloc (.cells Z8x32 25)).alloc (.cells Z8x32 25)) w1.heap.size Z32) := ⟨rfl, V1.1⟩
          have e2 : Hid (Dg ((w1.alloc (.cells Z8x32 25)).alloc (.cells Z8x32 25)) (w1.heap.size + 1) Z32) := ⟨rfl, V1.2⟩
          clear b1 b1' oV wV hb0 V1
          obtain ⟨C, hC⟩ : ∃ C, growR old old ds.reverse a b true = C := ⟨_, rfl⟩
          rw [hC] at hO hN HE ⊢
          clear hC
          obtain ⟨O, N, ok⟩ := C
          have hOl : O.length = 32 := hO.1
          have hOb : Bytes O := hO.2
          have hNl : N.length = 32 := hN.1
          have hNb : Bytes N := hN.2
          clear hO hN
          go_wp2_with (first
            | (with_reducible refine atStore 25 ?_
               refine store_D rfl _ _ rfl w1.heap.size O rfl rfl Z32 e1.out hOl ?_
               intro X hX
               refine hideGoal ?_))
          have aX : Hid (Dg X w1.heap.size O) := hX.dg hOl
          have cX : Hid (Dg X (w1.heap.size + 1) Z32) := e2.out.other hX (by omega)
          have oX : Hid (Dg X w.heap.size old) := ((o1.alloc _).alloc _).other hX (by omega)
          have nX : Hid (Dg X (w.heap.size + 1) now) := ((n1.alloc _).alloc _).other hX (by omega)
          have bX : Hid (Below w.heap.size w X) := hX.below _ _ (by omega) ((B1.alloc (by omega) _).alloc (by simp; omega) _)
          clear hX e1 e2 o1 n1 B1
          generalize w1.heap.size = g1 at *
          refine openGoal ?_
          go_wp2_with (first
            | (with_reducible refine atStore 25 ?_
               refine store_D rfl _ _ rfl (g1 + 1) N rfl rfl Z32 cX.out hNl ?_
               intro Y hY
               refine hideGoal ?_))
          have aY : Hid (Dg Y g1 O) := aX.out.other hY (by omega)
          have cY : Hid (Dg Y (g1 + 1) N) := hY.dg hNl
          have oY : Hid (Dg Y w.heap.size old) := oX.out.other hY (by omega)
          have nY : Hid (Dg Y (w.heap.size + 1) now) := nX.out.other hY (by omega)
          have bY : Hid (Below w.heap.size w Y) := hY.below _ _ (by omega) bX.out
          clear hY aX cX oX nX bX
          refine openGoal ?_
          cases ok with
          | false =>
            go_wp2_with fail
            go_ret
            exact ⟨by rw [HE.out]; rfl, bY.out⟩
          | true =>
            by_cases hB : O = old
            · have hd : decide (O = old) = true := decide_eq_true hB
              rw [hd] at HE
              have hBd : Hid (decide (O = old) = true) := hd
              clear hB hd
              go_wp2_with (first
                | (with_reducible refine atLoad 25 ?_
                   first
                     | refine load_D rfl _ rfl g1 rfl O aY.out ?_
                     | refine load_D rfl _ rfl w.heap.size rfl old oY.out ?_
                     | refine load_D rfl _ rfl (g1 + 1) rfl N cY.out ?_
                     | refine load_D rfl _ rfl (w.heap.size + 1) rfl now nY.out ?_)
                | (with_reducible refine atBin .eql 25 25 ?_
                   first
                     | (refine wpList_eql rfl _ _ rfl O old hOl hOb hol hob rfl rfl ?_
                        rw [hBd.out])
                     | refine wpList_eql rfl _ _ rfl N now hNl hNb hwl hwb rfl rfl ?_))
              go_ret
              exact ⟨by rw [HE.out]; rfl, bY.out⟩
            · have hd : decide (O = old) = false := decide_eq_false hB
              rw [hd] at HE
              have hBd : Hid (decide (O = old) = false) := hd
              clear hB hd
              go_wp2_with (first
                | (with_reducible refine atLoad 25 ?_
                   first
                     | refine load_D rfl _ rfl g1 rfl O aY.out ?_
                     | refine load_D rfl _ rfl w.heap.size rfl old oY.out ?_)
                | (with_reducible refine atBin .eql 25 25 ?_
                   refine wpList_eql rfl _ _ rfl O old hOl hOb hol hob rfl rfl ?_
                   rw [hBd.out]))
              go_ret
              exact ⟨by rw [HE.out]; rfl, bY.out⟩
end Go.Proofs.YtcmjlhcpoajbkaaDoor
