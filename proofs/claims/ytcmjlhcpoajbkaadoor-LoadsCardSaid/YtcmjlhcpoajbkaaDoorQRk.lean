import Derived.Test.YtcmjlhcpoajbkaaDoorQTx
import Derived.Test.YtcmjlhcpoajbkaaDoorQCh
namespace Go.Proofs.YtcmjlhcpoajbkaaDoor
set_option maxRecDepth 10000
set_option linter.unusedSimpArgs false
open Go.RowKit
def NOTEXT : Ending := .returned (.tuple #[.string ⟨#[]⟩, .string ⟨#[]⟩, .bool false, .bool false])
/-- What the document's Clash tells. -/
def RefClashed (i n : Int) (a : List Int) (p : List (List Int)) (b : List Int) (q : List (List Int)) (e : Ending) : Prop :=
  (¬ (0 ≤ i ∧ i < n ∧ p.length = wayLen i.toNat n.toNat ∧ q.length = wayLen i.toNat n.toNat) ∧ e = NOTEXT) ∨
  (0 ≤ i ∧ i < n ∧ p.length = wayLen i.toNat n.toNat ∧ q.length = wayLen i.toNat n.toNat ∧
    (((∀ k, k ≤ wayLen i.toNat n.toNat → textAt a (leftsP i.toNat n.toNat) p k = textAt b (leftsP i.toNat n.toNat) q k) ∧ e = NOTEXT) ∨
     ∃ k, k ≤ wayLen i.toNat n.toNat ∧ textAt a (leftsP i.toNat n.toNat) p k ≠ textAt b (leftsP i.toNat n.toNat) q k ∧ (∀ j, k < j → j ≤ wayLen i.toNat n.toNat → textAt a (leftsP i.toNat n.toNat) p j = textAt b (leftsP i.toNat n.toNat) q j) ∧
       e = .returned (.tuple #[strV (textAt a (leftsP i.toNat n.toNat) p k), strV (textAt b (leftsP i.toNat n.toNat) q k), .bool true, .bool (decide (hP (textAt a (leftsP i.toNat n.toNat) p k) = hP (textAt b (leftsP i.toNat n.toNat) q k)))])))
theorem neqStr {xs ys : List Int} (hx : Bytes xs) (hy : Bytes ys) (W : World) : (binOp .neq 9 (strV xs) (strV ys)).run Tryd.prog W = .ok (.bool (!decide (xs = ys))) W := by
  have h := toU_inj hx hy
  unfold strV
  go_simp
theorem results_tmp4 {fn : Func} {t u v x : Tmp} (h : fn.results = #[.tmp t, .tmp u, .tmp v, .tmp x]) (tmps : Array Value) (P : Program) (w : World) :
    (results fn tmps).run P w = .ok (.tuple #[tmps.getD t undef, tmps.getD u undef, tmps.getD v undef, tmps.getD x undef]) w := by
  simp [results, h]
set_option maxHeartbeats 8000000 in
theorem refClash_any (i n : Int) (hi : i ≤ 9223372036854775807) (hn : n ≤ 9223372036854775807) (a : List Int) (ha : Bytes a) (hla : a.length ≤ 140737488355300) (p : Option Addr) (m cap : Nat) (ds : List (List Int)) (b : List Int) (hb : Bytes b) (hlb : b.length ≤ 140737488355300) (q : Option Addr) (k cap' : Nat) (ds' : List (List Int))
    (w : World) (hP' : D32 w p m cap ds) (hQ : D32 w q k cap' ds') :
    Calls Tryd.prog 42 #[.int .i64 i, .int .i64 n, strV a, .slice p m cap, strV b, .slice q k cap'] w fun e w' => RefClashed i n a ds b ds' e ∧ Below w.heap.size w w' := by
  have hlp := hP'.len
  have hlq := hQ.len
  by_cases hbad : n < 1 ∨ i < 0 ∨ n ≤ i
  · have HE : Hid (RefClashed i n a ds b ds' NOTEXT) := .inl ⟨fun ⟨x, y, _, _⟩ => by omega, rfl⟩
    unfold NOTEXT at HE
    clear hlp hlq
    unfold strV
    by_cases h1 : n < 1
    · go_enter Tryd.func42, Tryd.ntmps42
      go_wp2_with fail
      refine bodyPost_ret (results_tmp4 rfl _ _ _) rfl ?_
      exact ⟨HE.out, Below.refl _ _⟩
    · by_cases h2 : i < 0
      · go_enter Tryd.func42, Tryd.ntmps42
        go_wp2_with fail
        refine bodyPost_ret (results_tmp4 rfl _ _ _) rfl ?_
        exact ⟨HE.out, Below.refl _ _⟩
      · have h3 : n ≤ i := by omega
        go_enter Tryd.func42, Tryd.ntmps42
        go_wp2_with fail
        refine bodyPost_ret (results_tmp4 rfl _ _ _) rfl ?_
        exact ⟨HE.out, Below.refl _ _⟩
  · obtain ⟨x, rfl⟩ : ∃ x : Nat, i = x := ⟨i.toNat, by omega⟩
    obtain ⟨y, rfl⟩ : ∃ y : Nat, n = y := ⟨n.toNat, by omega⟩
    have h1 : ¬ (y : Int) < 1 := by omega
    have h2 : ¬ (x : Int) < 0 := by omega
    have h3 : ¬ (y : Int) ≤ x := by omega
    have hxy : x < y := by omega
    have h63 : wayLen x y ≤ 63 := leftsP_len x y
    clear hbad
    have T1 := refTexts_any a ha hla 63 m x y p cap ds w hP' hxy (by omega) (by omega) (by omega)
    have e63 : (leftsF 63 x y).length = wayLen x y := rfl
    have e64 : leftsF 63 x y = leftsP x y := rfl
    rw [e63, e64] at T1
    have HT1 : Hid _ := T1
    clear T1
    unfold strV at HT1 ⊢
    go_enter Tryd.func42, Tryd.ntmps42
    go_wp2_with fail
    refine Calls.mono HT1.out ?_
    rintro ex w1 ⟨v1, rfl, hO1, b1⟩
    have T2 := refTexts_any b hb hlb 63 k x y q cap' ds' w1 (hQ.below b1) hxy (by omega) (by omega) (by omega)
    rw [e63, e64] at T2
    have HT2 : Hid _ := T2
    have HO1 : Hid _ := hO1
    clear T2 HT1 e63 e64 hO1
    unfold strV at HT2
    generalize hd1 : decide (m = wayLen x y) = E1 at *
    have HD1 : Hid (decide (m = wayLen x y) = E1) := hd1
    clear hd1
    go_wp2_with fail
    refine Calls.mono HT2.out ?_
    rintro ex w2 ⟨v2, rfl, hO2, b2⟩
    have HO2 : Hid _ := hO2
    generalize hd2 : decide (k = wayLen x y) = E2 at *
    have HD2 : Hid (decide (k = wayLen x y) = E2) := hd2
    clear hd2 HT2 hO2
    have B2 : Below w.heap.size w w2 := b1.trans (b2.mono b1.size)
    by_cases hv : m = wayLen x y ∧ k = wayLen x y
    · obtain ⟨hv1, hv2⟩ := hv
      have z1 : E1 = true := by rw [← HD1.out]; exact decide_eq_true hv1
      have z2 : E2 = true := by rw [← HD2.out]; exact decide_eq_true hv2
      subst z1 z2
      have o1 := HO1.out hv1
      have o2 := HO2.out hv2
      obtain ⟨g, c1, rfl, hg1, hg2, hgf, hgc, hgcs⟩ := owns_get o1 (by omega)
      obtain ⟨g', c2, rfl, hg1', hg2', hgf', hgc', hgcs'⟩ := owns_get o2 (by omega)
      have HX : Hid (∀ k, k ≤ wayLen x y → w2.cell? ⟨g, k, none⟩ = some (strV (textAt a (leftsP x y) ds k))) := fun j hj => by
        rw [b2.cell (p := ⟨g, j, none⟩) hg2, hgcs j (by omega), texts_get _ _ _ _ _ (by omega)]
      have HY : Hid (∀ k, k ≤ wayLen x y → w2.cell? ⟨g', k, none⟩ = some (strV (textAt b (leftsP x y) ds' k))) := fun j hj => by
        rw [hgcs' j (by omega), texts_get _ _ _ _ _ (by omega)]
      have HBX : Hid (∀ k, Bytes (textAt a (leftsP x y) ds k)) := fun j => textAt_bytes a ha _ _ (fun j => (getD_bytes hP' j).1) j
      have HBY : Hid (∀ k, Bytes (textAt b (leftsP x y) ds' k)) := fun j => textAt_bytes b hb _ _ (fun j => (getD_bytes hQ j).1) j
      have HLX : Hid (∀ k, (textAt a (leftsP x y) ds k).length ≤ 140737488355400) := fun j => by have := textAt_len a (leftsP x y) ds (fun j => (getD_bytes hP' j).2) j; omega
      have HLY : Hid (∀ k, (textAt b (leftsP x y) ds' k).length ≤ 140737488355400) := fun j => by have := textAt_len b (leftsP x y) ds' (fun j => (getD_bytes hQ j).2) j; omega
      have HV : Hid (ds.length = wayLen x y ∧ ds'.length = wayLen x y) := ⟨by omega, by omega⟩
      clear HO1 HO2 o1 o2 hgcs hgcs' hlp hlq HD1 HD2
      have hk : k = m := by omega
      have HM : Hid (m = wayLen x y) := hv1
      have hm63 : m ≤ 63 := by omega
      rw [← hv1] at HX HY HV
      clear hv1 hv2 h63
      subst hk
      have HFIN : Hid (∀ e, (((∀ j, j ≤ k → textAt a (leftsP x y) ds j = textAt b (leftsP x y) ds' j) ∧ e = NOTEXT) ∨
         ∃ j, j ≤ k ∧ textAt a (leftsP x y) ds j ≠ textAt b (leftsP x y) ds' j ∧ (∀ l, j < l → l ≤ k → textAt a (leftsP x y) ds l = textAt b (leftsP x y) ds' l) ∧
         e = .returned (.tuple #[strV (textAt a (leftsP x y) ds j), strV (textAt b (leftsP x y) ds' j), .bool true, .bool (decide (hP (textAt a (leftsP x y) ds j) = hP (textAt b (leftsP x y) ds' j)))])) → RefClashed x y a ds b ds' e) := fun e h => by
        refine .inr ⟨by omega, by omega, ?_, ?_, ?_⟩
        · show ds.length = wayLen x y; rw [← HM.out]; exact HV.out.1
        · show ds'.length = wayLen x y; rw [← HM.out]; exact HV.out.2
        · show _ ∨ _
          rw [Int.toNat_natCast, Int.toNat_natCast, ← HM.out]; exact h
      generalize textAt a (leftsP x y) ds = tx at *
      generalize textAt b (leftsP x y) ds' = ty at *
      clear HM HV
      have hw1 : ((k : Int) + 1 - 1) = k := by omega
      go_wp2_with fail
      go_loopw [20] (fun i wr => ∃ r : Nat, r ≤ k + 1 ∧ i = .int .i64 ((r : Int) - 1) ∧ (∀ j, r ≤ j → j ≤ k → tx j = ty j) ∧ Below w2.heap.size w2 wr) (fun i _ => ((intOf i) + 1).toNat)
      case atStart => exact ⟨k + 1, by omega, by congr 1; omega, fun j h h' => by omega, Below.refl _ _⟩
      case round =>
        obtain ⟨r, hr, rfl, hup, hbr⟩ := hrel
        have HUP : Hid (∀ j, r ≤ j → j ≤ k → tx j = ty j) := hup
        clear hup
        have BR : Below w.heap.size w wr := B2.trans (hbr.mono B2.size)
        by_cases h0 : r = 0
        · subst h0
          have HF := HFIN.out NOTEXT (.inl ⟨fun j hj => HUP.out j (by omega) hj, rfl⟩)
          unfold NOTEXT at HF
          have HF' : Hid _ := HF
          clear HF
          have e0 : (((0 : Nat) : Int) - 1) = -1 := by omega
          rw [e0]
          go_wp2_with fail
          refine bodyPost_ret (results_tmp4 rfl _ _ _) rfl ?_
          exact ⟨HF'.out, BR⟩
        · obtain ⟨s, rfl⟩ : ∃ s, r = s + 1 := ⟨r - 1, by omega⟩
          have es : (((s + 1 : Nat) : Int) - 1) = s := by omega
          rw [es]
          have hsk : s ≤ k := by omega
          have i1 : ∀ W : World, (Instr.indexAt 59 (.slice (some ⟨g, 0, none⟩) (k + 1) c1) (.int .i64 s)).run Tryd.prog W = .ok (.pointer (some ⟨g, s, none⟩)) W := fun W => index59 g (k + 1) c1 s (by omega) W
          have i2 : ∀ W : World, (Instr.indexAt 59 (.slice (some ⟨g', 0, none⟩) (k + 1) c2) (.int .i64 s)).run Tryd.prog W = .ok (.pointer (some ⟨g', s, none⟩)) W := fun W => index59 g' (k + 1) c2 s (by omega) W
          have cx : ∀ W, Below w2.heap.size w2 W → W.cell? ⟨g, s, none⟩ = some (strV (tx s)) ∧ W.cell? ⟨g', s, none⟩ = some (strV (ty s)) := fun W hW =>
            ⟨by rw [hW.cell (p := ⟨g, s, none⟩) (by show g < _; have := b2.size; omega)]; exact HX.out s hsk, by rw [hW.cell (p := ⟨g', s, none⟩) hg2']; exact HY.out s hsk⟩
          have hne := toU_inj (HBX.out s) (HBY.out s)
          unfold strV at cx
          have hs0 : (0 : Int) ≤ s := by omega
          have S0 := cx wr.drew hbr.drew
          go_wp2_with fail
          refine wp_region_noPanic ?_
          refine wp_region_held (S := fun W => W.cell? ⟨g, s, none⟩ = some (.string ⟨(toU (tx s)).toArray⟩) ∧ W.cell? ⟨g', s, none⟩ = some (.string ⟨(toU (ty s)).toArray⟩)) follows ?_
          refine wpAnyH_take (i := 0) (v := .slice (some ⟨g, 0, none⟩) (k + 1) c1) rfl (by kernel_rfl) (by kernel_rfl) (by kernel_rfl) (fun _ _ _ h => h) (.inl ⟨rfl, fun W _ => by go_simp⟩) S0 ?_
          simp only [Act.put, List.getElem_toArray, List.getElem_cons_zero, List.getElem_cons_succ, List.setIfInBounds_toArray, List.set_cons_zero, List.set_cons_succ]
          refine wpAnyH_take (i := 1) (v := .int .i64 s) rfl (by kernel_rfl) (by kernel_rfl) (by kernel_rfl) (fun _ _ _ h => h) (.inl ⟨rfl, fun W _ => by go_simp⟩) S0 ?_
          simp only [Act.put, List.getElem_toArray, List.getElem_cons_zero, List.getElem_cons_succ, List.setIfInBounds_toArray, List.set_cons_zero, List.set_cons_succ]
          refine wpAnyH_take (i := 4) (v := .slice (some ⟨g', 0, none⟩) (k + 1) c2) rfl (by kernel_rfl) (by kernel_rfl) (by kernel_rfl) (fun _ _ _ h => h) (.inl ⟨rfl, fun W _ => by go_simp⟩) S0 ?_
          simp only [Act.put, List.getElem_toArray, List.getElem_cons_zero, List.getElem_cons_succ, List.setIfInBounds_toArray, List.set_cons_zero, List.set_cons_succ]
          refine wpAnyH_take (i := 5) (v := .int .i64 s) rfl (by kernel_rfl) (by kernel_rfl) (by kernel_rfl) (fun _ _ _ h => h) (.inl ⟨rfl, fun W _ => by go_simp⟩) S0 ?_
          simp only [Act.put, List.getElem_toArray, List.getElem_cons_zero, List.getElem_cons_succ, List.setIfInBounds_toArray, List.set_cons_zero, List.set_cons_succ]
          refine wpAnyH_take (i := 2) (v := .pointer (some ⟨g, s, none⟩)) rfl (by kernel_rfl) (by kernel_rfl) (by kernel_rfl) (fun _ _ _ h => h) (.inl ⟨rfl, fun W _ => by have e := i1 W; go_simp⟩) S0 ?_
          simp only [Act.put, List.getElem_toArray, List.getElem_cons_zero, List.getElem_cons_succ, List.setIfInBounds_toArray, List.set_cons_zero, List.set_cons_succ]
          refine wpAnyH_take (i := 6) (v := .pointer (some ⟨g', s, none⟩)) rfl (by kernel_rfl) (by kernel_rfl) (by kernel_rfl) (fun _ _ _ h => h) (.inl ⟨rfl, fun W _ => by have e := i2 W; go_simp⟩) S0 ?_
          simp only [Act.put, List.getElem_toArray, List.getElem_cons_zero, List.getElem_cons_succ, List.setIfInBounds_toArray, List.set_cons_zero, List.set_cons_succ]
          refine wpAnyH_take (i := 3) (v := .string ⟨(toU (tx s)).toArray⟩) rfl (by kernel_rfl) (by kernel_rfl) (by kernel_rfl) (fun _ _ _ h => h) (.inl ⟨rfl, fun W hW => by have e := hW.1; go_simp⟩) S0 ?_
          simp only [Act.put, List.getElem_toArray, List.getElem_cons_zero, List.getElem_cons_succ, List.setIfInBounds_toArray, List.set_cons_zero, List.set_cons_succ]
          refine wpAnyH_take (i := 7) (v := .string ⟨(toU (ty s)).toArray⟩) rfl (by kernel_rfl) (by kernel_rfl) (by kernel_rfl) (fun _ _ _ h => h) (.inl ⟨rfl, fun W hW => by have e := hW.2; go_simp⟩) S0 ?_
          simp only [Act.put, List.getElem_toArray, List.getElem_cons_zero, List.getElem_cons_succ, List.setIfInBounds_toArray, List.set_cons_zero, List.set_cons_succ]
          refine wpAnyH_take (i := 8) (v := .bool (!decide (tx s = ty s))) rfl (by kernel_rfl) (by kernel_rfl) (by kernel_rfl) (fun _ _ _ h => h) (.inl ⟨rfl, fun W _ => by have e := hne; go_simp⟩) S0 ?_
          simp only [Act.put, List.getElem_toArray, List.getElem_cons_zero, List.getElem_cons_succ, List.setIfInBounds_toArray, List.set_cons_zero, List.set_cons_succ]
          refine wpAnyH_done (by kernel_rfl) ?_ _
          refine NoPanic.normal ?_
          have hbd : Below w2.heap.size w2 wr.drew := hbr.drew
          have BRd : Below w.heap.size w wr.drew := BR.drew
          clear S0
          by_cases heq : tx s = ty s
          · rw [decide_eq_true heq]
            simp only [Bool.not_true]
            go_wp2_with fail
            go_roundw
            case rel => exact ⟨s, by omega, by congr 1, fun j h h' => by
              rcases Nat.lt_or_ge s j with h2 | h2
              · exact HUP.out j h2 h'
              · have : j = s := by omega
                subst this; exact heq, hbd⟩
            case measure => simp [intOf]
          · rw [decide_eq_false heq]
            simp only [Bool.not_false]
            have HF := HFIN.out _ (.inr ⟨s, hsk, heq, fun l h h' => HUP.out l h h', rfl⟩)
            have hh1 := hP_len (tx s)
            have hh2 := hP_len (ty s)
            have hc1 := hP_bytes (tx s)
            have hc2 := hP_bytes (ty s)
            have r1 := ref_any ⟨(toU (tx s)).toArray⟩ (toU (tx s)) (tx s) rfl (toI_toU _ (HBX.out s))
            have r2 := ref_any ⟨(toU (ty s)).toArray⟩ (toU (ty s)) (ty s) rfl (toI_toU _ (HBY.out s))
            have l1 : (toU (tx s)).length ≤ 140737488355500 := by rw [toU_len]; have := HLX.out s; omega
            have l2 : (toU (ty s)).length ≤ 140737488355500 := by rw [toU_len]; have := HLY.out s; omega
            generalize hP (tx s) = H1 at *
            generalize hP (ty s) = H2 at *
            unfold strV at HF
            have HF' : Hid _ := HF
            clear HF hne
            generalize (⟨(toU (tx s)).toArray⟩ : ByteArray) = S1 at *
            generalize (⟨(toU (ty s)).toArray⟩ : ByteArray) = S2 at *
            have S0 := cx wr.drew.drew hbd.drew
            have hbdd : Below w2.heap.size w2 wr.drew.drew := hbd.drew
            have BRdd : Below w.heap.size w wr.drew.drew := BRd.drew
            go_wp2_with fail
            refine wp_region_noPanic ?_
            refine wp_region_held (S := fun W => W.cell? ⟨g, s, none⟩ = some (.string S1) ∧ W.cell? ⟨g', s, none⟩ = some (.string S2)) follows ?_
            refine wpAnyH_take (i := 0) (v := .slice (some ⟨g, 0, none⟩) (k + 1) c1) rfl (by kernel_rfl) (by kernel_rfl) (by kernel_rfl) (fun _ _ _ h => h) (.inl ⟨rfl, fun W _ => by go_simp⟩) S0 ?_
            simp only [Act.put, List.getElem_toArray, List.getElem_cons_zero, List.getElem_cons_succ, List.setIfInBounds_toArray, List.set_cons_zero, List.set_cons_succ]
            refine wpAnyH_take (i := 1) (v := .int .i64 s) rfl (by kernel_rfl) (by kernel_rfl) (by kernel_rfl) (fun _ _ _ h => h) (.inl ⟨rfl, fun W _ => by go_simp⟩) S0 ?_
            simp only [Act.put, List.getElem_toArray, List.getElem_cons_zero, List.getElem_cons_succ, List.setIfInBounds_toArray, List.set_cons_zero, List.set_cons_succ]
            refine wpAnyH_take (i := 4) (v := .slice (some ⟨g', 0, none⟩) (k + 1) c2) rfl (by kernel_rfl) (by kernel_rfl) (by kernel_rfl) (fun _ _ _ h => h) (.inl ⟨rfl, fun W _ => by go_simp⟩) S0 ?_
            simp only [Act.put, List.getElem_toArray, List.getElem_cons_zero, List.getElem_cons_succ, List.setIfInBounds_toArray, List.set_cons_zero, List.set_cons_succ]
            refine wpAnyH_take (i := 5) (v := .int .i64 s) rfl (by kernel_rfl) (by kernel_rfl) (by kernel_rfl) (fun _ _ _ h => h) (.inl ⟨rfl, fun W _ => by go_simp⟩) S0 ?_
            simp only [Act.put, List.getElem_toArray, List.getElem_cons_zero, List.getElem_cons_succ, List.setIfInBounds_toArray, List.set_cons_zero, List.set_cons_succ]
            refine wpAnyH_take (i := 8) (v := .slice (some ⟨g, 0, none⟩) (k + 1) c1) rfl (by kernel_rfl) (by kernel_rfl) (by kernel_rfl) (fun _ _ _ h => h) (.inl ⟨rfl, fun W _ => by go_simp⟩) S0 ?_
            simp only [Act.put, List.getElem_toArray, List.getElem_cons_zero, List.getElem_cons_succ, List.setIfInBounds_toArray, List.set_cons_zero, List.set_cons_succ]
            refine wpAnyH_take (i := 9) (v := .int .i64 s) rfl (by kernel_rfl) (by kernel_rfl) (by kernel_rfl) (fun _ _ _ h => h) (.inl ⟨rfl, fun W _ => by go_simp⟩) S0 ?_
            simp only [Act.put, List.getElem_toArray, List.getElem_cons_zero, List.getElem_cons_succ, List.setIfInBounds_toArray, List.set_cons_zero, List.set_cons_succ]
            refine wpAnyH_take (i := 13) (v := .slice (some ⟨g', 0, none⟩) (k + 1) c2) rfl (by kernel_rfl) (by kernel_rfl) (by kernel_rfl) (fun _ _ _ h => h) (.inl ⟨rfl, fun W _ => by go_simp⟩) S0 ?_
            simp only [Act.put, List.getElem_toArray, List.getElem_cons_zero, List.getElem_cons_succ, List.setIfInBounds_toArray, List.set_cons_zero, List.set_cons_succ]
            refine wpAnyH_take (i := 14) (v := .int .i64 s) rfl (by kernel_rfl) (by kernel_rfl) (by kernel_rfl) (fun _ _ _ h => h) (.inl ⟨rfl, fun W _ => by go_simp⟩) S0 ?_
            simp only [Act.put, List.getElem_toArray, List.getElem_cons_zero, List.getElem_cons_succ, List.setIfInBounds_toArray, List.set_cons_zero, List.set_cons_succ]
            refine wpAnyH_take (i := 2) (v := .pointer (some ⟨g, s, none⟩)) rfl (by kernel_rfl) (by kernel_rfl) (by kernel_rfl) (fun _ _ _ h => h) (.inl ⟨rfl, fun W _ => by have e := i1 W; go_simp⟩) S0 ?_
            simp only [Act.put, List.getElem_toArray, List.getElem_cons_zero, List.getElem_cons_succ, List.setIfInBounds_toArray, List.set_cons_zero, List.set_cons_succ]
            refine wpAnyH_take (i := 6) (v := .pointer (some ⟨g', s, none⟩)) rfl (by kernel_rfl) (by kernel_rfl) (by kernel_rfl) (fun _ _ _ h => h) (.inl ⟨rfl, fun W _ => by have e := i2 W; go_simp⟩) S0 ?_
            simp only [Act.put, List.getElem_toArray, List.getElem_cons_zero, List.getElem_cons_succ, List.setIfInBounds_toArray, List.set_cons_zero, List.set_cons_succ]
            refine wpAnyH_take (i := 10) (v := .pointer (some ⟨g, s, none⟩)) rfl (by kernel_rfl) (by kernel_rfl) (by kernel_rfl) (fun _ _ _ h => h) (.inl ⟨rfl, fun W _ => by have e := i1 W; go_simp⟩) S0 ?_
            simp only [Act.put, List.getElem_toArray, List.getElem_cons_zero, List.getElem_cons_succ, List.setIfInBounds_toArray, List.set_cons_zero, List.set_cons_succ]
            refine wpAnyH_take (i := 15) (v := .pointer (some ⟨g', s, none⟩)) rfl (by kernel_rfl) (by kernel_rfl) (by kernel_rfl) (fun _ _ _ h => h) (.inl ⟨rfl, fun W _ => by have e := i2 W; go_simp⟩) S0 ?_
            simp only [Act.put, List.getElem_toArray, List.getElem_cons_zero, List.getElem_cons_succ, List.setIfInBounds_toArray, List.set_cons_zero, List.set_cons_succ]
            refine wpAnyH_take (i := 3) (v := .string S1) rfl (by kernel_rfl) (by kernel_rfl) (by kernel_rfl) (fun _ _ _ h => h) (.inl ⟨rfl, fun W hW => by have e := hW.1; go_simp⟩) S0 ?_
            simp only [Act.put, List.getElem_toArray, List.getElem_cons_zero, List.getElem_cons_succ, List.setIfInBounds_toArray, List.set_cons_zero, List.set_cons_succ]
            refine wpAnyH_take (i := 7) (v := .string S2) rfl (by kernel_rfl) (by kernel_rfl) (by kernel_rfl) (fun _ _ _ h => h) (.inl ⟨rfl, fun W hW => by have e := hW.2; go_simp⟩) S0 ?_
            simp only [Act.put, List.getElem_toArray, List.getElem_cons_zero, List.getElem_cons_succ, List.setIfInBounds_toArray, List.set_cons_zero, List.set_cons_succ]
            refine wpAnyH_take (i := 11) (v := .string S1) rfl (by kernel_rfl) (by kernel_rfl) (by kernel_rfl) (fun _ _ _ h => h) (.inl ⟨rfl, fun W hW => by have e := hW.1; go_simp⟩) S0 ?_
            simp only [Act.put, List.getElem_toArray, List.getElem_cons_zero, List.getElem_cons_succ, List.setIfInBounds_toArray, List.set_cons_zero, List.set_cons_succ]
            refine wpAnyH_take (i := 16) (v := .string S2) rfl (by kernel_rfl) (by kernel_rfl) (by kernel_rfl) (fun _ _ _ h => h) (.inl ⟨rfl, fun W hW => by have e := hW.2; go_simp⟩) S0 ?_
            simp only [Act.put, List.getElem_toArray, List.getElem_cons_zero, List.getElem_cons_succ, List.setIfInBounds_toArray, List.set_cons_zero, List.set_cons_succ]
            refine relist #[true, true, true, true, true, true, true, true, true, true, true, true, false, true, true, true, true, false, false, false, false, false, false] (by kernel_rfl) ?_
            refine any_one (i := 12) (by kernel_rfl) ?_
            refine wpOp_call (f := 19) (args := #[.string S1]) rfl rfl (by go_simp) ?_
            refine (r1 _ l1).mono ?_
            rintro ex w5 ⟨rfl, b5⟩
            have hb5 : Below w2.heap.size w2 w5 := hbdd.trans (b5.mono hbdd.size)
            have B5 : Below w.heap.size w w5 := BRdd.trans (b5.mono BRdd.size)
            refine ⟨_, rfl, cx _ hb5, ?_⟩
            simp only [Act.put, List.getElem_toArray, List.getElem_cons_zero, List.getElem_cons_succ, List.setIfInBounds_toArray, List.set_cons_zero, List.set_cons_succ]
            refine relist #[true, true, true, true, true, true, true, true, true, true, true, true, true, true, true, true, true, false, false, false, false, false, false] (by kernel_rfl) ?_
            refine any_one (i := 17) (by kernel_rfl) ?_
            refine wpOp_call (f := 19) (args := #[.string S2]) rfl rfl (by go_simp) ?_
            refine (r2 _ l2).mono ?_
            rintro ex w6 ⟨rfl, b6⟩
            have hb6 : Below w2.heap.size w2 w6 := hb5.trans (b6.mono hb5.size)
            have B6 : Below w.heap.size w w6 := B5.trans (b6.mono B5.size)
            have S6 := cx _ hb6
            refine ⟨_, rfl, S6, ?_⟩
            simp only [Act.put, List.getElem_toArray, List.getElem_cons_zero, List.getElem_cons_succ, List.setIfInBounds_toArray, List.set_cons_zero, List.set_cons_succ]
            refine wpAnyH_take (i := 18) (v := .bool (decide (H1 = H2))) rfl (by kernel_rfl) (by kernel_rfl) (by kernel_rfl) (fun _ _ _ h => h) (yields_eql rfl (.tmp 82) (.tmp 87) rfl H1 H2 hh1 hc1 hh2 hc2 rfl rfl) S6 ?_
            simp only [Act.put, List.getElem_toArray, List.getElem_cons_zero, List.getElem_cons_succ, List.setIfInBounds_toArray, List.set_cons_zero, List.set_cons_succ]
            refine wpAnyH_take (i := 19) (v := .string S1) rfl (by kernel_rfl) (by kernel_rfl) (by kernel_rfl) (fun _ _ _ h => h) (.inl ⟨rfl, fun W _ => by go_simp⟩) S6 ?_
            simp only [Act.put, List.getElem_toArray, List.getElem_cons_zero, List.getElem_cons_succ, List.setIfInBounds_toArray, List.set_cons_zero, List.set_cons_succ]
            refine wpAnyH_take (i := 20) (v := .string S2) rfl (by kernel_rfl) (by kernel_rfl) (by kernel_rfl) (fun _ _ _ h => h) (.inl ⟨rfl, fun W _ => by go_simp⟩) S6 ?_
            simp only [Act.put, List.getElem_toArray, List.getElem_cons_zero, List.getElem_cons_succ, List.setIfInBounds_toArray, List.set_cons_zero, List.set_cons_succ]
            refine wpAnyH_take (i := 21) (v := .bool true) rfl (by kernel_rfl) (by kernel_rfl) (by kernel_rfl) (fun _ _ _ h => h) (.inl ⟨rfl, fun W _ => by go_simp⟩) S6 ?_
            simp only [Act.put, List.getElem_toArray, List.getElem_cons_zero, List.getElem_cons_succ, List.setIfInBounds_toArray, List.set_cons_zero, List.set_cons_succ]
            refine wpAnyH_take (i := 22) (v := .bool (decide (H1 = H2))) rfl (by kernel_rfl) (by kernel_rfl) (by kernel_rfl) (fun _ _ _ h => h) (.inl ⟨rfl, fun W _ => by go_simp⟩) S6 ?_
            simp only [Act.put, List.getElem_toArray, List.getElem_cons_zero, List.getElem_cons_succ, List.setIfInBounds_toArray, List.set_cons_zero, List.set_cons_succ]
            refine wpAnyH_done (by kernel_rfl) ?_ _
            refine NoPanic.normal ?_
            go_wp2_with fail
            refine bodyPost_ret (results_tmp4 rfl _ _ _) rfl ?_
            exact ⟨HF'.out, B6⟩
    · have HE : Hid (RefClashed x y a ds b ds' NOTEXT) := .inl ⟨fun ⟨_, _, u, v⟩ => hv ⟨by have u : ds.length = wayLen x y := u; omega, by have v : ds'.length = wayLen x y := v; omega⟩, rfl⟩
      unfold NOTEXT at HE
      have hz : E1 = false ∨ (E1 = true ∧ E2 = false) := by
        rw [← HD1.out, ← HD2.out]
        by_cases h : m = wayLen x y
        · exact .inr ⟨decide_eq_true h, decide_eq_false fun h' => hv ⟨h, h'⟩⟩
        · exact .inl (decide_eq_false h)
      clear HO1 HO2 hv HD1 HD2 hlp hlq
      rcases hz with rfl | ⟨rfl, rfl⟩
      · go_wp2_with fail
        refine bodyPost_ret (results_tmp4 rfl _ _ _) rfl ?_
        exact ⟨HE.out, B2⟩
      · go_wp2_with fail
        refine bodyPost_ret (results_tmp4 rfl _ _ _) rfl ?_
        exact ⟨HE.out, B2⟩
end Go.Proofs.YtcmjlhcpoajbkaaDoor
