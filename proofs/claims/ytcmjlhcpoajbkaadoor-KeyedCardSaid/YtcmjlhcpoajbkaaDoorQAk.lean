import Derived.Test.YtcmjlhcpoajbkaaDoorQSv
import Derived.Test.YtcmjlhcpoajbkaaDoorQHe
import Derived.Test.YtcmjlhcpoajbkaaDoorQFo
import Derived.Test.YtcmjlhcpoajbkaaDoorQSw
namespace Go.Proofs.YtcmjlhcpoajbkaaDoor
set_option maxRecDepth 10000
set_option linter.unusedSimpArgs false
open Go.RowKit
theorem wpList_eqlS {ops : Array Oper} {rest : List Oper} {o : Oper} {a : Act} {w : World} {Q : Exit → Act → World → Prop} (hw : Region.wanted o (yielded ops a.tmps) = true) (x y : Operand) (ho : o.op = .binOp .eql 25 x y 25) (D : List Int) (hl : D.length = 32) (hb : Bytes D)
    (hx : a.eval x = .agg (A8 D)) (hy : a.eval y = .agg (A8 D)) (h : wpList Tryd.prog ops Q rest (a.put o.dst (.bool true)) w) : wpList Tryd.prog ops Q (o :: rest) a w :=
  wpList_eql hw x y ho D D hl hb hl hb hx hy (by rw [decide_eq_true rfl]; exact h)
theorem eq_heads (K : List Int) (E E' : List (List Int)) (hl : E.length = E'.length) (W : World) : (Op.equalIn 10000 42 (.agg (headP K E)) (.agg (headP K E'))).run Tryd.prog W = .ok (decide (rootP E = rootP E')) W := by
  unfold headP
  rw [eqIn_H _ _ _ _ _ _ (rootP_ok E).1 (signP_len _ _ _) (rootP_ok E').1 (signP_len _ _ _) (rootP_ok E).2 (signP_bytes _ _ _) (rootP_ok E').2 (signP_bytes _ _ _) W]
  congr 1
  by_cases h : rootP E = rootP E'
  · rw [decide_eq_true h, decide_eq_true ⟨by rw [hl], h, by rw [hl, h]⟩]
  · rw [decide_eq_false h, decide_eq_false (fun ⟨_, h', _⟩ => h h')]
/-- Two changed about. -/
def swapK (I J k : Nat) : Nat := if k = J then I else if k = I then J else k
def swapE (es : List (List Int)) (I J : Nat) : List (List Int) := (List.range es.length).map fun k => es.getD (swapK I J k) []
theorem swapE_len (es : List (List Int)) (I J : Nat) : (swapE es I J).length = es.length := by simp [swapE]
theorem swapE_get (es : List (List Int)) (I J k : Nat) (hk : k < es.length) : (swapE es I J).getD k [] = es.getD (swapK I J k) [] := by
  rw [List.getD_eq_getElem?_getD, swapE, List.getElem?_map, List.getElem?_range hk]
  rfl
theorem swapK_lt (n I J k : Nat) (hI : I < n) (hJ : J < n) (hk : k < n) : swapK I J k < n := by unfold swapK; split <;> (try split) <;> omega
/-- Where the two are alike, nothing has changed. -/
theorem made_swap (es : List (List Int)) (I J : Nat) (hI : I < es.length) (hJ : J < es.length) (h40 : es.length ≤ 40) (h : (es.getD I []).take 300 = (es.getD J []).take 300) : madeP (swapE es I J) = madeP es := by
  unfold madeP
  congr 1
  unfold cutP
  rw [List.take_of_length_le (by rw [swapE_len]; omega), List.take_of_length_le (by omega)]
  apply List.ext_getElem
  · simp [swapE_len]
  · intro k h1 h2
    have hk : k < es.length := by simpa using h2
    simp only [List.getElem_map]
    have e1 : (swapE es I J)[k]'(by rw [swapE_len]; exact hk) = es.getD (swapK I J k) [] := by
      have := swapE_get es I J k hk
      rwa [List.getD_eq_getElem?_getD, List.getElem?_eq_getElem (by rw [swapE_len]; exact hk)] at this
    have e2 : es[k] = es.getD k [] := by rw [List.getD_eq_getElem?_getD, List.getElem?_eq_getElem hk]; rfl
    rw [e1, e2]
    unfold swapK
    split
    · rename_i hkJ; subst hkJ; exact h
    · split
      · rename_i hkI; subst hkI; exact h.symm
      · rfl
theorem made_len (es : List (List Int)) (h : es.length ≤ 40) : (madeP es).length = es.length + 1 := by rw [madeP_len]; omega
theorem made_get (es : List (List Int)) (i : Nat) (h : i < es.length) (h40 : es.length ≤ 40) : (madeP es).getD i [] = (es.getD i []).take 300 := by
  rw [entryP_made es i (by rw [made_len es h40]; omega)]
  unfold entryP
  rw [if_pos ⟨h, by omega⟩]
set_option maxHeartbeats 20000000 in
theorem alike_any (w : World) (hT : Tabs KS HS w) (kp : Option Addr) (kn kc : Nat) (key : List Int) (hk : In8 w kp kn kc key) (p : Option Addr) (n c : Nat) (es : List (List Int)) (he : EN w p n c es)
    (i_ j_ : Int) (hi1 : -9223372036854775808 ≤ i_) (hi2 : i_ ≤ 9223372036854775807) (hj1 : -9223372036854775808 ≤ j_) (hj2 : j_ ≤ 9223372036854775807) :
    Calls Tryd.prog 14 #[.slice kp kn kc, .slice p n c, .int .i64 i_, .int .i64 j_] w fun e w' => e = .returned (.bool true) ∧ Below w.heap.size w w' := by
  have HTb : Hid (Tabs KS HS w) := hT
  have hnl := he.len
  have hnf := he.fits
  have hnr := he.room
  have HE : Hid (EN w p n c es) := he
  have HK : Hid (In8 w kp kn kc key) := hk
  clear hT he hk
  have hEl := madeP_len es
  have hML : Hid (es.length ≤ 40 → (madeP es).length = es.length + 1) := made_len es
  go_enter Tryd.func14, Tryd.ntmps14
  go_wp2_with fail
  refine (made_any w HTb.out kp kn kc key HK.out p n c es HE.out).mono ?_
  rintro e w1 ⟨g, ev, rfl, hL, b1⟩
  have HL1 : Hid (LogAt w1 w.heap.size g ev (key.take 100) (madeP es)) := hL
  clear hL
  obtain ⟨E, hE⟩ : ∃ E, madeP es = E := ⟨_, rfl⟩
  have HEE : Hid (madeP es = E) := hE
  rw [hE] at HL1 hML hEl ⊢
  have hE1 : 1 ≤ E.length := by omega
  have hE2 : E.length ≤ 41 := by omega
  clear hEl hE
  go_wp2_with fail
  refine (made_any w1 (HTb.out.below b1) kp kn kc key (HK.out.below b1) p n c es (HE.out.below b1)).mono ?_
  rintro e w2 ⟨g', ev', rfl, hL, b2⟩
  rw [HEE.out] at hL ⊢
  have HL2 : Hid (LogAt w2 w.heap.size g ev (key.take 100) E) := HL1.out.below b2
  have HM2 : Hid (LogAt w2 w1.heap.size g' ev' (key.take 100) E) := hL
  have B2 : Below w.heap.size w w2 := b1.trans (b2.mono b1.size)
  clear hL HL1 b2
  obtain ⟨K, hKK⟩ : ∃ K, key.take 100 = K := ⟨_, rfl⟩
  have HKK : Hid (key.take 100 = K) := hKK
  rw [hKK] at HL2 HM2
  clear hKK
  have hnn : ((E.length : Int) != (E.length : Int)) = false := by simp
  go_wp2_with fail
  refine (logHead_any w2 g K E (HTb.out.below B2) HL2.out.read).mono ?_
  rintro e w3 ⟨rfl, b3⟩
  have B3 : Below w.heap.size w w3 := B2.trans (b3.mono B2.size)
  have HL3 : Hid (LogAt w3 w.heap.size g ev K E) := HL2.out.below b3
  have HM3 : Hid (LogAt w3 w1.heap.size g' ev' K E) := HM2.out.below b3
  clear HL2 HM2 b3 B2
  go_wp2_with fail
  refine (logHead_any w3 g' K E (HTb.out.below B3) HM3.out.read).mono ?_
  rintro e w4 ⟨rfl, b4⟩
  have B4 : Below w.heap.size w w4 := B3.trans (b4.mono B3.size)
  have HL4 : Hid (LogAt w4 w.heap.size g ev K E) := HL3.out.below b4
  have HM4 : Hid (LogAt w4 w1.heap.size g' ev' K E) := HM3.out.below b4
  have hq0 : ∀ W : World, (Op.equalIn 10000 42 (.agg (headP K E)) (.agg (headP K E))).run Tryd.prog W = .ok true W := fun W => by rw [eq_heads K E E rfl W, decide_eq_true rfl]
  clear HL3 HM3 b4 B3
  go_wp2_with (first
    | (with_reducible refine atBin .neq 42 42 ?_
       refine wpList_neqH rfl (.tmp 53) (.tmp 55) rfl (headP K E) (headP K E) true hq0 rfl rfl ?_))
  refine (save_any w4 (HTb.out.below B4) g K E HL4.out.read hE1).mono ?_
  rintro e w5 ⟨rfl, b5⟩
  have B5 : Below w.heap.size w w5 := B4.trans (b5.mono B4.size)
  have HL5 : Hid (LogAt w5 w.heap.size g ev K E) := HL4.out.below b5
  have HM5 : Hid (LogAt w5 w1.heap.size g' ev' K E) := HM4.out.below b5
  clear HL4 HM4 b5 B4
  go_wp2_with fail
  refine (save_any w5 (HTb.out.below B5) g' K E HM5.out.read hE1).mono ?_
  rintro e w6 ⟨rfl, b6⟩
  have B6 : Below w.heap.size w w6 := B5.trans (b6.mono B5.size)
  have HL6 : Hid (LogAt w6 w.heap.size g ev K E) := HL5.out.below b6
  have hss : (toU (saveP K E) == toU (saveP K E)) = true := by simp
  clear HL5 HM5 b6 B5 hq0
  generalize toU (saveP K E) = SS at *
  by_cases c2 : n < 2
  · have c2' : (n : Int) < 2 := by omega
    go_wp2_with fail
    go_ret
    exact ⟨rfl, B6⟩
  · have c2' : ¬ (n : Int) < 2 := by omega
    by_cases c40 : 40 < n
    · have c40' : (40 : Int) < n := by omega
      go_wp2_with fail
      go_ret
      exact ⟨rfl, B6⟩
    · have c40' : ¬ (40 : Int) < n := by omega
      have hEn : E.length = n + 1 := by have := hML.out (by omega); omega
      clear hML hss
      go_wp2_with fail
      refine (pick_any w6 i_ (n : Int) hi1 hi2 (by omega) (by omega)).mono ?_
      rintro e w6' ⟨rfl, rfl⟩
      obtain ⟨I, hI, hIn⟩ : ∃ I : Nat, pickP i_ (n : Int) = I ∧ I < n := by
        have h1 := pickP_lo i_ (n : Int) (by omega)
        have h2 := pickP_hi i_ (n : Int) (by omega)
        exact ⟨(pickP i_ (n : Int)).toNat, by omega, by omega⟩
      rw [hI]
      go_wp2_with fail
      refine (pick_any w6' j_ (n : Int) hj1 hj2 (by omega) (by omega)).mono ?_
      rintro e w6 ⟨rfl, rfl⟩
      obtain ⟨J, hJ, hJn⟩ : ∃ J : Nat, pickP j_ (n : Int) = J ∧ J < n := by
        have h1 := pickP_lo j_ (n : Int) (by omega)
        have h2 := pickP_hi j_ (n : Int) (by omega)
        exact ⟨(pickP j_ (n : Int)).toNat, by omega, by omega⟩
      rw [hJ]
      clear hI hJ hi1 hi2 hj1 hj2
      obtain ⟨b, o, rfl, hbl, hcs⟩ := (HE.out.below B6).lies (by omega)
      obtain ⟨V, hV⟩ : ∃ V : Nat → Value, ∀ k, k < n → w6.cell? ⟨b, o + k, none⟩ = some (V k) ∧ ∃ p' n' c', V k = .slice p' n' c' ∧ In8 w6 p' n' c' (es.getD k []) :=
        ⟨fun k => (w6.cell? ⟨b, o + k, none⟩).getD undef, fun k hk => by
          obtain ⟨p', n', c', h1, h2⟩ := hcs k hk
          exact ⟨by show w6.cell? _ = some ((w6.cell? ⟨b, o + k, none⟩).getD undef); rw [h1]; rfl, p', n', c', by show (w6.cell? ⟨b, o + k, none⟩).getD undef = _; rw [h1]; rfl, h2⟩⟩
      have HV : Hid _ := hV
      clear hcs
      obtain ⟨i22, hi22, hz, hsz, hby⟩ := info22'
      obtain ⟨gt, ct, w7, hr7, ho7, hgr7, _, hgt7⟩ := run_append_lies (P := Tryd.prog) w6 47 47 w6.heap.size 22 i22 (.slice none 0 0) 1 24 Tryd.underlying47 hi22 hz hsz hby rfl (by omega) (.slice none 0 0) 0 [] (World.ownsRow_nil _ _ _ _)
        ⟨b, o, none⟩ n c ((List.range n).map V) (by simp) (fun j u hu => by
          have hj : j < n := by have := (List.getElem?_eq_some_iff.1 hu).1; simpa using this
          rw [addr_add, (hV j hj).1]
          simpa [List.getElem?_map, List.getElem?_range hj] using hu) (fun u hu => by
          obtain ⟨k, hk, rfl⟩ := List.mem_map.1 hu
          obtain ⟨p', n', c', h1, _⟩ := (hV k (by simpa using hk)).2
          rw [h1]; rfl) (by omega) (by unfold maxLen; omega) (by omega) (Nat.le_refl _) _ rfl
      clear hV
      rw [Nat.zero_add, List.nil_append] at ho7
      obtain ⟨hz7, ⟨hbad, _⟩ | ⟨gt', ct', cur, hv7, hgb, hh7, hnc7, hcm7, hcz7, htk7⟩⟩ := ho7
      · cases hbad
      · cases hv7
        have b67 : Below w6.heap.size w6 w7 := (Below.refl _ _).grown hgr7 (Nat.le_refl _) (fun k hk => by cases hk)
        have B7 : Below w.heap.size w w7 := B6.trans (b67.mono B6.size)
        have HL7 : Hid (LogAt w7 w.heap.size g ev K E) := HL6.out.below b67
        obtain ⟨pJ, nJ, cJ, hVJ, hIJ⟩ := (HV.out J hJn).2
        obtain ⟨pI, nI, cI, hVI, hII⟩ := (HV.out I hIn).2
        have cJ7 : w7.cell? ⟨b, o + J, none⟩ = some (.slice pJ nJ cJ) := by rw [b67.cell (p := ⟨b, o + J, none⟩) hbl, (HV.out J hJn).1, hVJ]
        have hcz : cur.size = ct := by simpa using hcz7
        have hcur : ∀ k, k < n → cur[k]? = some (V k) := fun k hk => by
          have h := congrArg (fun l : List Value => l[k]?) htk7
          simp only [List.getElem?_take, Nat.mul_one, hk, if_true, List.getElem?_map, List.getElem?_range hk, Option.map_some, Array.getElem?_toList] at h
          exact h
        have cT7 : w7.cell? ⟨gt, I, none⟩ = some (V I) := by rw [cell_of_row _ _ _ _ _ _ hh7, hcur I hIn]
        have fT7 := frozen_of_row w7 gt I _ _ hh7
        have hgtb : gt ≠ b := by omega
        have h8 := heap_setCell_same w7 gt I _ _ (.slice pJ nJ cJ) hh7
        have cI8 : (w7.setCell ⟨gt, I, none⟩ (.slice pJ nJ cJ)).cell? ⟨b, o + I, none⟩ = some (.slice pI nI cI) := by
          rw [World.cell?_of_block (w := w7) (Below.heap_setCell _ _ _ _ (by show b ≠ gt; omega)), b67.cell (p := ⟨b, o + I, none⟩) hbl, (HV.out I hIn).1, hVI]
        have cT8 : ∃ u, (w7.setCell ⟨gt, I, none⟩ (.slice pJ nJ cJ)).cell? ⟨gt, J, none⟩ = some u := by
          rw [cell_of_row _ _ _ _ _ _ h8]
          exact ⟨_, Array.getElem?_eq_getElem (by simp; omega)⟩
        obtain ⟨uJ, cT8⟩ := cT8
        have fT8 := frozen_of_row (w7.setCell ⟨gt, I, none⟩ (.slice pJ nJ cJ)) gt J _ _ h8
        have h9 := heap_setCell_same (w7.setCell ⟨gt, I, none⟩ (.slice pJ nJ cJ)) gt J _ _ (.slice pI nI cI) h8
        have b69 : Below w6.heap.size w6 ((w7.setCell ⟨gt, I, none⟩ (.slice pJ nJ cJ)).setCell ⟨gt, J, none⟩ (.slice pI nI cI)) := (b67.setCell (p := ⟨gt, I, none⟩) hgb _).setCell (p := ⟨gt, J, none⟩) hgb _
        have HN : Hid (EN ((w7.setCell ⟨gt, I, none⟩ (.slice pJ nJ cJ)).setCell ⟨gt, J, none⟩ (.slice pI nI cI)) (some ⟨gt, 0, none⟩) n ct (swapE es I J)) := by
          refine ⟨by rw [swapE_len]; exact hnl, hnc7, by unfold maxLen at hcm7; omega, fun _ => ⟨gt, 0, rfl, row_lt h9, fun k hk => ?_⟩⟩
          rw [swapE_get es I J k (by omega), Nat.zero_add, cell_of_row _ _ _ _ _ _ h9]
          have hs := swapK_lt n I J k hIn hJn hk
          obtain ⟨p', n', c', hv', hi'⟩ := (HV.out (swapK I J k) hs).2
          refine ⟨p', n', c', ?_, hi'.below b69⟩
          rw [← hv']
          unfold swapK
          by_cases k1 : k = J
          · subst k1
            rw [if_pos rfl, Array.getElem?_setIfInBounds_self_of_lt (by simp; omega), hVI]
          · rw [if_neg k1, Array.getElem?_setIfInBounds_ne (fun h => k1 h.symm)]
            by_cases k2 : k = I
            · subst k2
              rw [if_pos rfl, Array.getElem?_setIfInBounds_self_of_lt (by omega), hVJ]
            · rw [if_neg k2, Array.getElem?_setIfInBounds_ne (fun h => k2 h.symm)]
              exact hcur k hk
        have HII : Hid (In8 w6 pI nI cI (es.getD I [])) := hII
        have HIJ : Hid (In8 w6 pJ nJ cJ (es.getD J [])) := hIJ
        have HCI : Hid (w6.cell? ⟨b, o + I, none⟩ = some (.slice pI nI cI)) := by show _ = _; rw [(HV.out I hIn).1, hVI]
        have HCJ : Hid (w6.cell? ⟨b, o + J, none⟩ = some (.slice pJ nJ cJ)) := by show _ = _; rw [(HV.out J hJn).1, hVJ]
        have B9 := B6.trans (b69.mono B6.size)
        have HL9 : Hid (LogAt ((w7.setCell ⟨gt, I, none⟩ (.slice pJ nJ cJ)).setCell ⟨gt, J, none⟩ (.slice pI nI cI)) w.heap.size g ev K E) := HL6.out.below b69
        have iEJ : ∀ W : World, (Instr.indexAt 47 (.slice (some ⟨b, o, none⟩) n c) (.int .i64 J)).run Tryd.prog W = .ok (.pointer (some ⟨b, o + J, none⟩)) W := fun W => eindex_at b o n c J hJn W
        have iEI : ∀ W : World, (Instr.indexAt 47 (.slice (some ⟨b, o, none⟩) n c) (.int .i64 I)).run Tryd.prog W = .ok (.pointer (some ⟨b, o + I, none⟩)) W := fun W => eindex_at b o n c I hIn W
        have iTI : ∀ W : World, (Instr.indexAt 47 (.slice (some ⟨gt, 0, none⟩) n ct) (.int .i64 I)).run Tryd.prog W = .ok (.pointer (some ⟨gt, I, none⟩)) W := fun W => by have := eindex_at gt 0 n ct I hIn W; rwa [Nat.zero_add] at this
        have iTJ : ∀ W : World, (Instr.indexAt 47 (.slice (some ⟨gt, 0, none⟩) n ct) (.int .i64 J)).run Tryd.prog W = .ok (.pointer (some ⟨gt, J, none⟩)) W := fun W => by have := eindex_at gt 0 n ct J hJn W; rwa [Nat.zero_add] at this
        clear hII hIJ HL6 HL7 hh7 h8 h9 htk7 hcur hgr7 HV hVI hVJ
        go_wp2_with (first
          | (at_builtin
             refine wpList_appRun rfl (.tmp 81) (.tmp 82) 47 47 rfl _ _ rfl rfl (by rw [Nat.zero_add] at hr7; exact hr7) ?_))
        refine (made_any _ (HTb.out.below B9) kp kn kc key (HK.out.below B9) _ n ct (swapE es I J) HN.out).mono ?_
        rintro e wa ⟨gx, ex, rfl, hLx, ba⟩
        have hE'l : (madeP (swapE es I J)).length = n + 1 := by rw [made_len _ (by rw [swapE_len]; omega), swapE_len, hnl]
        have HSW : Hid ((es.getD I []).take 300 = (es.getD J []).take 300 → madeP (swapE es I J) = E) := fun h => by rw [made_swap es I J (by omega) (by omega) (by omega) h]; exact HEE.out
        have HGI : Hid (E.getD I [] = (es.getD I []).take 300) := by show _ = _; rw [← HEE.out]; exact made_get es I (by omega) (by omega)
        have HGJ : Hid ((madeP (swapE es I J)).getD I [] = (es.getD J []).take 300) := by
          show _ = _
          rw [made_get (swapE es I J) I (by rw [swapE_len]; omega) (by rw [swapE_len]; omega), swapE_get es I J I (by omega)]
          unfold swapK
          by_cases h : I = J
          · rw [if_pos h, h]
          · rw [if_neg h, if_pos rfl]
        rw [HKK.out] at hLx
        obtain ⟨E', hE'⟩ : ∃ E', madeP (swapE es I J) = E' := ⟨_, rfl⟩
        rw [hE'] at hE'l HSW HGJ hLx ⊢
        have b6a : Below w6.heap.size w6 wa := b69.trans (ba.mono b69.size)
        have Ba := B9.trans (ba.mono B9.size)
        have HLa : Hid (LogAt wa w.heap.size g ev K E) := HL9.out.below ba
        have HXa : Hid (LogR wa gx K E') := hLx.read
        have cIa : wa.cell? ⟨b, o + I, none⟩ = some (.slice pI nI cI) := by rw [b6a.cell (p := ⟨b, o + I, none⟩) hbl]; exact HCI.out
        have cJa : wa.cell? ⟨b, o + J, none⟩ = some (.slice pJ nJ cJ) := by rw [b6a.cell (p := ⟨b, o + J, none⟩) hbl]; exact HCJ.out
        have IIa : Hid (In8 wa pI nI cI (es.getD I [])) := HII.out.below b6a
        have IJa : Hid (In8 wa pJ nJ cJ (es.getD J [])) := HIJ.out.below b6a
        clear hE' hLx ba b69 B9 HL9 HN HII HIJ HCI HCJ cI8 cT8 fT8 cT7 fT7 cJ7 hr7 iTI iTJ b67 B7 B6
        go_wp2_with fail
        refine (short_any wa pI nI cI 300 _ IIa.out (by omega)).mono ?_
        rintro e wa' ⟨nA, rfl, hnA, hIA, rfl⟩
        have IA : Hid (In8 wa' pI nA cI ((es.getD I []).take 300)) := hIA
        clear hIA
        go_wp2_with fail
        refine (short_any wa' pJ nJ cJ 300 _ IJa.out (by omega)).mono ?_
        rintro e wa ⟨nB, rfl, hnB, hIB, rfl⟩
        have IB : Hid (In8 wa pJ nB cJ ((es.getD J []).take 300)) := hIB
        clear hIB IIa IJa
        obtain ⟨A, hA⟩ : ∃ A, (es.getD I []).take 300 = A := ⟨_, rfl⟩
        obtain ⟨BB, hBB⟩ : ∃ BB, (es.getD J []).take 300 = BB := ⟨_, rfl⟩
        rw [hA] at IA HSW HGI
        rw [hBB] at IB HSW HGJ
        clear hA hBB
        go_wp2_with fail
        refine (equalK_any wa _ _ _ _ _ _ A BB IA.out IB.out).mono ?_
        rintro e wb ⟨rfl, rfl⟩
        go_wp2_with fail
        refine (logHead_any wb gx K E' (HTb.out.below Ba) HXa.out).mono ?_
        rintro e wc ⟨rfl, bc⟩
        have Bc := Ba.trans (bc.mono Ba.size)
        have HLc : Hid (LogAt wc w.heap.size g ev K E) := HLa.out.below bc
        have HXc : Hid (LogR wc gx K E') := HXa.out.below bc
        have IAc : Hid (In8 wc pI nA cI A) := IA.out.below bc
        have IBc : Hid (In8 wc pJ nB cJ BB) := IB.out.below bc
        clear HLa HXa IA IB bc Ba
        go_wp2_with fail
        refine (logHead_any wc g K E (HTb.out.below Bc) HLc.out.read).mono ?_
        rintro e wd ⟨rfl, bd⟩
        have Bd := Bc.trans (bd.mono Bc.size)
        have HLd : Hid (LogAt wd w.heap.size g ev K E) := HLc.out.below bd
        have HXd : Hid (LogR wd gx K E') := HXc.out.below bd
        have IAd : Hid (In8 wd pI nA cI A) := IAc.out.below bd
        have IBd : Hid (In8 wd pJ nB cJ BB) := IBc.out.below bd
        have hqq := eq_heads K E' E (by omega)
        clear HLc HXc IAc IBc bd Bc
        by_cases hal : A = BB
        · have hEE : E' = E := HSW.out hal
          rw [decide_eq_true (show rootP E' = rootP E by rw [hEE])] at hqq
          clear hEE HSW
          rw [decide_eq_true hal]
          go_wp2_with (first
            | (with_reducible refine atBin .eql 42 42 ?_
               refine wpList_eqlH rfl (.tmp 120) (.tmp 122) rfl (headP K E') (headP K E) true hqq rfl rfl ?_))
          go_ret
          exact ⟨rfl, Bd⟩
        · rw [decide_eq_false hal]
          by_cases hrt : rootP E' = rootP E
          · rw [decide_eq_true hrt] at hqq
            obtain ⟨hPl, hPr, _⟩ := path_way E (n + 1) I (by omega) (by omega) (by omega)
            obtain ⟨hQl, hQr, _⟩ := path_way E' (n + 1) I (by omega) (by omega) (by omega)
            rw [List.take_of_length_le (by omega)] at hPl hPr hQl hQr
            rw [HGI.out] at hPr
            rw [HGJ.out] at hQr
            have HPl : Hid ((pathP I E).length = wayLen I (n + 1)) := hPl
            have HQl : Hid ((pathP I E').length = wayLen I (n + 1)) := hQl
            have HRR : Hid (hP (textAt BB (leftsP I (n + 1)) (pathP I E') (wayLen I (n + 1))) = hP (textAt A (leftsP I (n + 1)) (pathP I E) (wayLen I (n + 1)))) := by show _ = _; rw [← hPr, ← hQr, hrt]
            have pIn : pathOut I ((n : Int) + 1) E = (pathP I E, 0) := by
              have h := pathOut_in I (n + 1) E (by omega) (by omega)
              rw [List.take_of_length_le (by omega)] at h
              exact h
            have qIn : pathOut I ((n : Int) + 1) E' = (pathP I E', 0) := by
              have h := pathOut_in I (n + 1) E' (by omega) (by omega)
              rw [List.take_of_length_le (by omega)] at h
              exact h
            have HPI : Hid (pathOut I ((n : Int) + 1) E = (pathP I E, 0)) := pIn
            have HQI : Hid (pathOut I ((n : Int) + 1) E' = (pathP I E', 0)) := qIn
            clear hPl hPr hQl hQr pIn qIn hrt
            go_wp2_with (first
              | (with_reducible refine atBin .eql 42 42 ?_
                 refine wpList_eqlH rfl (.tmp 120) (.tmp 122) rfl (headP K E') (headP K E) true hqq rfl rfl ?_))
            refine (logPath_any wd g K E I ((n : Int) + 1) (HTb.out.below Bd) HLd.out.read).mono ?_
            rw [HPI.out]
            rintro e we ⟨v, rfl, hOw, be⟩
            have hOw : Own we wd.heap.size v (pathP I E) := hOw
            have Be := Bd.trans (be.mono Bd.size)
            have HXe : Hid (LogR we gx K E') := HXd.out.below be
            have IAe : Hid (In8 we pI nA cI A) := IAd.out.below be
            have IBe : Hid (In8 we pJ nB cJ BB) := IBd.out.below be
            have hall : ∀ d ∈ pathP I E, d.length = 32 ∧ Bytes d := pathP_ok I E
            obtain ⟨pl, cl, rfl, hDl⟩ := hOw.view hall
            have DL : Hid (D32 we pl (pathP I E).length cl (pathP I E)) := hDl
            clear hOw hDl HLd HXd IAd IBd be Bd hqq
            go_wp2_with fail
            refine (logPath_any we gx K E' I ((n : Int) + 1) (HTb.out.below Be) HXe.out).mono ?_
            rw [HQI.out]
            rintro e wf ⟨v, rfl, hOw, bf⟩
            have hOw : Own wf we.heap.size v (pathP I E') := hOw
            have Bf := Be.trans (bf.mono Be.size)
            have IAf : Hid (In8 wf pI nA cI A) := IAe.out.below bf
            have IBf : Hid (In8 wf pJ nB cJ BB) := IBe.out.below bf
            have DLf : Hid (D32 wf pl (pathP I E).length cl (pathP I E)) := DL.out.below bf
            have hall' : ∀ d ∈ pathP I E', d.length = 32 ∧ Bytes d := pathP_ok I E'
            obtain ⟨pm, cm, rfl, hDm⟩ := hOw.view hall'
            have DM : Hid (D32 wf pm (pathP I E').length cm (pathP I E')) := hDm
            have hg1 : Hid (∀ k, k < (pathP I E).length → ((pathP I E).getD k []).length = 32) := fun k hk => (DLf.out.get k hk).1
            have hg2 : Hid (∀ k, k < (pathP I E').length → ((pathP I E').getD k []).length = 32) := fun k hk => (DM.out.get k hk).1
            clear hOw hDm HXe IAe IBe DL bf Be HPI HQI hall hall'
            go_wp2_with fail
            refine (clash_any (I : Int) ((n : Int) + 1) (by omega) (by omega) A pI nA cI (by omega) pl _ cl (pathP I E) BB pJ nB cJ (by omega) pm _ cm (pathP I E') wf (HTb.out.below Bf) IAf.out DLf.out IBf.out DM.out).mono ?_
            rintro e wg ⟨hcl, bg⟩
            have Bg := Bf.trans (bg.mono Bf.size)
            have hcl : Clashed wf wg (I : Int) ((n + 1 : Nat) : Int) A (pathP I E) BB (pathP I E') e := hcl
            rcases hcl.cases (by omega) HPl.out hg1.out hg2.out with ⟨h, _⟩ | ⟨_, _, X, Y, v1, v2, hXY, rfl, o1, o2, _, hroot⟩
            · rcases h with h | h
              · exact absurd HQl.out h
              · exact absurd h.1 hal
            · rw [HRR.out, decide_eq_true rfl] at hroot
              rw [hroot]
              have hHH : hP X = hP Y := of_decide_eq_true hroot
              obtain ⟨g1, c1, rfl, _, _, i1⟩ := o1.in8
              obtain ⟨g2, c2, rfl, _, _, i2⟩ := o2.in8
              have I1 : Hid (In8 wg (some ⟨g1, 0, none⟩) X.length c1 X) := i1
              have I2 : Hid (In8 wg (some ⟨g2, 0, none⟩) Y.length c2 Y) := i2
              have HXY : Hid (decide (X = Y) = false) := decide_eq_false hXY
              have hh1 := hP_len Y
              have hc1 := hP_bytes Y
              have G1 : Hid (hP X = hP Y) := hHH
              clear hcl hroot hXY hHH o1 o2 i1 i2 IAf IBf DLf DM bg Bf HPl HQl HRR hg1 hg2
              go_wp2_with fail
              refine (equalK_any wg _ _ _ _ _ _ X Y I1.out I2.out).mono ?_
              rintro e wh ⟨rfl, rfl⟩
              rw [HXY.out]
              go_wp2_with fail
              have hx1 := annalHash_any KS HS wh (HTb.out.below Bg) _ _ _ X I1.out
              rw [show hashP KS HS X = hP Y from G1.out] at hx1
              refine Calls.mono hx1 ?_
              rintro e wi ⟨rfl, bi⟩
              have Bi := Bg.trans (bi.mono Bg.size)
              have I2i : Hid (In8 wi (some ⟨g2, 0, none⟩) Y.length c2 Y) := I2.out.below bi
              clear hx1 I1 I2 bi Bg
              go_wp2_with fail
              have hx2 := annalHash_any KS HS wi (HTb.out.below Bi) _ _ _ Y I2i.out
              rw [show hashP KS HS Y = hP Y from rfl] at hx2
              refine Calls.mono hx2 ?_
              rintro e wj ⟨rfl, bj⟩
              have Bj := Bi.trans (bj.mono Bi.size)
              clear hx2 I2i bj Bi G1
              generalize hP Y = H at *
              go_wp2_with (first
                | (with_reducible refine atBin .eql 25 25 ?_
                   refine wpList_eqlS rfl (.tmp 167) (.tmp 169) rfl H hh1 hc1 rfl rfl ?_))
              go_ret
              exact ⟨rfl, Bj⟩
          · rw [decide_eq_false hrt] at hqq
            go_wp2_with (first
              | (with_reducible refine atBin .eql 42 42 ?_
                 refine wpList_eqlH rfl (.tmp 120) (.tmp 122) rfl (headP K E') (headP K E) false hqq rfl rfl ?_))
            go_ret
            exact ⟨rfl, Bd⟩
end Go.Proofs.YtcmjlhcpoajbkaaDoor
