import Derived.Test.YtcmjlhcpoajbkaaDoorQLz
namespace Go.Proofs.YtcmjlhcpoajbkaaDoor
set_option maxRecDepth 10000
set_option linter.unusedSimpArgs false
open Go.RowKit
/-- What a call of Load comes to. -/
def LoadOut (w : World) (key : List Int) (LP : List (List Int) × Int × Nat) (e : Ending) (w' : World) : Prop :=
  ∃ v, e = .returned (.tuple #[v, .int .i64 LP.2.1, .int .i64 LP.2.2]) ∧ Below w.heap.size w w' ∧
    ((LP.2.1 = 0 ∨ LP.2.1 = 3) → ∃ g ev, v = .pointer (some ⟨g, 0, none⟩) ∧ LogAt w' w.heap.size g ev key LP.1) ∧ (¬ (LP.2.1 = 0 ∨ LP.2.1 = 3) → v = .pointer none)
theorem loadOut_log {w w' : World} {key : List Int} {es : List (List Int)} {m : Int} {pl g : Nat} {ev : Value} (hm : m = 0 ∨ m = 3) (hb : Below w.heap.size w w') (hL : LogAt w' w.heap.size g ev key es) :
    LoadOut w key (es, m, pl) (.returned (.tuple #[.pointer (some ⟨g, 0, none⟩), .int .i64 m, .int .i64 pl])) w' :=
  ⟨_, rfl, hb, fun _ => ⟨g, ev, rfl, hL⟩, fun h => absurd hm h⟩
theorem loadOut_nil {w w' : World} {key : List Int} {es : List (List Int)} {m : Int} {pl : Nat} (hm : ¬ (m = 0 ∨ m = 3)) (hb : Below w.heap.size w w') :
    LoadOut w key (es, m, pl) (.returned (.tuple #[.pointer none, .int .i64 m, .int .i64 pl])) w' :=
  ⟨_, rfl, hb, fun h => absurd h hm, fun _ => rfl⟩
set_option maxHeartbeats 20000000 in
theorem load_any (w : World) (hT : Tabs KS HS w) (kp : Option Addr) (kn kc : Nat) (key : List Int) (hk : In8 w kp kn kc key) (hkn : kn ≤ 100) (f : List UInt8) (hf : f.length ≤ 140737488355328) :
    Calls Tryd.prog 37 #[.slice kp kn kc, .string ⟨f.toArray⟩] w (LoadOut w key (loadP key f)) := by
  have hsz : (ByteArray.mk f.toArray).size = f.length := by show f.toArray.size = _; simp
  obtain ⟨LP, hLP⟩ : ∃ LP, loadP key f = LP := ⟨_, rfl⟩
  have HLP : Hid (loadF key f (f.length + 1) 0 [] Z32 = LP) := hLP
  rw [hLP]
  clear hLP
  have HK : Hid (In8 w kp kn kc key) := hk
  have HTb : Hid (Tabs KS HS w) := hT
  clear hk hT
  go_enter Tryd.func37, Tryd.ntmps37
  go_wp2_with fail
  refine (new_any w kp kn kc key HK.out hkn).mono ?_
  rintro e w1 ⟨g, rfl, hL1, b1⟩
  have b1s := b1.size
  have bA : Below w1.heap.size w1 (w1.alloc (.cells Z8x32 25)) := (Below.refl _ _).alloc (Nat.le_refl _) _
  have HL1 : Hid (LogZ (w1.alloc (.cells Z8x32 25)) w.heap.size g (.slice none 0 0) key [] w1.heap.size) := (hL1.far w1.heap.size (Nat.le_refl _)).below bA
  have D1 : Hid (Dg (w1.alloc (.cells Z8x32 25)) w1.heap.size Z32) := Dg.new w1 _ rfl
  have B1 : Hid (Below w.heap.size w (w1.alloc (.cells Z8x32 25))) := b1.trans (bA.mono b1s)
  clear hL1 b1 bA
  go_wp2_with fail
  go_loopw [10] (fun i wr => ∃ (pl k : Nat) (es : List (List Int)) (s : List Int) (ev : Value), i = .int .i64 pl ∧ pl ≤ f.length ∧ f.length < pl + k ∧ loadF key f k pl es s = LP ∧ s.length = 32 ∧ Bytes s ∧ LogZ wr w.heap.size g ev key es w1.heap.size ∧ Dg wr w1.heap.size s ∧ Below w.heap.size w wr) (fun i _ => f.length - (intOf i).toNat)
  case atStart => exact ⟨0, f.length + 1, [], Z32, _, rfl, by omega, by omega, HLP.out, rfl, Z32_bytes, HL1.out, D1.out, B1.out⟩
  case round =>
    obtain ⟨pl, k, es, s, ev, rfl, hpl, hfu, hload, hsl, hsb, hL, hD, hbr⟩ := hrel
    clear HL1 D1 B1 HLP
    obtain ⟨k, rfl⟩ : ∃ k', k = k' + 1 := ⟨k - 1, by omega⟩
    by_cases hend : pl < f.length
    · have hend' : (pl : Int) < f.length := by omega
      have hst := str_back f pl hpl
      obtain ⟨ep, ec, rfl⟩ := hL.log.shape
      have hce : ∀ W, LogZ W w.heap.size g (.slice ep es.length ec) key es w1.heap.size → W.cell? ⟨g, 1, none⟩ = some (.slice ep es.length ec) := fun W h => h.log.cell
      have HL : Hid (LogZ wr w.heap.size g (.slice ep es.length ec) key es w1.heap.size) := hL
      have HD : Hid (Dg wr w1.heap.size s) := hD
      have HLo : Hid (loadF key f (k + 1) pl es s = LP) := hload
      have hef : es.length ≤ ec := by
        obtain ⟨vs, ⟨_, ⟨h, h'⟩ | ⟨r, cap, cur, h, _, _, hcc, _⟩⟩, _⟩ := hL.own
        · omega
        · cases h; exact hcc
      clear hL hD hload
      go_wp2_with fail
      have HLd : LogZ wr.drew w.heap.size g (.slice ep es.length ec) key es w1.heap.size := HL.out.below (Below.refl _ _).drew
      have S0 := hce _ HLd
      have BD : Below w.heap.size w wr.drew := hbr.drew
      refine wp_region_noPanic ?_
      refine wp_region_held (S := fun W => W.cell? ⟨g, 1, none⟩ = some (.slice ep es.length ec)) follows ?_
      refine wpAnyH_take (i := 0) (v := .string ⟨f.toArray⟩) rfl (by kernel_rfl) (by kernel_rfl) (by kernel_rfl) (fun _ _ _ h => h) (.inl ⟨rfl, fun W _ => by go_simp⟩) S0 ?_
      simp only [Act.put, List.getElem_toArray, List.getElem_cons_zero, List.getElem_cons_succ, List.setIfInBounds_toArray, List.set_cons_zero, List.set_cons_succ]
      refine wpAnyH_take (i := 1) (v := .int .i64 pl) rfl (by kernel_rfl) (by kernel_rfl) (by kernel_rfl) (fun _ _ _ h => h) (.inl ⟨rfl, fun W _ => by go_simp⟩) S0 ?_
      simp only [Act.put, List.getElem_toArray, List.getElem_cons_zero, List.getElem_cons_succ, List.setIfInBounds_toArray, List.set_cons_zero, List.set_cons_succ]
      refine wpAnyH_take (i := 2) (v := .string ⟨(f.drop pl).toArray⟩) rfl (by kernel_rfl) (by kernel_rfl) (by kernel_rfl) (fun _ _ _ h => h) (.inl ⟨rfl, fun W _ => by have e := hst W; go_simp⟩) S0 ?_
      simp only [Act.put, List.getElem_toArray, List.getElem_cons_zero, List.getElem_cons_succ, List.setIfInBounds_toArray, List.set_cons_zero, List.set_cons_succ]
      refine wpAnyH_take (i := 3) (v := .pointer (some ⟨g, 0, none⟩)) rfl (by kernel_rfl) (by kernel_rfl) (by kernel_rfl) (fun _ _ _ h => h) (.inl ⟨rfl, fun W _ => by go_simp⟩) S0 ?_
      simp only [Act.put, List.getElem_toArray, List.getElem_cons_zero, List.getElem_cons_succ, List.setIfInBounds_toArray, List.set_cons_zero, List.set_cons_succ]
      refine wpAnyH_take (i := 4) (v := .pointer (some ⟨g, 0, none⟩)) rfl (by kernel_rfl) (by kernel_rfl) (by kernel_rfl) (fun _ _ _ h => h) (.inl ⟨rfl, fun W _ => by go_simp⟩) S0 ?_
      simp only [Act.put, List.getElem_toArray, List.getElem_cons_zero, List.getElem_cons_succ, List.setIfInBounds_toArray, List.set_cons_zero, List.set_cons_succ]
      refine wpAnyH_take (i := 5) (v := .pointer (some ⟨g, 1, none⟩)) rfl (by kernel_rfl) (by kernel_rfl) (by kernel_rfl) (fun _ _ _ h => h) (.inl ⟨rfl, fun W _ => by go_simp⟩) S0 ?_
      simp only [Act.put, List.getElem_toArray, List.getElem_cons_zero, List.getElem_cons_succ, List.setIfInBounds_toArray, List.set_cons_zero, List.set_cons_succ]
      refine wpAnyH_take (i := 6) (v := .slice ep es.length ec) rfl (by kernel_rfl) (by kernel_rfl) (by kernel_rfl) (fun _ _ _ h => h) (.inl ⟨rfl, fun W hW => by have e := hW; go_simp⟩) S0 ?_
      simp only [Act.put, List.getElem_toArray, List.getElem_cons_zero, List.getElem_cons_succ, List.setIfInBounds_toArray, List.set_cons_zero, List.set_cons_succ]
      refine wpAnyH_take (i := 7) (v := .int .i64 es.length) rfl (by kernel_rfl) (by kernel_rfl) (by kernel_rfl) (fun _ _ _ h => h) (.inl ⟨rfl, fun W _ => by go_simp⟩) S0 ?_
      simp only [Act.put, List.getElem_toArray, List.getElem_cons_zero, List.getElem_cons_succ, List.setIfInBounds_toArray, List.set_cons_zero, List.set_cons_succ]
      refine relist #[true, true, true, true, true, true, true, true, false, false, false, false, false, false, false, false, false] (by kernel_rfl) ?_
      refine any_two (i := 8) (j := 13) (by kernel_rfl) ?_ ?_
      · refine wpOp_call (f := 78) (args := #[.string ⟨(f.drop pl).toArray⟩, .int .i64 es.length]) rfl rfl (by go_simp) ?_
        refine (first_any (f.drop pl) es.length wr.drew).mono ?_
        rintro ex w2 ⟨p, n, c, SL, rfl, hSl, hSb, b2, hgood⟩
        have L2 := HLd.below b2
        refine ⟨_, rfl, hce _ L2, ?_⟩
        simp only [Act.put, List.getElem_toArray, List.getElem_cons_zero, List.getElem_cons_succ, List.setIfInBounds_toArray, List.set_cons_zero, List.set_cons_succ]
        refine wpAnyH_take (i := 9) (v := .tuple #[.slice p n c, .agg (A8 SL), .int .i64 (errN (f.drop pl) es.length)]) rfl (by kernel_rfl) (by kernel_rfl) (by kernel_rfl) (fun _ _ _ h => h) (.inl ⟨rfl, fun W _ => by go_simp⟩) (hce _ L2) ?_
        simp only [Act.put, List.getElem_toArray, List.getElem_cons_zero, List.getElem_cons_succ, List.setIfInBounds_toArray, List.set_cons_zero, List.set_cons_succ]
        refine wpAnyH_take (i := 10) (v := .slice p n c) rfl (by kernel_rfl) (by kernel_rfl) (by kernel_rfl) (fun _ _ _ h => h) (.inl ⟨rfl, fun W _ => by go_simp⟩) (hce _ L2) ?_
        simp only [Act.put, List.getElem_toArray, List.getElem_cons_zero, List.getElem_cons_succ, List.setIfInBounds_toArray, List.set_cons_zero, List.set_cons_succ]
        refine wpAnyH_take (i := 11) (v := .agg (A8 SL)) rfl (by kernel_rfl) (by kernel_rfl) (by kernel_rfl) (fun _ _ _ h => h) (.inl ⟨rfl, fun W _ => by go_simp⟩) (hce _ L2) ?_
        simp only [Act.put, List.getElem_toArray, List.getElem_cons_zero, List.getElem_cons_succ, List.setIfInBounds_toArray, List.set_cons_zero, List.set_cons_succ]
        refine wpAnyH_take (i := 12) (v := .int .i64 (errN (f.drop pl) es.length)) rfl (by kernel_rfl) (by kernel_rfl) (by kernel_rfl) (fun _ _ _ h => h) (.inl ⟨rfl, fun W _ => by go_simp⟩) (hce _ L2) ?_
        simp only [Act.put, List.getElem_toArray, List.getElem_cons_zero, List.getElem_cons_succ, List.setIfInBounds_toArray, List.set_cons_zero, List.set_cons_succ]
        refine relist #[true, true, true, true, true, true, true, true, true, true, true, true, true, false, false, false, false] (by kernel_rfl) ?_
        refine any_one (i := 13) (by kernel_rfl) ?_
        have bN : Below w2.heap.size w2 (w2.alloc (.cells Z8x32 25)) := (Below.refl _ _).alloc (Nat.le_refl _) _
        refine wpOp_val (v := .pointer (some ⟨w2.heap.size, 0, none⟩)) (w' := w2.alloc (.cells Z8x32 25)) rfl rfl (by go_simp; rfl) ?_
        have L3 := L2.below bN
        refine ⟨hce _ L3, ?_⟩
        simp only [Act.put, List.getElem_toArray, List.getElem_cons_zero, List.getElem_cons_succ, List.setIfInBounds_toArray, List.set_cons_zero, List.set_cons_succ]
        refine wpAnyH_take (i := 14) (v := .slice p n c) rfl (by kernel_rfl) (by kernel_rfl) (by kernel_rfl) (fun _ _ _ h => h) (.inl ⟨rfl, fun W _ => by go_simp⟩) (hce _ L3) ?_
        simp only [Act.put, List.getElem_toArray, List.getElem_cons_zero, List.getElem_cons_succ, List.setIfInBounds_toArray, List.set_cons_zero, List.set_cons_succ]
        refine relist #[true, true, true, true, true, true, true, true, true, true, true, true, true, true, true, false, false] (by kernel_rfl) ?_
        refine any_one (i := 15) (by kernel_rfl) ?_
        have N3 : Dg (w2.alloc (.cells Z8x32 25)) w2.heap.size Z32 := Dg.new w2 _ rfl
        refine wpOp_store_D rfl rfl (.tmp 12) (.tmp 37) rfl w2.heap.size SL rfl rfl Z32 N3 hSl ?_
        intro U hU
        have hb3 : Below w2.heap.size w2 U := hU.below _ _ (Nat.le_refl _) bN
        have hLU := L2.below hb3
        refine ⟨hce _ hLU, ?_⟩
        simp only [Act.put, List.getElem_toArray, List.getElem_cons_zero, List.getElem_cons_succ, List.setIfInBounds_toArray, List.set_cons_zero, List.set_cons_succ]
        refine wpAnyH_take (i := 16) (v := .int .i64 (errN (f.drop pl) es.length)) rfl (by kernel_rfl) (by kernel_rfl) (by kernel_rfl) (fun _ _ _ h => h) (.inl ⟨rfl, fun W _ => by go_simp⟩) (hce _ hLU) ?_
        simp only [Act.put, List.getElem_toArray, List.getElem_cons_zero, List.getElem_cons_succ, List.setIfInBounds_toArray, List.set_cons_zero, List.set_cons_succ]
        refine wpAnyH_done (by kernel_rfl) ?_ _
        refine NoPanic.normal ?_
        have hdw : wr.drew.heap.size = wr.heap.size := rfl
        have hDU : Dg U w1.heap.size s := (Dg.next (w := wr.drew) ⟨HD.out.len, HD.out.here⟩ b2).next hb3
        have hNU : Dg U w2.heap.size SL := hU.dg hSl
        have BU : Below w.heap.size w U := (BD.trans (b2.mono BD.size)).trans (hb3.mono (Nat.le_trans BD.size b2.size))
        have hd9 := HD.out.lt
        have hgNe : w2.heap.size ≠ w1.heap.size := by have := b2.size; omega
        have hgl := HL.out.log.lt
        have hrl := HL.out.log.rowlt
        have hIeU : ∀ {ge : Nat}, In8 w2 (some ⟨ge, 0, none⟩) n c (entN (f.drop pl)) → ge < w2.heap.size → In8 U (some ⟨ge, 0, none⟩) n c (entN (f.drop pl)) := fun h _ => h.below hb3
        have hgeF : ∀ ge, wr.drew.heap.size ≤ ge → ge < w2.heap.size → ge < U.heap.size ∧ w1.heap.size < ge ∧ ge ≠ g ∧ (Value.slice ep es.length ec).ownBlock ≠ some ge := fun ge h1 h2 => by
          rw [hdw] at h1
          have := hb3.size
          exact ⟨by omega, by omega, by omega, fun h => by have := (hrl ge h).2; omega⟩
        clear hU N3 L3 L2 HLd S0 BD b2 hb3 bN HL HD hst
        generalize w2.heap.size = gN at *
        have HLU : Hid (LogZ U w.heap.size g (.slice ep es.length ec) key es w1.heap.size) := hLU
        have HDU : Hid (Dg U w1.heap.size s) := hDU
        have HNU : Hid (Dg U gN SL) := hNU
        clear hLU hDU hNU
        obtain ⟨ER, hER⟩ : ∃ ER, errN (f.drop pl) es.length = ER := ⟨_, rfl⟩
        have HLo2 : Hid ((if ER ≠ 0 then (es, ER, pl) else if tagN (f.drop pl) ≠ sealP key s (entN (f.drop pl)) then (es, 4, pl) else loadF key f k (pl + (4 + lenN (f.drop pl) + 32)) (es ++ [entN (f.drop pl)]) (sealP key s (entN (f.drop pl)))) = LP) := by
          have h := HLo.out
          simp only [loadF] at h
          rw [if_neg (by omega), hER] at h
          exact h
        have HEZ : Hid (ER = 0 → 4 + lenN (f.drop pl) + 32 ≤ (f.drop pl).length ∧ lenN (f.drop pl) ≤ 300 ∧ es.length < 64) := fun h => errN_zero _ _ (hER.trans h)
        have HER3 : Hid (ER = 3 ∨ ER = 2 ∨ ER = 0) := by
          show _ ∨ _
          rw [← hER]
          unfold errN
          split
          · exact .inl rfl
          · split
            · exact .inr (.inl rfl)
            · split
              · exact .inl rfl
              · exact .inr (.inr rfl)
        rw [hER] at hgood ⊢
        have HG : Hid _ := hgood
        clear hER hgood HLo
        rcases HER3.out with rfl | rfl | rfl
        · have hLP : LP = (es, 3, pl) := by rw [← HLo2.out, if_pos (by decide)]
          subst hLP
          clear HLo2 HG HEZ
          go_wp2_with fail
          go_ret3
          exact loadOut_log (.inr rfl) BU HLU.out.log
        · have hLP : LP = (es, 2, pl) := by rw [← HLo2.out, if_pos (by decide)]
          subst hLP
          clear HLo2 HG HEZ
          go_wp2_with fail
          go_ret3
          exact loadOut_nil (by decide) BU
        · obtain ⟨hSLe, hne, hn3, ge, rfl, hge1, hge2, hIe⟩ := HG.out rfl
          obtain ⟨hz1, hz2, hz3⟩ := HEZ.out rfl
          have HNE : Hid (lenN (f.drop pl) = n) := hne.symm
          have HSE : Hid (tagN (f.drop pl) = SL) := hSLe.symm
          rw [List.length_drop, HNE.out] at hz1
          rw [HNE.out] at hz2
          rw [HSE.out, HNE.out] at HLo2
          clear hne hSLe
          have IeU : Hid (In8 U (some ⟨ge, 0, none⟩) n c (entN (f.drop pl))) := hIeU hIe hge2
          have hgeU : ge < U.heap.size ∧ w1.heap.size < ge ∧ ge ≠ g ∧ (Value.slice ep es.length ec).ownBlock ≠ some ge := hgeF ge hge1 hge2
          clear HG HEZ hIe
          go_wp2_with (first
            | (with_reducible refine atLoad 25 ?_
               refine load_D rfl (.tmp 9) rfl w1.heap.size rfl s HDU.out ?_))
          refine (sealOf_any U (HTb.out.below BU) kp kn kc key (HK.out.below BU) s hsl hsb (some ⟨ge, 0, none⟩) n c (entN (f.drop pl)) IeU.out (by omega)).mono ?_
          rintro ex w5 ⟨rfl, b5⟩
          have B5 := BU.trans (b5.mono BU.size)
          have HL5 : Hid (LogZ w5 w.heap.size g (.slice ep es.length ec) key es w1.heap.size) := HLU.out.below b5
          have D5 : Hid (Dg w5 w1.heap.size s) := HDU.out.next b5
          have N5 : Hid (Dg w5 gN SL) := HNU.out.next b5
          have I5 : Hid (In8 w5 (some ⟨ge, 0, none⟩) n c (entN (f.drop pl))) := IeU.out.below b5
          have hge5 : ge < w5.heap.size := Nat.lt_of_lt_of_le hgeU.1 b5.size
          have hn1 := N5.out.lt
          have hk5 := sealP_len key s (entN (f.drop pl))
          have hb5 := sealP_bytes key s (entN (f.drop pl))
          have hgN9 : gN ≠ w1.heap.size := hgNe
          obtain ⟨SE, hSE⟩ : ∃ SE, sealP key s (entN (f.drop pl)) = SE := ⟨_, rfl⟩
          rw [hSE] at hk5 hb5 HLo2 ⊢
          clear hSE HLU HDU HNU IeU b5 BU
          go_wp2_with (first
            | (with_reducible refine atStore 25 ?_
               refine store_D rfl _ _ rfl w1.heap.size SE rfl rfl s D5.out hk5 ?_
               intro X hX
               refine hideGoal ?_))
          have hkX : Kp (fun j => j = w1.heap.size) w5 X := ⟨(hX.below w1.heap.size w5 (Nat.le_refl _) (Below.refl _ _)).os, (hX.below w1.heap.size w5 (Nat.le_refl _) (Below.refl _ _)).tape, (hX.below w1.heap.size w5 (Nat.le_refl _) (Below.refl _ _)).output, Nat.le_of_eq hX.size.symm, fun j _ hj => hX.other j hj⟩
          have HLX : Hid (LogZ X w.heap.size g (.slice ep es.length ec) key es w1.heap.size) := HL5.out.kp hkX (fun _ h => .inr h)
          have DX : Hid (Dg X w1.heap.size SE) := hX.dg hk5
          have NX : Hid (Dg X gN SL) := N5.out.other hX hgN9
          have IX : Hid (In8 X (some ⟨ge, 0, none⟩) n c (entN (f.drop pl))) := I5.out.same (Nat.le_of_eq hX.size.symm) (fun ad ha _ => by cases ha; exact hX.other _ (by show ge ≠ _; omega))
          have BX : Below w.heap.size w X := hX.below _ _ (by omega) B5
          have hgeX : ge < X.heap.size := by rw [hX.size]; exact hge5
          clear hX hkX HL5 D5 N5 I5 B5
          refine openGoal ?_
          by_cases htg : SL = SE
          · have HTG : Hid ((!decide (SL = SE)) = false) := by show _ = _; rw [decide_eq_true htg]; rfl
            have HLo3 : Hid (loadF key f k (pl + (4 + n + 32)) (es ++ [entN (f.drop pl)]) SE = LP) := by
              have h := HLo2.out
              rw [if_neg (by decide), if_neg (by simpa using htg)] at h
              exact h
            clear HLo2 htg
            have hc1 := HLX.out.log.cell
            have h2N := heapN X (.cells #[.slice (some ⟨ge, 0, none⟩) n c] 22) _ rfl
            have bN : Below X.heap.size X (X.alloc (.cells #[.slice (some ⟨ge, 0, none⟩) n c] 22)) := (Below.refl _ _).alloc (Nat.le_refl _) _
            obtain ⟨ga, cap, w7, hr7, hc7, hf7, hL7, hk7⟩ := app_worldZ (X.alloc (.cells #[.slice (some ⟨ge, 0, none⟩) n c] 22)) w.heap.size g _ key es w1.heap.size (HLX.out.below bN) (by have := DX.out.lt; simp; omega) X.heap.size (some ⟨ge, 0, none⟩) n c (entN (f.drop pl)) h2N (IX.out.below bN) hn3 hz3 (fun ad ha => by
              cases ha
              exact ⟨by show w.heap.size ≤ ge; omega, by show ge < _; simp; omega, hgeU.2.2.1, hgeU.2.2.2, by have := hgeU.2.1; show ge ≠ _; omega⟩)
            have DN : Dg (X.alloc (.cells #[.slice (some ⟨ge, 0, none⟩) n c] 22)) w1.heap.size SE := DX.out.next bN
            have hdis2 := log_dg (HLX.out.below bN).log DN
            have D7 : Hid (Dg (w7.setCell ⟨g, 1, none⟩ (.slice (some ⟨ga, 0, none⟩) (es.length + 1) cap)) w1.heap.size SE) := ⟨hk5, (hk7.block _ DN.lt (fun hx => by rcases hx with hx | hx; exact hdis2.1 hx; exact hdis2.2 hx)).trans DN.here⟩
            have B7 : Below w.heap.size w (w7.setCell ⟨g, 1, none⟩ (.slice (some ⟨ga, 0, none⟩) (es.length + 1) cap)) := hk7.below (fun j hj => by
              rcases hj with hj | hj
              · rw [hj]; exact HLX.out.base
              · exact (HLX.out.log.rowlt j hj).1) (Nat.le_trans BX.size bN.size) (BX.trans (bN.mono BX.size))
            have HL7 : Hid _ := hL7
            have HR7 : Hid _ := hr7
            have HD7 : Hid _ := B7
            clear hr7 B7
            clear hL7 hk7 h2N bN DN HLX IX BX
            go_wp2_with (first
              | (with_reducible refine atLoad 25 ?_
                 first
                   | refine load_D rfl (.tmp 12) rfl gN rfl SL NX.out ?_
                   | refine load_D rfl (.tmp 9) rfl w1.heap.size rfl SE DX.out ?_)
              | (with_reducible refine atBin .neq 25 25 ?_
                 refine wpList_neq rfl (.tmp 52) (.tmp 53) rfl SL SE hSl hSb hk5 hb5 rfl rfl ?_
                 rw [HTG.out])
              | (at_builtin
                 refine wpList_appRun rfl (.tmp 60) (.tmp 62) 47 47 rfl _ _ rfl rfl HR7.out ?_))
            go_roundw
            case rel => exact ⟨pl + (4 + n + 32), k, _, SE, _, by congr 1, by omega, by omega, HLo3.out, hk5, hb5, HL7.out, D7.out, HD7.out⟩
            case measure => simp [intOf]; omega
          · have HTG : Hid ((!decide (SL = SE)) = true) := by show _ = _; rw [decide_eq_false htg]; rfl
            have hLP : LP = (es, 4, pl) := by rw [← HLo2.out, if_neg (by decide), if_pos htg]
            subst hLP
            clear HLo2 htg HLX IX
            go_wp2_with (first
              | (with_reducible refine atLoad 25 ?_
                 first
                   | refine load_D rfl (.tmp 12) rfl gN rfl SL NX.out ?_
                   | refine load_D rfl (.tmp 9) rfl w1.heap.size rfl SE DX.out ?_)
              | (with_reducible refine atBin .neq 25 25 ?_
                 refine wpList_neq rfl (.tmp 52) (.tmp 53) rfl SL SE hSl hSb hk5 hb5 rfl rfl ?_
                 rw [HTG.out]))
            go_ret3
            exact loadOut_nil (by decide) BX
      · obtain ⟨gN, hgN⟩ : ∃ gN, wr.drew.heap.size = gN := ⟨_, rfl⟩
        have bN : Below wr.drew.heap.size wr.drew (wr.drew.alloc (.cells Z8x32 25)) := (Below.refl _ _).alloc (Nat.le_refl _) _
        refine wpOp_val (v := .pointer (some ⟨wr.drew.heap.size, 0, none⟩)) (w' := wr.drew.alloc (.cells Z8x32 25)) rfl rfl (by go_simp; rfl) ?_
        have L3 := HLd.below bN
        have N3 : Dg (wr.drew.alloc (.cells Z8x32 25)) wr.drew.heap.size Z32 := Dg.new wr.drew _ rfl
        refine ⟨hce _ L3, ?_⟩
        simp only [Act.put, List.getElem_toArray, List.getElem_cons_zero, List.getElem_cons_succ, List.setIfInBounds_toArray, List.set_cons_zero, List.set_cons_succ]
        rw [hgN]
        rw [hgN] at N3
        refine relist #[true, true, true, true, true, true, true, true, false, false, false, false, false, true, false, false, false] (by kernel_rfl) ?_
        refine any_one (i := 8) (by kernel_rfl) ?_
        refine wpOp_call (f := 78) (args := #[.string ⟨(f.drop pl).toArray⟩, .int .i64 es.length]) rfl rfl (by go_simp) ?_
        refine (first_any (f.drop pl) es.length (wr.drew.alloc (.cells Z8x32 25))).mono ?_
        rintro ex w2 ⟨p, n, c, SL, rfl, hSl, hSb, b2, hgood⟩
        have L2 := L3.below b2
        have N2 : Dg w2 gN Z32 := N3.next b2
        refine ⟨_, rfl, hce _ L2, ?_⟩
        simp only [Act.put, List.getElem_toArray, List.getElem_cons_zero, List.getElem_cons_succ, List.setIfInBounds_toArray, List.set_cons_zero, List.set_cons_succ]
        refine wpAnyH_take (i := 9) (v := .tuple #[.slice p n c, .agg (A8 SL), .int .i64 (errN (f.drop pl) es.length)]) rfl (by kernel_rfl) (by kernel_rfl) (by kernel_rfl) (fun _ _ _ h => h) (.inl ⟨rfl, fun W _ => by go_simp⟩) (hce _ L2) ?_
        simp only [Act.put, List.getElem_toArray, List.getElem_cons_zero, List.getElem_cons_succ, List.setIfInBounds_toArray, List.set_cons_zero, List.set_cons_succ]
        refine wpAnyH_take (i := 10) (v := .slice p n c) rfl (by kernel_rfl) (by kernel_rfl) (by kernel_rfl) (fun _ _ _ h => h) (.inl ⟨rfl, fun W _ => by go_simp⟩) (hce _ L2) ?_
        simp only [Act.put, List.getElem_toArray, List.getElem_cons_zero, List.getElem_cons_succ, List.setIfInBounds_toArray, List.set_cons_zero, List.set_cons_succ]
        refine wpAnyH_take (i := 11) (v := .agg (A8 SL)) rfl (by kernel_rfl) (by kernel_rfl) (by kernel_rfl) (fun _ _ _ h => h) (.inl ⟨rfl, fun W _ => by go_simp⟩) (hce _ L2) ?_
        simp only [Act.put, List.getElem_toArray, List.getElem_cons_zero, List.getElem_cons_succ, List.setIfInBounds_toArray, List.set_cons_zero, List.set_cons_succ]
        refine wpAnyH_take (i := 12) (v := .int .i64 (errN (f.drop pl) es.length)) rfl (by kernel_rfl) (by kernel_rfl) (by kernel_rfl) (fun _ _ _ h => h) (.inl ⟨rfl, fun W _ => by go_simp⟩) (hce _ L2) ?_
        simp only [Act.put, List.getElem_toArray, List.getElem_cons_zero, List.getElem_cons_succ, List.setIfInBounds_toArray, List.set_cons_zero, List.set_cons_succ]
        refine wpAnyH_take (i := 14) (v := .slice p n c) rfl (by kernel_rfl) (by kernel_rfl) (by kernel_rfl) (fun _ _ _ h => h) (.inl ⟨rfl, fun W _ => by go_simp⟩) (hce _ L2) ?_
        simp only [Act.put, List.getElem_toArray, List.getElem_cons_zero, List.getElem_cons_succ, List.setIfInBounds_toArray, List.set_cons_zero, List.set_cons_succ]
        refine relist #[true, true, true, true, true, true, true, true, true, true, true, true, true, true, true, false, false] (by kernel_rfl) ?_
        refine any_one (i := 15) (by kernel_rfl) ?_
        refine wpOp_store_D rfl rfl (.tmp 12) (.tmp 37) rfl gN SL rfl rfl Z32 N2 hSl ?_
        intro U hU
        have bA2 : Below wr.drew.heap.size wr.drew w2 := bN.trans (b2.mono bN.size)
        have hb3 : Below wr.drew.heap.size wr.drew U := hU.below _ _ (Nat.le_of_eq hgN) bA2
        have hLU := HLd.below hb3
        refine ⟨hce _ hLU, ?_⟩
        simp only [Act.put, List.getElem_toArray, List.getElem_cons_zero, List.getElem_cons_succ, List.setIfInBounds_toArray, List.set_cons_zero, List.set_cons_succ]
        refine wpAnyH_take (i := 16) (v := .int .i64 (errN (f.drop pl) es.length)) rfl (by kernel_rfl) (by kernel_rfl) (by kernel_rfl) (fun _ _ _ h => h) (.inl ⟨rfl, fun W _ => by go_simp⟩) (hce _ hLU) ?_
        simp only [Act.put, List.getElem_toArray, List.getElem_cons_zero, List.getElem_cons_succ, List.setIfInBounds_toArray, List.set_cons_zero, List.set_cons_succ]
        refine wpAnyH_done (by kernel_rfl) ?_ _
        refine NoPanic.normal ?_
        have hdw : wr.drew.heap.size = wr.heap.size := rfl
        have hDU : Dg U w1.heap.size s := Dg.next (w := wr.drew) ⟨HD.out.len, HD.out.here⟩ hb3
        have hNU : Dg U gN SL := hU.dg hSl
        have BU : Below w.heap.size w U := BD.trans (hb3.mono BD.size)
        have hd9 := HD.out.lt
        have hgNe : gN ≠ w1.heap.size := by omega
        have hgl := HL.out.log.lt
        have hrl := HL.out.log.rowlt
        have hsN : (wr.drew.alloc (.cells Z8x32 25)).heap.size = gN + 1 := by rw [← hgN]; simp
        rw [hsN] at hgood
        have hIeU : ∀ {ge : Nat}, gN + 1 ≤ ge → In8 w2 (some ⟨ge, 0, none⟩) n c (entN (f.drop pl)) → ge < w2.heap.size → In8 U (some ⟨ge, 0, none⟩) n c (entN (f.drop pl)) := fun {ge} h0 h _ => h.same (Nat.le_of_eq hU.size.symm) (fun ad ha _ => by
          have e : ad.block = ge := by cases ha; rfl
          rw [e]
          exact hU.other _ (by omega))
        have hgeF : ∀ ge, gN + 1 ≤ ge → ge < w2.heap.size → ge < U.heap.size ∧ w1.heap.size < ge ∧ ge ≠ g ∧ (Value.slice ep es.length ec).ownBlock ≠ some ge := fun ge h1 h2 => by
          have := hU.size
          exact ⟨by omega, by omega, by omega, fun h => by have := (hrl ge h).2; omega⟩
        clear hU N3 N2 L3 L2 HLd S0 BD b2 hb3 bN bA2 HL HD hst hsN hgN
        have HLU : Hid (LogZ U w.heap.size g (.slice ep es.length ec) key es w1.heap.size) := hLU
        have HDU : Hid (Dg U w1.heap.size s) := hDU
        have HNU : Hid (Dg U gN SL) := hNU
        clear hLU hDU hNU
        obtain ⟨ER, hER⟩ : ∃ ER, errN (f.drop pl) es.length = ER := ⟨_, rfl⟩
        have HLo2 : Hid ((if ER ≠ 0 then (es, ER, pl) else if tagN (f.drop pl) ≠ sealP key s (entN (f.drop pl)) then (es, 4, pl) else loadF key f k (pl + (4 + lenN (f.drop pl) + 32)) (es ++ [entN (f.drop pl)]) (sealP key s (entN (f.drop pl)))) = LP) := by
          have h := HLo.out
          simp only [loadF] at h
          rw [if_neg (by omega), hER] at h
          exact h
        have HEZ : Hid (ER = 0 → 4 + lenN (f.drop pl) + 32 ≤ (f.drop pl).length ∧ lenN (f.drop pl) ≤ 300 ∧ es.length < 64) := fun h => errN_zero _ _ (hER.trans h)
        have HER3 : Hid (ER = 3 ∨ ER = 2 ∨ ER = 0) := by
          show _ ∨ _
          rw [← hER]
          unfold errN
          split
          · exact .inl rfl
          · split
            · exact .inr (.inl rfl)
            · split
              · exact .inl rfl
              · exact .inr (.inr rfl)
        rw [hER] at hgood ⊢
        have HG : Hid _ := hgood
        clear hER hgood HLo
        rcases HER3.out with rfl | rfl | rfl
        · have hLP : LP = (es, 3, pl) := by rw [← HLo2.out, if_pos (by decide)]
          subst hLP
          clear HLo2 HG HEZ
          go_wp2_with fail
          go_ret3
          exact loadOut_log (.inr rfl) BU HLU.out.log
        · have hLP : LP = (es, 2, pl) := by rw [← HLo2.out, if_pos (by decide)]
          subst hLP
          clear HLo2 HG HEZ
          go_wp2_with fail
          go_ret3
          exact loadOut_nil (by decide) BU
        · obtain ⟨hSLe, hne, hn3, ge, rfl, hge1, hge2, hIe⟩ := HG.out rfl
          obtain ⟨hz1, hz2, hz3⟩ := HEZ.out rfl
          have HNE : Hid (lenN (f.drop pl) = n) := hne.symm
          have HSE : Hid (tagN (f.drop pl) = SL) := hSLe.symm
          rw [List.length_drop, HNE.out] at hz1
          rw [HNE.out] at hz2
          rw [HSE.out, HNE.out] at HLo2
          clear hne hSLe
          have IeU : Hid (In8 U (some ⟨ge, 0, none⟩) n c (entN (f.drop pl))) := hIeU hge1 hIe hge2
          have hgeU : ge < U.heap.size ∧ w1.heap.size < ge ∧ ge ≠ g ∧ (Value.slice ep es.length ec).ownBlock ≠ some ge := hgeF ge hge1 hge2
          clear HG HEZ hIe
          go_wp2_with (first
            | (with_reducible refine atLoad 25 ?_
               refine load_D rfl (.tmp 9) rfl w1.heap.size rfl s HDU.out ?_))
          refine (sealOf_any U (HTb.out.below BU) kp kn kc key (HK.out.below BU) s hsl hsb (some ⟨ge, 0, none⟩) n c (entN (f.drop pl)) IeU.out (by omega)).mono ?_
          rintro ex w5 ⟨rfl, b5⟩
          have B5 := BU.trans (b5.mono BU.size)
          have HL5 : Hid (LogZ w5 w.heap.size g (.slice ep es.length ec) key es w1.heap.size) := HLU.out.below b5
          have D5 : Hid (Dg w5 w1.heap.size s) := HDU.out.next b5
          have N5 : Hid (Dg w5 gN SL) := HNU.out.next b5
          have I5 : Hid (In8 w5 (some ⟨ge, 0, none⟩) n c (entN (f.drop pl))) := IeU.out.below b5
          have hge5 : ge < w5.heap.size := Nat.lt_of_lt_of_le hgeU.1 b5.size
          have hn1 := N5.out.lt
          have hk5 := sealP_len key s (entN (f.drop pl))
          have hb5 := sealP_bytes key s (entN (f.drop pl))
          have hgN9 : gN ≠ w1.heap.size := hgNe
          obtain ⟨SE, hSE⟩ : ∃ SE, sealP key s (entN (f.drop pl)) = SE := ⟨_, rfl⟩
          rw [hSE] at hk5 hb5 HLo2 ⊢
          clear hSE HLU HDU HNU IeU b5 BU
          go_wp2_with (first
            | (with_reducible refine atStore 25 ?_
               refine store_D rfl _ _ rfl w1.heap.size SE rfl rfl s D5.out hk5 ?_
               intro X hX
               refine hideGoal ?_))
          have hkX : Kp (fun j => j = w1.heap.size) w5 X := ⟨(hX.below w1.heap.size w5 (Nat.le_refl _) (Below.refl _ _)).os, (hX.below w1.heap.size w5 (Nat.le_refl _) (Below.refl _ _)).tape, (hX.below w1.heap.size w5 (Nat.le_refl _) (Below.refl _ _)).output, Nat.le_of_eq hX.size.symm, fun j _ hj => hX.other j hj⟩
          have HLX : Hid (LogZ X w.heap.size g (.slice ep es.length ec) key es w1.heap.size) := HL5.out.kp hkX (fun _ h => .inr h)
          have DX : Hid (Dg X w1.heap.size SE) := hX.dg hk5
          have NX : Hid (Dg X gN SL) := N5.out.other hX hgN9
          have IX : Hid (In8 X (some ⟨ge, 0, none⟩) n c (entN (f.drop pl))) := I5.out.same (Nat.le_of_eq hX.size.symm) (fun ad ha _ => by cases ha; exact hX.other _ (by show ge ≠ _; omega))
          have BX : Below w.heap.size w X := hX.below _ _ (by omega) B5
          have hgeX : ge < X.heap.size := by rw [hX.size]; exact hge5
          clear hX hkX HL5 D5 N5 I5 B5
          refine openGoal ?_
          by_cases htg : SL = SE
          · have HTG : Hid ((!decide (SL = SE)) = false) := by show _ = _; rw [decide_eq_true htg]; rfl
            have HLo3 : Hid (loadF key f k (pl + (4 + n + 32)) (es ++ [entN (f.drop pl)]) SE = LP) := by
              have h := HLo2.out
              rw [if_neg (by decide), if_neg (by simpa using htg)] at h
              exact h
            clear HLo2 htg
            have hc1 := HLX.out.log.cell
            have h2N := heapN X (.cells #[.slice (some ⟨ge, 0, none⟩) n c] 22) _ rfl
            have bN : Below X.heap.size X (X.alloc (.cells #[.slice (some ⟨ge, 0, none⟩) n c] 22)) := (Below.refl _ _).alloc (Nat.le_refl _) _
            obtain ⟨ga, cap, w7, hr7, hc7, hf7, hL7, hk7⟩ := app_worldZ (X.alloc (.cells #[.slice (some ⟨ge, 0, none⟩) n c] 22)) w.heap.size g _ key es w1.heap.size (HLX.out.below bN) (by have := DX.out.lt; simp; omega) X.heap.size (some ⟨ge, 0, none⟩) n c (entN (f.drop pl)) h2N (IX.out.below bN) hn3 hz3 (fun ad ha => by
              cases ha
              exact ⟨by show w.heap.size ≤ ge; omega, by show ge < _; simp; omega, hgeU.2.2.1, hgeU.2.2.2, by have := hgeU.2.1; show ge ≠ _; omega⟩)
            have DN : Dg (X.alloc (.cells #[.slice (some ⟨ge, 0, none⟩) n c] 22)) w1.heap.size SE := DX.out.next bN
            have hdis2 := log_dg (HLX.out.below bN).log DN
            have D7 : Hid (Dg (w7.setCell ⟨g, 1, none⟩ (.slice (some ⟨ga, 0, none⟩) (es.length + 1) cap)) w1.heap.size SE) := ⟨hk5, (hk7.block _ DN.lt (fun hx => by rcases hx with hx | hx; exact hdis2.1 hx; exact hdis2.2 hx)).trans DN.here⟩
            have B7 : Below w.heap.size w (w7.setCell ⟨g, 1, none⟩ (.slice (some ⟨ga, 0, none⟩) (es.length + 1) cap)) := hk7.below (fun j hj => by
              rcases hj with hj | hj
              · rw [hj]; exact HLX.out.base
              · exact (HLX.out.log.rowlt j hj).1) (Nat.le_trans BX.size bN.size) (BX.trans (bN.mono BX.size))
            have HL7 : Hid _ := hL7
            have HR7 : Hid _ := hr7
            have HD7 : Hid _ := B7
            clear hr7 B7
            clear hL7 hk7 h2N bN DN HLX IX BX
            go_wp2_with (first
              | (with_reducible refine atLoad 25 ?_
                 first
                   | refine load_D rfl (.tmp 12) rfl gN rfl SL NX.out ?_
                   | refine load_D rfl (.tmp 9) rfl w1.heap.size rfl SE DX.out ?_)
              | (with_reducible refine atBin .neq 25 25 ?_
                 refine wpList_neq rfl (.tmp 52) (.tmp 53) rfl SL SE hSl hSb hk5 hb5 rfl rfl ?_
                 rw [HTG.out])
              | (at_builtin
                 refine wpList_appRun rfl (.tmp 60) (.tmp 62) 47 47 rfl _ _ rfl rfl HR7.out ?_))
            go_roundw
            case rel => exact ⟨pl + (4 + n + 32), k, _, SE, _, by congr 1, by omega, by omega, HLo3.out, hk5, hb5, HL7.out, D7.out, HD7.out⟩
            case measure => simp [intOf]; omega
          · have HTG : Hid ((!decide (SL = SE)) = true) := by show _ = _; rw [decide_eq_false htg]; rfl
            have hLP : LP = (es, 4, pl) := by rw [← HLo2.out, if_neg (by decide), if_pos htg]
            subst hLP
            clear HLo2 htg HLX IX
            go_wp2_with (first
              | (with_reducible refine atLoad 25 ?_
                 first
                   | refine load_D rfl (.tmp 12) rfl gN rfl SL NX.out ?_
                   | refine load_D rfl (.tmp 9) rfl w1.heap.size rfl SE DX.out ?_)
              | (with_reducible refine atBin .neq 25 25 ?_
                 refine wpList_neq rfl (.tmp 52) (.tmp 53) rfl SL SE hSl hSb hk5 hb5 rfl rfl ?_
                 rw [HTG.out]))
            go_ret3
            exact loadOut_nil (by decide) BX
    · have ep0 : pl = f.length := by omega
      have hLP : LP = (es, 0, pl) := by rw [← hload]; simp only [loadF]; rw [if_pos (by omega)]
      subst hLP
      have HL : Hid (LogZ wr w.heap.size g ev key es w1.heap.size) := hL
      clear hload hL hD
      go_wp2_with fail
      go_ret3
      exact loadOut_log (.inl rfl) hbr HL.out.log
end Go.Proofs.YtcmjlhcpoajbkaaDoor
