import Derived.Test.YtcmjlhcpoajbkaaDoorQLz
import Derived.Test.YtcmjlhcpoajbkaaDoorQNu
import Derived.Test.YtcmjlhcpoajbkaaDoorQBw
namespace Go.Proofs.YtcmjlhcpoajbkaaDoor
set_option maxRecDepth 10000
set_option linter.unusedSimpArgs false
open Go.RowKit
/-- What a call of Load comes to. -/
def LoadOut (w : World) (key : List Int) (LP : List (List Int) × Int × Nat) (e : Ending) (w' : World) : Prop :=
  ∃ v, e = .returned (.tuple #[v, .int .i64 LP.2.1, .int .i64 LP.2.2]) ∧ Below w.heap.size w w' ∧
    ((LP.2.1 = 0 ∨ LP.2.1 = 3) → ∃ g ev, v = .pointer (some ⟨g, 0, none⟩) ∧ LogAt w' w.heap.size g ev key LP.1) ∧ (¬ (LP.2.1 = 0 ∨ LP.2.1 = 3) → v = .pointer none)
theorem loadOut_log {w w' : World} {key : List Int} {es : List (List Int)} {m : Int} {pl g : Nat} {ev : Value} (hm : m = 0 ∨ m = 3) (hb : Below w.heap.size w w') (hL : LogAt w' w.heap.size g ev key es) :
    LoadOut w key (es, m, pl) (.returned (.tuple #[.pointer (some ⟨g, 0, none⟩), .int .i64 m, .int .i64 pl])) w' :=
  ⟨_, rfl, hb, fun _ => ⟨g, ev, rfl, hL⟩, fun h => absurd hm h⟩
theorem loadOut_nil {w w' : World} {key : List Int} {es : List (List Int)} {m : Int} {pl : Nat} (hm : ¬ (m = 0 ∨ m = 3)) (hb : Below w.heap.size w w') :
    LoadOut w key (es, m, pl) (.returned (.tuple #[.pointer none, .int .i64 m, .int .i64 pl])) w' :=
  ⟨_, rfl, hb, fun h => absurd h hm, fun _ => rfl⟩
set_option maxHeartbeats 20000000 in
theorem load_any (w : World) (hT : Tabs KS HS w) (kp : Option Addr) (kn kc : Nat) (key : List Int) (hk : In8 w kp kn kc key) (hkn : kn ≤ 100) (f : List UInt8) (hf : f.length ≤ 140737488355328) :
    Calls Tryd.prog 37 #[.slice kp kn kc, .string ⟨f.toArray⟩] w (LoadOut w key (loadP key f)) := by
  have hsz : (ByteArray.mk f.toArray).size = f.length := by show f.toArray.size = _; simp
  obtain ⟨LP, hLP⟩ : ∃ LP, loadP key f = LP := ⟨_, rfl⟩
  have HLP : Hid (loadF key f (f.length + 1) 0 [] Z32 = LP) := hLP
  rw [hLP]
  clear hLP
  have HK : Hid (In8 w kp kn kc key) := hk
  have HTb : Hid (Tabs KS HS w) := hT
  clear hk hT
  go_enter Tryd.func37, Tryd.ntmps37
  go_wp2_with fail
  refine (new_any w kp kn kc key HK.out hkn).mono ?_
  rintro e w1 ⟨g, rfl, hL1, b1⟩
  have b1s := b1.size
  have bA : Below w1.heap.size w1 (w1.alloc (.cells Z8x32 25)) := (Below.refl _ _).alloc (Nat.le_refl _) _
  have HL1 : Hid (LogZ (w1.alloc (.cells Z8x32 25)) w.heap.size g (.slice none 0 0) key [] w1.heap.size) := (hL1.far w1.heap.size (Nat.le_refl _)).below bA
  have D1 : Hid (Dg (w1.alloc (.cells Z8x32 25)) w1.heap.size Z32) := Dg.new w1 _ rfl
  have B1 : Hid (Below w.heap.size w (w1.alloc (.cells Z8x32 25))) := b1.trans (bA.mono b1s)
  clear hL1 b1 bA
  go_wp2_with fail
  go_loopw [10] (fun i wr => ∃ (pl k : Nat) (es : List (List Int)) (s : List Int) (ev : Value), i = .int .i64 pl ∧ pl ≤ f.length ∧ f.length < pl + k ∧ loadF key f k pl es s = LP ∧ s.length = 32 ∧ Bytes s ∧ LogZ wr w.heap.size g ev key es w1.heap.size ∧ Dg wr w1.heap.size s ∧ Below w.heap.size w wr) (fun i _ => f.length - (intOf i).toNat)
  case atStart => exact ⟨0, f.length + 1, [], Z32, _, rfl, by omega, by omega, HLP.out, rfl, Z32_bytes, HL1.out, D1.out, B1.out⟩
  case round =>
    obtain ⟨pl, k, es, s, ev, rfl, hpl, hfu, hload, hsl, hsb, hL, hD, hbr⟩ := hrel
    clear HL1 D1 B1 HLP
    obtain ⟨k, rfl⟩ : ∃ k', k = k' + 1 := ⟨k - 1, by omega⟩
    by_cases hend : pl < f.length
    · have hend' : (pl : Int) < f.length := by omega
      have hst := str_back f pl hpl
      obtain ⟨ep, ec, rfl⟩ := hL.log.shape
      have hce : ∀ W, LogZ W w.heap.size g (.slice ep es.length ec) key es w1.heap.size → W.cell? ⟨g, 1, none⟩ = some (.slice ep es.length ec) := fun W h => h.log.cell
      have HL : Hid (LogZ wr w.heap.size g (.slice ep es.length ec) key es w1.heap.size) := hL
      have HD : Hid (Dg wr w1.heap.size s) := hD
      have HLo : Hid (loadF key f (k + 1) pl es s = LP) := hload
      have hef : es.length ≤ ec := by
        obtain ⟨vs, ⟨_, ⟨h, h'⟩ | ⟨r, cap, cur, h, _, _, hcc, _⟩⟩, _⟩ := hL.own
        · omega
        · cases h; exact hcc
      clear hL hD hload
      go_wp2_with fail
      have HLd : LogZ wr.drew w.heap.size g (.slice ep es.length ec) key es w1.heap.size := HL.out.below (Below.refl _ _).drew
      have S0 := hce _ HLd
      have BD : Below w.heap.size w wr.drew := hbr.drew
      refine wp_region_noPanic ?_
      refine wp_region_held (S := fun W => W.cell? ⟨g, 1, none⟩ = some (.slice ep es.length ec)) follows ?_
      refine wpAnyH_take (i := 0) (v := .string ⟨f.toArray⟩) rfl (by kernel_rfl) (by kernel_rfl) (by kernel_rfl) (fun _ _ _ h => h) (.inl ⟨rfl, fun W _ => by go_simp⟩) S0 ?_
      simp only [Act.put, List.getElem_toArray, List.getElem_cons_zero, List.getElem_cons_succ, List.setIfInBounds_toArray, List.set_cons_zero, List.set_cons_succ]
      refine wpAnyH_take (i := 1) (v := .int .i64 pl) rfl (by kernel_rfl) (by kernel_rfl) (by kernel_rfl) (fun _ _ _ h => h) (.inl ⟨rfl, fun W _ => by go_simp⟩) S0 ?_
      simp only [Act.put, List.getElem_toArray, List.getElem_cons_zero, List.getElem_cons_succ, List.setIfInBounds_toArray, List.set_cons_zero, List.set_cons_succ]
      refine wpAnyH_take (i := 2) (v := .string ⟨(f.drop pl).toArray⟩) rfl (by kernel_rfl) (by kernel_rfl) (by kernel_rfl) (fun _ _ _ h => h) (.inl ⟨rfl, fun W _ => by have e := hst W; go_simp⟩) S0 ?_
      simp only [Act.put, List.getElem_toArray, List.getElem_cons_zero, List.getElem_cons_succ, List.setIfInBounds_toArray, List.set_cons_zero, List.set_cons_succ]
      refine wpAnyH_take (i := 3) (v := .pointer (some ⟨g, 0, none⟩)) rfl (by kernel_rfl) (by kernel_rfl) (by kernel_rfl) (fun _ _ _ h => h) (.inl ⟨rfl, fun W _ => by go_simp⟩) S0 ?_
      simp only [Act.put, List.getElem_toArray, List.getElem_cons_zero, List.getElem_cons_succ, List.setIfInBounds_toArray, List.set_cons_zero, List.set_cons_succ]
      refine wpAnyH_take (i := 4) (v := .pointer (some ⟨g, 0, none⟩)) rfl (by kernel_rfl) (by kernel_rfl) (by kernel_rfl) (fun _ _ _ h => h) (.inl ⟨rfl, fun W _ => by go_simp⟩) S0 ?_
      simp only [Act.put, List.getElem_toArray, List.getElem_cons_zero, List.getElem_cons_succ, List.setIfInBounds_toArray, List.set_cons_zero, List.set_cons_succ]
      refine wpAnyH_take (i := 5) (v := .pointer (some ⟨g, 1, none⟩)) rfl (by kernel_rfl) (by kernel_rfl) (by kernel_rfl) (fun _ _ _ h => h) (.inl ⟨rfl, fun W _ => by go_simp⟩) S0 ?_
      simp only [Act.put, List.getElem_toArray, List.getElem_cons_zero, List.getElem_cons_succ, List.setIfInBounds_toArray, List.set_cons_zero, List.set_cons_succ]
      refine wpAnyH_take (i := 6) (v := .slice ep es.length ec) rfl (by kernel_rfl) (by kernel_rfl) (by kernel_rfl) (fun _ _ _ h => h) (.inl ⟨rfl, fun W hW => by have e := hW; go_simp⟩) S0 ?_
      simp only [Act.put, List.getElem_toArray, List.getElem_cons_zero, List.getElem_cons_succ, List.setIfInBounds_toArray, List.set_cons_zero, List.set_cons_succ]
      refine wpAnyH_take (i := 7) (v := .int .i64 es.length) rfl (by kernel_rfl) (by kernel_rfl) (by kernel_rfl) (fun _ _ _ h => h) (.inl ⟨rfl, fun W _ => by go_simp⟩) S0 ?_
      simp only [Act.put, List.getElem_toArray, List.getElem_cons_zero, List.getElem_cons_succ, List.setIfInBounds_toArray, List.set_cons_zero, List.set_cons_succ]
      refine relist #[true, true, true, true, true, true, true, true, false, false, false, false, false, false, false, false, false] (by kernel_rfl) ?_
      refine any_two (i := 8) (j := 13) (by kernel_rfl) ?_ ?_
      · refine wpOp_call (f := 78) (args := #[.string ⟨(f.drop pl).toArray⟩, .int .i64 es.length]) rfl rfl (by go_simp) ?_
        refine (first_any (f.drop pl) es.length wr.drew).mono ?_
        rintro ex w2 ⟨p, n, c, SL, rfl, hSl, hSb, b2, hgood⟩
        have L2 := HLd.below b2
        refine ⟨_, rfl, hce _ L2, ?_⟩
        simp only [Act.put, List.getElem_toArray, List.getElem_cons_zero, List.getElem_cons_succ, List.setIfInBounds_toArray, List.set_cons_zero, List.set_cons_succ]
        refine wpAnyH_take (i := 9) (v := .tuple #[.slice p n c, .agg (A8 SL), .int .i64 (errN (f.drop pl) es.length)]) rfl (by kernel_rfl) (by kernel_rfl) (by kernel_rfl) (fun _ _ _ h => h) (.inl ⟨rfl, fun W _ => by go_simp⟩) (hce _ L2) ?_
        simp only [Act.put, List.getElem_toArray, List.getElem_cons_zero, List.getElem_cons_succ, List.setIfInBounds_toArray, List.set_cons_zero, List.set_cons_succ]
        refine wpAnyH_take (i := 10) (v := .slice p n c) rfl (by kernel_rfl) (by kernel_rfl) (by kernel_rfl) (fun _ _ _ h => h) (.inl ⟨rfl, fun W _ => by go_simp⟩) (hce _ L2) ?_
        simp only [Act.put, List.getElem_toArray, List.getElem_cons_zero, List.getElem_cons_succ, List.setIfInBounds_toArray, List.set_cons_zero, List.set_cons_succ]
        refine wpAnyH_take (i := 11) (v := .agg (A8 SL)) rfl (by kernel_rfl) (by kernel_rfl) (by kernel_rfl) (fun _ _ _ h => h) (.inl ⟨rfl, fun W _ => by go_simp⟩) (hce _ L2) ?_
        simp only [Act.put, List.getElem_toArray, List.getElem_cons_zero, List.getElem_cons_succ, List.setIfInBounds_toArray, List.set_cons_zero, List.set_cons_succ]
        refine wpAnyH_take (i := 12) (v := .int .i64 (errN (f.drop pl) es.length)) rfl (by kernel_rfl) (by kernel_rfl) (by kernel_rfl) (fun _ _ _ h => h) (.inl ⟨rfl, fun W _ => by go_simp⟩) (hce _ L2) ?_
        simp only [Act.put, List.getElem_toArray, List.getElem_cons_zero, List.getElem_cons_succ, List.setIfInBounds_toArray, List.set_cons_zero, List.set_cons_succ]
        refine relist #[true, true, true, true, true, true, true, true, true, true, true, true, true, false, false, false, false] (by kernel_rfl) ?_
        refine any_one (i := 13) (by kernel_rfl) ?_
        have bN : Below w2.heap.size w2 (w2.alloc (.cells Z8x32 25)) := (Below.refl _ _).alloc (Nat.le_refl _) _
        refine wpOp_val (v := .pointer (some ⟨w2.heap.size, 0, none⟩)) (w' := w2.alloc (.cells Z8x32 25)) rfl rfl (by go_simp; rfl) ?_
        have L3 := L2.below bN
        refine ⟨hce _ L3, ?_⟩
        simp only [Act.put, List.getElem_toArray, List.getElem_cons_zero, List.getElem_cons_succ, List.setIfInBounds_toArray, List.set_cons_zero, List.set_cons_succ]
        refine wpAnyH_take (i := 14) (v := .slice p n c) rfl (by kernel_rfl) (by kernel_rfl) (by kernel_rfl) (fun _ _ _ h => h) (.inl ⟨rfl, fun W _ => by go_simp⟩) (hce _ L3) ?_
        simp only [Act.put, List.getElem_toArray, List.getElem_cons_zero, List.getElem_cons_succ, List.setIfInBounds_toArray, List.set_cons_zero, List.set_cons_succ]
        refine relist #[true, true, true, true, true, true, true, true, true, true, true, true, true, true, true, false, false] (by kernel_rfl) ?_
        refine any_one (i := 15) (by kernel_rfl) ?_
        have N3 : Dg (w2.alloc (.cells Z8x32 25)) w2.heap.size Z32 := Dg.new w2 _ rfl
        refine wpOp_store_D rfl rfl (.tmp 12) (.tmp 37) rfl w2.heap.size SL rfl rfl Z32 N3 hSl ?_
        intro U hU
        have hb3 : Below w2.heap.size w2 U := hU.below _ _ (Nat.le_refl _) bN
        have hLU := L2.below hb3
        refine ⟨hce _ hLU, ?_⟩
        simp only [Act.put, List.getElem_toArray, List.getElem_cons_zero, List.getElem_cons_succ, List.setIfInBounds_toArray, List.set_cons_zero, List.set_cons_succ]
        refine wpAnyH_take (i := 16) (v := .int .i64 (errN (f.drop pl) es.length)) rfl (by kernel_rfl) (by kernel_rfl) (by kernel_rfl) (fun _ _ _ h => h) (.inl ⟨rfl, fun W _ => by go_simp⟩) (hce _ hLU) ?_
        simp only [Act.put, List.getElem_toArray, List.getElem_cons_zero, List.getElem_cons_succ, List.setIfInBounds_toArray, List.set_cons_zero, List.set_cons_succ]
        refine wpAnyH_done (by kernel_rfl) ?_ _
        refine NoPanic.normal ?_
        have hdw : wr.drew.heap.size = wr.heap.size := rfl
        have hDU : Dg U w1.heap.size s := (Dg.next (w := wr.drew) ⟨HD.out.len, HD.out.here⟩ b2).next hb3
        have hNU : Dg U w2.heap.size SL := hU.dg hSl
        have BU : Below w.heap.size w U := (BD.trans (b2.mono BD.size)).trans (hb3.mono (Nat.le_trans BD.size b2.size))
        have hd9 := HD.out.lt
        have hgNe : w2.heap.size ≠ w1.heap.size := by have := b2.size; omega
        have hgl := HL.out.log.lt
        have hrl := HL.out.log.rowlt
        have hIeU : ∀ {ge : Nat}, In8 w2 (some ⟨ge, 0, none⟩) n c (entN (f.drop pl)) → ge < w2.heap.size → In8 U (some ⟨ge, 0, none⟩) n c (entN (f.drop pl)) := fun h _ => h.below hb3
        have hgeF : ∀ ge, wr.drew.heap.size ≤ ge → ge < w2.heap.size → ge < U.heap.size ∧ w1.heap.size < ge ∧ ge ≠ g ∧ (Value.slice ep es.length ec).ownBlock ≠ some ge := fun ge h1 h2 => by
          rw [hdw] at h1
          have := hb3.size
          exact ⟨by omega, by omega, by omega, fun h => by have := (hrl ge h).2; omega⟩
        clear hU N3 L3 L2 HLd S0 BD b2 hb3 bN HL HD hst
        generalize w2.heap.size = gN at *
        have HLU : Hid (LogZ U w.heap.size g (.slice ep es.length ec) key es w1.heap.size) := hLU
        have HDU : Hid (Dg U w1.heap.size s) := hDU
        have HNU : Hid (Dg U gN SL) := hNU
        clear hLU hDU hNU
        obtain ⟨ER, hER⟩ : ∃ ER, errN (f.drop pl) es.length = ER := ⟨_, rfl⟩
        have HLo2 : Hid ((if ER ≠ 0 then (es, ER, pl) else if tagN (f.drop pl) ≠ sealP key s (entN (f.drop pl)) then (es, 4, pl) else loadF key f k (pl + (4 + lenN (f.drop pl) + 32)) (es ++ [entN (f.drop pl)]) (sealP key s (entN (f.drop pl)))) = LP) := by
          have h := HLo.out
          simp only [loadF] at h
          rw [if_neg (by omega), hER] at h
          exact h
        have HEZ : Hid (ER = 0 → 4 + lenN (f.drop pl) + 32 ≤ (f.drop pl).length ∧ lenN (f.drop pl) ≤ 300 ∧ es.length < 64) := fun h => errN_zero _ _ (hER.trans h)
        have HER3 : Hid (ER = 3 ∨ ER = 2 ∨ ER = 0) := by
          show _ ∨ _
          rw [← hER]
          unfold errN
          split
          · exact .inl rfl
          · split
            · exact .inr (.inl rfl)
            · split
              · exact .inl rfl
              · exact .inr (.inr rfl)
        rw [hER] at hgood ⊢
        have HG : Hid _ := hgood
        clear hER hgood HLo
        rcases HER3.out with rfl | rfl | rfl
        · have hLP : LP = (es, 3, pl) := by rw [← HLo2.out, if_pos (by decide)]
          subst hLP
          clear HLo2 HG HEZ
          go_wp2_with fail
          go_ret3
          exact loadOut_log (.inr rfl) BU HLU.out.log
        · have hLP : LP = (es, 2, pl) := by rw [← HLo2.out, if_pos (by decide)]
          subst hLP
          clear HLo2 HG HEZ
          go_wp2_with fail
          go_ret3
          exact loadOut_nil (by decide) BU
        · obtain ⟨hSLe, hne, hn3, ge, rfl, hge1, hge2, hIe⟩ := HG.out rfl
          obtain ⟨hz1, hz2, hz3⟩ := HEZ.out rfl
          have HNE : Hid (lenN (f.drop pl) = n) := hne.symm
          have HSE : Hid (tagN (f.drop pl) = SL) := hSLe.symm
          rw [List.length_drop, HNE.out] at hz1
          rw [HNE.out] at hz2
          rw [HSE.out, HNE.out] at HLo2
          clear hne hSLe
          have IeU : Hid (In8 U (some ⟨ge, 0, none⟩) n c (entN (f.drop pl))) := hIeU hIe hge2
          have hgeU : ge < U.heap.size ∧ w1.heap.size < ge ∧ ge ≠ g ∧ (Value.slice ep es.length ec).ownBlock ≠ some ge := hgeF ge hge1 hge2
          clear HG HEZ hIe
          go_wp2_with (first
            | (with_reducible refine atLoad 25 ?_
               refine load_D rfl (.tmp 9) rfl w1.heap.size rfl s HDU.out ?_))
          refine (sealOf_any U (HTb.out.below BU) kp kn kc key (HK.out.below BU) s hsl hsb (some ⟨ge, 0, none⟩) n c (entN (f.drop pl)) IeU.out (by omega)).mono ?_
          rintro ex w5 ⟨rfl, b5⟩
          have B5 := BU.trans (b5.mono BU.size)
          have HL5 : Hid (LogZ w5 w.heap.size g (.slice ep es.length ec) key es w1.heap.size) := HLU.out.below b5
          have D5 : Hid (Dg w5 w1.heap.size s) := HDU.out.next b5
          have N5 : Hid (Dg w5 gN SL) := HNU.out.next b5
          have I5 : Hid (In8 w5 (some ⟨ge, 0, none⟩) n c (entN (f.drop pl))) := IeU.out.below b5
          have hge5 : ge < w5.heap.size := Nat.lt_of_lt_of_le hgeU.1 b5.size
          have hn1 := N5.out.lt
          have hk5 := sealP_len key s (entN (f.drop pl))
          have hb5 := sealP_bytes key s (entN (f.drop pl))
          have hgN9 : gN ≠ w1.heap.size := hgNe
          obtain ⟨SE, hSE⟩ : ∃ SE, sealP key s (entN (f.drop pl)) = SE := ⟨_, rfl⟩
          rw [hSE] at hk5 hb5 HLo2 ⊢
          clear hSE HLU HDU HNU IeU b5 BU
          go_wp2_with (first
            | (with_reducible refine atStore 25 ?_
               refine store_D rfl _ _ rfl w1.heap.size SE rfl rfl s D5.out hk5 ?_
               intro X hX
               refine hideGoal ?_))
          have hkX : Kp (fun j => j = w1.heap.size) w5 X := ⟨(hX.below w1.heap.size w5 (Nat.le_refl _) (Below.refl _ _)).os, (hX.below w1.heap.size w5 (Nat.le_refl _) (Below.refl _ _)).tape, (hX.below w1.heap.size w5 (Nat.le_refl _) (Below.refl _ _)).output, Nat.le_of_eq hX.size.symm, fun j _ hj => hX.other j hj⟩
          have HLX : Hid (LogZ X w.heap.size g (.slice ep es.length ec) key es w1.heap.size) := HL5.out.kp hkX (fun _ h => .inr h)
          have DX : Hid (Dg X w1.heap.size SE) := hX.dg hk5
          have NX : Hid (Dg X gN SL) := N5.out.other hX hgN9
          have IX : Hid (In8 X (some ⟨ge, 0, none⟩) n c (entN (f.drop pl))) := I5.out.same (Nat.le_of_eq hX.size.symm) (fun ad ha _ => by cases ha; exact hX.other _ (by show ge ≠ _; omega))
          have BX : Below w.heap.size w X := hX.below _ _ (by omega) B5
          have hgeX : ge < X.heap.size := by rw [hX.size]; exact hge5
          clear hX hkX HL5 D5 N5 I5 B5
          refine openGoal ?_
          by_cases htg : SL = SE
          · have HTG : Hid ((!decide (SL = SE)) = false) := by show _ = _; rw [decide_eq_true htg]; rfl
            have HLo3 : Hid (loadF key f k (pl + (4 + n + 32)) (es ++ [entN (f.drop pl)]) SE = LP) := by
              have h := HLo2.out
              rw [if_neg (by decide), if_neg (by simpa using htg)] at h
              exact h
            clear HLo2 htg
            have hc1 := HLX.out.log.cell
            have h2N := heapN X (.cells #[.slice (some ⟨ge, 0, none⟩) n c] 22) _ rfl
            have bN : Below X.heap.size X (X.alloc (.cells #[.slice (some ⟨ge, 0, none⟩) n c] 22)) := (Below.refl _ _).alloc (Nat.le_refl _) _
            obtain ⟨ga, cap, w7, hr7, hc7, hf7, hL7, hk7⟩ := app_worldZ (X.alloc (.cells #[.slice (some ⟨ge, 0, none⟩) n c] 22)) w.heap.size g _ key es w1.heap.size (HLX.out.below bN) (by have := DX.out.lt; simp; omega) X.heap.size (some ⟨ge, 0, none⟩) n c (entN (f.drop pl)) h2N (IX.out.below bN) hn3 hz3 (fun ad ha => by
              cases ha
              exact ⟨by show w.heap.size ≤ ge; omega, by show ge < _; simp; omega, hgeU.2.2.1, hgeU.2.2.2, by have := hgeU.2.1; show ge ≠ _; omega⟩)
            have DN : Dg (X.alloc (.cells #[.slice (some ⟨ge, 0, none⟩) n c] 22)) w1.heap.size SE := DX.out.next bN
            have hdis2 := log_dg (HLX.out.below bN).log DN
            have D7 : Hid (Dg (w7.setCell ⟨g, 1, none⟩ (.slice (some ⟨ga, 0, none⟩) (es.length + 1) cap)) w1.heap.size SE) := ⟨hk5, (hk7.block _ DN.lt (fun hx => by rcases hx with hx | hx; exact hdis2.1 hx; exact hdis2.2 hx)).trans DN.here⟩
            have B7 : Below w.heap.size w (w7.setCell ⟨g, 1, none⟩ (.slice (some ⟨ga, 0, none⟩) (es.length + 1) cap)) := hk7.below (fun j hj => by
              rcases hj with hj | hj
              · rw [hj]; exact HLX.out.base
              · exact (HLX.out.log.rowlt j hj).1) (Nat.le_trans BX.size bN.size) (BX.trans (bN.mono BX.size))
            have HL7 : Hid _ := hL7
            have HR7 : Hid _ := hr7
            have HD7 : Hid _ := B7
            clear hr7 B7
            clear hL7 hk7 h2N bN DN HLX IX BX
            go_wp2_with (first
              | (with_reducible refine atLoad 25 ?_
                 first
                   | refine load_D rfl (.tmp 12) rfl gN rfl SL NX.out ?_
                   | refine load_D rfl (.tmp 9) rfl w1.heap.size rfl SE DX.out ?_)
              | (with_reducible refine atBin .neq 25 25 ?_
                 refine wpList_neq rfl (.tmp 52) (.tmp 53) rfl SL SE hSl hSb hk5 hb5 rfl rfl ?_
                 rw [HTG.out])
              | (at_builtin
                 refine wpList_appRun rfl (.tmp 60) (.tmp 62) 47 47 rfl _ _ rfl rfl HR7.out ?_))
            go_roundw
            case rel => exact ⟨pl + (4 + n + 32), k, _, SE, _, by congr 1, by omega, by omega, HLo3.out, hk5, hb5, HL7.out, D7.out, HD7.out⟩
            case measure => simp [intOf]; omega
          · have HTG : Hid ((!decide (SL = SE)) = true) := by show _ = _; rw [decide_eq_false htg]; rfl
            have hLP : LP = (es, 4, pl) := by rw [← HLo2.out, if_neg (by decide), if_pos htg]
            subst hLP
            clear HLo2 htg HLX IX
            go_wp2_with (first
              | (with_reducible refine atLoad 25 ?_
                 first
                   | refine load_D rfl (.tmp 12) rfl gN rfl SL NX.out ?_
                   | refine load_D rfl (.tmp 9) rfl w1.heap.size rfl SE DX.out ?_)
              | (with_reducible refine atBin .neq 25 25 ?_
                 refine wpList_neq rfl (.tmp 52) (.tmp 53) rfl SL SE hSl hSb hk5 hb5 rfl rfl ?_
                 rw [HTG.out]))
            go_ret3
            exact loadOut_nil (by decide) BX
      · obtain ⟨gN, hgN⟩ : ∃ gN, wr.drew.heap.size = gN := ⟨_, rfl⟩
        have bN : Below wr.drew.heap.size wr.drew (wr.drew.alloc (.cells Z8x32 25)) := (Below.refl _ _).alloc (Nat.le_refl _) _
        refine wpOp_val (v := .pointer (some ⟨wr.drew.heap.size, 0, none⟩)) (w' := wr.drew.alloc (.cells Z8x32 25)) rfl rfl (by go_simp; rfl) ?_
        have L3 := HLd.below bN
        have N3 : Dg (wr.drew.alloc (.cells Z8x32 25)) wr.drew.heap.size Z32 := Dg.new wr.drew _ rfl
        refine ⟨hce _ L3, ?_⟩
        simp only [Act.put, List.getElem_toArray, List.getElem_cons_zero, List.getElem_cons_succ, List.setIfInBounds_toArray, List.set_cons_zero, List.set_cons_succ]
        rw [hgN]
        rw [hgN] at N3
        refine relist #[true, true, true, true, true, true, true, true, false, false, false, false, false, true, false, false, false] (by kernel_rfl) ?_
        refine any_one (i := 8) (by kernel_rfl) ?_
        refine wpOp_call (f := 78) (args := #[.string ⟨(f.drop pl).toArray⟩, .int .i64 es.length]) rfl rfl (by go_simp) ?_
        refine (first_any (f.drop pl) es.length (wr.drew.alloc (.cells Z8x32 25))).mono ?_
        rintro ex w2 ⟨p, n, c, SL, rfl, hSl, hSb, b2, hgood⟩
        have L2 := L3.below b2
        have N2 : Dg w2 gN Z32 := N3.next b2
        refine ⟨_, rfl, hce _ L2, ?_⟩
        simp only [Act.put, List.getElem_toArray, List.getElem_cons_zero, List.getElem_cons_succ, List.setIfInBounds_toArray, List.set_cons_zero, List.set_cons_succ]
        refine wpAnyH_take (i := 9) (v := .tuple #[.slice p n c, .agg (A8 SL), .int .i64 (errN (f.drop pl) es.length)]) rfl (by kernel_rfl) (by kernel_rfl) (by kernel_rfl) (fun _ _ _ h => h) (.inl ⟨rfl, fun W _ => by go_simp⟩) (hce _ L2) ?_
        simp only [Act.put, List.getElem_toArray, List.getElem_cons_zero, List.getElem_cons_succ, List.setIfInBounds_toArray, List.set_cons_zero, List.set_cons_succ]
        refine wpAnyH_take (i := 10) (v := .slice p n c) rfl (by kernel_rfl) (by kernel_rfl) (by kernel_rfl) (fun _ _ _ h => h) (.inl ⟨rfl, fun W _ => by go_simp⟩) (hce _ L2) ?_
        simp only [Act.put, List.getElem_toArray, List.getElem_cons_zero, List.getElem_cons_succ, List.setIfInBounds_toArray, List.set_cons_zero, List.set_cons_succ]
        refine wpAnyH_take (i := 11) (v := .agg (A8 SL)) rfl (by kernel_rfl) (by kernel_rfl) (by kernel_rfl) (fun _ _ _ h => h) (.inl ⟨rfl, fun W _ => by go_simp⟩) (hce _ L2) ?_
        simp only [Act.put, List.getElem_toArray, List.getElem_cons_zero, List.getElem_cons_succ, List.setIfInBounds_toArray, List.set_cons_zero, List.set_cons_succ]
        refine wpAnyH_take (i := 12) (v := .int .i64 (errN (f.drop pl) es.length)) rfl (by kernel_rfl) (by kernel_rfl) (by kernel_rfl) (fun _ _ _ h => h) (.inl ⟨rfl, fun W _ => by go_simp⟩) (hce _ L2) ?_
        simp only [Act.put, List.getElem_toArray, List.getElem_cons_zero, List.getElem_cons_succ, List.setIfInBounds_toArray, List.set_cons_zero, List.set_cons_succ]
        refine wpAnyH_take (i := 14) (v := .slice p n c) rfl (by kernel_rfl) (by kernel_rfl) (by kernel_rfl) (fun _ _ _ h => h) (.inl ⟨rfl, fun W _ => by go_simp⟩) (hce _ L2) ?_
        simp only [Act.put, List.getElem_toArray, List.getElem_cons_zero, List.getElem_cons_succ, List.setIfInBounds_toArray, List.set_cons_zero, List.set_cons_succ]
        refine relist #[true, true, true, true, true, true, true, true, true, true, true, true, true, true, true, false, false] (by kernel_rfl) ?_
        refine any_one (i := 15) (by kernel_rfl) ?_
        refine wpOp_store_D rfl rfl (.tmp 12) (.tmp 37) rfl gN SL rfl rfl Z32 N2 hSl ?_
        intro U hU
        have bA2 : Below wr.drew.heap.size wr.drew w2 := bN.trans (b2.mono bN.size)
        have hb3 : Below wr.drew.heap.size wr.drew U := hU.below _ _ (Nat.le_of_eq hgN) bA2
        have hLU := HLd.below hb3
        refine ⟨hce _ hLU, ?_⟩
        simp only [Act.put, List.getElem_toArray, List.getElem_cons_zero, List.getElem_cons_succ, List.setIfInBounds_toArray, List.set_cons_zero, List.set_cons_succ]
        refine wpAnyH_take (i := 16) (v := .int .i64 (errN (f.drop pl) es.length)) rfl (by kernel_rfl) (by kernel_rfl) (by kernel_rfl) (fun _ _ _ h => h) (.inl ⟨rfl, fun W _ => by go_simp⟩) (hce _ hLU) ?_
        simp only [Act.put, List.getElem_toArray, List.getElem_cons_zero, List.getElem_cons_succ, List.setIfInBounds_toArray, List.set_cons_zero, List.set_cons_succ]
        refine wpAnyH_done (by kernel_rfl) ?_ _
        refine NoPanic.normal ?_
        have hdw : wr.drew.heap.size = wr.heap.size := rfl
        have hDU : Dg U w1.heap.size s := Dg.next (w := wr.drew) ⟨HD.out.len, HD.out.here⟩ hb3
        have hNU : Dg U gN SL := hU.dg hSl
        have BU : Below w.heap.size w U := BD.trans (hb3.mono BD.size)
        have hd9 := HD.out.lt
        have hgNe : gN ≠ w1.heap.size := by omega
        have hgl := HL.out.log.lt
        have hrl := HL.out.log.rowlt
        have hsN : (wr.drew.alloc (.cells Z8x32 25)).heap.size = gN + 1 := by rw [← hgN]; simp
        rw [hsN] at hgood
        have hIeU : ∀ {ge : Nat}, gN + 1 ≤ ge → In8 w2 (some ⟨ge, 0, none⟩) n c (entN (f.drop pl)) → ge < w2.heap.size → In8 U (some ⟨ge, 0, none⟩) n c (entN (f.drop pl)) := fun {ge} h0 h _ => h.same (Nat.le_of_eq hU.size.symm) (fun ad ha _ => by
          have e : ad.block = ge := by cases ha; rfl
          rw [e]
          exact hU.other _ (by omega))
        have hgeF : ∀ ge, gN + 1 ≤ ge → ge < w2.heap.size → ge < U.heap.size ∧ w1.heap.size < ge ∧ ge ≠ g ∧ (Value.slice ep es.length ec).ownBlock ≠ some ge := fun ge h1 h2 => by
          have := hU.size
          exact ⟨by omega, by omega, by omega, fun h => by have := (hrl ge h).2; omega⟩
        clear hU N3 N2 L3 L2 HLd S0 BD b2 hb3 bN bA2 HL HD hst hsN hgN
        have HLU : Hid (LogZ U w.heap.size g (.slice ep es.length ec) key es w1.heap.size) := hLU
        have HDU : Hid (Dg U w1.heap.size s) := hDU
        have HNU : Hid (Dg U gN SL) := hNU
        clear hLU hDU hNU
        obtain ⟨ER, hER⟩ : ∃ ER, errN (f.drop pl) es.length = ER := ⟨_, rfl⟩
        have HLo2 : Hid ((if ER ≠ 0 then (es, ER, pl) else if tagN (f.drop pl) ≠ sealP key s (entN (f.drop pl)) then (es, 4, pl) else loadF key f k (pl + (4 + lenN (f.drop pl) + 32)) (es ++ [entN (f.drop pl)]) (sealP key s (entN (f.drop pl)))) = LP) := by
          have h := HLo.out
          simp only [loadF] at h
          rw [if_neg (by omega), hER] at h
          exact h
        have HEZ : Hid (ER = 0 → 4 + lenN (f.drop pl) + 32 ≤ (f.drop pl).length ∧ lenN (f.drop pl) ≤ 300 ∧ es.length < 64) := fun h => errN_zero _ _ (hER.trans h)
        have HER3 : Hid (ER = 3 ∨ ER = 2 ∨ ER = 0) := by
          show _ ∨ _
          rw [← hER]
          unfold errN
          split
          · exact .inl rfl
          · split
            · exact .inr (.inl rfl)
            · split
              · exact .inl rfl
              · exact .inr (.inr rfl)
        rw [hER] at hgood ⊢
        have HG : Hid _ := hgood
        clear hER hgood HLo
        rcases HER3.out with rfl | rfl | rfl
        · have hLP : LP = (es, 3, pl) := by rw [← HLo2.out, if_pos (by decide)]
          subst hLP
          clear HLo2 HG HEZ
          go_wp2_with fail
          go_ret3
          exact loadOut_log (.inr rfl) BU HLU.out.log
        · have hLP : LP = (es, 2, pl) := by rw [← HLo2.out, if_pos (by decide)]
          subst hLP
          clear HLo2 HG HEZ
          go_wp2_with fail
          go_ret3
          exact loadOut_nil (by decide) BU
        · obtain ⟨hSLe, hne, hn3, ge, rfl, hge1, hge2, hIe⟩ := HG.out rfl
          obtain ⟨hz1, hz2, hz3⟩ := HEZ.out rfl
          have HNE : Hid (lenN (f.drop pl) = n) := hne.symm
          have HSE : Hid (tagN (f.drop pl) = SL) := hSLe.symm
          rw [List.length_drop, HNE.out] at hz1
          rw [HNE.out] at hz2
          rw [HSE.out, HNE.out] at HLo2
          clear hne hSLe
          have IeU : Hid (In8 U (some ⟨ge, 0, none⟩) n c (entN (f.drop pl))) := hIeU hge1 hIe hge2
          have hgeU : ge < U.heap.size ∧ w1.heap.size < ge ∧ ge ≠ g ∧ (Value.slice ep es.length ec).ownBlock ≠ some ge := hgeF ge hge1 hge2
          clear HG HEZ hIe
          go_wp2_with (first
            | (with_reducible refine atLoad 25 ?_
               refine load_D rfl (.tmp 9) rfl w1.heap.size rfl s HDU.out ?_))
          refine (sealOf_any U (HTb.out.below BU) kp kn kc key (HK.out.below BU) s hsl hsb (some ⟨ge, 0, none⟩) n c (entN (f.drop pl)) IeU.out (by omega)).mono ?_
          rintro ex w5 ⟨rfl, b5⟩
          have B5 := BU.trans (b5.mono BU.size)
          have HL5 : Hid (LogZ w5 w.heap.size g (.slice ep es.length ec) key es w1.heap.size) := HLU.out.below b5
          have D5 : Hid (Dg w5 w1.heap.size s) := HDU.out.next b5
          have N5 : Hid (Dg w5 gN SL) := HNU.out.next b5
          have I5 : Hid (In8 w5 (some ⟨ge, 0, none⟩) n c (entN (f.drop pl))) := IeU.out.below b5
          have hge5 : ge < w5.heap.size := Nat.lt_of_lt_of_le hgeU.1 b5.size
          have hn1 := N5.out.lt
          have hk5 := sealP_len key s (entN (f.drop pl))
          have hb5 := sealP_bytes key s (entN (f.drop pl))
          have hgN9 : gN ≠ w1.heap.size := hgNe
          obtain ⟨SE, hSE⟩ : ∃ SE, sealP key s (entN (f.drop pl)) = SE := ⟨_, rfl⟩
          rw [hSE] at hk5 hb5 HLo2 ⊢
          clear hSE HLU HDU HNU IeU b5 BU
          go_wp2_with (first
            | (with_reducible refine atStore 25 ?_
               refine store_D rfl _ _ rfl w1.heap.size SE rfl rfl s D5.out hk5 ?_
               intro X hX
               refine hideGoal ?_))
          have hkX : Kp (fun j => j = w1.heap.size) w5 X := ⟨(hX.below w1.heap.size w5 (Nat.le_refl _) (Below.refl _ _)).os, (hX.below w1.heap.size w5 (Nat.le_refl _) (Below.refl _ _)).tape, (hX.below w1.heap.size w5 (Nat.le_refl _) (Below.refl _ _)).output, Nat.le_of_eq hX.size.symm, fun j _ hj => hX.other j hj⟩
          have HLX : Hid (LogZ X w.heap.size g (.slice ep es.length ec) key es w1.heap.size) := HL5.out.kp hkX (fun _ h => .inr h)
          have DX : Hid (Dg X w1.heap.size SE) := hX.dg hk5
          have NX : Hid (Dg X gN SL) := N5.out.other hX hgN9
          have IX : Hid (In8 X (some ⟨ge, 0, none⟩) n c (entN (f.drop pl))) := I5.out.same (Nat.le_of_eq hX.size.symm) (fun ad ha _ => by cases ha; exact hX.other _ (by show ge ≠ _; omega))
          have BX : Below w.heap.size w X := hX.below _ _ (by omega) B5
          have hgeX : ge < X.heap.size := by rw [hX.size]; exact hge5
          clear hX hkX HL5 D5 N5 I5 B5
          refine openGoal ?_
          by_cases htg : SL = SE
          · have HTG : Hid ((!decide (SL = SE)) = false) := by show _ = _; rw [decide_eq_true htg]; rfl
            have HLo3 : Hid (loadF key f k (pl + (4 + n + 32)) (es ++ [entN (f.drop pl)]) SE = LP) := by
              have h := HLo2.out
              rw [if_neg (by decide), if_neg (by simpa using htg)] at h
              exact h
            clear HLo2 htg
            have hc1 := HLX.out.log.cell
            have h2N := heapN X (.cells #[.slice (some ⟨ge, 0, none⟩) n c] 22) _ rfl
            have bN : Below X.heap.size X (X.alloc (.cells #[.slice (some ⟨ge, 0, none⟩) n c] 22)) := (Below.refl _ _).alloc (Nat.le_refl _) _
            obtain ⟨ga, cap, w7, hr7, hc7, hf7, hL7, hk7⟩ := app_worldZ (X.alloc (.cells #[.slice (some ⟨ge, 0, none⟩) n c] 22)) w.heap.size g _ key es w1.heap.size (HLX.out.below bN) (by have := DX.out.lt; simp; omega) X.heap.size (some ⟨ge, 0, none⟩) n c (entN (f.drop pl)) h2N (IX.out.below bN) hn3 hz3 (fun ad ha => by
              cases ha
              exact ⟨by show w.heap.size ≤ ge; omega, by show ge < _; simp; omega, hgeU.2.2.1, hgeU.2.2.2, by have := hgeU.2.1; show ge ≠ _; omega⟩)
            have DN : Dg (X.alloc (.cells #[.slice (some ⟨ge, 0, none⟩) n c] 22)) w1.heap.size SE := DX.out.next bN
            have hdis2 := log_dg (HLX.out.below bN).log DN
            have D7 : Hid (Dg (w7.setCell ⟨g, 1, none⟩ (.slice (some ⟨ga, 0, none⟩) (es.length + 1) cap)) w1.heap.size SE) := ⟨hk5, (hk7.block _ DN.lt (fun hx => by rcases hx with hx | hx; exact hdis2.1 hx; exact hdis2.2 hx)).trans DN.here⟩
            have B7 : Below w.heap.size w (w7.setCell ⟨g, 1, none⟩ (.slice (some ⟨ga, 0, none⟩) (es.length + 1) cap)) := hk7.below (fun j hj => by
              rcases hj with hj | hj
              · rw [hj]; exact HLX.out.base
              · exact (HLX.out.log.rowlt j hj).1) (Nat.le_trans BX.size bN.size) (BX.trans (bN.mono BX.size))
            have HL7 : Hid _ := hL7
            have HR7 : Hid _ := hr7
            have HD7 : Hid _ := B7
            clear hr7 B7
            clear hL7 hk7 h2N bN DN HLX IX BX
            go_wp2_with (first
              | (with_reducible refine atLoad 25 ?_
                 first
                   | refine load_D rfl (.tmp 12) rfl gN rfl SL NX.out ?_
                   | refine load_D rfl (.tmp 9) rfl w1.heap.size rfl SE DX.out ?_)
              | (with_reducible refine atBin .neq 25 25 ?_
                 refine wpList_neq rfl (.tmp 52) (.tmp 53) rfl SL SE hSl hSb hk5 hb5 rfl rfl ?_
                 rw [HTG.out])
              | (at_builtin
                 refine wpList_appRun rfl (.tmp 60) (.tmp 62) 47 47 rfl _ _ rfl rfl HR7.out ?_))
            go_roundw
            case rel => exact ⟨pl + (4 + n + 32), k, _, SE, _, by congr 1, by omega, by omega, HLo3.out, hk5, hb5, HL7.out, D7.out, HD7.out⟩
            case measure => simp [intOf]; omega
          · have HTG : Hid ((!decide (SL = SE)) = true) := by show _ = _; rw [decide_eq_false htg]; rfl
            have hLP : LP = (es, 4, pl) := by rw [← HLo2.out, if_neg (by decide), if_pos htg]
            subst hLP
            clear HLo2 htg HLX IX
            go_wp2_with (first
              | (with_reducible refine atLoad 25 ?_
                 first
                   | refine load_D rfl (.tmp 12) rfl gN rfl SL NX.out ?_
                   | refine load_D rfl (.tmp 9) rfl w1.heap.size rfl SE DX.out ?_)
              | (with_reducible refine atBin .neq 25 25 ?_
                 refine wpList_neq rfl (.tmp 52) (.tmp 53) rfl SL SE hSl hSb hk5 hb5 rfl rfl ?_
                 rw [HTG.out]))
            go_ret3
            exact loadOut_nil (by decide) BX
    · have ep0 : pl = f.length := by omega
      have hLP : LP = (es, 0, pl) := by rw [← hload]; simp only [loadF]; rw [if_pos (by omega)]
      subst hLP
      have HL : Hid (LogZ wr w.heap.size g ev key es w1.heap.size) := hL
      clear hload hL hD
      go_wp2_with fail
      go_ret3
      exact loadOut_log (.inl rfl) hbr HL.out.log
end Go.Proofs.YtcmjlhcpoajbkaaDoor
namespace Go.Proofs.YtcmjlhcpoajbkaaDoor
set_option maxRecDepth 10000
set_option linter.unusedSimpArgs false
open Go.RowKit
set_option maxHeartbeats 2000000 in
/-- What String tells of a builder into which nothing was written. -/
theorem string_none (w : World) (g : Nat) (h4 : w.heap[g]? = some (.cells #[.pointer none, .slice none 0 0] 132)) (B0 : Nat) :
    Calls Tryd.prog 82 #[.pointer (some ⟨g, 0, none⟩)] w fun e w' => e = .returned (.string ByteArray.empty) ∧ Below B0 w w' := by
  have c0 := two_cell1 h4
  have c1 : w.drew.cell? ⟨g, 1, none⟩ = some (.slice none 0 0) := c0
  have hSD : (Builtin.unsafeSliceData_ #[22] 164 #[.slice none 0 0]).run Tryd.prog w.drew = .ok (.pointer none) w.drew := Lib.run_unsafeSliceData_nil _ _ _ _ _
  have hUS : (Builtin.unsafeString_ #[164, 3] 9 #[.pointer none, .int .i64 0]).run Tryd.prog w.drew = .ok (.string ByteArray.empty) w.drew := Lib.run_unsafeString_none _ _ _ _ _
  have HBF : Hid (Below B0 w w.drew) := (Below.refl B0 w).drew
  go_enter Tryd.func82, Tryd.ntmps82
  go_wp2_with fail
  go_region
  all_goals (go_wp2_with fail)
  all_goals go_ret
  all_goals exact ⟨rfl, HBF.out⟩
set_option maxHeartbeats 8000000 in
theorem save_none (w : World) (g : Nat) (key : List Int) (hL : LogR w g key []) :
    Calls Tryd.prog 39 #[.pointer (some ⟨g, 0, none⟩)] w fun e w' => e = .returned (.string ByteArray.empty) ∧ Below w.heap.size w w' := by
  obtain ⟨⟨kp, kn, kc, hk0, hkI⟩, ⟨ep, ec, he0, hE, _⟩, hfew⟩ := hL
  have hb0 := below2 w (.cells #[.pointer none, .slice none 0 0] 132) (.cells Z8x32 25)
  have V0 := heap2 w (.cells #[.pointer none, .slice none 0 0] 132) (.cells Z8x32 25)
  have HBL : Hid (Below w.heap.size w ((w.alloc (.cells #[.pointer none, .slice none 0 0] 132)).alloc (.cells Z8x32 25))) := hb0
  have HV0 : Hid (((w.alloc (.cells #[.pointer none, .slice none 0 0] 132)).alloc (.cells Z8x32 25)).heap[w.heap.size]? = some (.cells #[.pointer none, .slice none 0 0] 132)) := V0.1
  have he0' : w.cell? ⟨g, 1, none⟩ = some (.slice ep 0 ec) := he0
  have hcw := fun o1 o2 => cell_alloc (cell_alloc he0' o1) o2
  clear hb0 V0 he0 hk0 hkI hE he0'
  go_enter Tryd.func39, Tryd.ntmps39
  go_wp2_with fail
  go_loopw [12] (fun i wr => i = .int .i64 0 ∧ wr = (w.alloc (.cells #[.pointer none, .slice none 0 0] 132)).alloc (.cells Z8x32 25)) (fun i _ => 0)
  case atStart => exact ⟨rfl, rfl⟩
  case round =>
    obtain ⟨rfl, rfl⟩ := hrel
    go_wp2_with fail
    refine (string_none _ _ HV0.out w.heap.size).mono ?_
    rintro ex w2 ⟨rfl, b2⟩
    have B2 := HBL.out.trans b2
    go_wp2_with fail
    go_ret
    exact ⟨rfl, B2⟩
/-- Save of any log. -/
theorem save_all (w : World) (hT : Tabs KS HS w) (g : Nat) (key : List Int) (es : List (List Int)) (hL : LogR w g key es) :
    Calls Tryd.prog 39 #[.pointer (some ⟨g, 0, none⟩)] w fun e w' => e = .returned (.string ⟨(toU (saveP key es)).toArray⟩) ∧ Below w.heap.size w w' := by
  rcases Nat.eq_zero_or_pos es.length with h | h
  · have : es = [] := List.length_eq_zero_iff.1 h
    subst this
    exact save_none w g key hL
  · exact save_any w hT g key es hL h
end Go.Proofs.YtcmjlhcpoajbkaaDoor
namespace Go.Proofs.YtcmjlhcpoajbkaaDoor
set_option maxRecDepth 10000
set_option linter.unusedSimpArgs false
open Go.RowKit
/-- The document's log, as it is read. -/
structure RefR (w : World) (g : Nat) (l : List UInt8) (es : List (List Int)) : Prop where
  key : w.cell? ⟨g, 0, none⟩ = some (.string ⟨l.toArray⟩)
  ent : ∃ p c, w.cell? ⟨g, 1, none⟩ = some (.slice p es.length c) ∧ S59 w p es.length c es
  few : es.length ≤ 64
set_option maxHeartbeats 4000000 in
theorem refHead_any (w : World) (g : Nat) (l : List UInt8) (key : List Int) (hkey : toI l = key) (hlk : l.length ≤ 1000) (es : List (List Int)) (hL : RefR w g l es) :
    Calls Tryd.prog 36 #[.pointer (some ⟨g, 0, none⟩)] w fun e w' => e = .returned (.agg (headP key es)) ∧ Below w.heap.size w w' := by
  obtain ⟨hk, ⟨ep, ec, he, hE⟩, hfew⟩ := hL
  have hfit := hE.fits
  have hroom := hE.room
  have hb0 : Below w.heap.size w (w.alloc (.cells (headCells 0 Z32 Z32) 42)) := (Below.refl _ _).alloc (Nat.le_refl _) _
  have hz0 := heapN w (.cells (headCells 0 Z32 Z32) 42) _ rfl
  obtain ⟨V, hV⟩ : ∃ V, V = w.alloc (.cells (headCells 0 Z32 Z32) 42) := ⟨_, rfl⟩
  have hkV : V.cell? ⟨g, 0, none⟩ = some (.string ⟨l.toArray⟩) := by rw [hV]; exact cell_alloc hk _
  have heV : V.cell? ⟨g, 1, none⟩ = some (.slice ep es.length ec) := by rw [hV]; exact cell_alloc he _
  have heW := fun ob => cell_alloc he ob
  rw [← hV] at hb0 hz0
  have hgl : g < w.heap.size := block_lt_of_cell hk
  have lV := row_lt hz0
  have HEV : Hid (S59 V ep es.length ec es) := hE.below hb0
  clear hk he hE
  obtain ⟨hRl, hRb⟩ := rootP_ok es
  have HH : Hid (headP key es = headCells es.length (rootP es) (signP key es.length (rootP es))) := rfl
  go_enter Tryd.func36, Tryd.ntmps36
  go_wp2_with fail
  have hwV : w.alloc (.cells Tryd.zeroCells42 42) = V := by rw [hV]; rfl
  rw [hwV]
  clear hwV heW
  refine (refRoot_any es.length ep ec es V HEV.out).mono ?_
  rintro e w1 ⟨rfl, b1⟩
  have B1 : Below w.heap.size w w1 := hb0.trans (b1.mono hb0.size)
  have k1 : w1.cell? ⟨g, 0, none⟩ = some (.string ⟨l.toArray⟩) := by rw [b1.cell (block_lt_of_cell hkV)]; exact hkV
  have e1 : w1.cell? ⟨g, 1, none⟩ = some (.slice ep es.length ec) := by rw [b1.cell (block_lt_of_cell heV)]; exact heV
  have z1 : Hid (w1.heap[w.heap.size]? = some (.cells (headCells 0 Z32 Z32) 42)) := (b1.block _ lV).trans hz0
  have lz := row_lt z1.out
  have hs1 := B1.size
  have n1 : Hid (Dg (w1.alloc (.cells Z8x32 25)) w1.heap.size Z32) := Dg.new w1 _ rfl
  have hkl := signP_len key es.length (rootP es)
  clear b1 HEV hz0 hkV heV lV hb0 hV
  generalize rootP es = R at *
  go_wp2_with (first
    | (with_reducible refine atStore 25 ?_
       refine store_D rfl _ _ rfl w1.heap.size R rfl rfl Z32 n1.out hRl ?_
       intro U hU
       refine hideGoal ?_))
  have bU : Below w1.heap.size w1 U := hU.below _ _ (Nat.le_refl _) ((Below.refl _ _).alloc (Nat.le_refl _) _)
  have dU : Hid (Dg U w1.heap.size R) := hU.dg hRl
  have BU : Below w.heap.size w U := B1.trans (bU.mono B1.size)
  have kU : U.cell? ⟨g, 0, none⟩ = some (.string ⟨l.toArray⟩) := by rw [bU.cell (block_lt_of_cell k1)]; exact k1
  have eU : U.cell? ⟨g, 1, none⟩ = some (.slice ep es.length ec) := by rw [bU.cell (block_lt_of_cell e1)]; exact e1
  have zU : Hid (U.heap[w.heap.size]? = some (.cells (headCells 0 Z32 Z32) 42)) := (bU.block _ (row_lt z1.out)).trans z1.out
  clear hU n1 bU B1 k1 e1 z1
  generalize w1.heap.size = gd at *
  refine openGoal ?_
  go_wp2_with fail
  have BD : Below w.heap.size w U.drew := BU.drew
  have S0 : U.drew.cell? ⟨g, 0, none⟩ = some (.string ⟨l.toArray⟩) ∧ U.drew.cell? ⟨g, 1, none⟩ = some (.slice ep es.length ec) ∧ Dg U.drew gd R := ⟨kU, eU, ⟨dU.out.len, dU.out.here⟩⟩
  refine wp_region_noPanic ?_
  refine wp_region_held (S := fun W => W.cell? ⟨g, 0, none⟩ = some (.string ⟨l.toArray⟩) ∧ W.cell? ⟨g, 1, none⟩ = some (.slice ep es.length ec) ∧ Dg W gd R) follows ?_
  refine wpAnyH_take (i := 0) (v := .pointer (some ⟨g, 0, none⟩)) rfl (by kernel_rfl) (by kernel_rfl) (by kernel_rfl) (fun _ _ _ h => h) (.inl ⟨rfl, fun W _ => by go_simp⟩) S0 ?_
  simp only [Act.put, List.getElem_toArray, List.getElem_cons_zero, List.getElem_cons_succ, List.setIfInBounds_toArray, List.set_cons_zero, List.set_cons_succ]
  refine wpAnyH_take (i := 1) (v := .pointer (some ⟨g, 0, none⟩)) rfl (by kernel_rfl) (by kernel_rfl) (by kernel_rfl) (fun _ _ _ h => h) (.inl ⟨rfl, fun W _ => by go_simp⟩) S0 ?_
  simp only [Act.put, List.getElem_toArray, List.getElem_cons_zero, List.getElem_cons_succ, List.setIfInBounds_toArray, List.set_cons_zero, List.set_cons_succ]
  refine wpAnyH_take (i := 2) (v := .pointer (some ⟨g, 1, none⟩)) rfl (by kernel_rfl) (by kernel_rfl) (by kernel_rfl) (fun _ _ _ h => h) (.inl ⟨rfl, fun W _ => by go_simp⟩) S0 ?_
  simp only [Act.put, List.getElem_toArray, List.getElem_cons_zero, List.getElem_cons_succ, List.setIfInBounds_toArray, List.set_cons_zero, List.set_cons_succ]
  refine wpAnyH_take (i := 3) (v := .slice ep es.length ec) rfl (by kernel_rfl) (by kernel_rfl) (by kernel_rfl) (fun _ _ _ h => h) (.inl ⟨rfl, fun W hW => by have e := hW.2.1; go_simp⟩) S0 ?_
  simp only [Act.put, List.getElem_toArray, List.getElem_cons_zero, List.getElem_cons_succ, List.setIfInBounds_toArray, List.set_cons_zero, List.set_cons_succ]
  refine wpAnyH_take (i := 4) (v := .int .i64 es.length) rfl (by kernel_rfl) (by kernel_rfl) (by kernel_rfl) (fun _ _ _ h => h) (.inl ⟨rfl, fun W _ => by go_simp⟩) S0 ?_
  simp only [Act.put, List.getElem_toArray, List.getElem_cons_zero, List.getElem_cons_succ, List.setIfInBounds_toArray, List.set_cons_zero, List.set_cons_succ]
  refine wpAnyH_take (i := 5) (v := .agg (A8 R)) rfl (by kernel_rfl) (by kernel_rfl) (by kernel_rfl) (fun _ _ _ h => h) (yields_D rfl (.tmp 3) rfl gd rfl R hRl (fun W hW => hW.2.2)) S0 ?_
  simp only [Act.put, List.getElem_toArray, List.getElem_cons_zero, List.getElem_cons_succ, List.setIfInBounds_toArray, List.set_cons_zero, List.set_cons_succ]
  refine wpAnyH_take (i := 6) (v := .pointer (some ⟨g, 0, none⟩)) rfl (by kernel_rfl) (by kernel_rfl) (by kernel_rfl) (fun _ _ _ h => h) (.inl ⟨rfl, fun W _ => by go_simp⟩) S0 ?_
  simp only [Act.put, List.getElem_toArray, List.getElem_cons_zero, List.getElem_cons_succ, List.setIfInBounds_toArray, List.set_cons_zero, List.set_cons_succ]
  refine wpAnyH_take (i := 7) (v := .pointer (some ⟨g, 0, none⟩)) rfl (by kernel_rfl) (by kernel_rfl) (by kernel_rfl) (fun _ _ _ h => h) (.inl ⟨rfl, fun W _ => by go_simp⟩) S0 ?_
  simp only [Act.put, List.getElem_toArray, List.getElem_cons_zero, List.getElem_cons_succ, List.setIfInBounds_toArray, List.set_cons_zero, List.set_cons_succ]
  refine wpAnyH_take (i := 8) (v := .pointer (some ⟨g, 0, none⟩)) rfl (by kernel_rfl) (by kernel_rfl) (by kernel_rfl) (fun _ _ _ h => h) (.inl ⟨rfl, fun W _ => by go_simp⟩) S0 ?_
  simp only [Act.put, List.getElem_toArray, List.getElem_cons_zero, List.getElem_cons_succ, List.setIfInBounds_toArray, List.set_cons_zero, List.set_cons_succ]
  refine wpAnyH_take (i := 9) (v := .string ⟨l.toArray⟩) rfl (by kernel_rfl) (by kernel_rfl) (by kernel_rfl) (fun _ _ _ h => h) (.inl ⟨rfl, fun W hW => by have e := hW.1; go_simp⟩) S0 ?_
  simp only [Act.put, List.getElem_toArray, List.getElem_cons_zero, List.getElem_cons_succ, List.setIfInBounds_toArray, List.set_cons_zero, List.set_cons_succ]
  refine wpAnyH_take (i := 10) (v := .pointer (some ⟨g, 0, none⟩)) rfl (by kernel_rfl) (by kernel_rfl) (by kernel_rfl) (fun _ _ _ h => h) (.inl ⟨rfl, fun W _ => by go_simp⟩) S0 ?_
  simp only [Act.put, List.getElem_toArray, List.getElem_cons_zero, List.getElem_cons_succ, List.setIfInBounds_toArray, List.set_cons_zero, List.set_cons_succ]
  refine wpAnyH_take (i := 11) (v := .pointer (some ⟨g, 0, none⟩)) rfl (by kernel_rfl) (by kernel_rfl) (by kernel_rfl) (fun _ _ _ h => h) (.inl ⟨rfl, fun W _ => by go_simp⟩) S0 ?_
  simp only [Act.put, List.getElem_toArray, List.getElem_cons_zero, List.getElem_cons_succ, List.setIfInBounds_toArray, List.set_cons_zero, List.set_cons_succ]
  refine wpAnyH_take (i := 12) (v := .pointer (some ⟨g, 1, none⟩)) rfl (by kernel_rfl) (by kernel_rfl) (by kernel_rfl) (fun _ _ _ h => h) (.inl ⟨rfl, fun W _ => by go_simp⟩) S0 ?_
  simp only [Act.put, List.getElem_toArray, List.getElem_cons_zero, List.getElem_cons_succ, List.setIfInBounds_toArray, List.set_cons_zero, List.set_cons_succ]
  refine wpAnyH_take (i := 13) (v := .slice ep es.length ec) rfl (by kernel_rfl) (by kernel_rfl) (by kernel_rfl) (fun _ _ _ h => h) (.inl ⟨rfl, fun W hW => by have e := hW.2.1; go_simp⟩) S0 ?_
  simp only [Act.put, List.getElem_toArray, List.getElem_cons_zero, List.getElem_cons_succ, List.setIfInBounds_toArray, List.set_cons_zero, List.set_cons_succ]
  refine wpAnyH_take (i := 14) (v := .int .i64 es.length) rfl (by kernel_rfl) (by kernel_rfl) (by kernel_rfl) (fun _ _ _ h => h) (.inl ⟨rfl, fun W _ => by go_simp⟩) S0 ?_
  simp only [Act.put, List.getElem_toArray, List.getElem_cons_zero, List.getElem_cons_succ, List.setIfInBounds_toArray, List.set_cons_zero, List.set_cons_succ]
  refine wpAnyH_take (i := 15) (v := .agg (A8 R)) rfl (by kernel_rfl) (by kernel_rfl) (by kernel_rfl) (fun _ _ _ h => h) (yields_D rfl (.tmp 3) rfl gd rfl R hRl (fun W hW => hW.2.2)) S0 ?_
  simp only [Act.put, List.getElem_toArray, List.getElem_cons_zero, List.getElem_cons_succ, List.setIfInBounds_toArray, List.set_cons_zero, List.set_cons_succ]
  refine relist #[true, true, true, true, true, true, true, true, true, true, true, true, true, true, true, true, false, false, false] (by kernel_rfl) ?_
  refine any_one (i := 16) (by kernel_rfl) ?_
  refine wpOp_call (f := 27) (args := #[.string ⟨l.toArray⟩, .int .i64 es.length, .agg (A8 R)]) rfl rfl (by go_simp) ?_
  refine (refSign_any _ l key hkey (by omega) es.length R hRl hRb).mono ?_
  rintro e w2 ⟨rfl, b2⟩
  have B2 : Below w.heap.size w w2 := BD.trans (b2.mono BD.size)
  have S2 : w2.cell? ⟨g, 0, none⟩ = some (.string ⟨l.toArray⟩) ∧ w2.cell? ⟨g, 1, none⟩ = some (.slice ep es.length ec) ∧ Dg w2 gd R := ⟨by rw [b2.cell (block_lt_of_cell S0.1)]; exact S0.1, by rw [b2.cell (block_lt_of_cell S0.2.1)]; exact S0.2.1, Dg.next (w := U.drew) S0.2.2 b2⟩
  have z2 : w2.heap[w.heap.size]? = some (.cells (headCells 0 Z32 Z32) 42) := (b2.block _ (row_lt (w := U.drew) zU.out)).trans zU.out
  obtain ⟨D, hD⟩ : ∃ D, signP key es.length R = D := ⟨_, rfl⟩
  rw [hD] at hkl HH ⊢
  clear hD
  refine ⟨_, rfl, S2, ?_⟩
  simp only [Act.put, List.getElem_toArray, List.getElem_cons_zero, List.getElem_cons_succ, List.setIfInBounds_toArray, List.set_cons_zero, List.set_cons_succ]
  refine wpAnyH_take (i := 17) (v := .agg (headCells es.length R D)) rfl (by kernel_rfl) (by kernel_rfl) (by kernel_rfl) (fun _ _ _ h => h) (yields_build_head rfl (.tmp 13) (.tmp 14) (.tmp 25) rfl es.length R D rfl rfl rfl hRl hkl) S2 ?_
  simp only [Act.put, List.getElem_toArray, List.getElem_cons_zero, List.getElem_cons_succ, List.setIfInBounds_toArray, List.set_cons_zero, List.set_cons_succ]
  refine relist #[true, true, true, true, true, true, true, true, true, true, true, true, true, true, true, true, true, true, false] (by kernel_rfl) ?_
  refine any_one (i := 18) (by kernel_rfl) ?_
  refine wpOp_store_H rfl rfl (.tmp 2) (.tmp 26) rfl w.heap.size (headCells es.length R D) (headCells 0 Z32 Z32) rfl rfl z2 (headCells_size _ _ _ hRl hkl) zeroHead (head_one _ _ _) ?_
  intro X hX
  have xH : Hid (X.heap[w.heap.size]? = some (.cells (headCells es.length R D) 42)) := hX.here
  have xB : Hid (Below w.heap.size w X) := hX.below _ _ (Nat.le_refl _) B2
  have e0 : X.heap[g]? = w2.heap[g]? := hX.other g (by omega)
  refine ⟨⟨by rw [World.cell?_of_block (w := w2) e0]; exact S2.1, by rw [World.cell?_of_block (w := w2) e0]; exact S2.2.1, S2.2.2.other hX (by omega)⟩, ?_⟩
  simp only [Act.put, List.getElem_toArray, List.getElem_cons_zero, List.getElem_cons_succ, List.setIfInBounds_toArray, List.set_cons_zero, List.set_cons_succ]
  refine wpAnyH_done (by kernel_rfl) ?_ _
  refine NoPanic.normal ?_
  have hsz := headCells_size es.length R D hRl hkl
  obtain ⟨fs, hfs⟩ := und42
  clear hX S2 S0 z2 B2 b2 zU kU eU BU dU BD
  go_wp2_with fail
  exact bodyPost_ret (v := .agg (headCells es.length R D)) (results_cell_row rfl _ _ w.heap.size 42 _ (0, 0) (.struct fs) rfl xH.out hfs rfl (by rw [info42, hsz])) rfl ⟨by rw [HH.out], xB.out⟩
end Go.Proofs.YtcmjlhcpoajbkaaDoor
namespace Go.Proofs.YtcmjlhcpoajbkaaDoor
set_option maxRecDepth 10000
set_option linter.unusedSimpArgs false
open Go.RowKit
theorem agg25 (w : World) : (isAgg 25).run Tryd.prog w = .ok true w := by
  unfold isAgg
  rw [Sem.run_bind, run_underlying und25 w]
  rfl
theorem agg3 (w : World) : (isAgg 3).run Tryd.prog w = .ok false w := by
  unfold isAgg
  rw [Sem.run_bind, run_underlying Tryd.underlying3 w]
  rfl
theorem ext_R (n : Int) (R T : List Int) (hR : R.length = 32) : (headCells n R T).extract 1 33 = A8 R := by
  apply Array.ext'
  simp [headCells, A8, List.extract_eq_take_drop, hR]
theorem ext_T (n : Int) (R T : List Int) (hR : R.length = 32) (hT : T.length = 32) : (headCells n R T).extract 33 65 = A8 T := by
  apply Array.ext'
  simp [headCells, A8, List.extract_eq_take_drop, hR]
  rw [List.take_of_length_le (by simp [hT])]
theorem sz25 (w : World) : (sizeOf 25).run Tryd.prog w = .ok 32 w := by
  have h := info25
  cases hq : Tryd.prog.info? 25 with
  | none => rw [hq] at h; cases h
  | some i =>
    rw [hq] at h
    have hs : i.size = 32 := by simpa using h
    simp [sizeOf, typeInfo, hq, hs]
theorem part_25 (cs : Array Value) (off : Nat) (w : World) : (part 25 cs off).run Tryd.prog w = .ok (.agg (cs.extract off (off + 32))) w := by
  have h3 := sz25 w
  have h4 := agg25 w
  unfold part
  simp [Sem.run_bind, h3, h4]
theorem part_3 (cs : Array Value) (off : Nat) (v : Value) (h : cs[off]? = some v) (w : World) : (part 3 cs off).run Tryd.prog w = .ok v w := by
  have h4 := agg3 w
  unfold part
  simp [Sem.run_bind, h4, h]
theorem fields42' : ∃ f0 f1 f2 : Field, (Tryd.prog.fieldsOf 42).toList = [f0, f1, f2] ∧ (f0.name ≠ "_" ∧ f0.type = 3 ∧ f0.offset = 0) ∧ (f1.name ≠ "_" ∧ f1.type = 25 ∧ f1.offset = 1) ∧ (f2.name ≠ "_" ∧ f2.type = 25 ∧ f2.offset = 33) := ⟨_, _, _, rfl, ⟨by decide, rfl, rfl⟩, ⟨by decide, rfl, rfl⟩, ⟨by decide, rfl, rfl⟩⟩
theorem und42' : Tryd.prog.underlying 42 = some (.struct (Tryd.prog.fieldsOf 42)) := by kernel_rfl
theorem eqIn_D (d : Nat) (D E : List Int) (hl : D.length = 32) (hb : Bytes D) (hl' : E.length = 32) (hb' : Bytes E) (w : World) : (Op.equalIn (d + 2) 25 (.agg (A8 D)) (.agg (A8 E))).run Tryd.prog w = .ok (decide (D = E)) w := by
  have h := run_equalIn_bytes (P := Tryd.prog) w d 25 5 32 und25 Tryd.underlying5 Tryd.sizeOf5 (toU D) (toU E) (by rw [toU_len, hl]) (by rw [toU_len, hl'])
  rw [A8_cells D hb, A8_cells E hb', h, toU_inj hb hb']
/-- Are two heads one? -/
theorem eqIn_H (n m : Int) (R T R' T' : List Int) (h1 : R.length = 32) (h2 : T.length = 32) (h3 : R'.length = 32) (h4 : T'.length = 32) (b1 : Bytes R) (b2 : Bytes T) (b3 : Bytes R') (b4 : Bytes T') (w : World) :
    (Op.equalIn 10000 42 (.agg (headCells n R T)) (.agg (headCells m R' T'))).run Tryd.prog w = .ok (decide (n = m ∧ R = R' ∧ T = T')) w := by
  rw [run_equalIn_struct w 9999 42 _ _ und42' (by kernel_rfl)]
  obtain ⟨f0, f1, f2, hf, ⟨g0, t0, o0⟩, ⟨g1, t1, o1⟩, ⟨g2, t2, o2⟩⟩ := fields42'
  have e0 : (headCells n R T)[0]? = some (.int .i64 n) := rfl
  have e0' : (headCells m R' T')[0]? = some (.int .i64 m) := rfl
  have q0 : (Op.equalIn 9999 3 (.int .i64 n) (.int .i64 m)).run Tryd.prog w = .ok (n == m) w := run_equalIn_int w 9998 3 .i64 .i64 n m Tryd.underlying3
  have q1 : (Op.equalIn 9999 25 (.agg (A8 R)) (.agg (A8 R'))).run Tryd.prog w = .ok (decide (R = R')) w := eqIn_D 9997 R R' h1 b1 h3 b3 w
  have q2 : (Op.equalIn 9999 25 (.agg (A8 T)) (.agg (A8 T'))).run Tryd.prog w = .ok (decide (T = T')) w := eqIn_D 9997 T T' h2 b2 h4 b4 w
  have x1 := ext_R n R T h1
  have x2 := ext_R m R' T' h3
  have x3 := ext_T n R T h1 h2
  have x4 := ext_T m R' T' h3 h4
  rw [hf]
  cases hd0 : (n == m) with
  | false =>
    rw [hd0] at q0
    simp only [Op.eqFields, g0, g1, g2, t0, t1, t2, o0, o1, o2, ne_eq, not_false_eq_true, if_true, Sem.run_bind, Sem.run_ite, Sem.run_pure, part_3 _ _ _ e0, part_3 _ _ _ e0', part_25, Result.andThen_ok, q0, x1, x2, x3, x4, q1, q2, Nat.reduceAdd, Bool.not_true, Bool.not_false, Bool.false_eq_true, if_false]
    have : ¬ n = m := by simpa using hd0
    simp [this]
  | true =>
    rw [hd0] at q0
    have c0 : n = m := by simpa using hd0
    cases hd1 : decide (R = R') with
    | false =>
      rw [hd1] at q1
      simp only [Op.eqFields, g0, g1, g2, t0, t1, t2, o0, o1, o2, ne_eq, not_false_eq_true, if_true, Sem.run_bind, Sem.run_ite, Sem.run_pure, part_3 _ _ _ e0, part_3 _ _ _ e0', part_25, Result.andThen_ok, q0, x1, x2, x3, x4, q1, q2, Nat.reduceAdd, Bool.not_true, Bool.not_false, Bool.false_eq_true, if_false]
      simp [of_decide_eq_false hd1]
    | true =>
      rw [hd1] at q1
      cases hd2 : decide (T = T') with
      | false =>
        rw [hd2] at q2
        simp only [Op.eqFields, g0, g1, g2, t0, t1, t2, o0, o1, o2, ne_eq, not_false_eq_true, if_true, Sem.run_bind, Sem.run_ite, Sem.run_pure, part_3 _ _ _ e0, part_3 _ _ _ e0', part_25, Result.andThen_ok, q0, x1, x2, x3, x4, q1, q2, Nat.reduceAdd, Bool.not_true, Bool.not_false, Bool.false_eq_true, if_false]
        simp [of_decide_eq_false hd2]
      | true =>
        rw [hd2] at q2
        simp only [Op.eqFields, g0, g1, g2, t0, t1, t2, o0, o1, o2, ne_eq, not_false_eq_true, if_true, Sem.run_bind, Sem.run_ite, Sem.run_pure, part_3 _ _ _ e0, part_3 _ _ _ e0', part_25, Result.andThen_ok, q0, x1, x2, x3, x4, q1, q2, Nat.reduceAdd, Bool.not_true, Bool.not_false, Bool.false_eq_true, if_false]
        simp [c0, of_decide_eq_true hd1, of_decide_eq_true hd2]
end Go.Proofs.YtcmjlhcpoajbkaaDoor
