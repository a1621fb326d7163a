import Derived.Test.YtcmjlhcpoajbkaaDoorQGt
namespace Go.Proofs.YtcmjlhcpoajbkaaDoor
set_option maxRecDepth 10000
set_option linter.unusedSimpArgs false
open Go.RowKit
def LATER : List Int := [108, 97, 116, 101, 114]
theorem LATER_bytes : Bytes LATER := .of fun x hx => by simp only [LATER, List.mem_cons, List.not_mem_nil, or_false] at hx; omega
theorem Own.kp {X : Nat → Prop} {w w' : World} {B : Nat} {v : Value} {ds : List (List Int)} (h : Own w B v ds) (hk : Kp X w w') (hX : ∀ k, X k → k < B) : Own w' B v ds := by
  obtain ⟨h1, h2 | ⟨g, cap, cur, hv, hg, hh, r⟩⟩ := h
  · exact ⟨h1, .inl h2⟩
  · exact ⟨h1, .inr ⟨g, cap, cur, hv, hg, (hk.block g (row_lt hh) (fun hx => by have := hX g hx; omega)).trans hh, r⟩⟩
theorem Dg.kp {X : Nat → Prop} {w w' : World} {g : Nat} {D : List Int} (h : Dg w g D) (hk : Kp X w w') (hX : ¬ X g) : Dg w' g D := ⟨h.len, (hk.block g h.lt hX).trans h.here⟩
theorem wpOp_bs1 {i : Nat} {ops : Array Oper} {o : Oper} {K : Act → World → Prop} {a : Act} {w : World} {Q : Exit → Act → World → Prop} (hi : ops[i]? = some o) (hgd : o.guard = none) (x : Operand) (ho : o.op = .buildSlice 31 1 #[(0, x)])
    (R : List Int) (hx : a.eval x = .agg (A8 R)) (hR : R.length = 32)
    (h : K (a.put o.dst (.slice (some ⟨w.heap.size, 0, none⟩) 1 1)) (w.alloc (.cells (A8 R) 25))) : wpOp Tryd.prog ops Q i K a w := by
  have hr := bslice1 R hR w
  refine wpOp_val (v := .slice (some ⟨w.heap.size, 0, none⟩) 1 1) (w' := w.alloc (.cells (A8 R) 25)) hi hgd ?_ h
  unfold execOp
  simp only [ho, Sem.run_bind, Sem.run_pure, Result.andThen_ok, List.map_toArray, List.map_cons, List.map_nil, hx, hr]
theorem wpList_app25_none {ops : Array Oper} {rest : List Oper} {o : Oper} {a : Act} {Q : Exit → Act → World → Prop} {w : World} (hgd : o.guard = none) (s x : Operand)
    (ho : o.op = .call { callee := .builtin .append, args := #[s, x], argTypes := #[31, 31] }) (q : Option Addr) (c : Nat) (hs : a.eval s = .slice none 0 0) (hx : a.eval x = .slice q 0 c)
    (h : wpList Tryd.prog ops Q rest (a.put o.dst (.slice none 0 0)) w) : wpList Tryd.prog ops Q (o :: rest) a w := by
  have hr : (Builtin.append_ #[31, 31] o.type #[.slice none 0 0, .slice q 0 c]).run Tryd.prog w = .ok (.slice none 0 0) w := by
    obtain ⟨i, hi, hz, hsz, hby⟩ := info25'
    cases q <;> simp [Builtin.append_, run_underlying Tryd.underlying31, sizeOf, typeInfo, hi, Builtin.lenOf, Builtin.firstCells, storeCells, loadCells, loadCellsFrom]
  refine wpList_plain hgd fun _ hK => ?_
  unfold Oper.wp execOp
  simp only [ho, resolve, invoke, builtin, Sem.run_bind, Sem.run_pure, Result.andThen_ok, List.map_toArray, List.map_cons, List.map_nil, hs, hx, hr]
  exact hK _ _ h
theorem and_small (M : Nat) (h : M ≤ 41) : bits .and .i64 (M : Int) ((M : Int) - 1) = ((M &&& (M - 1) : Nat) : Int) := by
  have key : ∀ k : Fin 42, bits .and .i64 ((k.val : Nat) : Int) ((k.val : Int) - 1) = ((k.val &&& (k.val - 1) : Nat) : Int) := by decide
  exact key ⟨M, by omega⟩
theorem slice_less (ad : Addr) (n c : Nat) (h0 : 0 < n) (hn : n ≤ c) (W : World) :
    (Instr.sliceAt 31 (.slice (some ad) n c) none (some (.int .i64 ((n : Int) - 1))) none).run Tryd.prog W = .ok (.slice (some ad) (n - 1) c) W := by
  obtain ⟨m, rfl⟩ : ∃ m, n = m + 1 := ⟨n - 1, by omega⟩
  have e : ((m + 1 : Nat) : Int) - 1 = (m : Int) := by omega
  rw [e]
  have h1 : (m : Int) ≤ c := by omega
  have h2 : ¬ (m : Int) < 0 := by omega
  go_simp
set_option maxHeartbeats 20000000 in
theorem grown_any (w : World) (hT : Tabs KS HS w) (kp : Option Addr) (kn kc : Nat) (key : List Int) (hk : In8 w kp kn kc key) (p : Option Addr) (n c : Nat) (es : List (List Int)) (he : EN w p n c es)
    (mm nn at_ by_ : Int) (hm1 : -9223372036854775808 ≤ mm) (hm2 : mm ≤ 9223372036854775807) (hn1 : -9223372036854775808 ≤ nn) (hn2 : nn ≤ 9223372036854775807) (ha1 : -9223372036854775808 ≤ at_) (ha2 : at_ ≤ 9223372036854775807) (hy1 : 0 ≤ by_) (hy2 : by_ ≤ 255) :
    Calls Tryd.prog 11 #[.slice kp kn kc, .slice p n c, .int .i64 mm, .int .i64 nn, .int .i64 at_, .int .u8 by_] w fun e w' => e = .returned (.bool true) ∧ Below w.heap.size w w' := by
  have HTb : Hid (Tabs KS HS w) := hT
  clear hT
  go_enter Tryd.func11, Tryd.ntmps11
  go_wp2_with fail
  refine (made_any w HTb.out kp kn kc key hk p n c es he).mono ?_
  rintro e w1 ⟨g, ev, rfl, hL, b1⟩
  have hEl := madeP_len es
  obtain ⟨E, hE⟩ : ∃ E, madeP es = E := ⟨_, rfl⟩
  rw [hE] at hEl hL ⊢
  have HL1 : Hid (LogAt w1 w.heap.size g ev (key.take 100) E) := hL
  have hE1 : 1 ≤ E.length := by omega
  have hE2 : E.length ≤ 41 := by omega
  clear hE hEl hL hk he
  generalize key.take 100 = K at *
  go_wp2_with fail
  refine (pick_any w1 nn ((E.length : Int) + 1) hn1 hn2 (by omega) (by omega)).mono ?_
  rintro e w1 ⟨rfl, rfl⟩
  obtain ⟨N, hN, hNE⟩ : ∃ N : Nat, pickP nn ((E.length : Int) + 1) = N ∧ N ≤ E.length := by
    have h1 := pickP_lo nn ((E.length : Int) + 1) (by omega)
    have h2 := pickP_hi nn ((E.length : Int) + 1) (by omega)
    exact ⟨(pickP nn ((E.length : Int) + 1)).toNat, by omega, by omega⟩
  rw [hN]
  clear hN
  go_wp2_with fail
  refine (pick_any w1 mm ((N : Int) + 1) hm1 hm2 (by omega) (by omega)).mono ?_
  rintro e w1 ⟨rfl, rfl⟩
  obtain ⟨M, hM, hMN⟩ : ∃ M : Nat, pickP mm ((N : Int) + 1) = M ∧ M ≤ N := by
    have h1 := pickP_lo mm ((N : Int) + 1) (by omega)
    have h2 := pickP_hi mm ((N : Int) + 1) (by omega)
    exact ⟨(pickP mm ((N : Int) + 1)).toNat, by omega, by omega⟩
  rw [hM]
  clear hM hm1 hm2 hn1 hn2
  go_wp2_with fail
  refine (logRoot_any w1 g K E M (HTb.out.below b1) HL1.out.read).mono ?_
  rw [rootOut_in M E (by omega)]
  rintro e w2 ⟨rfl, b2⟩
  have hOl := rootP_ok (E.take M)
  have hNl := rootP_ok (E.take N)
  have hEX : Hid (extP Z32 M N (linkP M (E.take N)) (rootP (E.take M)) (rootP (E.take N)) = true) := ext_link Z32 M N E hMN hNE (by omega)
  have B2 : Below w.heap.size w w2 := b1.trans (b2.mono b1.size)
  have s12 := b2.size
  have s01 := b1.size
  have n2 : Hid (Dg (w2.alloc (.cells Z8x32 25)) w2.heap.size Z32) := Dg.new w2 _ rfl
  have HL2 : Hid (LogAt w2 w.heap.size g ev K E) := HL1.out.below b2
  have hg1 := HL1.out.lt
  have hrow1 := HL1.out.rowlt
  obtain ⟨OLD, hOLD⟩ : ∃ D, rootP (E.take M) = D := ⟨_, rfl⟩
  obtain ⟨NOW, hNOW⟩ : ∃ D, rootP (E.take N) = D := ⟨_, rfl⟩
  rw [hOLD] at hOl hEX ⊢
  rw [hNOW] at hNl hEX
  have hOl1 := hOl.1
  have hNl1 := hNl.1
  clear b2 HL1
  go_wp2_with (first
    | (with_reducible refine atStore 25 ?_
       refine store_D rfl _ _ rfl w2.heap.size OLD rfl rfl Z32 n2.out hOl1 ?_
       intro U hU
       refine hideGoal ?_))
  have dU := hU.dg hOl1
  have bU2 : Below w2.heap.size w2 U := hU.below _ _ (Nat.le_refl _) ((Below.refl _ _).alloc (Nat.le_refl _) _)
  have BU : Below w.heap.size w U := B2.trans (bU2.mono B2.size)
  have HLU : Hid (LogAt U w.heap.size g ev K E) := HL2.out.below bU2
  have lU := dU.lt
  clear hU n2 HL2 B2 b1 bU2
  generalize w2.heap.size = g15 at *
  refine openGoal ?_
  go_wp2_with fail
  refine (logRoot_any U g K E N (HTb.out.below BU) HLU.out.read).mono ?_
  rw [rootOut_in N E (by omega), hNOW]
  rintro e w3 ⟨rfl, b3⟩
  have B3 : Below w.heap.size w w3 := BU.trans (b3.mono BU.size)
  have O3 := dU.next b3
  have s23 := b3.size
  have n3 : Hid (Dg (w3.alloc (.cells Z8x32 25)) w3.heap.size Z32) := Dg.new w3 _ rfl
  have HL3 : Hid (LogAt w3 w.heap.size g ev K E) := HLU.out.below b3
  clear b3 HLU dU BU
  go_wp2_with (first
    | (with_reducible refine atStore 25 ?_
       refine store_D rfl _ _ rfl w3.heap.size NOW rfl rfl Z32 n3.out hNl1 ?_
       intro V hV
       refine hideGoal ?_))
  have dV := hV.dg hNl1
  have bV3 : Below w3.heap.size w3 V := hV.below _ _ (Nat.le_refl _) ((Below.refl _ _).alloc (Nat.le_refl _) _)
  have BV : Below w.heap.size w V := B3.trans (bV3.mono B3.size)
  have HLV : Hid (LogAt V w.heap.size g ev K E) := HL3.out.below bV3
  have OV := O3.next bV3
  have lV := dV.lt
  have hg17 : g15 < w3.heap.size := O3.lt
  clear hV n3 HL3 B3 bV3 O3
  generalize w3.heap.size = g17 at *
  refine openGoal ?_
  go_wp2_with fail
  refine (logLink_any V g K E M N (HTb.out.below BV) HLV.out.read).mono ?_
  rw [linkOut_in M N E hMN hNE]
  rintro e w4 ⟨v, rfl, hO, b4⟩
  have hall := linkP_ok M (E.take N)
  obtain ⟨L, hLk⟩ : ∃ L, linkP M (E.take N) = L := ⟨_, rfl⟩
  rw [hLk] at hO hEX hall ⊢
  obtain ⟨pl, cl, rfl, hD4⟩ := hO.view hall
  have B4 : Below w.heap.size w w4 := BV.trans (b4.mono BV.size)
  have O4 : Hid (Dg w4 g15 OLD) := OV.next b4
  have N4 : Hid (Dg w4 g17 NOW) := dV.next b4
  have s34 := b4.size
  have HL4 : Hid (LogAt w4 w.heap.size g ev K E) := HLV.out.below b4
  have HO4 : Hid (Own w4 V.heap.size (.slice pl L.length cl) L) := hO
  have HD4 : Hid (D32 w4 pl L.length cl L) := hD4
  clear hO hD4 b4 HLV OV dV BV
  go_wp2_with (first
    | (with_reducible refine atLoad 25 ?_
       first
         | refine load_D rfl _ rfl g15 rfl OLD O4.out ?_
         | refine load_D rfl _ rfl g17 rfl NOW N4.out ?_))
  refine (extends_any M N L.length pl cl L OLD NOW hOl hNl w4 (HTb.out.below B4) HD4.out (by omega)).mono ?_
  rw [hEX.out]
  rintro e w5 ⟨rfl, b5⟩
  have B5 : Below w.heap.size w w5 := B4.trans (b5.mono B4.size)
  have O5 : Hid (Dg w5 g15 OLD) := O4.out.next b5
  have N5 : Hid (Dg w5 g17 NOW) := N4.out.next b5
  have s45 := b5.size
  have HL5 : Hid (LogAt w5 w.heap.size g ev K E) := HL4.out.below b5
  have HO5 : Hid (Own w5 V.heap.size (.slice pl L.length cl) L) := HO4.out.below b5
  have HD5 : Hid (D32 w5 pl L.length cl L) := HD4.out.below b5
  clear b5 O4 N4 HL4 HO4 HD4 B4
  have hcv := Lib.run_convert_bytes_const (P := Tryd.prog) w5 22 5 #[.int .u8 108, .int .u8 97, .int .u8 116, .int .u8 101, .int .u8 114] 5 5 Tryd.underlying22 Tryd.underlying5
  go_wp2_with fail
  have h6 := heapN w5 (.cells #[.int .u8 108, .int .u8 97, .int .u8 116, .int .u8 101, .int .u8 114] 5 (5, 6)) _ rfl
  have hI6 : In8 (w5.alloc (.cells #[.int .u8 108, .int .u8 97, .int .u8 116, .int .u8 101, .int .u8 114] 5 (5, 6))) (some ⟨w5.heap.size, 0, none⟩) 5 5 LATER := in8_lit _ _ _ _ LATER LATER_bytes (by simp [LATER]) h6
  have b6 : Below w5.heap.size w5 (w5.alloc (.cells #[.int .u8 108, .int .u8 97, .int .u8 116, .int .u8 101, .int .u8 114] 5 (5, 6))) := (Below.refl _ _).alloc (Nat.le_refl _) _
  have hL6 := HL5.out.below b6
  refine (append_any _ w.heap.size g ev K E _ 5 5 LATER hL6 hI6 (by omega) (by omega)).mono ?_
  rintro e w6 ⟨ev6, rfl, hL7, hk7⟩
  have hX : ∀ k, (k = g ∨ ev.ownBlock = some k) → k < w1.heap.size := fun k hk => by
    rcases hk with hk | hk
    · omega
    · exact (hrow1 k hk).2
  have B6 : Below w.heap.size w w6 := hk7.below (fun j hj => by
    rcases hj with hj | hj
    · rw [hj]; exact hL6.base
    · exact (hL6.rowlt j hj).1) (Nat.le_trans B5.size b6.size) (B5.trans (b6.mono B5.size))
  have O6 : Hid (Dg w6 g15 OLD) := (O5.out.next b6).kp hk7 (fun h => by have := hX _ h; omega)
  have N6 : Hid (Dg w6 g17 NOW) := (N5.out.next b6).kp hk7 (fun h => by have := hX _ h; omega)
  have HO6 : Hid (Own w6 V.heap.size (.slice pl L.length cl) L) := (HO5.out.below b6).kp hk7 (fun k h => by have := hX _ h; omega)
  have HL6 : Hid (LogAt w6 w.heap.size g ev6 K (E ++ [LATER])) := hL7
  have s56 : w5.heap.size ≤ w6.heap.size := Nat.le_trans b6.size hk7.size
  clear hL7 hk7 hL6 hI6 h6 b6 hcv O5 N5 HO5 HD5 HL5 hX B5
  go_wp2_with fail
  refine (logRoot_any w6 g K (E ++ [LATER]) N (HTb.out.below B6) HL6.out.read).mono ?_
  rw [rootOut_in N (E ++ [LATER]) (by rw [List.length_append]; omega), List.take_append_of_le_length hNE, hNOW]
  rintro e w7 ⟨rfl, b7⟩
  have B7 : Below w.heap.size w w7 := B6.trans (b7.mono B6.size)
  have O7 := O6.out.next b7
  have N7 := N6.out.next b7
  have HO7 := HO6.out.below b7
  have s67 := b7.size
  have n7 : Hid (Dg (w7.alloc (.cells Z8x32 25)) w7.heap.size Z32) := Dg.new w7 _ rfl
  have HL7 : Hid (LogAt w7 w.heap.size g ev6 K (E ++ [LATER])) := HL6.out.below b7
  clear b7 HL6 O6 N6 HO6 B6
  go_wp2_with (first
    | (with_reducible refine atStore 25 ?_
       refine store_D rfl _ _ rfl w7.heap.size NOW rfl rfl Z32 n7.out hNl1 ?_
       intro X hX
       refine hideGoal ?_))
  have A8_ : Hid (Dg X w7.heap.size NOW) := hX.dg hNl1
  have bX : Below w7.heap.size w7 X := hX.below _ _ (Nat.le_refl _) ((Below.refl _ _).alloc (Nat.le_refl _) _)
  have B8 : Below w.heap.size w X := B7.trans (bX.mono B7.size)
  have O8 : Hid (Dg X g15 OLD) := O7.next bX
  have N8 : Hid (Dg X g17 NOW) := N7.next bX
  have HO8 : Hid (Own X V.heap.size (.slice pl L.length cl) L) := HO7.below bX
  have HL8 : Hid (LogAt X w.heap.size g ev6 K (E ++ [LATER])) := HL7.out.below bX
  have s78 := bX.size
  clear hX n7 HL7 O7 N7 HO7 B7 bX
  generalize w7.heap.size = g24 at *
  refine openGoal ?_
  have hneq : ∀ W : World, (binOp .neq 25 (.agg (A8 NOW)) (.agg (A8 NOW))).run Tryd.prog W = .ok (.bool false) W := fun W => by
    have := neq_D NOW NOW hNl1 hNl.2 hNl1 hNl.2 W
    simpa using this
  by_cases hy0 : by_ = 0
  · subst hy0
    go_wp2_with (first
      | (with_reducible refine atLoad 25 ?_
         first
           | refine load_D rfl _ rfl g24 rfl NOW A8_.out ?_
           | refine load_D rfl _ rfl g17 rfl NOW N8.out ?_))
    go_ret
    exact ⟨rfl, B8⟩
  · obtain ⟨ii, hI, hi32⟩ : ∃ ii : Nat, pickP at_ 32 = ii ∧ ii < 32 := by
      have h1 := pickP_lo at_ 32 (by omega)
      have h2 := pickP_hi at_ 32 (by omega)
      exact ⟨(pickP at_ 32).toNat, by omega, by omega⟩
    obtain ⟨hd0, hd1⟩ := hOl.2 ii
    obtain ⟨hx0, hx1⟩ := xor_byte (OLD.getD ii 0) by_ hd0 hd1 hy1 (by omega)
    have hdiff : Hid (OLD.set ii (bits .xor .u8 (OLD.getD ii 0) by_) ≠ OLD) := fun e => by
      have e1 := congrArg (fun l : List Int => l.getD ii 0) e
      simp only [List.getD_eq_getElem?_getD, List.getElem?_set_self (show ii < OLD.length by omega), Option.getD_some] at e1
      rw [← List.getD_eq_getElem?_getD] at e1
      exact xor_other (OLD.getD ii 0) by_ hd0 hd1 hy1 (by omega) hy0 e1
    have hOZ : Ok32 (OLD.set ii (bits .xor .u8 (OLD.getD ii 0) by_)) := ⟨by rw [List.length_set]; exact hOl1, fun j => by
      by_cases hj : j = ii
      · subst hj
        rw [List.getD_eq_getElem?_getD, List.getElem?_set_self (by omega)]
        exact ⟨hx0, hx1⟩
      · rw [List.getD_eq_getElem?_getD, List.getElem?_set_ne (Ne.symm hj), ← List.getD_eq_getElem?_getD]
        exact hOl.2 j⟩
    generalize hx : OLD.getD ii 0 = x0 at *
    have HX : Hid (OLD.getD ii 0 = x0) := hx
    clear hx
    by_cases hL0 : L.length = 0
    · rw [hL0]
      go_wp2_with (first
        | (with_reducible refine atLoad 25 ?_
           first
             | refine load_D rfl _ rfl g24 rfl NOW A8_.out ?_
             | refine load_D rfl _ rfl g17 rfl NOW N8.out ?_)
        | (at_builtin
           refine wpList_app25_none rfl (.tmp 118) (.tmp 119) rfl pl cl rfl rfl ?_
           refine hideGoal ?_))
      refine openGoal ?_
      have BY := B8
      have OY := O8
      have NY := N8
      have HOY := HO8
      clear B8 O8 N8 HO8 A8_ HL8
      obtain ⟨Y, hY⟩ : ∃ Y, Y = X := ⟨_, rfl⟩
      subst hY
      have hbits := and_small M (by omega)
      have hc15 : Y.cell? ⟨g15, ii, none⟩ = some (.int .u8 (x0)) := by rw [cell_of_row _ _ _ _ _ _ OY.out.here, A8_get _ _ (by omega), HX.out]
      have hf15 := frozen_of_row Y g15 ii _ _ OY.out.here
      have OZ : Hid (Dg (Y.setCell ⟨g15, ii, none⟩ (.int .u8 (bits .xor .u8 (x0) by_))) g15 (OLD.set ii (bits .xor .u8 (x0) by_))) := by
        have hG := heap_setCell_same Y g15 ii _ _ (.int .u8 (bits .xor .u8 (x0) by_)) OY.out.here
        rw [A8_set] at hG
        exact ⟨by rw [List.length_set]; exact hOl1, hG⟩
      have NZ : Hid (Dg (Y.setCell ⟨g15, ii, none⟩ (.int .u8 (bits .xor .u8 (x0) by_))) g17 NOW) := ⟨hNl1, (Below.heap_setCell _ _ _ _ (by show g17 ≠ g15; omega)).trans NY.out.here⟩
      have DZ : Hid (D32 (Y.setCell ⟨g15, ii, none⟩ (.int .u8 (bits .xor .u8 (x0) by_))) pl L.length cl L) := by
        have h1 := HOY.out
        obtain ⟨p1, c1, hv1, hd1⟩ := Own.view (B := V.heap.size) (w := Y.setCell ⟨g15, ii, none⟩ (.int .u8 (bits .xor .u8 (x0) by_))) (v := .slice pl L.length cl) (ds := L) (ownsRow_setCell_below h1 (by show g15 < V.heap.size; omega) _) hall
        cases hv1
        exact hd1
      have BZ : Hid (Below w.heap.size w (Y.setCell ⟨g15, ii, none⟩ (.int .u8 (bits .xor .u8 (x0) by_)))) := BY.setCell (by show w.heap.size ≤ g15; omega) _
      clear HOY NY OY
      have DZ0 : Hid (D32 (Y.setCell ⟨g15, ii, none⟩ (.int .u8 (bits .xor .u8 (x0) by_))) pl 0 cl L) := by
        have h := DZ.out
        rw [hL0] at h
        exact h
      clear DZ
      by_cases c1 : 0 < M
      · by_cases c2 : M < N
        · by_cases c3 : M &&& (M - 1) = 0
          · rw [c3] at hbits
            go_wp2_with fail
            go_ret
            exact ⟨rfl, BY⟩
          · have c4 : ¬ (((M &&& (M - 1) : Nat) : Int) = 0) := by omega
            go_wp2_with fail
            refine (pick_any _ at_ 32 ha1 ha2 (by omega) (by omega)).mono ?_
            rintro e Y1 ⟨rfl, hY1⟩
            subst hY1
            rw [hI]
            go_wp2_with fail
            refine (pick_any _ at_ 32 ha1 ha2 (by omega) (by omega)).mono ?_
            rintro e Y2 ⟨rfl, hY2⟩
            subst hY2
            rw [hI]
            go_wp2_with (first
              | (with_reducible refine atLoad 25 ?_
                 first
                   | refine load_D rfl _ rfl g15 rfl _ OZ.out ?_
                   | refine load_D rfl _ rfl g17 rfl NOW NZ.out ?_))
            refine (extends_any M N 0 pl cl L _ NOW hOZ hNl _ (HTb.out.below BZ.out) DZ0.out (by omega)).mono ?_
            have hfalse : Hid (extP Z32 M N L (OLD.set ii (bits .xor .u8 (x0) by_)) NOW = false) := by
              show extP _ _ _ _ _ _ = false
              rw [← hLk, ← hNOW]
              exact ext_old Z32 M N E hMN hNE (by omega) _ (by rw [hOLD]; exact hdiff.out) (fun h1 h2 => c3)
            rw [hfalse.out]
            rintro e Z1 ⟨rfl, bz⟩
            have BZ1 : Below w.heap.size w Z1 := BZ.out.trans (bz.mono BZ.out.size)
            clear bz BZ OZ NZ DZ0
            go_wp2_with fail
            go_ret
            exact ⟨rfl, BZ1⟩
        · clear hbits
          go_wp2_with fail
          refine (pick_any _ at_ 32 ha1 ha2 (by omega) (by omega)).mono ?_
          rintro e Y1 ⟨rfl, hY1⟩
          subst hY1
          rw [hI]
          go_wp2_with fail
          refine (pick_any _ at_ 32 ha1 ha2 (by omega) (by omega)).mono ?_
          rintro e Y2 ⟨rfl, hY2⟩
          subst hY2
          rw [hI]
          go_wp2_with (first
            | (with_reducible refine atLoad 25 ?_
               first
                 | refine load_D rfl _ rfl g15 rfl _ OZ.out ?_
                 | refine load_D rfl _ rfl g17 rfl NOW NZ.out ?_))
          refine (extends_any M N 0 pl cl L _ NOW hOZ hNl _ (HTb.out.below BZ.out) DZ0.out (by omega)).mono ?_
          have hfalse : Hid (extP Z32 M N L (OLD.set ii (bits .xor .u8 (x0) by_)) NOW = false) := by
            show extP _ _ _ _ _ _ = false
            rw [← hLk, ← hNOW]
            exact ext_old Z32 M N E hMN hNE (by omega) _ (by rw [hOLD]; exact hdiff.out) (fun h1 h2 => absurd h2 c2)
          rw [hfalse.out]
          rintro e Z1 ⟨rfl, bz⟩
          have BZ1 : Below w.heap.size w Z1 := BZ.out.trans (bz.mono BZ.out.size)
          clear bz BZ OZ NZ DZ0
          go_wp2_with fail
          go_ret
          exact ⟨rfl, BZ1⟩
      · clear hbits
        go_wp2_with fail
        refine (pick_any _ at_ 32 ha1 ha2 (by omega) (by omega)).mono ?_
        rintro e Y1 ⟨rfl, hY1⟩
        subst hY1
        rw [hI]
        go_wp2_with fail
        refine (pick_any _ at_ 32 ha1 ha2 (by omega) (by omega)).mono ?_
        rintro e Y2 ⟨rfl, hY2⟩
        subst hY2
        rw [hI]
        go_wp2_with (first
          | (with_reducible refine atLoad 25 ?_
             first
               | refine load_D rfl _ rfl g15 rfl _ OZ.out ?_
               | refine load_D rfl _ rfl g17 rfl NOW NZ.out ?_))
        refine (extends_any M N 0 pl cl L _ NOW hOZ hNl _ (HTb.out.below BZ.out) DZ0.out (by omega)).mono ?_
        have hfalse : Hid (extP Z32 M N L (OLD.set ii (bits .xor .u8 (x0) by_)) NOW = false) := by
          show extP _ _ _ _ _ _ = false
          rw [← hLk, ← hNOW]
          exact ext_old Z32 M N E hMN hNE (by omega) _ (by rw [hOLD]; exact hdiff.out) (fun h1 h2 => absurd h1 c1)
        rw [hfalse.out]
        rintro e Z1 ⟨rfl, bz⟩
        have BZ1 : Below w.heap.size w Z1 := BZ.out.trans (bz.mono BZ.out.size)
        clear bz BZ OZ NZ DZ0
        go_wp2_with fail
        go_ret
        exact ⟨rfl, BZ1⟩
    · obtain ⟨p1, c1, hv1, hD8⟩ := HO8.out.view hall
      cases hv1
      obtain ⟨ad, rfl, hadl, hadc⟩ := hD8.lies (by omega)
      have hfl := hD8.fits
      have hrl := hD8.room
      have hLs : L.length ≤ 1000 := by
        have h1 : (linkP M (E.take N)).length ≤ (E.take N).length := by
          unfold linkP
          split
          · simp
          · exact subP_len _ _ _
        rw [hLk, List.length_take] at h1
        omega
      have h32 : ∀ d ∈ L, d.length = 32 := fun d hd => (hall d hd).1
      have hcs : Hid (∀ k, k < L.length → ∀ j, j < 32 → X.cell? (ad.add (k * 32 + j)) = some (.int .u8 ((L.getD k []).getD j 0))) := hadc
      clear hadc hD8
      go_wp2_with (first
        | (with_reducible refine atLoad 25 ?_
           first
             | refine load_D rfl _ rfl g24 rfl NOW A8_.out ?_
             | refine load_D rfl _ rfl g17 rfl NOW N8.out ?_)
        | (at_builtin
           refine wpList_app25 rfl (.tmp 118) (.tmp 119) rfl X.heap.size (.slice none 0 0) [] 0 rfl ⟨rfl, .inl ⟨rfl, rfl⟩⟩ ad L.length cl L rfl rfl h32 hcs.out (by omega) (by omega) (Nat.le_refl _) ?_
           intro v9 w9 ho9 hs9 hb9
           refine hideGoal ?_))
      rw [Nat.zero_add, List.nil_append] at ho9
      obtain ⟨gt, capt, rfl, hgt, hgt9, hct, hmt, _, hct2⟩ := owns25 ho9.out h32 (by omega)
      have hct3 : capt ≤ 9223372036854775807 := by unfold maxLen at hmt; omega
      have b9 : Below X.heap.size X w9 := hb9 X (Below.refl _ _)
      have HXs : w.heap.size ≤ X.heap.size := B8.size
      have B9 : Below w.heap.size w w9 := B8.trans (b9.mono B8.size)
      have O9 : Hid (Dg w9 g15 OLD) := O8.out.next b9
      have N9 : Hid (Dg w9 g17 NOW) := N8.out.next b9
      have HO9 : Hid (Own w9 V.heap.size (.slice (some ad) L.length cl) L) := HO8.out.below b9
      have HL9 : Hid (LogAt w9 w.heap.size g ev6 K (E ++ [LATER])) := HL8.out.below b9
      have HR8 : Hid (LogR X g K (E ++ [LATER])) := HL8.out.read
      clear hb9 O9 N9 HO9 HL9 HL8 A8_ hcs B8 hadl
      refine openGoal ?_
      go_wp2_with fail
      refine (pick_any _ at_ (L.length : Int) ha1 ha2 (by omega) (by omega)).mono ?_
      rintro e W9 ⟨rfl, hW9⟩
      subst hW9
      obtain ⟨J, hJ, hJl⟩ : ∃ J : Nat, pickP at_ (L.length : Int) = J ∧ J < L.length := by
        have h1 := pickP_lo at_ (L.length : Int) (by omega)
        have h2 := pickP_hi at_ (L.length : Int) (by omega)
        exact ⟨(pickP at_ (L.length : Int)).toNat, by omega, by omega⟩
      rw [hJ]
      have hcJ : Hid (W9.cell? ⟨gt, J * 32 + ii, none⟩ = some (.int .u8 ((L.getD J []).getD ii 0))) := hct2 J hJl ii hi32
      have hfJ : W9.drew.frozen? ⟨gt, J * 32 + ii, none⟩ = false := by
        obtain ⟨_, ⟨h2, _⟩ | ⟨g', cap', cur, hv, _, hh, _⟩⟩ := ho9.out
        · cases h2
        · cases hv
          exact frozen_of_row W9 gt _ _ _ hh
      have hDJ := hall (L.getD J []) (by rw [List.getD_eq_getElem?_getD, List.getElem?_eq_getElem hJl]; exact List.getElem_mem hJl)
      obtain ⟨hdj0, hdj1⟩ := hDJ.2 ii
      have HL2 : Hid (L.set J ((L.getD J []).set ii (bits .xor .u8 ((L.getD J []).getD ii 0) by_)) ≠ L) := fun e => by
        have e1 := congrArg (fun l : List (List Int) => (l.getD J []).getD ii 0) e
        simp only [List.getD_eq_getElem?_getD (l := L.set J _), List.getElem?_set_self hJl, Option.getD_some] at e1
        rw [List.getD_eq_getElem?_getD, List.getElem?_set_self (by omega)] at e1
        exact xor_other _ by_ hdj0 hdj1 hy1 (by omega) hy0 e1
      have HA2 : Hid (∀ d ∈ L.set J ((L.getD J []).set ii (bits .xor .u8 ((L.getD J []).getD ii 0) by_)), d.length = 32 ∧ Bytes d) := fun d hd => by
        rcases List.mem_or_eq_of_mem_set hd with h1 | h1
        · exact hall d h1
        · subst h1
          refine ⟨by rw [List.length_set]; exact hDJ.1, fun j => ?_⟩
          by_cases hj : j = ii
          · subst hj
            rw [List.getD_eq_getElem?_getD, List.getElem?_set_self (by omega)]
            exact xor_byte _ by_ hdj0 hdj1 hy1 (by omega)
          · rw [List.getD_eq_getElem?_getD, List.getElem?_set_ne (Ne.symm hj), ← List.getD_eq_getElem?_getD]
            exact hDJ.2 j
      have HO10 : Hid ((W9.drew.setCell ⟨gt, J * 32 + ii, none⟩ (.int .u8 (bits .xor .u8 ((L.getD J []).getD ii 0) by_))).ownsRow X.heap.size 25 32 (.slice (some ⟨gt, 0, none⟩) L.length capt) L.length (F8 (L.set J ((L.getD J []).set ii (bits .xor .u8 ((L.getD J []).getD ii 0) by_))))) :=
        Own.set (w := W9.drew) ho9.out h32 rfl J ii hJl hi32 _
      have HLen2 : (L.set J ((L.getD J []).set ii (bits .xor .u8 ((L.getD J []).getD ii 0) by_))).length = L.length := List.length_set ..
      obtain ⟨L2, hL2⟩ : ∃ L2, L.set J ((L.getD J []).set ii (bits .xor .u8 ((L.getD J []).getD ii 0) by_)) = L2 := ⟨_, rfl⟩
      rw [hL2] at HL2 HA2 HO10 HLen2
      clear hL2 hDJ hct2 ho9
      generalize (L.getD J []).getD ii 0 = y0 at *
      have hiT : ∀ W : World, (Instr.indexAt 31 (.slice (some ⟨gt, 0, none⟩) L.length capt) (.int .i64 J)).run Tryd.prog W = .ok (.pointer (some ⟨gt, J * 32, none⟩)) W := fun W => by
        have := index_at ⟨gt, 0, none⟩ L.length capt J hJl W
        rw [addr_add, Nat.zero_add] at this
        exact this
      have hiI : ∀ W : World, (Instr.indexAt 25 (.pointer (some ⟨gt, J * 32, none⟩)) (.int .i64 ii)).run Tryd.prog W = .ok (.pointer (some ⟨gt, J * 32 + ii, none⟩)) W := fun W => by
        have h1 : (ii : Int) < 32 := by omega
        go_simp
      have hcD : W9.drew.cell? ⟨gt, J * 32 + ii, none⟩ = some (.int .u8 y0) := hcJ.out
      go_wp2_with fail
      refine wp_region_noPanic ?_
      refine wp_region_held (S := fun _ => True) follows ?_
      refine wpAnyH_take (i := 0) (v := .slice (some ⟨gt, 0, none⟩) L.length capt) rfl (by kernel_rfl) (by kernel_rfl) (by kernel_rfl) (fun _ _ _ h => h) (.inl ⟨rfl, fun W _ => by go_simp⟩) trivial ?_
      simp only [Act.put, List.getElem_toArray, List.getElem_cons_zero, List.getElem_cons_succ, List.setIfInBounds_toArray, List.set_cons_zero, List.set_cons_succ]
      refine wpAnyH_take (i := 1) (v := .int .i64 J) rfl (by kernel_rfl) (by kernel_rfl) (by kernel_rfl) (fun _ _ _ h => h) (.inl ⟨rfl, fun W _ => by go_simp⟩) trivial ?_
      simp only [Act.put, List.getElem_toArray, List.getElem_cons_zero, List.getElem_cons_succ, List.setIfInBounds_toArray, List.set_cons_zero, List.set_cons_succ]
      refine wpAnyH_take (i := 2) (v := .int .i64 at_) rfl (by kernel_rfl) (by kernel_rfl) (by kernel_rfl) (fun _ _ _ h => h) (.inl ⟨rfl, fun W _ => by go_simp⟩) trivial ?_
      simp only [Act.put, List.getElem_toArray, List.getElem_cons_zero, List.getElem_cons_succ, List.setIfInBounds_toArray, List.set_cons_zero, List.set_cons_succ]
      refine wpAnyH_take (i := 4) (v := .slice (some ⟨gt, 0, none⟩) L.length capt) rfl (by kernel_rfl) (by kernel_rfl) (by kernel_rfl) (fun _ _ _ h => h) (.inl ⟨rfl, fun W _ => by go_simp⟩) trivial ?_
      simp only [Act.put, List.getElem_toArray, List.getElem_cons_zero, List.getElem_cons_succ, List.setIfInBounds_toArray, List.set_cons_zero, List.set_cons_succ]
      refine wpAnyH_take (i := 5) (v := .int .i64 J) rfl (by kernel_rfl) (by kernel_rfl) (by kernel_rfl) (fun _ _ _ h => h) (.inl ⟨rfl, fun W _ => by go_simp⟩) trivial ?_
      simp only [Act.put, List.getElem_toArray, List.getElem_cons_zero, List.getElem_cons_succ, List.setIfInBounds_toArray, List.set_cons_zero, List.set_cons_succ]
      refine wpAnyH_take (i := 6) (v := .int .i64 at_) rfl (by kernel_rfl) (by kernel_rfl) (by kernel_rfl) (fun _ _ _ h => h) (.inl ⟨rfl, fun W _ => by go_simp⟩) trivial ?_
      simp only [Act.put, List.getElem_toArray, List.getElem_cons_zero, List.getElem_cons_succ, List.setIfInBounds_toArray, List.set_cons_zero, List.set_cons_succ]
      refine wpAnyH_take (i := 11) (v := .int .u8 by_) rfl (by kernel_rfl) (by kernel_rfl) (by kernel_rfl) (fun _ _ _ h => h) (.inl ⟨rfl, fun W _ => by go_simp⟩) trivial ?_
      simp only [Act.put, List.getElem_toArray, List.getElem_cons_zero, List.getElem_cons_succ, List.setIfInBounds_toArray, List.set_cons_zero, List.set_cons_succ]
      refine wpAnyH_take (i := 8) (v := .pointer (some ⟨gt, J * 32, none⟩)) rfl (by kernel_rfl) (by kernel_rfl) (by kernel_rfl) (fun _ _ _ h => h) (.inl ⟨rfl, fun W _ => by have e := hiT W; go_simp⟩) trivial ?_
      simp only [Act.put, List.getElem_toArray, List.getElem_cons_zero, List.getElem_cons_succ, List.setIfInBounds_toArray, List.set_cons_zero, List.set_cons_succ]
      refine wpAnyH_take (i := 13) (v := .pointer (some ⟨gt, J * 32, none⟩)) rfl (by kernel_rfl) (by kernel_rfl) (by kernel_rfl) (fun _ _ _ h => h) (.inl ⟨rfl, fun W _ => by have e := hiT W; go_simp⟩) trivial ?_
      simp only [Act.put, List.getElem_toArray, List.getElem_cons_zero, List.getElem_cons_succ, List.setIfInBounds_toArray, List.set_cons_zero, List.set_cons_succ]
      refine relist #[true, true, true, false, true, true, true, false, true, false, false, true, false, true, false, false] (by kernel_rfl) ?_
      refine any_one (i := 3) (by kernel_rfl) ?_
      refine wpOp_call (f := 44) (args := #[.int .i64 at_, .int .i64 32]) rfl rfl (by go_simp) ?_
      refine (pick_any _ at_ 32 ha1 ha2 (by omega) (by omega)).mono ?_
      rintro e W10 ⟨rfl, hW10⟩
      subst hW10
      rw [hI]
      refine ⟨_, rfl, trivial, ?_⟩
      simp only [Act.put, List.getElem_toArray, List.getElem_cons_zero, List.getElem_cons_succ, List.setIfInBounds_toArray, List.set_cons_zero, List.set_cons_succ]
      refine relist #[true, true, true, true, true, true, true, false, true, false, false, true, false, true, false, false] (by kernel_rfl) ?_
      refine any_one (i := 7) (by kernel_rfl) ?_
      refine wpOp_call (f := 44) (args := #[.int .i64 at_, .int .i64 32]) rfl rfl (by go_simp) ?_
      refine (pick_any _ at_ 32 ha1 ha2 (by omega) (by omega)).mono ?_
      rintro e W10 ⟨rfl, hW10⟩
      subst hW10
      rw [hI]
      refine ⟨_, rfl, trivial, ?_⟩
      simp only [Act.put, List.getElem_toArray, List.getElem_cons_zero, List.getElem_cons_succ, List.setIfInBounds_toArray, List.set_cons_zero, List.set_cons_succ]
      refine wpAnyH_take (i := 9) (v := .pointer (some ⟨gt, J * 32 + ii, none⟩)) rfl (by kernel_rfl) (by kernel_rfl) (by kernel_rfl) (fun _ _ _ h => h) (.inl ⟨rfl, fun W _ => by have e := hiI W; go_simp⟩) trivial ?_
      simp only [Act.put, List.getElem_toArray, List.getElem_cons_zero, List.getElem_cons_succ, List.setIfInBounds_toArray, List.set_cons_zero, List.set_cons_succ]
      refine relist #[true, true, true, true, true, true, true, true, true, true, false, true, false, true, false, false] (by kernel_rfl) ?_
      refine any_one (i := 10) (by kernel_rfl) ?_
      refine wpOp_val (v := .int .u8 y0) (w' := W9.drew) rfl rfl (by have e := hcD; go_simp) ?_
      refine ⟨trivial, ?_⟩
      simp only [Act.put, List.getElem_toArray, List.getElem_cons_zero, List.getElem_cons_succ, List.setIfInBounds_toArray, List.set_cons_zero, List.set_cons_succ]
      refine wpAnyH_take (i := 12) (v := .int .u8 (bits .xor .u8 y0 by_)) rfl (by kernel_rfl) (by kernel_rfl) (by kernel_rfl) (fun _ _ _ h => h) (.inl ⟨rfl, fun W _ => by go_simp⟩) trivial ?_
      simp only [Act.put, List.getElem_toArray, List.getElem_cons_zero, List.getElem_cons_succ, List.setIfInBounds_toArray, List.set_cons_zero, List.set_cons_succ]
      refine wpAnyH_take (i := 14) (v := .pointer (some ⟨gt, J * 32 + ii, none⟩)) rfl (by kernel_rfl) (by kernel_rfl) (by kernel_rfl) (fun _ _ _ h => h) (.inl ⟨rfl, fun W _ => by have e := hiI W; go_simp⟩) trivial ?_
      simp only [Act.put, List.getElem_toArray, List.getElem_cons_zero, List.getElem_cons_succ, List.setIfInBounds_toArray, List.set_cons_zero, List.set_cons_succ]
      refine relist #[true, true, true, true, true, true, true, true, true, true, true, true, true, true, true, false] (by kernel_rfl) ?_
      refine any_one (i := 15) (by kernel_rfl) ?_
      refine wpOp_skip (w' := W9.drew.setCell ⟨gt, J * 32 + ii, none⟩ (.int .u8 (bits .xor .u8 y0 by_))) rfl rfl (by have e := hcD; have f := hfJ; go_simp) ?_
      refine ⟨trivial, ?_⟩
      simp only [Act.put, List.getElem_toArray, List.getElem_cons_zero, List.getElem_cons_succ, List.setIfInBounds_toArray, List.set_cons_zero, List.set_cons_succ]
      refine wpAnyH_done (by kernel_rfl) ?_ _
      refine NoPanic.normal ?_
      have hs9d : W9.drew.heap.size = W9.heap.size := rfl
      have b10 : Below X.heap.size X (W9.drew.setCell ⟨gt, J * 32 + ii, none⟩ (.int .u8 (bits .xor .u8 y0 by_))) := (b9.drew).setCell (by show X.heap.size ≤ gt; omega) _
      have k10 : Kp (fun k => k = gt) W9 (W9.drew.setCell ⟨gt, J * 32 + ii, none⟩ (.int .u8 (bits .xor .u8 y0 by_))) := ⟨rfl, rfl, rfl, by simp [World.setCell], fun k _ hne => (Below.heap_setCell _ _ _ _ hne)⟩
      have hs8 := B9.size
      have B10 : Below w.heap.size w (W9.drew.setCell ⟨gt, J * 32 + ii, none⟩ (.int .u8 (bits .xor .u8 y0 by_))) := k10.below (fun k hk => by rw [hk]; omega) B9.size B9
      have HOT10 : Hid (Own (W9.drew.setCell ⟨gt, J * 32 + ii, none⟩ (.int .u8 (bits .xor .u8 y0 by_))) X.heap.size (.slice (some ⟨gt, 0, none⟩) L.length capt) L2) := by
        have h := HO10.out
        show Own _ _ _ _
        unfold Own
        rw [HLen2]; exact h
      clear k10 HO10 hcD hfJ hcJ hiT hiI b9 B9 hs9d
      generalize W9.drew.setCell ⟨gt, J * 32 + ii, none⟩ (.int .u8 (bits .xor .u8 y0 by_)) = W10 at *
      obtain ⟨p2, c2, hv2, hD10⟩ := HOT10.out.view HA2.out
      rw [HLen2] at hv2 hD10
      cases hv2
      have O10 : Hid (Dg W10 g15 OLD) := O8.out.next b10
      have N10 : Hid (Dg W10 g17 NOW) := N8.out.next b10
      go_wp2_with (first
        | (with_reducible refine atLoad 25 ?_
           first
             | refine load_D rfl _ rfl g15 rfl OLD O10.out ?_
             | refine load_D rfl _ rfl g17 rfl NOW N10.out ?_))
      refine (extends_any M N L.length _ capt L2 OLD NOW hOl hNl W10 (HTb.out.below B10) hD10 (by omega)).mono ?_
      rintro e W11 ⟨rfl, b11⟩
      obtain ⟨r, hr⟩ : ∃ r, extP Z32 M N L2 OLD NOW = r := ⟨_, rfl⟩
      rw [hr]
      have B11 : Below w.heap.size w W11 := B10.trans (b11.mono B10.size)
      have X11 : Below X.heap.size X W11 := b10.trans (b11.mono b10.size)
      have HOT11 : Hid (Own W11 X.heap.size (.slice (some ⟨gt, 0, none⟩) L.length capt) L2) := HOT10.out.below b11
      have hD11 : Hid (D32 W11 (some ⟨gt, 0, none⟩) L.length capt L2) := hD10.below b11
      clear hr b11 HOT10 hD10 O10 N10 b10 B10
      have hwr : IntKind.i64.wrap ((L.length : Int) - 1) = (L.length : Int) - 1 := i64_wrap _ (by omega) (by omega)
      have hsl : ∀ W : World, (Instr.sliceAt 31 (.slice (some ⟨gt, 0, none⟩) L.length capt) none (some (.int .i64 ((L.length : Int) - 1))) none).run Tryd.prog W = .ok (.slice (some ⟨gt, 0, none⟩) (L.length - 1) capt) W := fun W => slice_less _ L.length capt (by omega) hct W
      go_wp2_with fail
      have X11d : Below X.heap.size X W11.drew := X11.drew
      have B11d : Below w.heap.size w W11.drew := B11.drew
      have S11 : Dg W11.drew g15 OLD ∧ Dg W11.drew g17 NOW := ⟨O8.out.next X11d, N8.out.next X11d⟩
      refine wp_region_noPanic ?_
      refine wp_region_held (S := fun W => Dg W g15 OLD ∧ Dg W g17 NOW) follows ?_
      refine wpAnyH_take (i := 0) (v := .int .i64 M) rfl (by kernel_rfl) (by kernel_rfl) (by kernel_rfl) (fun _ _ _ h => h) (.inl ⟨rfl, fun W _ => by go_simp⟩) S11 ?_
      simp only [Act.put, List.getElem_toArray, List.getElem_cons_zero, List.getElem_cons_succ, List.setIfInBounds_toArray, List.set_cons_zero, List.set_cons_succ]
      refine wpAnyH_take (i := 1) (v := .int .i64 N) rfl (by kernel_rfl) (by kernel_rfl) (by kernel_rfl) (fun _ _ _ h => h) (.inl ⟨rfl, fun W _ => by go_simp⟩) S11 ?_
      simp only [Act.put, List.getElem_toArray, List.getElem_cons_zero, List.getElem_cons_succ, List.setIfInBounds_toArray, List.set_cons_zero, List.set_cons_succ]
      refine wpAnyH_take (i := 2) (v := .slice (some ⟨gt, 0, none⟩) L.length capt) rfl (by kernel_rfl) (by kernel_rfl) (by kernel_rfl) (fun _ _ _ h => h) (.inl ⟨rfl, fun W _ => by go_simp⟩) S11 ?_
      simp only [Act.put, List.getElem_toArray, List.getElem_cons_zero, List.getElem_cons_succ, List.setIfInBounds_toArray, List.set_cons_zero, List.set_cons_succ]
      refine wpAnyH_take (i := 3) (v := .slice (some ⟨gt, 0, none⟩) L.length capt) rfl (by kernel_rfl) (by kernel_rfl) (by kernel_rfl) (fun _ _ _ h => h) (.inl ⟨rfl, fun W _ => by go_simp⟩) S11 ?_
      simp only [Act.put, List.getElem_toArray, List.getElem_cons_zero, List.getElem_cons_succ, List.setIfInBounds_toArray, List.set_cons_zero, List.set_cons_succ]
      refine wpAnyH_take (i := 4) (v := .int .i64 (L.length : Int)) rfl (by kernel_rfl) (by kernel_rfl) (by kernel_rfl) (fun _ _ _ h => h) (.inl ⟨rfl, fun W _ => by go_simp⟩) S11 ?_
      simp only [Act.put, List.getElem_toArray, List.getElem_cons_zero, List.getElem_cons_succ, List.setIfInBounds_toArray, List.set_cons_zero, List.set_cons_succ]
      refine wpAnyH_take (i := 5) (v := .int .i64 ((L.length : Int) - 1)) rfl (by kernel_rfl) (by kernel_rfl) (by kernel_rfl) (fun _ _ _ h => h) (.inl ⟨rfl, fun W _ => by have e := hwr; go_simp⟩) S11 ?_
      simp only [Act.put, List.getElem_toArray, List.getElem_cons_zero, List.getElem_cons_succ, List.setIfInBounds_toArray, List.set_cons_zero, List.set_cons_succ]
      refine wpAnyH_take (i := 6) (v := .slice (some ⟨gt, 0, none⟩) (L.length - 1) capt) rfl (by kernel_rfl) (by kernel_rfl) (by kernel_rfl) (fun _ _ _ h => h) (.inl ⟨rfl, fun W _ => by have e := hsl W; go_simp⟩) S11 ?_
      simp only [Act.put, List.getElem_toArray, List.getElem_cons_zero, List.getElem_cons_succ, List.setIfInBounds_toArray, List.set_cons_zero, List.set_cons_succ]
      refine wpAnyH_take (i := 7) (v := .agg (A8 OLD)) rfl (by kernel_rfl) (by kernel_rfl) (by kernel_rfl) (fun _ _ _ h => h) (yields_D rfl (.tmp 15) rfl g15 rfl OLD hOl1 (fun W hW => hW.1)) S11 ?_
      simp only [Act.put, List.getElem_toArray, List.getElem_cons_zero, List.getElem_cons_succ, List.setIfInBounds_toArray, List.set_cons_zero, List.set_cons_succ]
      refine wpAnyH_take (i := 8) (v := .agg (A8 NOW)) rfl (by kernel_rfl) (by kernel_rfl) (by kernel_rfl) (fun _ _ _ h => h) (yields_D rfl (.tmp 17) rfl g17 rfl NOW hNl1 (fun W hW => hW.2)) S11 ?_
      simp only [Act.put, List.getElem_toArray, List.getElem_cons_zero, List.getElem_cons_succ, List.setIfInBounds_toArray, List.set_cons_zero, List.set_cons_succ]
      refine relist #[true, true, true, true, true, true, true, true, true, false, false] (by kernel_rfl) ?_
      refine any_one (i := 9) (by kernel_rfl) ?_
      refine wpOp_call (f := 29) (args := #[.int .i64 M, .int .i64 N, .slice (some ⟨gt, 0, none⟩) (L.length - 1) capt, .agg (A8 OLD), .agg (A8 NOW)]) rfl rfl (by go_simp) ?_
      have bD : Below W11.heap.size W11 W11.drew := (Below.refl _ _).drew
      refine (extends_any M N (L.length - 1) _ capt (L2.take (L.length - 1)) OLD NOW hOl hNl W11.drew (HTb.out.below B11d) ((hD11.out.below bD).front (L.length - 1) (by omega)) (by omega)).mono ?_
      have hbF : Hid (extP Z32 M N (L2.take (L.length - 1)) OLD NOW = false) := by
        show _ = false
        cases hh : extP Z32 M N (L2.take (L.length - 1)) OLD NOW with
        | false => rfl
        | true =>
          have := ext_len Z32 M N E hMN hNE (by omega) _ _ _ hh
          rw [hLk, List.length_take, HLen2] at this
          omega
      rw [hbF.out]
      rintro e W12 ⟨rfl, b12⟩
      have X12 : Below X.heap.size X W12 := X11d.trans (b12.mono X11d.size)
      have B12 : Below w.heap.size w W12 := B11d.trans (b12.mono B11d.size)
      have S12 : Dg W12 g15 OLD ∧ Dg W12 g17 NOW := ⟨O8.out.next X12, N8.out.next X12⟩
      have HOT12 : Hid (Own W12 X.heap.size (.slice (some ⟨gt, 0, none⟩) L.length capt) L2) := (HOT11.out.below bD).below b12
      refine ⟨_, rfl, S12, ?_⟩
      simp only [Act.put, List.getElem_toArray, List.getElem_cons_zero, List.getElem_cons_succ, List.setIfInBounds_toArray, List.set_cons_zero, List.set_cons_succ]
      refine wpAnyH_take (i := 10) (v := .bool false) rfl (by kernel_rfl) (by kernel_rfl) (by kernel_rfl) (fun _ _ _ h => h) (.inl ⟨rfl, fun W _ => by go_simp⟩) S12 ?_
      simp only [Act.put, List.getElem_toArray, List.getElem_cons_zero, List.getElem_cons_succ, List.setIfInBounds_toArray, List.set_cons_zero, List.set_cons_succ]
      refine wpAnyH_done (by kernel_rfl) ?_ _
      refine NoPanic.normal ?_
      clear b12 HOT11 hD11 X11 X11d B11 B11d S11 S12 bD hsl hbF
      go_wp2_with fail
      have X12d : Below X.heap.size X W12.drew := X12.drew
      have B12d : Below w.heap.size w W12.drew := B12.drew
      have S12 : Dg W12.drew g15 OLD ∧ Dg W12.drew g17 NOW := ⟨O8.out.next X12d, N8.out.next X12d⟩
      refine wp_region_noPanic ?_
      refine wp_region_held (S := fun W => Dg W g15 OLD ∧ Dg W g17 NOW) follows ?_
      refine wpAnyH_take (i := 0) (v := .int .i64 M) rfl (by kernel_rfl) (by kernel_rfl) (by kernel_rfl) (fun _ _ _ h => h) (.inl ⟨rfl, fun W _ => by go_simp⟩) S12 ?_
      simp only [Act.put, List.getElem_toArray, List.getElem_cons_zero, List.getElem_cons_succ, List.setIfInBounds_toArray, List.set_cons_zero, List.set_cons_succ]
      refine wpAnyH_take (i := 1) (v := .int .i64 N) rfl (by kernel_rfl) (by kernel_rfl) (by kernel_rfl) (fun _ _ _ h => h) (.inl ⟨rfl, fun W _ => by go_simp⟩) S12 ?_
      simp only [Act.put, List.getElem_toArray, List.getElem_cons_zero, List.getElem_cons_succ, List.setIfInBounds_toArray, List.set_cons_zero, List.set_cons_succ]
      refine wpAnyH_take (i := 2) (v := .slice (some ⟨gt, 0, none⟩) L.length capt) rfl (by kernel_rfl) (by kernel_rfl) (by kernel_rfl) (fun _ _ _ h => h) (.inl ⟨rfl, fun W _ => by go_simp⟩) S12 ?_
      simp only [Act.put, List.getElem_toArray, List.getElem_cons_zero, List.getElem_cons_succ, List.setIfInBounds_toArray, List.set_cons_zero, List.set_cons_succ]
      refine wpAnyH_take (i := 3) (v := .agg (A8 OLD)) rfl (by kernel_rfl) (by kernel_rfl) (by kernel_rfl) (fun _ _ _ h => h) (yields_D rfl (.tmp 15) rfl g15 rfl OLD hOl1 (fun W hW => hW.1)) S12 ?_
      simp only [Act.put, List.getElem_toArray, List.getElem_cons_zero, List.getElem_cons_succ, List.setIfInBounds_toArray, List.set_cons_zero, List.set_cons_succ]
      refine wpAnyH_take (i := 6) (v := .agg (A8 OLD)) rfl (by kernel_rfl) (by kernel_rfl) (by kernel_rfl) (fun _ _ _ h => h) (yields_D rfl (.tmp 15) rfl g15 rfl OLD hOl1 (fun W hW => hW.1)) S12 ?_
      simp only [Act.put, List.getElem_toArray, List.getElem_cons_zero, List.getElem_cons_succ, List.setIfInBounds_toArray, List.set_cons_zero, List.set_cons_succ]
      refine wpAnyH_take (i := 7) (v := .agg (A8 NOW)) rfl (by kernel_rfl) (by kernel_rfl) (by kernel_rfl) (fun _ _ _ h => h) (yields_D rfl (.tmp 17) rfl g17 rfl NOW hNl1 (fun W hW => hW.2)) S12 ?_
      simp only [Act.put, List.getElem_toArray, List.getElem_cons_zero, List.getElem_cons_succ, List.setIfInBounds_toArray, List.set_cons_zero, List.set_cons_succ]
      refine relist #[true, true, true, true, false, false, true, true, false, false] (by kernel_rfl) ?_
      refine any_one (i := 4) (by kernel_rfl) ?_
      refine wpOp_bs1 rfl rfl (.tmp 162) rfl OLD rfl hOl1 ?_
      have X13 : Below X.heap.size X (W12.drew.alloc (.cells (A8 OLD) 25)) := X12d.alloc X12d.size _
      have B13 : Below w.heap.size w (W12.drew.alloc (.cells (A8 OLD) 25)) := B12d.alloc B12d.size _
      have bE : Below W12.heap.size W12 (W12.drew.alloc (.cells (A8 OLD) 25)) := ((Below.refl _ _).drew).alloc (Nat.le_refl _) _
      have hown13 : (W12.drew.alloc (.cells (A8 OLD) 25)).ownsRow X.heap.size 25 32 (.slice (some ⟨gt, 0, none⟩) L.length capt) L.length (F8 L2) := by
        have h := HOT12.out.below bE
        unfold Own at h
        rw [HLen2] at h; exact h
      have h13 := heapN W12.drew (.cells (A8 OLD) 25) W12.heap.size rfl
      obtain ⟨g', cap', W14, hr14, ho14, hot14, hgr14⟩ := app25_both _ X.heap.size gt L.length capt L2 hown13 hLs X13.size ⟨W12.heap.size, 0, none⟩ OLD hOl1 (fun j hj => by rw [addr_add, Nat.zero_add, cell_of_row _ _ _ _ _ _ h13, A8_get _ _ (by omega)]) 31
      refine ⟨⟨O8.out.next X13, N8.out.next X13⟩, ?_⟩
      simp only [Act.put, List.getElem_toArray, List.getElem_cons_zero, List.getElem_cons_succ, List.setIfInBounds_toArray, List.set_cons_zero, List.set_cons_succ]
      refine relist #[true, true, true, true, true, false, true, true, false, false] (by kernel_rfl) ?_
      refine any_one (i := 5) (by kernel_rfl) ?_
      refine wpOp_app rfl rfl (.tmp 161) (.tmp 163) 31 31 rfl (.slice (some ⟨gt, 0, none⟩) L.length capt) (.slice (some ⟨W12.heap.size, 0, none⟩) 1 1) rfl rfl hr14 ?_
      have X14 : Below X.heap.size X W14 := X13.grown hgr14 X13.size (fun k hk => by cases hk; exact hgt)
      have B14 : Below w.heap.size w W14 := B13.grown hgr14 B13.size (fun k hk => by cases hk; omega)
      have S14 : Dg W14 g15 OLD ∧ Dg W14 g17 NOW := ⟨O8.out.next X14, N8.out.next X14⟩
      have HA3 : ∀ d ∈ L2 ++ [OLD], d.length = 32 ∧ Bytes d := fun d hd => by
        rcases List.mem_append.1 hd with h | h
        · exact HA2.out d h
        · simp only [List.mem_singleton] at h; rw [h]; exact hOl
      have hl3 : (L2 ++ [OLD]).length = L.length + 1 := by rw [List.length_append, HLen2]; rfl
      obtain ⟨p3, c3, hv3, hD14⟩ := Own.view (w := W14) (B := X.heap.size) (v := .slice (some ⟨g', 0, none⟩) (L.length + 1) cap') (ds := L2 ++ [OLD]) (by unfold Own; rw [hl3]; exact ho14) HA3
      rw [hl3] at hv3 hD14
      cases hv3
      obtain ⟨p4, c4, hv4, hT14⟩ := Own.view (w := W14) (B := X.heap.size) (v := .slice (some ⟨gt, 0, none⟩) L.length capt) (ds := L2) (by unfold Own; rw [HLen2]; exact hot14) HA2.out
      rw [HLen2] at hv4 hT14
      cases hv4
      refine ⟨S14, ?_⟩
      simp only [Act.put, List.getElem_toArray, List.getElem_cons_zero, List.getElem_cons_succ, List.setIfInBounds_toArray, List.set_cons_zero, List.set_cons_succ]
      refine relist #[true, true, true, true, true, true, true, true, false, false] (by kernel_rfl) ?_
      refine any_one (i := 8) (by kernel_rfl) ?_
      refine wpOp_call (f := 29) (args := #[.int .i64 M, .int .i64 N, .slice (some ⟨g', 0, none⟩) (L.length + 1) cap', .agg (A8 OLD), .agg (A8 NOW)]) rfl rfl (by go_simp) ?_
      refine (extends_any M N (L.length + 1) _ cap' (L2 ++ [OLD]) OLD NOW hOl hNl W14 (HTb.out.below B14) hD14 (by omega)).mono ?_
      have hcF : Hid (extP Z32 M N (L2 ++ [OLD]) OLD NOW = false) := by
        show _ = false
        cases hh : extP Z32 M N (L2 ++ [OLD]) OLD NOW with
        | false => rfl
        | true =>
          have := ext_len Z32 M N E hMN hNE (by omega) _ _ _ hh
          rw [hLk, hl3] at this
          omega
      rw [hcF.out]
      rintro e Y ⟨rfl, b15⟩
      have X15 : Below X.heap.size X Y := X14.trans (b15.mono X14.size)
      have BY : Below w.heap.size w Y := B14.trans (b15.mono B14.size)
      have S15 : Dg Y g15 OLD ∧ Dg Y g17 NOW := ⟨O8.out.next X15, N8.out.next X15⟩
      have HT15 : Hid (D32 Y (some ⟨gt, 0, none⟩) L.length capt L2) := hT14.below b15
      refine ⟨_, rfl, S15, ?_⟩
      simp only [Act.put, List.getElem_toArray, List.getElem_cons_zero, List.getElem_cons_succ, List.setIfInBounds_toArray, List.set_cons_zero, List.set_cons_succ]
      refine wpAnyH_take (i := 9) (v := .bool false) rfl (by kernel_rfl) (by kernel_rfl) (by kernel_rfl) (fun _ _ _ h => h) (.inl ⟨rfl, fun W _ => by go_simp⟩) S15 ?_
      simp only [Act.put, List.getElem_toArray, List.getElem_cons_zero, List.getElem_cons_succ, List.setIfInBounds_toArray, List.set_cons_zero, List.set_cons_succ]
      refine wpAnyH_done (by kernel_rfl) ?_ _
      refine NoPanic.normal ?_
      have OY : Hid (Dg Y g15 OLD) := S15.1
      have NY : Hid (Dg Y g17 NOW) := S15.2
      have HOY : Hid (Own Y V.heap.size (.slice (some ad) L.length cl) L) := HO8.out.below X15
      have HRY : Hid (LogR Y g K (E ++ [LATER])) := HR8.out.below X15
      clear b15 hT14 hD14 ho14 hot14 hgr14 hr14 h13 hown13 bE X12 X12d X13 X14 X15 B12 B12d B13 B14 S12 S14 S15 HO8 O8 N8 HR8 HOT12 hcF
      cases r with
      | true =>
        go_wp2_with fail
        refine (clashes_any Y (HTb.out.below BY) g K (E ++ [LATER]) HRY.out M N hMN (by rw [List.length_append]; omega) (some ⟨gt, 0, none⟩) L.length capt L2 HT15.out (by rw [List.take_append_of_le_length hNE, hLk, HLen2]) (by rw [List.take_append_of_le_length hNE, hLk]; exact HL2.out)).mono ?_
        rintro e Z1 ⟨rfl, bz⟩
        have BZ1 : Below w.heap.size w Z1 := BY.trans (bz.mono BY.size)
        go_wp2_with fail
        go_ret
        exact ⟨rfl, BZ1⟩
      | false =>
        clear HT15 HRY HL2 HA2 HA3
        have hbits := and_small M (by omega)
        have hc15 : Y.cell? ⟨g15, ii, none⟩ = some (.int .u8 (x0)) := by rw [cell_of_row _ _ _ _ _ _ OY.out.here, A8_get _ _ (by omega), HX.out]
        have hf15 := frozen_of_row Y g15 ii _ _ OY.out.here
        have OZ : Hid (Dg (Y.setCell ⟨g15, ii, none⟩ (.int .u8 (bits .xor .u8 (x0) by_))) g15 (OLD.set ii (bits .xor .u8 (x0) by_))) := by
          have hG := heap_setCell_same Y g15 ii _ _ (.int .u8 (bits .xor .u8 (x0) by_)) OY.out.here
          rw [A8_set] at hG
          exact ⟨by rw [List.length_set]; exact hOl1, hG⟩
        have NZ : Hid (Dg (Y.setCell ⟨g15, ii, none⟩ (.int .u8 (bits .xor .u8 (x0) by_))) g17 NOW) := ⟨hNl1, (Below.heap_setCell _ _ _ _ (by show g17 ≠ g15; omega)).trans NY.out.here⟩
        have DZ : Hid (D32 (Y.setCell ⟨g15, ii, none⟩ (.int .u8 (bits .xor .u8 (x0) by_))) (some ad) L.length cl L) := by
          have h1 := HOY.out
          obtain ⟨p1, c1, hv1, hd1⟩ := Own.view (B := V.heap.size) (w := Y.setCell ⟨g15, ii, none⟩ (.int .u8 (bits .xor .u8 (x0) by_))) (v := .slice (some ad) L.length cl) (ds := L) (ownsRow_setCell_below h1 (by show g15 < V.heap.size; omega) _) hall
          cases hv1
          exact hd1
        have BZ : Hid (Below w.heap.size w (Y.setCell ⟨g15, ii, none⟩ (.int .u8 (bits .xor .u8 (x0) by_)))) := BY.setCell (by show w.heap.size ≤ g15; omega) _
        clear HOY NY OY
        by_cases c1 : 0 < M
        · by_cases c2 : M < N
          · by_cases c3 : M &&& (M - 1) = 0
            · rw [c3] at hbits
              go_wp2_with fail
              go_ret
              exact ⟨rfl, BY⟩
            · have c4 : ¬ (((M &&& (M - 1) : Nat) : Int) = 0) := by omega
              go_wp2_with fail
              refine (pick_any _ at_ 32 ha1 ha2 (by omega) (by omega)).mono ?_
              rintro e Y1 ⟨rfl, hY1⟩
              subst hY1
              rw [hI]
              go_wp2_with fail
              refine (pick_any _ at_ 32 ha1 ha2 (by omega) (by omega)).mono ?_
              rintro e Y2 ⟨rfl, hY2⟩
              subst hY2
              rw [hI]
              go_wp2_with (first
                | (with_reducible refine atLoad 25 ?_
                   first
                     | refine load_D rfl _ rfl g15 rfl _ OZ.out ?_
                     | refine load_D rfl _ rfl g17 rfl NOW NZ.out ?_))
              refine (extends_any M N L.length (some ad) cl L _ NOW hOZ hNl _ (HTb.out.below BZ.out) DZ.out (by omega)).mono ?_
              have hfalse : Hid (extP Z32 M N L (OLD.set ii (bits .xor .u8 (x0) by_)) NOW = false) := by
                show extP _ _ _ _ _ _ = false
                rw [← hLk, ← hNOW]
                exact ext_old Z32 M N E hMN hNE (by omega) _ (by rw [hOLD]; exact hdiff.out) (fun h1 h2 => c3)
              rw [hfalse.out]
              rintro e Z1 ⟨rfl, bz⟩
              have BZ1 : Below w.heap.size w Z1 := BZ.out.trans (bz.mono BZ.out.size)
              clear bz BZ OZ NZ DZ
              go_wp2_with fail
              go_ret
              exact ⟨rfl, BZ1⟩
          · clear hbits
            go_wp2_with fail
            refine (pick_any _ at_ 32 ha1 ha2 (by omega) (by omega)).mono ?_
            rintro e Y1 ⟨rfl, hY1⟩
            subst hY1
            rw [hI]
            go_wp2_with fail
            refine (pick_any _ at_ 32 ha1 ha2 (by omega) (by omega)).mono ?_
            rintro e Y2 ⟨rfl, hY2⟩
            subst hY2
            rw [hI]
            go_wp2_with (first
              | (with_reducible refine atLoad 25 ?_
                 first
                   | refine load_D rfl _ rfl g15 rfl _ OZ.out ?_
                   | refine load_D rfl _ rfl g17 rfl NOW NZ.out ?_))
            refine (extends_any M N L.length (some ad) cl L _ NOW hOZ hNl _ (HTb.out.below BZ.out) DZ.out (by omega)).mono ?_
            have hfalse : Hid (extP Z32 M N L (OLD.set ii (bits .xor .u8 (x0) by_)) NOW = false) := by
              show extP _ _ _ _ _ _ = false
              rw [← hLk, ← hNOW]
              exact ext_old Z32 M N E hMN hNE (by omega) _ (by rw [hOLD]; exact hdiff.out) (fun h1 h2 => absurd h2 c2)
            rw [hfalse.out]
            rintro e Z1 ⟨rfl, bz⟩
            have BZ1 : Below w.heap.size w Z1 := BZ.out.trans (bz.mono BZ.out.size)
            clear bz BZ OZ NZ DZ
            go_wp2_with fail
            go_ret
            exact ⟨rfl, BZ1⟩
        · clear hbits
          go_wp2_with fail
          refine (pick_any _ at_ 32 ha1 ha2 (by omega) (by omega)).mono ?_
          rintro e Y1 ⟨rfl, hY1⟩
          subst hY1
          rw [hI]
          go_wp2_with fail
          refine (pick_any _ at_ 32 ha1 ha2 (by omega) (by omega)).mono ?_
          rintro e Y2 ⟨rfl, hY2⟩
          subst hY2
          rw [hI]
          go_wp2_with (first
            | (with_reducible refine atLoad 25 ?_
               first
                 | refine load_D rfl _ rfl g15 rfl _ OZ.out ?_
                 | refine load_D rfl _ rfl g17 rfl NOW NZ.out ?_))
          refine (extends_any M N L.length (some ad) cl L _ NOW hOZ hNl _ (HTb.out.below BZ.out) DZ.out (by omega)).mono ?_
          have hfalse : Hid (extP Z32 M N L (OLD.set ii (bits .xor .u8 (x0) by_)) NOW = false) := by
            show extP _ _ _ _ _ _ = false
            rw [← hLk, ← hNOW]
            exact ext_old Z32 M N E hMN hNE (by omega) _ (by rw [hOLD]; exact hdiff.out) (fun h1 h2 => absurd h1 c1)
          rw [hfalse.out]
          rintro e Z1 ⟨rfl, bz⟩
          have BZ1 : Below w.heap.size w Z1 := BZ.out.trans (bz.mono BZ.out.size)
          clear bz BZ OZ NZ DZ
          go_wp2_with fail
          go_ret
          exact ⟨rfl, BZ1⟩
end Go.Proofs.YtcmjlhcpoajbkaaDoor
