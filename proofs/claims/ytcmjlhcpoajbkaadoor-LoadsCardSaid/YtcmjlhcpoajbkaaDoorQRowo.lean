import Derived.Test.YtcmjlhcpoajbkaaDoorQLz
import Derived.Test.YtcmjlhcpoajbkaaDoorQHe
import Derived.Test.YtcmjlhcpoajbkaaDoorQRg
import Derived.Test.YtcmjlhcpoajbkaaDoorQAbc
import Derived.Test.YtcmjlhcpoajbkaaDoorQBw
import Derived.Test.YtcmjlhcpoajbkaaDoorQRl
namespace Go.Proofs.YtcmjlhcpoajbkaaDoor
set_option maxRecDepth 10000
set_option linter.unusedSimpArgs false
open Go.RowKit
set_option maxHeartbeats 400000 in
theorem roomyW_some (ad : Addr) (n cap : Nat) (xs : List Int) (w : World) (hl : xs.length = n) (hn : n ≤ 140737488351232)
    (hcell : ∀ j, j < n → w.cell? (ad.add j) = some (.int .u8 (xs.getD j 0))) :
    Calls Tryd.prog 15 #[.slice (some ad) n cap] w fun e w' => ∃ g cap', e = .returned (.slice (some ⟨g, 0, none⟩) n cap') ∧ Roomy w w' g n cap' xs ∧ ∃ cur : Array Value, w'.heap[g]? = some (.cells cur 5) ∧ cur.size = cap' := by
  have HC : Hid (∀ j, j < n → w.cell? (ad.add j) = some (.int .u8 (xs.getD j 0))) := hcell
  have HL : Hid (xs.length = n) := hl
  have hq := eql_nil (some ad) n cap w
  clear hcell hl
  by_cases h0 : 0 < n
  · go_enter Tryd.func15, Tryd.ntmps15
    go_wp2_with (first
      | (at_builtin
         refine wpList_app8 rfl (.const (.slice none 0 0)) (.tmp 5) rfl w.heap.size (.slice none 0 0) [] 0 rfl ⟨rfl, .inl ⟨rfl, rfl⟩⟩ ad n cap xs rfl HL.out HC.out h0 (by omega) (Nat.le_refl _) ?_
         intro v1 w1 ho1 hs1 hb1
         refine hideGoal ?_))
    clear hq
    have hbw := hb1 w (Below.refl _ _)
    have HO1 : Hid (w1.ownsRow w.heap.size 5 1 v1 n (xs.map (Value.int .u8))) := by rw [Nat.zero_add] at ho1; exact ho1
    clear ho1 hb1
    refine openGoal ?_
    go_wp2_with (first
      | (at_builtin
         refine wpList_app8 rfl (.tmp 6) (.tmp 7) rfl w.heap.size v1 xs n rfl (owns_alloc8 HO1.out _) ⟨w1.heap.size, 0, none⟩ 1 1 [126] rfl rfl ?_ (by omega) (by omega) (by simp; omega) ?_
         · intro j hj
           have e : j = 0 := by omega
           subst e
           show (w1.alloc _).cell? ⟨w1.heap.size, 0, none⟩ = _
           rw [cell_of_row _ _ _ _ _ _ (heapN w1 _ _ rfl)]; rfl
         intro v2 w2 ho2 hs2 hb2
         refine hideGoal ?_))
    obtain ⟨g, cap', rfl, hg, hgs, hfit, hmost, _, hcells⟩ := owns8 ho2 (by omega)
    have hrow : ∃ cur : Array Value, w2.heap[g]? = some (.cells cur 5) ∧ cur.size = cap' := by
      obtain ⟨_, ⟨hz, _⟩ | ⟨g', c', cur, hv, _, hh, _, _, hs, _⟩⟩ := ho2
      · cases hz
      · cases hv; exact ⟨cur, hh, by simpa using hs⟩
    have HROW : Hid _ := hrow
    clear hrow
    unfold maxLen at hmost
    have hR : Roomy w w2 g n cap' xs := by
      have hl := HL.out
      refine ⟨hg, hfit, by omega, hgs, fun j hj => ?_, ?_, hb2 w (hbw.alloc hs1 _)⟩
      · rw [hcells j (by omega)]
        rw [List.getD_eq_getElem?_getD, List.getElem?_append_left (by omega), ← List.getD_eq_getElem?_getD]
      · rw [hcells n (by omega)]
        rw [List.getD_eq_getElem?_getD, List.getElem?_append_right (by omega), hl, Nat.sub_self]; rfl
    clear ho2 hb2 hcells HO1 hbw HC HL
    refine openGoal ?_
    go_wp2_with fail
    go_ret
    exact ⟨g, cap', rfl, hR, HROW.out⟩
  · have hn0 : n = 0 := by omega
    subst hn0
    go_enter Tryd.func15, Tryd.ntmps15
    go_wp2_with (first
      | (at_builtin
         refine wpList_app8 rfl (.tmp 6) (.tmp 7) rfl w.heap.size (.slice none 0 0) [] 0 rfl ⟨rfl, .inl ⟨rfl, rfl⟩⟩ ⟨w.heap.size, 0, none⟩ 1 1 [126] rfl rfl ?_ (by omega) (by omega) (by simp) ?_
         · intro j hj
           have e : j = 0 := by omega
           subst e
           show (w.alloc _).cell? ⟨w.heap.size, 0, none⟩ = _
           rw [cell_of_row _ _ _ _ _ _ (heapN w _ _ rfl)]; rfl
         intro v2 w2 ho2 hs2 hb2
         refine hideGoal ?_))
    obtain ⟨g, cap', rfl, hg, hgs, hfit, hmost, _, hcells⟩ := owns8 ho2 (by omega)
    have hrow : ∃ cur : Array Value, w2.heap[g]? = some (.cells cur 5) ∧ cur.size = cap' := by
      obtain ⟨_, ⟨hz, _⟩ | ⟨g', c', cur, hv, _, hh, _, _, hs, _⟩⟩ := ho2
      · cases hz
      · cases hv; exact ⟨cur, hh, by simpa using hs⟩
    have HROW : Hid _ := hrow
    clear hrow
    unfold maxLen at hmost
    have hR : Roomy w w2 g 0 cap' xs := by
      refine ⟨hg, hfit, by omega, hgs, fun j hj => by omega, ?_, hb2 w ((Below.refl _ _).alloc (Nat.le_refl _) _)⟩
      rw [hcells 0 (by omega)]; rfl
    clear ho2 hb2 hcells HC HL hq
    refine openGoal ?_
    go_wp2_with fail
    go_ret
    exact ⟨g, cap', rfl, hR, HROW.out⟩
/-- The memory that roomy makes: its owner may write into it. -/
def Rowy (w : World) (B : Nat) (p : Option Addr) (n : Nat) : Prop :=
  (p = none ∧ n = 0) ∨ ∃ (g : Nat) (cur : Array Value), p = some ⟨g, 0, none⟩ ∧ B ≤ g ∧ w.heap[g]? = some (.cells cur 5) ∧ n ≤ cur.size
theorem roomyW_any {w : World} {v : Value} {xs : List Int} (h : Arg w v xs) :
    Calls Tryd.prog 15 #[v] w fun e w' => ∃ p n cap, e = .returned (.slice p n cap) ∧ Below w.heap.size w w' ∧ Pair w' v p n cap xs ∧ In8 w' p n cap xs ∧ Rowy w' w.heap.size p n := by
  rcases h with ⟨rfl, rfl⟩ | ⟨ad, n, cap, rfl, h2, h3, h4, h5⟩
  · refine (roomy_nil w).mono fun e w' ⟨he, hw⟩ => ?_
    subst hw
    exact ⟨none, 0, 0, he, Below.refl _ _, .inl ⟨rfl, rfl, rfl, rfl⟩, ⟨rfl, fun j => by simp, Nat.le_refl _, by omega, by omega, fun h0 => by simp at h0⟩, .inl ⟨rfl, rfl⟩⟩
  · refine (roomyW_some ad n cap xs w h2 h3 h5).mono fun e w' ⟨g, cap', he, hR, cur, hcur, hcs⟩ => ?_
    refine ⟨_, n, cap', he, hR.below, .inr ⟨ad, cap, g, rfl, rfl, h2, h3, hR.fits, hR.here, fun j hj => ?_, hR.cells, hR.mark⟩, ⟨h2, h4, by have := hR.fits; omega, hR.most, by omega, fun _ => ⟨g, 0, rfl, hR.here, fun j hj => ?_⟩⟩, .inr ⟨g, cur, rfl, hR.new, hcur, by have := hR.fits; omega⟩⟩
    · rw [hR.below.cell (block_lt_of_cell (h5 j hj))]; exact h5 j hj
    · rw [Nat.zero_add]; exact hR.cells j (by omega)
theorem Rowy.below {w w' : World} {B : Nat} {p : Option Addr} {n : Nat} (h : Rowy w B p n) (hb : Below w.heap.size w w') : Rowy w' B p n := by
  rcases h with h | ⟨g, cur, h1, h2, h3, h4⟩
  · exact .inl h
  · exact .inr ⟨g, cur, h1, h2, (hb.block g (row_lt h3)).trans h3, h4⟩
/-- The blocks of a slice. -/
def Of (p : Option Addr) (k : Nat) : Prop := ∃ ad, p = some ad ∧ ad.block = k
theorem Rowy.of {w : World} {B : Nat} {p : Option Addr} {n : Nat} (h : Rowy w B p n) {k : Nat} (hk : Of p k) : B ≤ k ∧ k < w.heap.size := by
  obtain ⟨ad, h1, h2⟩ := hk
  rcases h with ⟨h, _⟩ | ⟨g, cur, h, hg, hh, _⟩
  · rw [h] at h1; cases h1
  · rw [h] at h1; cases h1; rw [← h2]; exact ⟨hg, row_lt hh⟩
theorem owns_kp {X : Nat → Prop} {w w' : World} {B s n : Nat} {t : TypeId} {v : Value} {xs : List Value} (h : w.ownsRow B t s v n xs) (hk : Kp X w w') (hX : ∀ g, v.ownBlock = some g → ¬ X g) : w'.ownsRow B t s v n xs := by
  obtain ⟨h1, h2 | ⟨g, cap, cur, hv, hg, hh, r⟩⟩ := h
  · exact ⟨h1, .inl h2⟩
  · exact ⟨h1, .inr ⟨g, cap, cur, hv, hg, (hk.block g (row_lt hh) (hX g (by rw [hv]; rfl))).trans hh, r⟩⟩
theorem s59_of {w : World} {B : Nat} {v : Value} {es : List (List Int)} (h : w.ownsRow B 9 1 v es.length (es.map strV)) (hf : Fit es) : ∃ p c, v = .slice p es.length c ∧ S59 w p es.length c es := by
  obtain ⟨p, c, hv, h1, h2⟩ := owns_shape h
  refine ⟨p, c, hv, rfl, h1, h2, fun i => hf.2 i, fun h0 => ?_⟩
  obtain ⟨g, cap, hv', hg, hgl, _, _, hcs⟩ := owns_get h h0
  rw [hv] at hv'
  cases hv'
  refine ⟨g, 0, rfl, hgl, fun i hi => ?_⟩
  rw [Nat.zero_add, hcs i hi, List.getElem?_map, List.getD_eq_getElem?_getD, List.getElem?_eq_getElem hi]
  rfl
section
variable {ops : Array Oper} {o : Oper} {a : Act} {S : World → Prop}
theorem yields_eqlH (hw : Region.wanted o (yielded ops a.tmps) = true) (x y : Operand) (ho : o.op = .binOp .eql 42 x y 42) (X Y : Array Value) (b : Bool) (hq : ∀ W : World, (Op.equalIn 10000 42 (.agg X) (.agg Y)).run Tryd.prog W = .ok b W)
    (hx : a.eval x = .agg X) (hy : a.eval y = .agg Y) : YieldsIf Tryd.prog ops S o (.bool b) a :=
  .inl ⟨hw, fun w _ => by
    have e : (binOp .eql 42 (.agg X) (.agg Y)).run Tryd.prog w = .ok (.bool b) w := by rw [run_eql_struct, hq]; rfl
    have g := run_eqGuard_agg (P := Tryd.prog) w .eql 42 x y X Y (by kernel_rfl)
    unfold execOp
    simp only [ho, hx, hy, Sem.run_bind, g, e, Result.andThen_ok, Sem.run_pure]⟩
end
theorem eq_head (K : List Int) (E : List (List Int)) (W : World) : (Op.equalIn 10000 42 (.agg (headP K E)) (.agg (headP K E))).run Tryd.prog W = .ok true W := by
  unfold headP
  rw [eqIn_H _ _ _ _ _ _ (rootP_ok E).1 (signP_len _ _ _) (rootP_ok E).1 (signP_len _ _ _) (rootP_ok E).2 (signP_bytes _ _ _) (rootP_ok E).2 (signP_bytes _ _ _) W]
  rw [decide_eq_true ⟨rfl, rfl, rfl⟩]
/-- What Load tells, of any key. -/
def loadQ (key : List Int) (f : List UInt8) : List (List Int) × Int × Nat := if 100 < key.length then ([], 2, 0) else loadP key f
theorem errN_four (f : List UInt8) (a : Nat) : errN f a = 0 ∨ errN f a = 2 ∨ errN f a = 3 := by
  unfold errN
  split
  · exact .inr (.inr rfl)
  · split
    · exact .inr (.inl rfl)
    · split
      · exact .inr (.inr rfl)
      · exact .inl rfl
theorem loadF_err (key : List Int) (f : List UInt8) : ∀ (k p : Nat) (es : List (List Int)) (s : List Int), (loadF key f k p es s).2.1 = 0 ∨ (loadF key f k p es s).2.1 = 2 ∨ (loadF key f k p es s).2.1 = 3 ∨ (loadF key f k p es s).2.1 = 4 := by
  intro k
  induction k with
  | zero => intro p es s; exact .inl rfl
  | succ k ih =>
    intro p es s
    simp only [loadF]
    split
    · exact .inl rfl
    · split
      · rcases errN_four (f.drop p) es.length with h | h | h
        · exact .inl h
        · exact .inr (.inl h)
        · exact .inr (.inr (.inl h))
      · split
        · exact .inr (.inr (.inr rfl))
        · exact ih _ _ _
theorem loadQ_err (key : List Int) (f : List UInt8) : (loadQ key f).2.1 = 0 ∨ (loadQ key f).2.1 = 2 ∨ (loadQ key f).2.1 = 3 ∨ (loadQ key f).2.1 = 4 := by
  unfold loadQ
  split
  · exact .inr (.inl rfl)
  · exact loadF_err _ _ _ _ _ _
theorem loadQ_short (key : List Int) (f : List UInt8) (h : (loadQ key f).2.1 = 0 ∨ (loadQ key f).2.1 = 3) : key.length ≤ 100 := by
  unfold loadQ at h
  split at h
  · rcases h with h | h <;> cases h
  · omega
theorem loadQ_fit (key : List Int) (f : List UInt8) : Fit (loadQ key f).1 := by
  unfold loadQ
  split
  · exact Fit.nil
  · exact loadP_fit _ _
set_option maxHeartbeats 1000000 in
theorem new_long (w : World) (p : Option Addr) (n c : Nat) (hn : 100 < n) (hs : n ≤ 9223372036854775807) :
    Calls Tryd.prog 31 #[.slice p n c] w fun e w' => e = .returned (.tuple #[.pointer none, .int .i64 2]) ∧ w' = w := by
  have hn' : (100 : Int) < n := by omega
  go_enter Tryd.func31, Tryd.ntmps31
  go_wp2_with fail
  go_ret2
  exact ⟨rfl, rfl⟩
set_option maxHeartbeats 1000000 in
theorem loadQ_any (w : World) (hT : Tabs KS HS w) (kp : Option Addr) (kn kc : Nat) (key : List Int) (hk : In8 w kp kn kc key) (f : List UInt8) (hf : f.length ≤ 140737488355328) :
    Calls Tryd.prog 37 #[.slice kp kn kc, .string ⟨f.toArray⟩] w (LoadOut w key (loadQ key f)) := by
  have hl := hk.len
  have hs := hk.small
  by_cases h : 100 < kn
  · have e : loadQ key f = ([], 2, 0) := by unfold loadQ; rw [if_pos (by omega)]
    rw [e]
    clear hk e
    go_enter Tryd.func37, Tryd.ntmps37
    go_wp2_with fail
    refine (new_long w kp kn kc h (by omega)).mono ?_
    rintro e w1 ⟨rfl, rfl⟩
    go_wp2_with fail
    go_ret3
    exact loadOut_nil (by decide) (Below.refl _ _)
  · have e : loadQ key f = loadP key f := by unfold loadQ; rw [if_neg (by omega)]
    rw [e]
    exact load_any w hT kp kn kc key hk (by omega) f hf
set_option maxHeartbeats 1000000 in
theorem refLoadQ_any (w : World) (l : List UInt8) (key : List Int) (hk : toI l = key) (hlk : l.length ≤ 140737488355328) (f : List UInt8) (hf : f.length ≤ 140737488355328) :
    Calls Tryd.prog 38 #[.string ⟨l.toArray⟩, .string ⟨f.toArray⟩] w (RefOut w (loadQ key f)) := by
  have hl : key.length = l.length := by rw [← hk, toI_len]
  by_cases h : 100 < l.length
  · have e : loadQ key f = ([], 2, 0) := by unfold loadQ; rw [if_pos (by omega)]
    have hszk : (ByteArray.mk l.toArray).size = l.length := by show l.toArray.size = _; simp
    have h' : (100 : Int) < l.length := by omega
    rw [e]
    clear e hk
    go_enter Tryd.func38, Tryd.ntmps38
    go_wp2_with fail
    go_ret3
    exact refOut_nil (by decide) (Below.refl _ _)
  · have e : loadQ key f = loadP key f := by unfold loadQ; rw [if_neg (by omega)]
    rw [e]
    exact refLoad_any w l key hk (by omega) f hf
end Go.Proofs.YtcmjlhcpoajbkaaDoor
namespace Go.Proofs.YtcmjlhcpoajbkaaDoor
set_option maxRecDepth 10000
set_option linter.unusedSimpArgs false
open Go.RowKit
theorem ix22 (g n c k : Nat) (hk : k < n) (W : World) : (Instr.indexAt 22 (.slice (some ⟨g, 0, none⟩) n c) (.int .i64 k)).run Tryd.prog W = .ok (.pointer (some ⟨g, k, none⟩)) W := by
  have h1 : (k : Int) < n := by omega
  go_simp
set_option maxHeartbeats 20000000 in
theorem loads_any (v0 : Value) (xs : List Int) (f : List UInt8) (w : World) (hT : Tabs KS HS w) (h0 : Arg w v0 xs) (hf : f.length ≤ 140737488355328) :
    Calls Tryd.prog 8 #[v0, .string ⟨f.toArray⟩] w fun e w' => e = .returned (.bool true) ∧ Below w.heap.size w w' := by
  have hsm := h0.small
  have hxb := h0.bytes
  have H0 : Hid (Arg w v0 xs) := h0
  have HTb : Hid (Tabs KS HS w) := hT
  clear h0 hT
  go_enter Tryd.func8, Tryd.ntmps8
  go_wp2_with fail
  refine (alive_any _ HTb.out).mono ?_
  rintro e w1 ⟨rfl, b1⟩
  have B1 : Below w.heap.size w w1 := b1
  clear b1
  go_wp2_with fail
  refine (roomyW_any (H0.out.below B1)).mono ?_
  rintro e w2 ⟨p, n, cap, rfl, b2, hP, hI, hR⟩
  have B2 := B1.trans (b2.mono B1.size)
  have HP : Hid (Pair w2 v0 p n cap xs) := hP
  have HI : Hid (In8 w2 p n cap xs) := hI
  have HR : Hid (Rowy w2 w1.heap.size p n) := hR
  have hIl := hI.len
  have hIf := hI.fits
  have hIr := hI.room
  have hs1 := B1.size
  have hpl : Hid (∀ k, Of p k → w1.heap.size ≤ k ∧ k < w2.heap.size) := fun k hk => hR.of hk
  clear hP hI hR b2 B1
  obtain ⟨LP, hLP⟩ : ∃ LP, loadQ xs f = LP := ⟨_, rfl⟩
  have HLP : Hid (loadQ xs f = LP) := hLP
  have HE4 : Hid (LP.2.1 = 0 ∨ LP.2.1 = 2 ∨ LP.2.1 = 3 ∨ LP.2.1 = 4) := by rw [← hLP]; exact loadQ_err _ _
  have HFt : Hid (Fit LP.1) := by rw [← hLP]; exact loadQ_fit _ _
  have HSh : Hid ((LP.2.1 = 0 ∨ LP.2.1 = 3) → xs.length ≤ 100) := by rw [← hLP]; exact loadQ_short _ _
  clear hLP
  obtain ⟨E, m, pl⟩ := LP
  have HE4' : Hid (m = 0 ∨ m = 2 ∨ m = 3 ∨ m = 4) := HE4.out
  have HF : Hid (Fit E) := HFt.out
  have HS' : Hid ((m = 0 ∨ m = 3) → xs.length ≤ 100) := HSh.out
  clear HE4 HFt HSh
  go_wp2_with fail
  have hLd := loadQ_any w2 (HTb.out.below B2) p n cap xs HI.out f hf
  rw [HLP.out] at hLd
  refine hLd.mono ?_
  rintro e w3 ⟨lv, rfl, b3, hl1, hl2⟩
  have B3 := B2.trans (b3.mono B2.size)
  have HL1 : Hid ((m = 0 ∨ m = 3) → ∃ g ev, lv = .pointer (some ⟨g, 0, none⟩) ∧ LogAt w3 w2.heap.size g ev xs E) := hl1
  have HL2 : Hid (¬ (m = 0 ∨ m = 3) → lv = .pointer none) := hl2
  have HP3 : Hid (Pair w3 v0 p n cap xs) := HP.out.below b3
  have HR3 : Hid (Rowy w3 w1.heap.size p n) := HR.out.below b3
  have c3 := (H0.out.below B3).conv
  have hs2 : w2.heap.size ≤ w3.heap.size := b3.size
  clear hl1 hl2 hLd HI HP HR b3 B2
  go_wp2_with fail
  have hRd := refLoadQ_any w3 (toU xs) xs (toI_toU xs hxb) (by rw [toU_len]; omega) f hf
  rw [HLP.out] at hRd
  refine hRd.mono ?_
  rintro e w4 ⟨mv, rfl, b4, hm1⟩
  have B4 := B3.trans (b4.mono B3.size)
  have HM1 : Hid ((m = 0 ∨ m = 3) → w4.ownsRow w3.heap.size 9 1 mv E.length (E.map strV)) := hm1
  have HL4 : Hid ((m = 0 ∨ m = 3) → ∃ g ev, lv = .pointer (some ⟨g, 0, none⟩) ∧ LogAt w4 w2.heap.size g ev xs E) := fun h => by
    obtain ⟨g, ev, h1, h2⟩ := HL1.out h
    exact ⟨g, ev, h1, h2.below b4⟩
  have HP4 : Hid (Pair w4 v0 p n cap xs) := HP3.out.below b4
  have HR4 : Hid (Rowy w4 w1.heap.size p n) := HR3.out.below b4
  have hs3 : w3.heap.size ≤ w4.heap.size := b4.size
  clear hm1 hRd HL1 HP3 HR3 b4 B3 c3 HLP
  go_wp2_with fail
  refine (kept_any HP4.out).mono ?_
  rintro e w5 ⟨rfl, hw5⟩
  rw [hw5]
  clear hw5 w5
  go_wp2_with fail
  go_loopw [14] (fun i wr => ∃ j : Nat, j ≤ n ∧ i = .int .i64 j ∧ Kp (Of p) w4 wr ∧ Rowy wr w1.heap.size p n) (fun i _ => n - (intOf i).toNat)
  case atStart => exact ⟨0, by omega, rfl, ⟨rfl, rfl, rfl, Nat.le_refl _, fun _ _ _ => rfl⟩, HR4.out⟩
  case round =>
    obtain ⟨j, hj, rfl, hkp, hrw⟩ := hrel
    by_cases hjl : j < n
    · have hjl' : (j : Int) < n := by omega
      obtain ⟨g, cur, rfl, hg, hch, hcz⟩ := hrw.resolve_left (fun h => by omega)
      have hcj : wr.cell? ⟨g, j, none⟩ = some (cur[j]'(by omega)) := by rw [cell_of_row _ _ _ _ _ _ hch]; simp
      have hfj := frozen_of_row wr g j _ _ hch
      have hix := ix22 g n cap j hjl
      clear hrw
      go_wp2_with fail
      go_roundw
      case rel =>
        refine ⟨j + 1, by omega, by go_num, ⟨hkp.os, hkp.tape, hkp.output, by simpa using hkp.size, fun k hk hx => ?_⟩, .inr ⟨g, cur.setIfInBounds j (.int .u8 35), rfl, hg, heap_setCell_same wr g j _ _ _ hch, by simpa using hcz⟩⟩
        rw [Below.heap_setCell _ _ _ _ (by intro he; exact hx ⟨_, rfl, he.symm⟩)]
        exact hkp.block k hk hx
      case measure => first | (simp [intOf]; done) | (simp [intOf]; omega)
    · have ej : n = j := by omega
      subst ej
      have hjl' : ¬ (n : Int) < n := by omega
      have BK : Below w.heap.size w wr := hkp.below (fun k hk => by have := (hpl.out k hk).1; omega) B4.size B4
      have HLr : Hid ((m = 0 ∨ m = 3) → ∃ g ev, lv = .pointer (some ⟨g, 0, none⟩) ∧ LogAt wr w2.heap.size g ev xs E) := fun h => by
        obtain ⟨g, ev, h1, h2⟩ := HL4.out h
        exact ⟨g, ev, h1, h2.kp hkp (fun k hk => (hpl.out k hk).2)⟩
      have HMr : Hid ((m = 0 ∨ m = 3) → wr.ownsRow w3.heap.size 9 1 mv E.length (E.map strV)) := fun h =>
        owns_kp (HM1.out h) hkp (fun g hg hx => by
          have h1 := ((HM1.out h).lt g hg).1
          have h2 := (hpl.out g hx).2
          omega)
      clear HL4 HM1 HP4 HR4 hrw hkp B4 hpl
      go_upto_region 10 with fail
      go_cut [15] (fun s15 wc => s15 = .bool (decide (m = 0 ∨ m = 3)) ∧ wc = wr)
      case first =>
        rcases HE4'.out with h | h | h | h
        all_goals subst h
        all_goals (go_wp2_with fail)
        all_goals go_meet
        all_goals exact ⟨rfl, rfl⟩
      case rest =>
        obtain ⟨rfl, hwc⟩ := hcut
        subst hwc
        by_cases hm : m = 0 ∨ m = 3
        · rw [decide_eq_true hm]
          obtain ⟨g, ev, rfl, hLg⟩ := HLr.out hm
          have hO := HMr.out hm
          obtain ⟨mp, mc, rfl, hS⟩ := s59_of hO HF.out
          have hxl := HS'.out hm
          have HLg : Hid (LogAt wc w2.heap.size g ev xs E) := hLg
          have HS : Hid (S59 wc mp E.length mc E) := hS
          have hfit := hS.fits
          have hroom := hS.room
          have hfew := HF.out.1
          clear HLr HMr hLg hO hS HL2 hm HE4' HS'
          go_wp2_with fail
          refine (num_any m wc).mono ?_
          rintro e w6 ⟨rfl, hw6⟩
          rw [hw6]
          clear hw6 w6
          have cK := (H0.out.below BK).conv
          go_upto_region 16 with fail
          have bA : Below wc.heap.size wc (wc.alloc (.cells #[.string ⟨(toU xs).toArray⟩, .slice mp E.length mc] 61)) := (Below.refl _ _).alloc (Nat.le_refl _) _
          have hA := heapN wc (.cells #[.string ⟨(toU xs).toArray⟩, .slice mp E.length mc] 61) _ rfl
          have HLA : Hid (LogAt (wc.alloc (.cells #[.string ⟨(toU xs).toArray⟩, .slice mp E.length mc] 61)) w2.heap.size g ev xs E) := HLg.out.below bA
          have HSA : Hid (S59 (wc.alloc (.cells #[.string ⟨(toU xs).toArray⟩, .slice mp E.length mc] 61)) mp E.length mc E) := HS.out.below bA
          have BA : Below w.heap.size w (wc.alloc (.cells #[.string ⟨(toU xs).toArray⟩, .slice mp E.length mc] 61)) := BK.trans (bA.mono BK.size)
          have hcy : (wc.alloc (.cells #[.string ⟨(toU xs).toArray⟩, .slice mp E.length mc] 61)).cell? ⟨wc.heap.size, 0, none⟩ = some (.string ⟨(toU xs).toArray⟩) := by rw [cell_of_row _ _ _ _ _ _ hA]; rfl
          have hey : (wc.alloc (.cells #[.string ⟨(toU xs).toArray⟩, .slice mp E.length mc] 61)).cell? ⟨wc.heap.size, 1, none⟩ = some (.slice mp E.length mc) := by rw [cell_of_row _ _ _ _ _ _ hA]; rfl
          generalize wc.alloc (.cells #[.string ⟨(toU xs).toArray⟩, .slice mp E.length mc] 61) = V at *
          generalize wc.heap.size = gy at *
          have bD : Below V.heap.size V V.drew := (Below.refl _ _).drew
          have HLD : LogAt V.drew w2.heap.size g ev xs E := HLA.out.below bD
          have BD : Below w.heap.size w V.drew := BA.drew
          have S0 : V.drew.cell? ⟨gy, 0, none⟩ = some (.string ⟨(toU xs).toArray⟩) ∧ V.drew.cell? ⟨gy, 1, none⟩ = some (.slice mp E.length mc) := ⟨hcy, hey⟩
          have hrd : Hid (∀ W : World, Below V.heap.size V W → RefR W gy (toU xs) E) := fun W hW =>
            ⟨by rw [hW.cell (block_lt_of_cell hcy)]; exact hcy, ⟨mp, mc, by rw [hW.cell (block_lt_of_cell hey)]; exact hey, HSA.out.below hW⟩, hfew⟩
          have hss : (toU (saveP xs E) == toU (saveP xs E)) = true := by simp
          clear cK BK HLg HS bA hA
          refine wp_region_noPanic ?_
          refine wp_region_held (S := fun W => W.cell? ⟨gy, 0, none⟩ = some (.string ⟨(toU xs).toArray⟩) ∧ W.cell? ⟨gy, 1, none⟩ = some (.slice mp E.length mc)) follows ?_
          refine wpAnyH_take (i := 0) (v := .pointer (some ⟨g, 0, none⟩)) rfl (by kernel_rfl) (by kernel_rfl) (by kernel_rfl) (fun _ _ _ h => h) (.inl ⟨rfl, fun W _ => by go_simp⟩) S0 ?_
          simp only [Act.put, List.getElem_toArray, List.getElem_cons_zero, List.getElem_cons_succ, List.setIfInBounds_toArray, List.set_cons_zero, List.set_cons_succ]
          refine wpAnyH_take (i := 2) (v := .pointer (some ⟨gy, 0, none⟩)) rfl (by kernel_rfl) (by kernel_rfl) (by kernel_rfl) (fun _ _ _ h => h) (.inl ⟨rfl, fun W _ => by go_simp⟩) S0 ?_
          simp only [Act.put, List.getElem_toArray, List.getElem_cons_zero, List.getElem_cons_succ, List.setIfInBounds_toArray, List.set_cons_zero, List.set_cons_succ]
          refine relist #[true, false, true, false, false, false, false, false, false, false, false, false, false, false, false, false, false] (by kernel_rfl) ?_
          refine any_one (i := 1) (by kernel_rfl) ?_
          refine wpOp_call (f := 35) (args := #[.pointer (some ⟨g, 0, none⟩)]) rfl rfl (by go_simp) ?_
          refine (logHead_any V.drew g xs E (HTb.out.below BD) HLD.read).mono ?_
          rintro e y1 ⟨rfl, c1⟩
          have C1 : Below V.heap.size V y1 := bD.trans c1
          have HL1 : LogAt y1 w2.heap.size g ev xs E := HLA.out.below C1
          have S1 : y1.cell? ⟨gy, 0, none⟩ = some (.string ⟨(toU xs).toArray⟩) ∧ y1.cell? ⟨gy, 1, none⟩ = some (.slice mp E.length mc) := ⟨by rw [C1.cell (block_lt_of_cell hcy)]; exact hcy, by rw [C1.cell (block_lt_of_cell hey)]; exact hey⟩
          refine ⟨_, rfl, S1, ?_⟩
          simp only [Act.put, List.getElem_toArray, List.getElem_cons_zero, List.getElem_cons_succ, List.setIfInBounds_toArray, List.set_cons_zero, List.set_cons_succ]
          refine relist #[true, true, true, false, false, false, false, false, false, false, false, false, false, false, false, false, false] (by kernel_rfl) ?_
          refine any_one (i := 3) (by kernel_rfl) ?_
          refine wpOp_call (f := 36) (args := #[.pointer (some ⟨gy, 0, none⟩)]) rfl rfl (by go_simp) ?_
          refine (refHead_any y1 gy (toU xs) xs (toI_toU xs hxb) (by rw [toU_len]; omega) E (hrd.out _ C1)).mono ?_
          rintro e y2 ⟨rfl, c2⟩
          have C2 : Below V.heap.size V y2 := C1.trans (c2.mono C1.size)
          have HL2 : LogAt y2 w2.heap.size g ev xs E := HLA.out.below C2
          have B2' : Below w.heap.size w y2 := BA.trans (C2.mono BA.size)
          have S2 : y2.cell? ⟨gy, 0, none⟩ = some (.string ⟨(toU xs).toArray⟩) ∧ y2.cell? ⟨gy, 1, none⟩ = some (.slice mp E.length mc) := ⟨by rw [C2.cell (block_lt_of_cell hcy)]; exact hcy, by rw [C2.cell (block_lt_of_cell hey)]; exact hey⟩
          refine ⟨_, rfl, S2, ?_⟩
          simp only [Act.put, List.getElem_toArray, List.getElem_cons_zero, List.getElem_cons_succ, List.setIfInBounds_toArray, List.set_cons_zero, List.set_cons_succ]
          refine wpAnyH_take (i := 4) (v := .bool true) rfl (by kernel_rfl) (by kernel_rfl) (by kernel_rfl) (fun _ _ _ h => h) (yields_eqlH rfl (.tmp 84) (.tmp 86) rfl (headP xs E) (headP xs E) true (eq_head xs E) rfl rfl) S2 ?_
          simp only [Act.put, List.getElem_toArray, List.getElem_cons_zero, List.getElem_cons_succ, List.setIfInBounds_toArray, List.set_cons_zero, List.set_cons_succ]
          refine wpAnyH_take (i := 5) (v := .bool true) rfl (by kernel_rfl) (by kernel_rfl) (by kernel_rfl) (fun _ _ _ h => h) (.inl ⟨rfl, fun W _ => by go_simp⟩) S2 ?_
          simp only [Act.put, List.getElem_toArray, List.getElem_cons_zero, List.getElem_cons_succ, List.setIfInBounds_toArray, List.set_cons_zero, List.set_cons_succ]
          refine wpAnyH_take (i := 6) (v := .pointer (some ⟨g, 0, none⟩)) rfl (by kernel_rfl) (by kernel_rfl) (by kernel_rfl) (fun _ _ _ h => h) (.inl ⟨rfl, fun W _ => by go_simp⟩) S2 ?_
          simp only [Act.put, List.getElem_toArray, List.getElem_cons_zero, List.getElem_cons_succ, List.setIfInBounds_toArray, List.set_cons_zero, List.set_cons_succ]
          refine wpAnyH_take (i := 8) (v := .pointer (some ⟨gy, 0, none⟩)) rfl (by kernel_rfl) (by kernel_rfl) (by kernel_rfl) (fun _ _ _ h => h) (.inl ⟨rfl, fun W _ => by go_simp⟩) S2 ?_
          simp only [Act.put, List.getElem_toArray, List.getElem_cons_zero, List.getElem_cons_succ, List.setIfInBounds_toArray, List.set_cons_zero, List.set_cons_succ]
          refine wpAnyH_take (i := 9) (v := .pointer (some ⟨gy, 0, none⟩)) rfl (by kernel_rfl) (by kernel_rfl) (by kernel_rfl) (fun _ _ _ h => h) (.inl ⟨rfl, fun W _ => by go_simp⟩) S2 ?_
          simp only [Act.put, List.getElem_toArray, List.getElem_cons_zero, List.getElem_cons_succ, List.setIfInBounds_toArray, List.set_cons_zero, List.set_cons_succ]
          refine wpAnyH_take (i := 10) (v := .pointer (some ⟨gy, 0, none⟩)) rfl (by kernel_rfl) (by kernel_rfl) (by kernel_rfl) (fun _ _ _ h => h) (.inl ⟨rfl, fun W _ => by go_simp⟩) S2 ?_
          simp only [Act.put, List.getElem_toArray, List.getElem_cons_zero, List.getElem_cons_succ, List.setIfInBounds_toArray, List.set_cons_zero, List.set_cons_succ]
          refine wpAnyH_take (i := 11) (v := .string ⟨(toU xs).toArray⟩) rfl (by kernel_rfl) (by kernel_rfl) (by kernel_rfl) (fun _ _ _ h => h) (.inl ⟨rfl, fun W hW => by have e := hW.1; go_simp⟩) S2 ?_
          simp only [Act.put, List.getElem_toArray, List.getElem_cons_zero, List.getElem_cons_succ, List.setIfInBounds_toArray, List.set_cons_zero, List.set_cons_succ]
          refine wpAnyH_take (i := 12) (v := .slice mp E.length mc) rfl (by kernel_rfl) (by kernel_rfl) (by kernel_rfl) (fun _ _ _ h => h) (.inl ⟨rfl, fun W _ => by go_simp⟩) S2 ?_
          simp only [Act.put, List.getElem_toArray, List.getElem_cons_zero, List.getElem_cons_succ, List.setIfInBounds_toArray, List.set_cons_zero, List.set_cons_succ]
          refine relist #[true, true, true, true, true, true, true, false, true, true, true, true, true, false, false, false, false] (by kernel_rfl) ?_
          refine any_one (i := 7) (by kernel_rfl) ?_
          refine wpOp_callG (f := 39) (args := #[.pointer (some ⟨g, 0, none⟩)]) rfl rfl (by go_simp) ?_
          refine (save_all y2 (HTb.out.below B2') g xs E HL2.read).mono ?_
          rintro e y3 ⟨rfl, c3⟩
          have C3 : Below V.heap.size V y3 := C2.trans (c3.mono C2.size)
          have S3 : y3.cell? ⟨gy, 0, none⟩ = some (.string ⟨(toU xs).toArray⟩) ∧ y3.cell? ⟨gy, 1, none⟩ = some (.slice mp E.length mc) := ⟨by rw [C3.cell (block_lt_of_cell hcy)]; exact hcy, by rw [C3.cell (block_lt_of_cell hey)]; exact hey⟩
          refine ⟨_, rfl, S3, ?_⟩
          simp only [Act.put, List.getElem_toArray, List.getElem_cons_zero, List.getElem_cons_succ, List.setIfInBounds_toArray, List.set_cons_zero, List.set_cons_succ]
          refine relist #[true, true, true, true, true, true, true, true, true, true, true, true, true, false, false, false, false] (by kernel_rfl) ?_
          refine any_one (i := 13) (by kernel_rfl) ?_
          refine wpOp_callG (f := 40) (args := #[.string ⟨(toU xs).toArray⟩, .slice mp E.length mc]) rfl rfl (by go_simp) ?_
          refine (refSave_any y3 (toU xs) xs (toI_toU xs hxb) (by rw [toU_len]; omega) mp E.length mc E (HSA.out.below C3) hfew).mono ?_
          rintro e y4 ⟨rfl, c4⟩
          have C4 : Below V.heap.size V y4 := C3.trans (c4.mono C3.size)
          have HB4 : Hid (Below w.heap.size w y4) := BA.trans (C4.mono BA.size)
          have S4 : y4.cell? ⟨gy, 0, none⟩ = some (.string ⟨(toU xs).toArray⟩) ∧ y4.cell? ⟨gy, 1, none⟩ = some (.slice mp E.length mc) := ⟨by rw [C4.cell (block_lt_of_cell hcy)]; exact hcy, by rw [C4.cell (block_lt_of_cell hey)]; exact hey⟩
          refine ⟨_, rfl, S4, ?_⟩
          simp only [Act.put, List.getElem_toArray, List.getElem_cons_zero, List.getElem_cons_succ, List.setIfInBounds_toArray, List.set_cons_zero, List.set_cons_succ]
          refine wpAnyH_take (i := 14) (v := .bool true) rfl (by kernel_rfl) (by kernel_rfl) (by kernel_rfl) (fun _ _ _ h => h) (.inl ⟨rfl, fun W _ => by go_simp⟩) S4 ?_
          simp only [Act.put, List.getElem_toArray, List.getElem_cons_zero, List.getElem_cons_succ, List.setIfInBounds_toArray, List.set_cons_zero, List.set_cons_succ]
          refine wpAnyH_take (i := 15) (v := .bool true) rfl (by kernel_rfl) (by kernel_rfl) (by kernel_rfl) (fun _ _ _ h => h) (.inl ⟨rfl, fun W _ => by go_simp⟩) S4 ?_
          simp only [Act.put, List.getElem_toArray, List.getElem_cons_zero, List.getElem_cons_succ, List.setIfInBounds_toArray, List.set_cons_zero, List.set_cons_succ]
          refine wpAnyH_take (i := 16) (v := .bool true) rfl (by kernel_rfl) (by kernel_rfl) (by kernel_rfl) (fun _ _ _ h => h) (.inl ⟨rfl, fun W _ => by go_simp⟩) S4 ?_
          simp only [Act.put, List.getElem_toArray, List.getElem_cons_zero, List.getElem_cons_succ, List.setIfInBounds_toArray, List.set_cons_zero, List.set_cons_succ]
          refine wpAnyH_done (by kernel_rfl) ?_ _
          refine NoPanic.normal ?_
          clear S0 S1 S2 S3 S4 C1 C2 C3 C4 HL1 HL2 HLD c1 c2 c3 c4 hss hrd HSA HLA BA B2' BD bD
          go_wp2_with fail
          go_ret
          exact ⟨rfl, HB4.out⟩
        · rw [decide_eq_false hm]
          have hlv := HL2.out hm
          subst hlv
          clear HLr HMr HL2 hm HE4' HS'
          go_wp2_with fail
          refine (num_any m wc).mono ?_
          rintro e w6 ⟨rfl, hw6⟩
          rw [hw6]
          clear hw6 w6
          go_wp2_with fail
          go_ret
          exact ⟨rfl, BK⟩
end Go.Proofs.YtcmjlhcpoajbkaaDoor
namespace Go.Proofs.YtcmjlhcpoajbkaaDoor
set_option maxRecDepth 100000
open Go.ChangeShapes Go.WideShapes Go.ChangeAt Go.RowKit
theorem loads_lifted (os : Os) (started : os.Started) (H : Type) (enc : TypeId × Value → H) :
    ReturnsInHanded {} Tryd.checked os 8 .any (fun w args => (Rows.loadsSpec.pre enc Tryd.prog Tryd.f8 [] false w args ∧ laidMetH Tryd.prog laid2 w) ∧ sizedMet enc Tryd.prog Tryd.f8 (OpenSpec.ofChange Rows.loadsSpec) false w args)
      (Rows.loadsSpec.post enc Tryd.prog Tryd.f8 false true false false) := by
  refine returnsInHanded_of_change_and (C := Tryd.checked) (X := fun w _ => laidMetH Tryd.prog laid2 w) (fun _ _ _ hh h => h.of_heap hh) own started (by kernel_rfl) Tryd.func8
    (ChangeSpec.witness_shaped (enc := enc) (C := Tryd.checked) (os := os) (X := fun w _ => laidMetH Tryd.prog laid2 w) false (World.doorLaid Tryd.prog 400 os) #[.slice none 0 0, .string ⟨#[]⟩] 8 rfl (World.shaped_of_RefB (by kernel_rfl) (by kernel_rfl)) (by kernel_rfl) (by kernel_rfl) (by kernel_rfl) (door_met os _)) ?_
  intro W base args ds gs before hval0 hW _ hsz0 hL _
  have hval : ∀ (j : Nat) t v, Tryd.f8.params[j]? = some t → args[j]? = some v → Value.okWide Tryd.prog W .any base t v := hval0
  have hsz : (DataW.weightsEach Tryd.prog (Tryd.f8.params.toList ++ Rows.loadsSpec.plain.varTypes Tryd.prog) (ds ++ gs)).all (· ≤ reachBytes) = true := hsz0
  have hW' := hW
  obtain ⟨p, q, hA0, hV, rfl, hfz, hnd⟩ := hW
  have hA : DataW.TrodAll enc Tryd.prog W 0 (fun _ => true) true Tryd.f8.params.toList args.toList ds p := hA0
  rw [Tryd.params8] at hA hval hsz
  obtain ⟨v0, v1, d0, d1, p0, p1, rfl, rfl, rfl, h0, h1⟩ := trodAll_two hA
  obtain ⟨rfl, rfl⟩ := trodVars_none hV
  have lt0 : ∀ x ∈ p0, x.block < W.heap.size := by obtain ⟨m, hm⟩ := h0; exact DataW.trod_lt m _ _ _ hm
  obtain ⟨xs0, ha0⟩ := arg_of (j := 0) (hval 0 22 v0 rfl rfl) h0 hsz rfl rfl
  obtain ⟨s1, rfl, rfl, rfl, ws1⟩ := Go.ChangeMaps.open_string Tryd.underlying9 (hval 1 9 v1 rfl rfl) h1
  obtain ⟨f1, rfl⟩ : ∃ f : List UInt8, s1 = ⟨f.toArray⟩ := ⟨s1.data.toList, by cases s1; simp⟩
  have hf1 : f1.length ≤ 140737488355328 := by
    have h := List.all_eq_true.1 hsz f1.length (DataW.weights_mem_each (t := 9) (d := .lit (.string (ByteArray.mk f1.toArray).data.toList)) (j := 1) rfl rfl _ (by simp [DataW.weights]))
    have h2 := of_decide_eq_true h
    simp only [reachBytes] at h2
    omega
  clear hA0 hval0 hsz0
  refine (loads_any v0 xs0 f1 W (tabs_of_laid hL) ha0 hf1).mono fun e W' ⟨he, bel⟩ => ?_
  subst he
  exact ⟨_, rfl, _, _, _, [], _, [], hW', trodAll_mk1 (shut_bool Tryd.underlying4 _), trodAll_mk2 (Below.trod laidOut (by kernel_rfl) (of_decide_eq_true (by kernel_rfl)) h0 bel lt0) (Go.ChangeMaps.shut_string Tryd.underlying9 ws1), rfl, bel.frame _, fun h => by cases h⟩
theorem loads_holds : Rows.LoadsSaid :=
  OpenClaim.holds_of_wide 8 Tryd.f8 rfl rfl rfl rfl rfl rfl rfl ⟨rfl, rfl, rfl, rfl, rfl⟩ rfl rfl rfl rfl rfl (by kernel_rfl) Tryd.func8 (by kernel_rfl)
    (of_decide_eq_true (by kernel_rfl)) (by unfold Func.isWrapper; rw [if_neg (of_decide_eq_false (by kernel_rfl))]; exact ⟨rfl, rfl⟩)
    (fun os started H enc _ => loads_lifted os started H enc)
theorem loads_card : Rows.LoadsCardSaid :=
  Claim7.holds_tied_plain_at .later [] [.wider, .data] true Rows.loadsCard.stood.harness false
    loads_holds (fun _ h => by cases h) (by kernel_rfl) (fun _ h => by cases h) loads_row_tie rfl ⟨rfl, rfl⟩ (by kernel_rfl) rfl
    (fun f fn hf hfn => by
      obtain rfl : f = 8 := Option.some.inj ((show Tryd.prog.funcNamed Rows.loadsRow.func = some 8 by kernel_rfl).symm.trans hf) |>.symm
      obtain rfl : fn = Tryd.f8 := (Option.some.inj (Tryd.func8.symm.trans hfn)).symm
      exact ⟨by kernel_rfl, fun j t ht => by
        rw [Tryd.params8] at ht
        have h3 : t = 22 ∨ t = 9 := by
          rcases j with _ | _ | j
          · exact (.inl (by simpa using ht.symm))
          · exact (.inr (by simpa using ht.symm))
          · simp at ht
        rcases h3 with rfl | rfl
        · exact (show Tryd.prog.wantsStandIn 22 = false by kernel_rfl)
        · exact (show Tryd.prog.wantsStandIn 9 = false by kernel_rfl)⟩)
    (by kernel_rfl)
#print axioms loads_card
end Go.Proofs.YtcmjlhcpoajbkaaDoor
