import Derived.Test.YtcmjlhcpoajbkaaDoorQRu
import Derived.Test.YtcmjlhcpoajbkaaDoorQLd
import Derived.Test.YtcmjlhcpoajbkaaDoorQSe
import Derived.Test.YtcmjlhcpoajbkaaDoorQRj
import Derived.Test.YtcmjlhcpoajbkaaDoorQHe
namespace Go.Proofs.YtcmjlhcpoajbkaaDoor
set_option maxRecDepth 10000
set_option linter.unusedSimpArgs false
open Go.RowKit
set_option maxHeartbeats 400000 in
theorem roomyW_some (ad : Addr) (n cap : Nat) (xs : List Int) (w : World) (hl : xs.length = n) (hn : n ≤ 140737488351232)
    (hcell : ∀ j, j < n → w.cell? (ad.add j) = some (.int .u8 (xs.getD j 0))) :
    Calls Tryd.prog 15 #[.slice (some ad) n cap] w fun e w' => ∃ g cap', e = .returned (.slice (some ⟨g, 0, none⟩) n cap') ∧ Roomy w w' g n cap' xs ∧ ∃ cur : Array Value, w'.heap[g]? = some (.cells cur 5) ∧ cur.size = cap' := by
  have HC : Hid (∀ j, j < n → w.cell? (ad.add j) = some (.int .u8 (xs.getD j 0))) := hcell
  have HL : Hid (xs.length = n) := hl
  have hq := eql_nil (some ad) n cap w
  clear hcell hl
  by_cases h0 : 0 < n
  · go_enter Tryd.func15, Tryd.ntmps15
    go_wp2_with (first
      | (at_builtin
         refine wpList_app8 rfl (.const (.slice none 0 0)) (.tmp 5) rfl w.heap.size (.slice none 0 0) [] 0 rfl ⟨rfl, .inl ⟨rfl, rfl⟩⟩ ad n cap xs rfl HL.out HC.out h0 (by omega) (Nat.le_refl _) ?_
         intro v1 w1 ho1 hs1 hb1
         refine hideGoal ?_))
    clear hq
    have hbw := hb1 w (Below.refl _ _)
    have HO1 : Hid (w1.ownsRow w.heap.size 5 1 v1 n (xs.map (Value.int .u8))) := by rw [Nat.zero_add] at ho1; exact ho1
    clear ho1 hb1
    refine openGoal ?_
    go_wp2_with (first
      | (at_builtin
         refine wpList_app8 rfl (.tmp 6) (.tmp 7) rfl w.heap.size v1 xs n rfl (owns_alloc8 HO1.out _) ⟨w1.heap.size, 0, none⟩ 1 1 [126] rfl rfl ?_ (by omega) (by omega) (by simp; omega) ?_
         · intro j hj
           have e : j = 0 := by omega
           subst e
           show (w1.alloc _).cell? ⟨w1.heap.size, 0, none⟩ = _
           rw [cell_of_row _ _ _ _ _ _ (heapN w1 _ _ rfl)]; rfl
         intro v2 w2 ho2 hs2 hb2
         refine hideGoal ?_))
    obtain ⟨g, cap', rfl, hg, hgs, hfit, hmost, _, hcells⟩ := owns8 ho2 (by omega)
    have hrow : ∃ cur : Array Value, w2.heap[g]? = some (.cells cur 5) ∧ cur.size = cap' := by
      obtain ⟨_, ⟨hz, _⟩ | ⟨g', c', cur, hv, _, hh, _, _, hs, _⟩⟩ := ho2
      · cases hz
      · cases hv; exact ⟨cur, hh, by simpa using hs⟩
    have HROW : Hid _ := hrow
    clear hrow
    unfold maxLen at hmost
    have hR : Roomy w w2 g n cap' xs := by
      have hl := HL.out
      refine ⟨hg, hfit, by omega, hgs, fun j hj => ?_, ?_, hb2 w (hbw.alloc hs1 _)⟩
      · rw [hcells j (by omega)]
        rw [List.getD_eq_getElem?_getD, List.getElem?_append_left (by omega), ← List.getD_eq_getElem?_getD]
      · rw [hcells n (by omega)]
        rw [List.getD_eq_getElem?_getD, List.getElem?_append_right (by omega), hl, Nat.sub_self]; rfl
    clear ho2 hb2 hcells HO1 hbw HC HL
    refine openGoal ?_
    go_wp2_with fail
    go_ret
    exact ⟨g, cap', rfl, hR, HROW.out⟩
  · have hn0 : n = 0 := by omega
    subst hn0
    go_enter Tryd.func15, Tryd.ntmps15
    go_wp2_with (first
      | (at_builtin
         refine wpList_app8 rfl (.tmp 6) (.tmp 7) rfl w.heap.size (.slice none 0 0) [] 0 rfl ⟨rfl, .inl ⟨rfl, rfl⟩⟩ ⟨w.heap.size, 0, none⟩ 1 1 [126] rfl rfl ?_ (by omega) (by omega) (by simp) ?_
         · intro j hj
           have e : j = 0 := by omega
           subst e
           show (w.alloc _).cell? ⟨w.heap.size, 0, none⟩ = _
           rw [cell_of_row _ _ _ _ _ _ (heapN w _ _ rfl)]; rfl
         intro v2 w2 ho2 hs2 hb2
         refine hideGoal ?_))
    obtain ⟨g, cap', rfl, hg, hgs, hfit, hmost, _, hcells⟩ := owns8 ho2 (by omega)
    have hrow : ∃ cur : Array Value, w2.heap[g]? = some (.cells cur 5) ∧ cur.size = cap' := by
      obtain ⟨_, ⟨hz, _⟩ | ⟨g', c', cur, hv, _, hh, _, _, hs, _⟩⟩ := ho2
      · cases hz
      · cases hv; exact ⟨cur, hh, by simpa using hs⟩
    have HROW : Hid _ := hrow
    clear hrow
    unfold maxLen at hmost
    have hR : Roomy w w2 g 0 cap' xs := by
      refine ⟨hg, hfit, by omega, hgs, fun j hj => by omega, ?_, hb2 w ((Below.refl _ _).alloc (Nat.le_refl _) _)⟩
      rw [hcells 0 (by omega)]; rfl
    clear ho2 hb2 hcells HC HL hq
    refine openGoal ?_
    go_wp2_with fail
    go_ret
    exact ⟨g, cap', rfl, hR, HROW.out⟩
/-- The memory that roomy makes: its owner may write into it. -/
def Rowy (w : World) (B : Nat) (p : Option Addr) (n : Nat) : Prop :=
  (p = none ∧ n = 0) ∨ ∃ (g : Nat) (cur : Array Value), p = some ⟨g, 0, none⟩ ∧ B ≤ g ∧ w.heap[g]? = some (.cells cur 5) ∧ n ≤ cur.size
theorem roomyW_any {w : World} {v : Value} {xs : List Int} (h : Arg w v xs) :
    Calls Tryd.prog 15 #[v] w fun e w' => ∃ p n cap, e = .returned (.slice p n cap) ∧ Below w.heap.size w w' ∧ Pair w' v p n cap xs ∧ In8 w' p n cap xs ∧ Rowy w' w.heap.size p n := by
  rcases h with ⟨rfl, rfl⟩ | ⟨ad, n, cap, rfl, h2, h3, h4, h5⟩
  · refine (roomy_nil w).mono fun e w' ⟨he, hw⟩ => ?_
    subst hw
    exact ⟨none, 0, 0, he, Below.refl _ _, .inl ⟨rfl, rfl, rfl, rfl⟩, ⟨rfl, fun j => by simp, Nat.le_refl _, by omega, by omega, fun h0 => by simp at h0⟩, .inl ⟨rfl, rfl⟩⟩
  · refine (roomyW_some ad n cap xs w h2 h3 h5).mono fun e w' ⟨g, cap', he, hR, cur, hcur, hcs⟩ => ?_
    refine ⟨_, n, cap', he, hR.below, .inr ⟨ad, cap, g, rfl, rfl, h2, h3, hR.fits, hR.here, fun j hj => ?_, hR.cells, hR.mark⟩, ⟨h2, h4, by have := hR.fits; omega, hR.most, by omega, fun _ => ⟨g, 0, rfl, hR.here, fun j hj => ?_⟩⟩, .inr ⟨g, cur, rfl, hR.new, hcur, by have := hR.fits; omega⟩⟩
    · rw [hR.below.cell (block_lt_of_cell (h5 j hj))]; exact h5 j hj
    · rw [Nat.zero_add]; exact hR.cells j (by omega)
theorem Rowy.below {w w' : World} {B : Nat} {p : Option Addr} {n : Nat} (h : Rowy w B p n) (hb : Below w.heap.size w w') : Rowy w' B p n := by
  rcases h with h | ⟨g, cur, h1, h2, h3, h4⟩
  · exact .inl h
  · exact .inr ⟨g, cur, h1, h2, (hb.block g (row_lt h3)).trans h3, h4⟩
/-- The blocks of a slice. -/
def Of (p : Option Addr) (k : Nat) : Prop := ∃ ad, p = some ad ∧ ad.block = k
theorem Rowy.of {w : World} {B : Nat} {p : Option Addr} {n : Nat} (h : Rowy w B p n) {k : Nat} (hk : Of p k) : B ≤ k ∧ k < w.heap.size := by
  obtain ⟨ad, h1, h2⟩ := hk
  rcases h with ⟨h, _⟩ | ⟨g, cur, h, hg, hh, _⟩
  · rw [h] at h1; cases h1
  · rw [h] at h1; cases h1; rw [← h2]; exact ⟨hg, row_lt hh⟩
theorem owns_kp {X : Nat → Prop} {w w' : World} {B s n : Nat} {t : TypeId} {v : Value} {xs : List Value} (h : w.ownsRow B t s v n xs) (hk : Kp X w w') (hX : ∀ g, v.ownBlock = some g → ¬ X g) : w'.ownsRow B t s v n xs := by
  obtain ⟨h1, h2 | ⟨g, cap, cur, hv, hg, hh, r⟩⟩ := h
  · exact ⟨h1, .inl h2⟩
  · exact ⟨h1, .inr ⟨g, cap, cur, hv, hg, (hk.block g (row_lt hh) (hX g (by rw [hv]; rfl))).trans hh, r⟩⟩
theorem s59_of {w : World} {B : Nat} {v : Value} {es : List (List Int)} (h : w.ownsRow B 9 1 v es.length (es.map strV)) (hf : Fit es) : ∃ p c, v = .slice p es.length c ∧ S59 w p es.length c es := by
  obtain ⟨p, c, hv, h1, h2⟩ := owns_shape h
  refine ⟨p, c, hv, rfl, h1, h2, fun i => hf.2 i, fun h0 => ?_⟩
  obtain ⟨g, cap, hv', hg, hgl, _, _, hcs⟩ := owns_get h h0
  rw [hv] at hv'
  cases hv'
  refine ⟨g, 0, rfl, hgl, fun i hi => ?_⟩
  rw [Nat.zero_add, hcs i hi, List.getElem?_map, List.getD_eq_getElem?_getD, List.getElem?_eq_getElem hi]
  rfl
section
variable {ops : Array Oper} {o : Oper} {a : Act} {S : World → Prop}
theorem yields_eqlH (hw : Region.wanted o (yielded ops a.tmps) = true) (x y : Operand) (ho : o.op = .binOp .eql 42 x y 42) (X Y : Array Value) (b : Bool) (hq : ∀ W : World, (Op.equalIn 10000 42 (.agg X) (.agg Y)).run Tryd.prog W = .ok b W)
    (hx : a.eval x = .agg X) (hy : a.eval y = .agg Y) : YieldsIf Tryd.prog ops S o (.bool b) a :=
  .inl ⟨hw, fun w _ => by
    have e : (binOp .eql 42 (.agg X) (.agg Y)).run Tryd.prog w = .ok (.bool b) w := by rw [run_eql_struct, hq]; rfl
    have g := run_eqGuard_agg (P := Tryd.prog) w .eql 42 x y X Y (by kernel_rfl)
    unfold execOp
    simp only [ho, hx, hy, Sem.run_bind, g, e, Result.andThen_ok, Sem.run_pure]⟩
theorem yields_neqH (hw : Region.wanted o (yielded ops a.tmps) = true) (x y : Operand) (ho : o.op = .binOp .neq 42 x y 42) (X Y : Array Value) (b : Bool) (hq : ∀ W : World, (Op.equalIn 10000 42 (.agg X) (.agg Y)).run Tryd.prog W = .ok b W)
    (hx : a.eval x = .agg X) (hy : a.eval y = .agg Y) : YieldsIf Tryd.prog ops S o (.bool (!b)) a :=
  .inl ⟨hw, fun w _ => by
    have e : (binOp .neq 42 (.agg X) (.agg Y)).run Tryd.prog w = .ok (.bool (!b)) w := by rw [run_neq_struct, hq]; rfl
    have g := run_eqGuard_agg (P := Tryd.prog) w .neq 42 x y X Y (by kernel_rfl)
    unfold execOp
    simp only [ho, hx, hy, Sem.run_bind, g, e, Result.andThen_ok, Sem.run_pure]⟩
end
theorem eq_head (K : List Int) (E : List (List Int)) (W : World) : (Op.equalIn 10000 42 (.agg (headP K E)) (.agg (headP K E))).run Tryd.prog W = .ok true W := by
  unfold headP
  rw [eqIn_H _ _ _ _ _ _ (rootP_ok E).1 (signP_len _ _ _) (rootP_ok E).1 (signP_len _ _ _) (rootP_ok E).2 (signP_bytes _ _ _) (rootP_ok E).2 (signP_bytes _ _ _) W]
  rw [decide_eq_true ⟨rfl, rfl, rfl⟩]
set_option maxHeartbeats 1000000 in
theorem new_long (w : World) (p : Option Addr) (n c : Nat) (hn : 100 < n) (hs : n ≤ 9223372036854775807) :
    Calls Tryd.prog 31 #[.slice p n c] w fun e w' => e = .returned (.tuple #[.pointer none, .int .i64 2]) ∧ w' = w := by
  have hn' : (100 : Int) < n := by omega
  go_enter Tryd.func31, Tryd.ntmps31
  go_wp2_with fail
  go_ret2
  exact ⟨rfl, rfl⟩
end Go.Proofs.YtcmjlhcpoajbkaaDoor
