import Derived.Test.YtcmjlhcpoajbkaaDoorTag
import Derived.Deep.AppendLies
namespace Go.Proofs.YtcmjlhcpoajbkaaDoor
set_option maxRecDepth 10000
open Go.RowKit
theorem info5' : ∃ i, Tryd.prog.info? 5 = some i ∧ i.zero = some (.int .u8 0) ∧ i.size = 1 ∧ i.bytes = 1 := ⟨_, rfl, rfl, rfl, rfl⟩
/-- What roomy makes: the bytes, and a mark behind them. -/
structure Roomy (w w' : World) (g n cap : Nat) (xs : List Int) : Prop where
  new : w.heap.size ≤ g
  fits : n + 1 ≤ cap
  most : cap ≤ 9223372036854775807
  here : g < w'.heap.size
  cells : ∀ j, j < n → w'.cell? ⟨g, j, none⟩ = some (.int .u8 (xs.getD j 0))
  mark : w'.cell? ⟨g, n, none⟩ = some (.int .u8 126)
  below : Below w.heap.size w w'
theorem owns8 {w : World} {B : Nat} {v : Value} {l : List Int} {n : Nat} (h : w.ownsRow B 5 1 v n (l.map (Value.int .u8))) (hn : 0 < n) :
    ∃ g cap, v = .slice (some ⟨g, 0, none⟩) n cap ∧ B ≤ g ∧ g < w.heap.size ∧ n ≤ cap ∧ cap ≤ maxLen ∧ l.length = n ∧ ∀ j, j < n → w.cell? ⟨g, j, none⟩ = some (.int .u8 (l.getD j 0)) := by
  obtain ⟨hl, ⟨_, h0⟩ | ⟨g, cap, cur, rfl, hg, hh, hc, hm, hs, ht⟩⟩ := h
  · omega
  · have hl' : l.length = n := by simpa using hl
    refine ⟨g, cap, rfl, hg, row_lt hh, hc, hm, hl', fun j hj => ?_⟩
    rw [cell_of_row _ _ _ _ _ _ hh]
    have e := congrArg (fun z : List Value => z[j]?) ht
    simp only [Nat.mul_one, List.getElem?_take, if_pos hj, List.getElem?_map] at e
    rw [← Array.getElem?_toList, e]
    rw [List.getD_eq_getElem?_getD, List.getElem?_eq_getElem (by omega)]
    rfl
theorem owns_alloc8 {w : World} {B : Nat} {e : TypeId} {n s : Nat} {v : Value} {xs : List Value} (h : w.ownsRow B e s v n xs) (o : Obj) : (w.alloc o).ownsRow B e s v n xs := by
  obtain ⟨h1, h2 | ⟨g, cap, cur, hv, hg, hh, r⟩⟩ := h
  · exact ⟨h1, .inl h2⟩
  · exact ⟨h1, .inr ⟨g, cap, cur, hv, hg, (heapO w o g (row_lt hh)).trans hh, r⟩⟩
theorem wpList_app8 {ops : Array Oper} {rest : List Oper} {o : Oper} {a : Act} {Q : Exit → Act → World → Prop} {w : World} (hgd : o.guard = none) (s x : Operand)
    (ho : o.op = .call { callee := .builtin .append, args := #[s, x], argTypes := #[22, 22] }) (B : Nat) (v : Value) (l : List Int) (n : Nat) (hs : a.eval s = v)
    (hown : w.ownsRow B 5 1 v n (l.map (Value.int .u8))) (ad : Addr) (m c : Nat) (ys : List Int) (hx : a.eval x = .slice (some ad) m c) (hl : ys.length = m)
    (hnews : ∀ j, j < m → w.cell? (ad.add j) = some (.int .u8 (ys.getD j 0))) (hm : 0 < m) (hn : n + m ≤ 140737488355328) (hB : B ≤ w.heap.size)
    (h : ∀ v' w', w'.ownsRow B 5 1 v' (n + m) ((l ++ ys).map (Value.int .u8)) → w.heap.size ≤ w'.heap.size → (∀ w0, Below B w0 w → Below B w0 w') → wpList Tryd.prog ops Q rest (a.put o.dst v') w') : wpList Tryd.prog ops Q (o :: rest) a w := by
  obtain ⟨i, hi, hz, hsz, hby⟩ := info5'
  refine wpList_append_lies w hgd s x 22 ho B 5 i (.int .u8 0) 1 1 Tryd.underlying22 hi hz hsz hby rfl (by omega) v n _ hs hown ad m c (ys.map (Value.int .u8)) hx (by simp [hl]) (fun j u hu => ?_) (fun u hu => ?_) hm (by unfold maxLen; omega) (by omega) hB _ rfl ?_
  · have hj : j < ys.length := by
      rcases Nat.lt_or_ge j ys.length with h' | h'
      · exact h'
      · rw [List.getElem?_eq_none (by simpa using h')] at hu; cases hu
    rw [hnews j (by omega)]
    simp only [List.getElem?_map, List.getElem?_eq_getElem hj, Option.map_some, Option.some.injEq] at hu
    rw [← hu, List.getD_eq_getElem?_getD, List.getElem?_eq_getElem hj]; rfl
  · simp only [List.mem_map] at hu; obtain ⟨y, _, rfl⟩ := hu; rfl
  · intro g cap w' h1 h2 h3 h4
    refine h _ w' (by simpa using h1) h2.size (fun w0 hb => hb.grown h2 hB (fun k hk => ?_))
    rcases hown.2 with ⟨rfl, _⟩ | ⟨g', c', cur, rfl, hg', _⟩
    · cases hk
    · simp only [Value.ownBlock, Option.some.injEq] at hk; omega
theorem eql_nil (a : Option Addr) (l c : Nat) (w : World) : (binOp .eql 22 (.slice a l c) (.slice none 0 0)).run Tryd.prog w = .ok (.bool a.isNone) w := by
  simp only [binOp]
  simp [run_equal_slice_nil w 22 5 a l c Tryd.underlying22]
theorem roomy_nil (w : World) : Calls Tryd.prog 15 #[.slice none 0 0] w fun e w' => e = .returned (.slice none 0 0) ∧ w' = w := by
  have hq := eql_nil none 0 0 w
  go_enter Tryd.func15, Tryd.ntmps15
  go_wp2
  go_ret
  exact ⟨rfl, rfl⟩
set_option maxHeartbeats 400000 in
theorem roomy_some (ad : Addr) (n cap : Nat) (xs : List Int) (w : World) (hl : xs.length = n) (hn : n ≤ 140737488351232)
    (hcell : ∀ j, j < n → w.cell? (ad.add j) = some (.int .u8 (xs.getD j 0))) :
    Calls Tryd.prog 15 #[.slice (some ad) n cap] w fun e w' => ∃ g cap', e = .returned (.slice (some ⟨g, 0, none⟩) n cap') ∧ Roomy w w' g n cap' xs := by
  have HC : Hid (∀ j, j < n → w.cell? (ad.add j) = some (.int .u8 (xs.getD j 0))) := hcell
  have HL : Hid (xs.length = n) := hl
  have hq := eql_nil (some ad) n cap w
  clear hcell hl
  by_cases h0 : 0 < n
  · go_enter Tryd.func15, Tryd.ntmps15
    go_wp2_with (first
      | (at_builtin
         refine wpList_app8 rfl (.const (.slice none 0 0)) (.tmp 5) rfl w.heap.size (.slice none 0 0) [] 0 rfl ⟨rfl, .inl ⟨rfl, rfl⟩⟩ ad n cap xs rfl HL.out HC.out h0 (by omega) (Nat.le_refl _) ?_
         intro v1 w1 ho1 hs1 hb1
         refine hideGoal ?_))
    clear hq
    have hbw := hb1 w (Below.refl _ _)
    have HO1 : Hid (w1.ownsRow w.heap.size 5 1 v1 n (xs.map (Value.int .u8))) := by rw [Nat.zero_add] at ho1; exact ho1
    clear ho1 hb1
    refine openGoal ?_
    go_wp2_with (first
      | (at_builtin
         refine wpList_app8 rfl (.tmp 6) (.tmp 7) rfl w.heap.size v1 xs n rfl (owns_alloc8 HO1.out _) ⟨w1.heap.size, 0, none⟩ 1 1 [126] rfl rfl ?_ (by omega) (by omega) (by simp; omega) ?_
         · intro j hj
           have e : j = 0 := by omega
           subst e
           show (w1.alloc _).cell? ⟨w1.heap.size, 0, none⟩ = _
           rw [cell_of_row _ _ _ _ _ _ (heapN w1 _ _ rfl)]; rfl
         intro v2 w2 ho2 hs2 hb2
         refine hideGoal ?_))
    obtain ⟨g, cap', rfl, hg, hgs, hfit, hmost, _, hcells⟩ := owns8 ho2 (by omega)
    unfold maxLen at hmost
    have hR : Roomy w w2 g n cap' xs := by
      have hl := HL.out
      refine ⟨hg, hfit, by omega, hgs, fun j hj => ?_, ?_, hb2 w (hbw.alloc hs1 _)⟩
      · rw [hcells j (by omega)]
        rw [List.getD_eq_getElem?_getD, List.getElem?_append_left (by omega), ← List.getD_eq_getElem?_getD]
      · rw [hcells n (by omega)]
        rw [List.getD_eq_getElem?_getD, List.getElem?_append_right (by omega), hl, Nat.sub_self]; rfl
    clear ho2 hb2 hcells HO1 hbw HC HL
    refine openGoal ?_
    go_wp2_with fail
    go_ret
    exact ⟨g, cap', rfl, hR⟩
  · have hn0 : n = 0 := by omega
    subst hn0
    go_enter Tryd.func15, Tryd.ntmps15
    go_wp2_with (first
      | (at_builtin
         refine wpList_app8 rfl (.tmp 6) (.tmp 7) rfl w.heap.size (.slice none 0 0) [] 0 rfl ⟨rfl, .inl ⟨rfl, rfl⟩⟩ ⟨w.heap.size, 0, none⟩ 1 1 [126] rfl rfl ?_ (by omega) (by omega) (by simp) ?_
         · intro j hj
           have e : j = 0 := by omega
           subst e
           show (w.alloc _).cell? ⟨w.heap.size, 0, none⟩ = _
           rw [cell_of_row _ _ _ _ _ _ (heapN w _ _ rfl)]; rfl
         intro v2 w2 ho2 hs2 hb2
         refine hideGoal ?_))
    obtain ⟨g, cap', rfl, hg, hgs, hfit, hmost, _, hcells⟩ := owns8 ho2 (by omega)
    unfold maxLen at hmost
    have hR : Roomy w w2 g 0 cap' xs := by
      refine ⟨hg, hfit, by omega, hgs, fun j hj => by omega, ?_, hb2 w ((Below.refl _ _).alloc (Nat.le_refl _) _)⟩
      rw [hcells 0 (by omega)]; rfl
    clear ho2 hb2 hcells HC HL hq
    refine openGoal ?_
    go_wp2_with fail
    go_ret
    exact ⟨g, cap', rfl, hR⟩
end Go.Proofs.YtcmjlhcpoajbkaaDoor
