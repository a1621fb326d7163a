import Derived.Test.YtcmjlhcpoajbkaaDoorQPad
import Derived.Deep.AppendLies
import Derived.StillTailTactics
import Derived.Deep.RegionLaw
namespace Go.Proofs.YtcmjlhcpoajbkaaDoor
set_option maxRecDepth 10000
open Go.RowKit
theorem und32 : Tryd.prog.underlying 99 = some (.slice 98) := Tryd.underlying99
/-- What append leaves of a row of words. -/
structure Grows (B : Nat) (w w' : World) : Prop where
  size : w.heap.size ≤ w'.heap.size
  below : ∀ w0, Below B w0 w → Below B w0 w'
theorem info31 : ∃ i, Tryd.prog.info? 98 = some i ∧ i.zero = some (.int .u32 0) ∧ i.size = 1 ∧ i.bytes = 4 := ⟨_, rfl, rfl, rfl, rfl⟩
theorem wpList_app1 {ops : Array Oper} {rest : List Oper} {o : Oper} {a : Act} {Q : Exit → Act → World → Prop} {w : World} (hgd : o.guard = none) (s x : Operand)
    (ho : o.op = .call { callee := .builtin .append, args := #[s, x], argTypes := #[99, 99] }) (B : Nat) (v : Value) (l : List Int) (n : Nat) (hs : a.eval s = v)
    (hown : w.ownsRow B 98 1 v n (l.map (Value.int .u32))) (b : Nat) (y : Int) (hx : a.eval x = .slice (some ⟨b, 0, none⟩) 1 1) (hb : w.heap[b]? = some (.cells #[.int .u32 y] 98)) (hn : n ≤ 64) (hB : B ≤ w.heap.size)
    (h : ∀ v' w', w'.ownsRow B 98 1 v' (n + 1) ((l ++ [y]).map (Value.int .u32)) → Grows B w w' → wpList Tryd.prog ops Q rest (a.put o.dst v') w') : wpList Tryd.prog ops Q (o :: rest) a w := by
  obtain ⟨i, hi, hz, hsz, hby⟩ := info31
  refine wpList_append_lies w hgd s x 99 ho B 98 i (.int .u32 0) 1 4 und32 hi hz hsz hby rfl (by omega) v n _ hs hown ⟨b, 0, none⟩ 1 1 [.int .u32 y] hx rfl (World.news_of_block hb) (by intro u hu; simp only [List.mem_singleton] at hu; subst hu; rfl) (by omega) (by unfold maxLen; omega) (by omega) hB _ rfl ?_
  intro g cap w' h1 h2 h3 h4
  refine h _ w' (by simpa using h1) ⟨h2.size, fun w0 hb => hb.grown h2 hB (fun k hk => ?_)⟩
  rcases hown.2 with ⟨rfl, _⟩ | ⟨g', c', cur, rfl, hg', _⟩
  · cases hk
  · simp only [Value.ownBlock, Option.some.injEq] at hk; omega
theorem step_app1 {ops : Array Oper} {o : Oper} {a : Act} {K : Act → World → Prop} {Q : Exit → Act → World → Prop} {E : Prop} {w : World} (hgd : o.guard = none) (s x : Operand)
    (ho : o.op = .call { callee := .builtin .append, args := #[s, x], argTypes := #[99, 99] }) (B : Nat) (v : Value) (l : List Int) (n : Nat) (hs : a.eval s = v)
    (hown : w.ownsRow B 98 1 v n (l.map (Value.int .u32))) (b : Nat) (y : Int) (hx : a.eval x = .slice (some ⟨b, 0, none⟩) 1 1) (hb : w.heap[b]? = some (.cells #[.int .u32 y] 98)) (hn : n ≤ 64) (hB : B ≤ w.heap.size)
    (h : ∀ v' w', w'.ownsRow B 98 1 v' (n + 1) ((l ++ [y]).map (Value.int .u32)) → Grows B w w' → K (a.put o.dst v') w') :
    if Region.wanted o (yielded ops a.tmps) = true then Oper.wp Tryd.prog o a w K Q else E := by
  obtain ⟨i, hi, hz, hsz, hby⟩ := info31
  refine step_append_lies w hgd s x 99 ho B 98 i (.int .u32 0) 1 4 und32 hi hz hsz hby rfl (by omega) v n _ hs hown ⟨b, 0, none⟩ 1 1 [.int .u32 y] hx rfl (World.news_of_block hb) (by intro u hu; simp only [List.mem_singleton] at hu; subst hu; rfl) (by omega) (by unfold maxLen; omega) (by omega) hB _ rfl ?_
  intro g cap w' h1 h2 h3 h4
  refine h _ w' (by simpa using h1) ⟨h2.size, fun w0 hb => hb.grown h2 hB (fun k hk => ?_)⟩
  rcases hown.2 with ⟨rfl, _⟩ | ⟨g', c', cur, rfl, hg', _⟩
  · cases hk
  · simp only [Value.ownBlock, Option.some.injEq] at hk; omega
theorem owns_cell {w : World} {B : Nat} {v : Value} {l : List Int} {n : Nat} (h : w.ownsRow B 98 1 v n (l.map (Value.int .u32))) (hn : 0 < n) :
    ∃ g cap, v = .slice (some ⟨g, 0, none⟩) n cap ∧ B ≤ g ∧ g < w.heap.size ∧ n ≤ cap ∧ cap ≤ maxLen ∧ l.length = n ∧ ∀ j, j < n → w.cell? ⟨g, j, none⟩ = some (.int .u32 (l.getD j 0)) := by
  obtain ⟨hl, ⟨_, h0⟩ | ⟨g, cap, cur, rfl, hg, hh, hc, hm, hs, ht⟩⟩ := h
  · omega
  · have hl' : l.length = n := by simpa using hl
    refine ⟨g, cap, rfl, hg, row_lt hh, hc, hm, hl', fun j hj => ?_⟩
    rw [cell_of_row _ _ _ _ _ _ hh]
    have e := congrArg (fun z : List Value => z[j]?) ht
    simp only [Nat.mul_one, List.getElem?_take, if_pos hj, List.getElem?_map] at e
    rw [← Array.getElem?_toList, e]
    rw [List.getD_eq_getElem?_getD, List.getElem?_eq_getElem (by omega)]
    rfl
theorem stored1 (w : World) (g i : Nat) (l : List Int) (v : Int) (h : w.heap[g]? = some (.cells (A32 l) 98)) : (w.setCell ⟨g, i, none⟩ (.int .u32 v)).heap[g]? = some (.cells (A32 (l.set i v)) 98) := by
  rw [heap_setCell_same w g i _ _ _ h, A32_set]
theorem list8 (l : List Int) (h : l.length = 8) : ∃ x0 x1 x2 x3 x4 x5 x6 x7, l = [x0, x1, x2, x3, x4, x5, x6, x7] := by
  match l, h with
  | [x0, x1, x2, x3, x4, x5, x6, x7], _ => exact ⟨x0, x1, x2, x3, x4, x5, x6, x7, rfl⟩
theorem wpList_store_cell {ops : Array Oper} {rest : List Oper} {o : Oper} {a : Act} {Q : Exit → Act → World → Prop} {w : World} (hgd : o.guard = none) (x y : Operand) (ho : o.op = .store 98 x y)
    (g i : Nat) (l : List Int) (v : Int) (hx : a.eval x = .pointer (some ⟨g, i, none⟩)) (hy : a.eval y = .int .u32 v) (hg : w.heap[g]? = some (.cells (A32 l) 98)) (hi : i < l.length)
    (h : ∀ W, Stored w W g (A32 (l.set i v)) 98 → wpList Tryd.prog ops Q rest (a.put o.dst undef) W) : wpList Tryd.prog ops Q (o :: rest) a w := by
  refine wpList_plain hgd fun K hK => ?_
  have hc : w.cell? ⟨g, i, none⟩ = some (.int .u32 (l.getD i 0)) := by rw [cell_of_row _ _ _ _ _ _ hg, A32_get _ _ hi]
  have hf := frozen_of_row w g i _ _ hg
  unfold Oper.wp execOp
  simp only [ho, hx, hy]
  go_simp
  exact hK _ _ (h _ ⟨stored1 w g i l v hg, fun k hk => heap_setCell_other _ _ _ _ hk, by simp, fun _ _ hB hb => hb.setCell hB _⟩)
theorem wsum_nest (a b c d : Int) : (((a + b) % 4294967296 + c) % 4294967296 + d) % 4294967296 = wsum a b c d := by
  unfold wsum; omega
theorem word_at (l : List UInt8) (z : Int) (k : Nat) (hz : z = (k : Int)) (w : World) (h : k + 4 ≤ l.length) (hl : l.length ≤ 140737488356000) :
    Calls Tryd.prog 58 #[.string ⟨l.toArray⟩, .int .i64 z] w fun e w' => e = .returned (.int .u32 (wacc (fun j => (toI l).getD (k + j) 0) 4)) ∧ w' = w := by
  subst hz; exact word_any l k w h hl
theorem owns_alloc {w : World} {B : Nat} {e : TypeId} {n s : Nat} {v : Value} {xs : List Value} (h : w.ownsRow B e s v n xs) (o : Obj) : (w.alloc o).ownsRow B e s v n xs := by
  obtain ⟨h1, h2 | ⟨g, cap, cur, hv, hg, hh, r⟩⟩ := h
  · exact ⟨h1, .inl h2⟩
  · exact ⟨h1, .inr ⟨g, cap, cur, hv, hg, (heapO w o g (row_lt hh)).trans hh, r⟩⟩
theorem owns_heap {w w' : World} {B : Nat} {e : TypeId} {n s : Nat} {v : Value} {xs : List Value} (h : w.ownsRow B e s v n xs) (hh : w'.heap = w.heap) : w'.ownsRow B e s v n xs := by
  unfold World.ownsRow at *
  rw [hh]; exact h
theorem word_block (T : List UInt8) (q k : Nat) (hk : k < 16) (bs : List Int) (hb : bs = ((toI T).drop (64 * q)).take 64) :
    wacc (fun j => (toI T).getD (64 * q + 4 * k + j) 0) 4 = wordOf bs k := by
  have e : ∀ j, j < 4 → (toI T).getD (64 * q + 4 * k + j) 0 = bs.getD (4 * k + j) 0 := fun j hj => by
    rw [hb]
    simp only [List.getD_eq_getElem?_getD, List.getElem?_take, List.getElem?_drop]
    rw [if_pos (by omega)]
    congr 2; omega
  simp only [wordOf, wacc]
  rw [e 0 (by omega), e 1 (by omega), e 2 (by omega), e 3 (by omega)]
end Go.Proofs.YtcmjlhcpoajbkaaDoor
