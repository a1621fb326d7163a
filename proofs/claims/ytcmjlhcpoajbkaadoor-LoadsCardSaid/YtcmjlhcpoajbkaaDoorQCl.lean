import Derived.Test.YtcmjlhcpoajbkaaDoorQDs
import Derived.Test.YtcmjlhcpoajbkaaDoorQHalf
import Derived.Deep.OwnRows
import Derived.Deep.AppendLies
namespace Go.Proofs.YtcmjlhcpoajbkaaDoor
set_option maxRecDepth 10000
open Go.RowKit
theorem owns_below {w w' : World} {B s n : Nat} {t : TypeId} {v : Value} {xs : List Value} (h : w.ownsRow B t s v n xs) (hb : Below w.heap.size w w') : w'.ownsRow B t s v n xs := by
  obtain ⟨h1, h2 | ⟨g, cap, cur, hv, hg, hh, r⟩⟩ := h
  · exact ⟨h1, .inl h2⟩
  · exact ⟨h1, .inr ⟨g, cap, cur, hv, hg, (hb.block g (row_lt hh)).trans hh, r⟩⟩
theorem owns_mono {w : World} {B B' s n : Nat} {t : TypeId} {v : Value} {xs : List Value} (h : w.ownsRow B t s v n xs) (hb : B' ≤ B) : w.ownsRow B' t s v n xs := by
  obtain ⟨h1, h2 | ⟨g, cap, cur, hv, hg, r⟩⟩ := h
  · exact ⟨h1, .inl h2⟩
  · exact ⟨h1, .inr ⟨g, cap, cur, hv, by omega, r⟩⟩
theorem owns_shape {w : World} {B s n : Nat} {t : TypeId} {v : Value} {xs : List Value} (h : w.ownsRow B t s v n xs) : ∃ p cap, v = .slice p n cap ∧ n ≤ cap ∧ cap ≤ 9223372036854775807 := by
  obtain ⟨h1, ⟨rfl, rfl⟩ | ⟨g, cap, cur, hv, hg, hh, hc, hm, r⟩⟩ := h
  · exact ⟨none, 0, rfl, Nat.le_refl _, by omega⟩
  · exact ⟨_, cap, hv, hc, by unfold maxLen at hm; omega⟩
theorem owns_get {w : World} {B n : Nat} {t : TypeId} {v : Value} {xs : List Value} (h : w.ownsRow B t 1 v n xs) (hn : 0 < n) :
    ∃ g cap, v = .slice (some ⟨g, 0, none⟩) n cap ∧ B ≤ g ∧ g < w.heap.size ∧ n ≤ cap ∧ cap ≤ 9223372036854775807 ∧ ∀ k, k < n → w.cell? ⟨g, k, none⟩ = xs[k]? := by
  obtain ⟨h1, ⟨rfl, rfl⟩ | ⟨g, cap, cur, hv, hg, hh, hc, hm, hs, ht⟩⟩ := h
  · omega
  · refine ⟨g, cap, hv, hg, row_lt hh, hc, by unfold maxLen at hm; omega, fun k hk => ?_⟩
    rw [cell_of_row _ _ _ _ _ _ hh, ← ht, List.getElem?_take, if_pos (by omega), Array.getElem?_toList]
section
variable {ops : Array Oper} {rest : List Oper} {o : Oper} {a : Act} {w : World} {Q : Exit → Act → World → Prop}
/-- One more behind a row of one's own, its elements a cell each. -/
theorem wpList_appOne (hgd : o.guard = none) (s x : Operand) (st t : TypeId) (z : Value) (bytes : Nat) (hst : Tryd.prog.underlying st = some (.slice t)) (hinfo : ∃ i, Tryd.prog.info? t = some i ∧ i.zero = some z ∧ i.size = 1 ∧ i.bytes = bytes) (hz1 : z.cells.size = 1) (hby8 : bytes ≤ 24)
    (ho : o.op = .call { callee := .builtin .append, args := #[s, x], argTypes := #[st, st] }) (B : Nat) (v : Value) (n : Nat) (xs : List Value) (hs : a.eval s = v)
    (hown : Hid (w.ownsRow B t 1 v n xs)) (g1 : Nat) (u : Value) (hx : a.eval x = .slice (some ⟨g1, 0, none⟩) 1 1) (h1 : w.heap[g1]? = some (.cells #[u] t)) (hu : u.oneCell' = true) (hn : n ≤ 1099511627776) (hB : B ≤ w.heap.size)
    (h : ∀ v' w', Hid (w'.ownsRow B t 1 v' (n + 1) (xs ++ [u])) → w.heap.size ≤ w'.heap.size → (∀ w0, Below B w0 w → Below B w0 w') → wpList Tryd.prog ops Q rest (a.put o.dst v') w') : wpList Tryd.prog ops Q (o :: rest) a w := by
  obtain ⟨i, hi, hz, hsz, hby⟩ := hinfo
  refine wpList_append_lies w hgd s x st ho B t i z 1 bytes hst hi hz hsz hby hz1 (by omega) v n xs hs hown.out ⟨g1, 0, none⟩ 1 1 [u] hx rfl (fun j u' hu' => ?_) (fun u' hu' => ?_) (by omega) (by unfold maxLen; omega) (by
    have : (n + 1) * bytes ≤ (n + 1) * 24 := Nat.mul_le_mul_left _ hby8
    omega) hB _ rfl ?_
  · have e : j = 0 := by
      have := (List.getElem?_eq_some_iff.1 hu').1
      simp at this; omega
    subst e
    rw [addr_add, cell_of_row _ _ _ _ _ _ h1]
    simpa using hu'
  · simp only [List.mem_singleton] at hu'; subst hu'; exact hu
  · intro g cap w' h2 h3 h4 h5
    refine h _ w' h2 h3.size (fun w0 hb => hb.grown h3 hB (fun k hk => ?_))
    rcases hown.out.2 with ⟨rfl, _⟩ | ⟨g', c', cur, rfl, hg', _⟩
    · cases hk
    · simp only [Value.ownBlock, Option.some.injEq] at hk; omega
end
end Go.Proofs.YtcmjlhcpoajbkaaDoor
namespace Go.Proofs.YtcmjlhcpoajbkaaDoor
set_option maxRecDepth 10000
open Go.RowKit
theorem Z32_bytes : Bytes Z32 := .of fun x hx => by
  have := List.eq_of_mem_replicate hx
  omega
end Go.Proofs.YtcmjlhcpoajbkaaDoor
