import Derived.Test.YtcmjlhcpoajbkaaDoorQKx
import Derived.Test.YtcmjlhcpoajbkaaDoorQSe
namespace Go.Proofs.YtcmjlhcpoajbkaaDoor
set_option maxRecDepth 10000
set_option linter.unusedSimpArgs false
open Go.RowKit
theorem take_getD (es : List (List Int)) (j k : Nat) (h : k < j) : (es.take j).getD k [] = es.getD k [] := by
  rw [List.getD_eq_getElem?_getD, List.getD_eq_getElem?_getD, List.getElem?_take_of_lt h]
theorem sealU_take (key : List Int) (es : List (List Int)) (j : Nat) : ∀ k, k ≤ j → sealU key (es.take j) k = sealU key es k := by
  intro k
  induction k with
  | zero => intro _; rfl
  | succ k ih =>
    intro h
    show sealP _ (sealU key (es.take j) k) ((es.take j).getD k []) = sealP _ (sealU key es k) (es.getD k [])
    rw [ih (by omega), take_getD es j k (by omega)]
theorem saveU_take (key : List Int) (es : List (List Int)) (j : Nat) : ∀ k, k ≤ j → saveU key (es.take j) k = saveU key es k := by
  intro k
  induction k with
  | zero => intro _; rfl
  | succ k ih =>
    intro h
    rw [saveU_succ, saveU_succ, ih (by omega), take_getD es j k (by omega), sealU_take key es j (k + 1) h]
/-- What is saved of a beginning is a beginning of the file. -/
theorem saveP_take (key : List Int) (es : List (List Int)) (j : Nat) (hj : j < es.length) : toU (saveP key (es.take j)) = (toU (saveP key es)).take (saveU key es j).length := by
  have e : saveP key (es.take j) = saveU key es j := by
    unfold saveP
    rw [List.length_take, Nat.min_eq_left (by omega)]
    exact saveU_take key es j j (Nat.le_refl _)
  obtain ⟨r, hr⟩ := file_at key es es.length j hj
  rw [e, toU_take]
  unfold saveP
  rw [hr, List.take_left]
/-- A file that breaks off at k. -/
structure CutAt (K : List Int) (E : List (List Int)) (SS : List UInt8) (k j pl : Nat) (m : Int) : Prop where
  lt : j < E.length
  load : loadP K (SS.take k) = (E.take j, m, pl)
  place : pl ≤ k
  how : m = 0 ∧ pl = k ∨ m = 3 ∧ pl < k
  save : toU (saveP K (E.take j)) = SS.take pl
theorem cut_at (K : List Int) (E : List (List Int)) (hf : Fit E) (k : Nat) (hk : k < (toU (saveP K E)).length) : ∃ j pl m, CutAt K E (toU (saveP K E)) k j pl m := by
  rw [toU_len] at hk
  obtain ⟨j, m, h1, h2, h3, h4⟩ := load_cut K E hf k hk
  exact ⟨j, _, m, h1, h2, h3, h4, saveP_take K E j h1⟩
theorem conv_two (b : Int) (w : World) :
    (convert 22 9 (.slice (some ⟨w.heap.size, 0, none⟩) 2 2)).run Tryd.prog (w.alloc (.cells #[.int .u8 0, .int .u8 b] 5)) = .ok (.string ⟨(toU [0, b]).toArray⟩) (w.alloc (.cells #[.int .u8 0, .int .u8 b] 5)) :=
  conv_row [0, b] (w.alloc (.cells #[.int .u8 0, .int .u8 b] 5)) w.heap.size 2 2 5 (0, 0) rfl (heapN w _ _ rfl)
theorem load_b (w : World) (hT : Tabs KS HS w) (kp : Option Addr) (kn kc : Nat) (key : List Int) (hk : In8 w kp kn kc key) (hkn : kn ≤ 100) (t : ByteArray) (f : List UInt8) (ht : t = ⟨f.toArray⟩) (hf : f.length ≤ 140737488355328) (LP : List (List Int) × Int × Nat) (hLP : loadP key f = LP) :
    Calls Tryd.prog 37 #[.slice kp kn kc, .string t] w (LoadOut w key LP) := by
  subst ht; subst hLP; exact load_any w hT kp kn kc key hk hkn f hf
theorem loadOut_some {w w' : World} {key : List Int} {es : List (List Int)} {m : Int} {pl : Nat} {e : Ending} (h : LoadOut w key (es, m, pl) e w') (hm : m = 0 ∨ m = 3) :
    ∃ g ev, e = .returned (.tuple #[.pointer (some ⟨g, 0, none⟩), .int .i64 m, .int .i64 pl]) ∧ Below w.heap.size w w' ∧ LogAt w' w.heap.size g ev key es := by
  obtain ⟨v, h1, h2, h3, _⟩ := h
  obtain ⟨g, ev, h4, h5⟩ := h3 hm
  subst h4
  exact ⟨g, ev, h1, h2, h5⟩
/-- A root of a beginning. -/
theorem rootOut_take (E : List (List Int)) (j : Nat) (hj : j ≤ E.length) : rootOut (j : Int) E = (rootP (E.take j), 0) := by
  unfold rootOut
  rw [if_neg (by omega)]
  rfl
theorem take_next (es : List (List Int)) (k : Nat) (hk : k < (madeP es).length) : (madeP es).take k ++ [entryP es k] = (madeP es).take (k + 1) := by
  rw [← entryP_made es k hk, List.take_add_one, List.getD_eq_getElem?_getD, List.getElem?_eq_getElem hk]
  rfl
end Go.Proofs.YtcmjlhcpoajbkaaDoor
