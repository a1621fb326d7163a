import Derived.Test.YtcmjlhcpoajbkaaDoorQDs
import Derived.Test.YtcmjlhcpoajbkaaDoorQHalf
import Derived.Deep.OwnRows
import Derived.Deep.AppendLies
namespace Go.Proofs.YtcmjlhcpoajbkaaDoor
set_option maxRecDepth 10000
open Go.RowKit
/-- Of each knot above an entry, from the lowest up: is it on its left? -/
def leftsF : Nat → Nat → Nat → List Bool
  | 0, _, _ => []
  | f + 1, i, n => if n = 1 then [] else if i < halfN n then leftsF f i (halfN n) ++ [true] else leftsF f (i - halfN n) (n - halfN n) ++ [false]
def leftsP (i n : Nat) : List Bool := leftsF 63 i n
theorem leftsF_len : ∀ (f i n : Nat), (leftsF f i n).length ≤ f := by
  intro f
  induction f with
  | zero => intro i n; exact Nat.le_refl _
  | succ f ih =>
    intro i n
    unfold leftsF
    split
    · simp
    · split
      · rw [List.length_append]; have := ih i (halfN n); simp; omega
      · rw [List.length_append]; have := ih (i - halfN n) (n - halfN n); simp; omega
theorem leftsP_len (i n : Nat) : (leftsP i n).length ≤ 63 := leftsF_len _ _ _
theorem halfN_pow (n f : Nat) (h2 : 2 ≤ n) (hn : n ≤ 2 ^ (f + 1)) (h64 : n ≤ 2 ^ 64) : halfN n ≤ 2 ^ f := by
  obtain ⟨a, _, _⟩ := halfN_spec n h2 h64
  unfold halfN at *
  have : 2 ^ (Lib.bitLen (n - 1) - 1) < 2 ^ (f + 1) := by omega
  have := (Nat.pow_lt_pow_iff_right (by omega : 1 < 2)).1 this
  exact Nat.pow_le_pow_right (by omega) (by omega)
theorem owns_below {w w' : World} {B s n : Nat} {t : TypeId} {v : Value} {xs : List Value} (h : w.ownsRow B t s v n xs) (hb : Below w.heap.size w w') : w'.ownsRow B t s v n xs := by
  obtain ⟨h1, h2 | ⟨g, cap, cur, hv, hg, hh, r⟩⟩ := h
  · exact ⟨h1, .inl h2⟩
  · exact ⟨h1, .inr ⟨g, cap, cur, hv, hg, (hb.block g (row_lt hh)).trans hh, r⟩⟩
theorem owns_mono {w : World} {B B' s n : Nat} {t : TypeId} {v : Value} {xs : List Value} (h : w.ownsRow B t s v n xs) (hb : B' ≤ B) : w.ownsRow B' t s v n xs := by
  obtain ⟨h1, h2 | ⟨g, cap, cur, hv, hg, r⟩⟩ := h
  · exact ⟨h1, .inl h2⟩
  · exact ⟨h1, .inr ⟨g, cap, cur, hv, by omega, r⟩⟩
theorem owns_shape {w : World} {B s n : Nat} {t : TypeId} {v : Value} {xs : List Value} (h : w.ownsRow B t s v n xs) : ∃ p cap, v = .slice p n cap ∧ n ≤ cap ∧ cap ≤ 9223372036854775807 := by
  obtain ⟨h1, ⟨rfl, rfl⟩ | ⟨g, cap, cur, hv, hg, hh, hc, hm, r⟩⟩ := h
  · exact ⟨none, 0, rfl, Nat.le_refl _, by omega⟩
  · exact ⟨_, cap, hv, hc, by unfold maxLen at hm; omega⟩
theorem owns_get {w : World} {B n : Nat} {t : TypeId} {v : Value} {xs : List Value} (h : w.ownsRow B t 1 v n xs) (hn : 0 < n) :
    ∃ g cap, v = .slice (some ⟨g, 0, none⟩) n cap ∧ B ≤ g ∧ g < w.heap.size ∧ n ≤ cap ∧ cap ≤ 9223372036854775807 ∧ ∀ k, k < n → w.cell? ⟨g, k, none⟩ = xs[k]? := by
  obtain ⟨h1, ⟨rfl, rfl⟩ | ⟨g, cap, cur, hv, hg, hh, hc, hm, hs, ht⟩⟩ := h
  · omega
  · refine ⟨g, cap, hv, hg, row_lt hh, hc, by unfold maxLen at hm; omega, fun k hk => ?_⟩
    rw [cell_of_row _ _ _ _ _ _ hh, ← ht, List.getElem?_take, if_pos (by omega), Array.getElem?_toList]
theorem info154' : ∃ i, Tryd.prog.info? 154 = some i ∧ i.zero = some .nilFunc ∧ i.size = 1 ∧ i.bytes = 8 := ⟨_, rfl, by kernel_rfl, by kernel_rfl, by kernel_rfl⟩
theorem info4' : ∃ i, Tryd.prog.info? 4 = some i ∧ i.zero = some (.bool false) ∧ i.size = 1 ∧ i.bytes = 1 := ⟨_, rfl, by kernel_rfl, by kernel_rfl, by kernel_rfl⟩
section
variable {ops : Array Oper} {rest : List Oper} {o : Oper} {a : Act} {w : World} {Q : Exit → Act → World → Prop}
/-- One more behind a row of one's own, its elements a cell each. -/
theorem wpList_appOne (hgd : o.guard = none) (s x : Operand) (st t : TypeId) (z : Value) (bytes : Nat) (hst : Tryd.prog.underlying st = some (.slice t)) (hinfo : ∃ i, Tryd.prog.info? t = some i ∧ i.zero = some z ∧ i.size = 1 ∧ i.bytes = bytes) (hz1 : z.cells.size = 1) (hby8 : bytes ≤ 24)
    (ho : o.op = .call { callee := .builtin .append, args := #[s, x], argTypes := #[st, st] }) (B : Nat) (v : Value) (n : Nat) (xs : List Value) (hs : a.eval s = v)
    (hown : Hid (w.ownsRow B t 1 v n xs)) (g1 : Nat) (u : Value) (hx : a.eval x = .slice (some ⟨g1, 0, none⟩) 1 1) (h1 : w.heap[g1]? = some (.cells #[u] t)) (hu : u.oneCell' = true) (hn : n ≤ 1099511627776) (hB : B ≤ w.heap.size)
    (h : ∀ v' w', Hid (w'.ownsRow B t 1 v' (n + 1) (xs ++ [u])) → w.heap.size ≤ w'.heap.size → (∀ w0, Below B w0 w → Below B w0 w') → wpList Tryd.prog ops Q rest (a.put o.dst v') w') : wpList Tryd.prog ops Q (o :: rest) a w := by
  obtain ⟨i, hi, hz, hsz, hby⟩ := hinfo
  refine wpList_append_lies w hgd s x st ho B t i z 1 bytes hst hi hz hsz hby hz1 (by omega) v n xs hs hown.out ⟨g1, 0, none⟩ 1 1 [u] hx rfl (fun j u' hu' => ?_) (fun u' hu' => ?_) (by omega) (by unfold maxLen; omega) (by
    have : (n + 1) * bytes ≤ (n + 1) * 24 := Nat.mul_le_mul_left _ hby8
    omega) hB _ rfl ?_
  · have e : j = 0 := by
      have := (List.getElem?_eq_some_iff.1 hu').1
      simp at this; omega
    subst e
    rw [addr_add, cell_of_row _ _ _ _ _ _ h1]
    simpa using hu'
  · simp only [List.mem_singleton] at hu'; subst hu'; exact hu
  · intro g cap w' h2 h3 h4 h5
    refine h _ w' h2 h3.size (fun w0 hb => hb.grown h3 hB (fun k hk => ?_))
    rcases hown.out.2 with ⟨rfl, _⟩ | ⟨g', c', cur, rfl, hg', _⟩
    · cases hk
    · simp only [Value.ownBlock, Option.some.injEq] at hk; omega
end
theorem leftsF_one (f i : Nat) : leftsF f i 1 = [] := by cases f <;> simp [leftsF]
set_option maxHeartbeats 2000000 in
theorem onLeft_any : ∀ (f i n : Nat) (w : World), i < n → n ≤ 2 ^ f → f ≤ 63 → n ≤ 9223372036854775807 →
    Calls Tryd.prog 115 #[.int .i64 i, .int .i64 n] w fun e w' => ∃ v, e = .returned v ∧ w'.ownsRow w.heap.size 4 1 v (leftsF f i n).length ((leftsF f i n).map Value.bool) ∧ Below w.heap.size w w' := by
  intro f
  induction f with
  | zero =>
    intro i n w hi hn hf hb
    have e1 : n = 1 := by simp at hn; omega
    subst e1
    go_enter Tryd.func115, Tryd.ntmps115
    go_wp2_with fail
    go_ret
    exact ⟨_, rfl, ⟨rfl, .inl ⟨rfl, rfl⟩⟩, Below.refl _ _⟩
  | succ f ih =>
    intro i n w hi hn hf hb
    have hq : ((n : Int) == 1) = decide (n = 1) := by
      by_cases h : n = 1
      · subst h; rfl
      · have : ¬ ((n : Int) = 1) := by omega
        simp [h, this]
    by_cases h1 : n = 1
    · subst h1
      have HZ : Hid (leftsF (f + 1) i 1 = []) := leftsF_one _ _
      go_enter Tryd.func115, Tryd.ntmps115
      go_wp2_with fail
      go_ret
      exact ⟨_, rfl, by rw [HZ.out]; exact ⟨rfl, .inl ⟨rfl, rfl⟩⟩, Below.refl _ _⟩
    · rw [decide_eq_false h1] at hq
      obtain ⟨hk1, hk2, hk3⟩ := halfN_spec n (by omega) (by omega)
      have hk4 := halfN_pow n f (by omega) hn (by omega)
      have HE : Hid (leftsF (f + 1) i n = if i < halfN n then leftsF f i (halfN n) ++ [true] else leftsF f (i - halfN n) (n - halfN n) ++ [false]) := by
        show leftsF (f + 1) i n = _
        rw [leftsF, if_neg h1]
      go_enter Tryd.func115, Tryd.ntmps115
      go_wp2_with fail
      refine (powerBelow_any n w (by omega) (by omega)).mono ?_
      rintro e w1 ⟨rfl, rfl⟩
      generalize halfN n = k at *
      by_cases hik : i < k
      · have hik' : (i : Int) < k := by omega
        go_wp2_with fail
        refine (ih i k w1 hik hk4 (by omega) (by omega)).mono ?_
        rintro e w2 ⟨v, rfl, hO, b2⟩
        have hl := leftsF_len f i k
        have HX : Hid (leftsF (f + 1) i n = leftsF f i k ++ [true]) := by show _ = _; rw [HE.out, if_pos hik]
        have hs := b2.size
        have HO : Hid (w2.ownsRow w1.heap.size 4 1 v (leftsF f i k).length ((leftsF f i k).map Value.bool)) := hO
        clear HE hO
        generalize leftsF f i k = A at *
        go_wp2_with (first
          | (at_builtin
             refine wpList_appOne rfl (.tmp 15) (.tmp 16) 171 4 (.bool false) 1 Tryd.underlying171 info4' rfl (by omega) rfl w1.heap.size v A.length _ rfl (owns_below HO.out ((Below.refl _ _).alloc (Nat.le_refl _) _)) w2.heap.size (.bool true) rfl (heapN w2 _ _ rfl) rfl (by omega) (by simp; omega) ?_
             intro v2 w4 ho4 hs4 hb4
             refine hideGoal ?_))
        have B4 : Hid (Below w1.heap.size w1 w4) := hb4 w1 (b2.alloc hs _)
        clear hb4 HO b2
        refine openGoal ?_
        go_wp2_with fail
        go_ret
        refine ⟨_, rfl, ?_, B4.out⟩
        rw [HX.out, List.length_append, List.map_append]
        exact ho4.out
      · have hik' : ¬ (i : Int) < k := by omega
        have ei : ((i : Int) - k) = ((i - k : Nat) : Int) := by omega
        have en : ((n : Int) - k) = ((n - k : Nat) : Int) := by omega
        go_wp2_with fail
        refine (ih (i - k) (n - k) w1 (by omega) (by omega) (by omega) (by omega)).mono ?_
        rintro e w2 ⟨v, rfl, hO, b2⟩
        have hl := leftsF_len f (i - k) (n - k)
        have HX : Hid (leftsF (f + 1) i n = leftsF f (i - k) (n - k) ++ [false]) := by show _ = _; rw [HE.out, if_neg hik]
        have hs := b2.size
        have HO : Hid (w2.ownsRow w1.heap.size 4 1 v (leftsF f (i - k) (n - k)).length ((leftsF f (i - k) (n - k)).map Value.bool)) := hO
        clear HE hO
        generalize leftsF f (i - k) (n - k) = A at *
        go_wp2_with (first
          | (at_builtin
             refine wpList_appOne rfl (.tmp 24) (.tmp 25) 171 4 (.bool false) 1 Tryd.underlying171 info4' rfl (by omega) rfl w1.heap.size v A.length _ rfl (owns_below HO.out ((Below.refl _ _).alloc (Nat.le_refl _) _)) w2.heap.size (.bool false) rfl (heapN w2 _ _ rfl) rfl (by omega) (by simp; omega) ?_
             intro v2 w4 ho4 hs4 hb4
             refine hideGoal ?_))
        have B4 : Hid (Below w1.heap.size w1 w4) := hb4 w1 (b2.alloc hs _)
        clear hb4 HO b2
        refine openGoal ?_
        go_wp2_with fail
        go_ret
        refine ⟨_, rfl, ?_, B4.out⟩
        rw [HX.out, List.length_append, List.map_append]
        exact ho4.out
end Go.Proofs.YtcmjlhcpoajbkaaDoor
namespace Go.Proofs.YtcmjlhcpoajbkaaDoor
set_option maxRecDepth 10000
open Go.RowKit
/-- Where a path leads, from the root down. -/
def climbR (e : List Int) : List (List Int) → Nat → Nat → List Int × Bool
  | [], _, n => if n = 1 then (leafP e, true) else (Z32, false)
  | top :: rest, i, n => if n = 1 then (leafP e, false) else if i < halfN n then (knotP (climbR e rest i (halfN n)).1 top, (climbR e rest i (halfN n)).2) else (knotP top (climbR e rest (i - halfN n) (n - halfN n)).1, (climbR e rest (i - halfN n) (n - halfN n)).2)
theorem Z32_bytes : Bytes Z32 := .of fun x hx => by
  have := List.eq_of_mem_replicate hx
  omega
theorem climbR_ok (e : List Int) (l : List (List Int)) (i n : Nat) : (climbR e l i n).1.length = 32 ∧ Bytes (climbR e l i n).1 := by
  cases l with
  | nil => unfold climbR; split
           · exact ⟨leafP_len _, leafP_bytes _⟩
           · exact ⟨rfl, Z32_bytes⟩
  | cons t r => unfold climbR; split
                · exact ⟨leafP_len _, leafP_bytes _⟩
                · split
                  · exact ⟨knotP_len _ _, knotP_bytes _ _⟩
                  · exact ⟨knotP_len _ _, knotP_bytes _ _⟩
theorem rev_last (ds : List (List Int)) (m : Nat) (h : ds.length = m + 1) : ds.reverse = ds.getD m [] :: (ds.take m).reverse := by
  have e : ds = ds.take m ++ [ds.getD m []] := by
    conv => lhs; rw [← List.take_append_drop m ds]
    congr 1
    rw [List.drop_eq_getElem_cons (by omega), List.drop_of_length_le (by omega), List.getD_eq_getElem?_getD, List.getElem?_eq_getElem (by omega)]
    rfl
  conv => lhs; rw [e]
  rw [List.reverse_append]
  rfl
theorem eq1 (n : Nat) : ((n : Int) == 1) = decide (n = 1) := by
  by_cases h : n = 1
  · subst h; rfl
  · have : ¬ ((n : Int) = 1) := by omega
    simp [h, this]
/-- The k-th text on the way up. -/
def textAt (e : List Int) (ls : List Bool) (ds : List (List Int)) : Nat → List Int
  | 0 => 0 :: e
  | k + 1 => if ls.getD k false = true then 1 :: (hP (textAt e ls ds k) ++ ds.getD k []) else 1 :: (ds.getD k [] ++ hP (textAt e ls ds k))
theorem textAt_front (e : List Int) (ls ls' : List Bool) (ds ds' : List (List Int)) : ∀ k, k ≤ ls.length → k ≤ ds.length → textAt e (ls ++ ls') (ds ++ ds') k = textAt e ls ds k := by
  intro k
  induction k with
  | zero => intro _ _; rfl
  | succ k ih =>
    intro h1 h2
    have e1 : (ls ++ ls').getD k false = ls.getD k false := by simp [List.getD, List.getElem?_append_left (show k < ls.length by omega)]
    have e2 : (ds ++ ds').getD k [] = ds.getD k [] := by simp [List.getD, List.getElem?_append_left (show k < ds.length by omega)]
    simp only [textAt, e1, e2, ih (by omega) (by omega)]
theorem climbR_false (e : List Int) (l : List (List Int)) (i : Nat) (h : l ≠ []) : (climbR e l i 1).2 = false := by
  cases l with
  | nil => exact absurd rfl h
  | cons t r => simp [climbR]
/-- From the root down, and from the leaf up: the same. -/
theorem climb_up (e : List Int) : ∀ (f i n : Nat) (ds : List (List Int)), i < n → n ≤ 2 ^ f → f ≤ 63 →
    (climbR e ds.reverse i n).2 = decide (ds.length = (leftsF f i n).length) ∧ (ds.length = (leftsF f i n).length → (climbR e ds.reverse i n).1 = hP (textAt e (leftsF f i n) ds ds.length)) := by
  intro f
  induction f with
  | zero =>
    intro i n ds hi hn hf
    have e1 : n = 1 := by simp at hn; omega
    subst e1
    rcases Nat.eq_zero_or_pos ds.length with h0 | h0
    · have := List.length_eq_zero_iff.1 h0
      subst this
      exact ⟨rfl, fun _ => rfl⟩
    · have hne : ds.reverse ≠ [] := by simp; intro h; simp [h] at h0
      refine ⟨?_, fun h => ?_⟩
      · rw [climbR_false e _ i hne, leftsF_one]; simp; intro h; simp [h] at h0
      · rw [leftsF_one] at h; simp at h; simp [h] at h0
  | succ f ih =>
    intro i n ds hi hn hf
    by_cases h1 : n = 1
    · subst h1
      rcases Nat.eq_zero_or_pos ds.length with h0 | h0
      · have := List.length_eq_zero_iff.1 h0
        subst this
        rw [leftsF_one]
        exact ⟨rfl, fun _ => rfl⟩
      · have hne : ds.reverse ≠ [] := by simp; intro h; simp [h] at h0
        refine ⟨?_, fun h => ?_⟩
        · rw [climbR_false e _ i hne, leftsF_one]; simp; intro h; simp [h] at h0
        · rw [leftsF_one] at h; simp at h; simp [h] at h0
    · have hp63 : (2:Nat) ^ (f + 1) ≤ 2 ^ 63 := Nat.pow_le_pow_right (by omega) hf
      obtain ⟨hk1, hk2, hk3⟩ := halfN_spec n (by omega) (by omega)
      have hk4 := halfN_pow n f (by omega) hn (by omega)
      rcases Nat.eq_zero_or_pos ds.length with h0 | h0
      · have := List.length_eq_zero_iff.1 h0
        subst this
        have hl : (leftsF (f + 1) i n).length ≠ 0 := by
          rw [leftsF, if_neg h1]; split <;> simp
        refine ⟨?_, fun h => absurd h.symm hl⟩
        show (climbR e [] i n).2 = _
        simp only [climbR, if_neg h1]
        rw [decide_eq_false (fun h => hl h.symm)]
      · obtain ⟨m, hm⟩ : ∃ m, ds.length = m + 1 := ⟨ds.length - 1, by omega⟩
        have hrev := rev_last ds m hm
        have hsplit : ds = ds.take m ++ [ds.getD m []] := by
          have := congrArg List.reverse hrev
          simpa using this
        have hml : (ds.take m).length = m := by rw [List.length_take]; omega
        rw [hrev]
        simp only [climbR, if_neg h1]
        by_cases hik : i < halfN n
        · obtain ⟨A, Bq⟩ := ih i (halfN n) (ds.take m) hik hk4 (by omega)
          have hL : leftsF (f + 1) i n = leftsF f i (halfN n) ++ [true] := by rw [leftsF, if_neg h1, if_pos hik]
          rw [if_pos hik, hL, hm]
          rw [hml] at A Bq
          refine ⟨by rw [A]; simp, fun h => ?_⟩
          have h' : m = (leftsF f i (halfN n)).length := by simpa using h
          show knotP _ _ = _
          rw [Bq h']
          conv => rhs; rw [hsplit]
          have eL : (leftsF f i (halfN n) ++ [true]).getD m false = true := by rw [h']; simp [List.getD]
          have eD : (ds.take m ++ [ds.getD m []]).getD m [] = ds.getD m [] := by
            rw [List.getD_eq_getElem?_getD, List.getElem?_append_right (by omega), hml, Nat.sub_self]; rfl
          simp only [textAt, eL, if_true, eD]
          rw [textAt_front e _ _ _ _ m (by omega) (by omega)]
          rfl
        · obtain ⟨A, Bq⟩ := ih (i - halfN n) (n - halfN n) (ds.take m) (by omega) (by omega) (by omega)
          have hL : leftsF (f + 1) i n = leftsF f (i - halfN n) (n - halfN n) ++ [false] := by rw [leftsF, if_neg h1, if_neg hik]
          rw [if_neg hik, hL, hm]
          rw [hml] at A Bq
          refine ⟨by rw [A]; simp, fun h => ?_⟩
          have h' : m = (leftsF f (i - halfN n) (n - halfN n)).length := by simpa using h
          show knotP _ _ = _
          rw [Bq h']
          conv => rhs; rw [hsplit]
          have eL : (leftsF f (i - halfN n) (n - halfN n) ++ [false]).getD m false = false := by rw [h']; simp [List.getD]
          have eD : (ds.take m ++ [ds.getD m []]).getD m [] = ds.getD m [] := by
            rw [List.getD_eq_getElem?_getD, List.getElem?_append_right (by omega), hml, Nat.sub_self]; rfl
          simp only [textAt, eL, Bool.false_eq_true, if_false, eD]
          rw [textAt_front e _ _ _ _ m (by omega) (by omega)]
          rfl
end Go.Proofs.YtcmjlhcpoajbkaaDoor
namespace Go.Proofs.YtcmjlhcpoajbkaaDoor
set_option maxRecDepth 10000
set_option linter.unusedSimpArgs false
open Go.RowKit
theorem At8.below {w w' : World} {ad : Addr} {D : List Int} (h : At8 w ad D) (hb : Below w.heap.size w w') : At8 w' ad D := fun j hj => by
  rw [hb.cell (block_lt_of_cell (h j hj))]; exact h j hj
theorem At8.other {w U : World} {ad : Addr} {D : List Int} {g : Nat} {cs : Array Value} {t : TypeId} (h : At8 w ad D) (hU : Stored w U g cs t) (hne : ad.block ≠ g) : At8 U ad D := fun j hj => by
  have e : (ad.add j).block = ad.block := addr_block _ _
  rw [World.cell?_of_block (w := w) (hU.other _ (by rw [e]; exact hne))]
  exact h j hj
set_option maxHeartbeats 4000000 in
theorem refClimb_any (l : List UInt8) (e : List Int) (he : toI l = e) (hle : l.length ≤ 140737488355400) : ∀ (m i n : Nat) (p : Option Addr) (cap : Nat) (ds : List (List Int)) (w : World), D32 w p m cap ds → i < n → n ≤ 9223372036854775807 →
    Calls Tryd.prog 63 #[.string ⟨l.toArray⟩, .int .i64 i, .int .i64 n, .slice p m cap] w fun ex w' => ex = .returned (.tuple #[.agg (A8 (climbR e ds.reverse i n).1), .bool (climbR e ds.reverse i n).2]) ∧ Below w.heap.size w w' := by
  intro m
  induction m with
  | zero =>
    intro i n p cap ds w hD hi hn
    have hb0 : Below w.heap.size w (w.alloc (.cells Z8x32 25)) := (Below.refl _ _).alloc (Nat.le_refl _) _
    have d0 : Hid (Dg (w.alloc (.cells Z8x32 25)) w.heap.size Z32) := Dg.new w _ rfl
    have hds : ds = [] := List.length_eq_zero_iff.1 hD.len
    subst hds
    have hq := eq1 n
    by_cases h1 : n = 1
    · have HE : Hid (climbR e ([] : List (List Int)).reverse i n = (leafP e, true)) := by
        show climbR e [] i n = _
        simp [climbR, h1]
      rw [decide_eq_true h1] at hq
      go_enter Tryd.func63, Tryd.ntmps63
      go_wp2_with fail
      refine (refLeaf_any _ l e he hle).mono ?_
      rintro ex w1 ⟨rfl, b1⟩
      have d1 : Hid (Dg w1 w.heap.size Z32) := d0.out.next b1
      have B1 : Below w.heap.size w w1 := hb0.trans (b1.mono (by simp))
      have hl := leafP_len e
      clear b1 d0
      obtain ⟨D, hD'⟩ : ∃ D, leafP e = D := ⟨_, rfl⟩
      rw [hD'] at hl HE ⊢
      clear hD'
      go_wp2_with (first
        | (with_reducible refine atStore 25 ?_
           refine store_D rfl _ _ rfl w.heap.size D rfl rfl Z32 d1.out hl ?_
           intro U hU
           refine hideGoal ?_))
      have dU : Hid (Dg U w.heap.size D) := hU.dg hl
      have bU : Hid (Below w.heap.size w U) := hU.below _ _ (Nat.le_refl _) B1
      clear hU d1 B1
      refine openGoal ?_
      go_wp2_with fail
      exact bodyPost_ret (results_DT rfl _ _ w.heap.size D rfl dU.out) rfl ⟨by rw [HE.out]; rfl, bU.out⟩
    · have HE : Hid (climbR e ([] : List (List Int)).reverse i n = (Z32, false)) := by
        show climbR e [] i n = _
        simp [climbR, h1]
      rw [decide_eq_false h1] at hq
      go_enter Tryd.func63, Tryd.ntmps63
      go_wp2_with (first
        | (with_reducible refine atStore 25 ?_
           refine store_D rfl _ _ rfl w.heap.size Z32 rfl rfl Z32 d0.out rfl ?_
           intro X hX
           refine hideGoal ?_))
      have dX : Hid (Dg X w.heap.size Z32) := hX.dg rfl
      have bX : Hid (Below w.heap.size w X) := hX.below _ _ (Nat.le_refl _) hb0
      clear hX d0
      refine openGoal ?_
      go_wp2_with fail
      exact bodyPost_ret (results_DT rfl _ _ w.heap.size Z32 rfl dX.out) rfl ⟨by rw [HE.out]; rfl, bX.out⟩
  | succ m ih =>
    intro i n p cap ds w hD hi hn
    have hb0 : Below w.heap.size w (w.alloc (.cells Z8x32 25)) := (Below.refl _ _).alloc (Nat.le_refl _) _
    have d0 : Hid (Dg (w.alloc (.cells Z8x32 25)) w.heap.size Z32) := Dg.new w _ rfl
    have hrev := rev_last ds m hD.len
    obtain ⟨ad, rfl, hadl, _⟩ := hD.lies (by omega)
    have hq := eq1 n
    by_cases h1 : n = 1
    · have HE : Hid (climbR e ds.reverse i n = (leafP e, false)) := by
        show climbR e ds.reverse i n = _
        rw [hrev]; simp [climbR, h1]
      rw [decide_eq_true h1] at hq
      have hm0 : ¬ ((m : Int) + 1 = 0) := by omega
      go_enter Tryd.func63, Tryd.ntmps63
      go_wp2_with fail
      refine (refLeaf_any _ l e he hle).mono ?_
      rintro ex w1 ⟨rfl, b1⟩
      have d1 : Hid (Dg w1 w.heap.size Z32) := d0.out.next b1
      have B1 : Below w.heap.size w w1 := hb0.trans (b1.mono (by simp))
      have hl := leafP_len e
      clear b1 d0
      obtain ⟨D, hD'⟩ : ∃ D, leafP e = D := ⟨_, rfl⟩
      rw [hD'] at hl HE ⊢
      clear hD'
      go_wp2_with (first
        | (with_reducible refine atStore 25 ?_
           refine store_D rfl _ _ rfl w.heap.size D rfl rfl Z32 d1.out hl ?_
           intro U hU
           refine hideGoal ?_))
      have dU : Hid (Dg U w.heap.size D) := hU.dg hl
      have bU : Hid (Below w.heap.size w U) := hU.below _ _ (Nat.le_refl _) B1
      clear hU d1 B1
      refine openGoal ?_
      go_wp2_with fail
      exact bodyPost_ret (results_DT rfl _ _ w.heap.size D rfl dU.out) rfl ⟨by rw [HE.out]; simp [hm0], bU.out⟩
    · rw [decide_eq_false h1] at hq
      obtain ⟨hk1, hk2, hk3⟩ := halfN_spec n (by omega) (by omega)
      have HE : Hid (climbR e ds.reverse i n = if i < halfN n then (knotP (climbR e (ds.take m).reverse i (halfN n)).1 (ds.getD m []), (climbR e (ds.take m).reverse i (halfN n)).2) else (knotP (ds.getD m []) (climbR e (ds.take m).reverse (i - halfN n) (n - halfN n)).1, (climbR e (ds.take m).reverse (i - halfN n) (n - halfN n)).2)) := by
        show climbR e ds.reverse i n = _
        rw [hrev]; simp only [climbR, if_neg h1]
      have hpb := fun W => half_any n W (by omega) hn
      obtain ⟨hTl, hTb⟩ := hD.get m (by omega)
      have hA : Hid (At8 w (ad.add (m * 32)) (ds.getD m [])) := hD.at m (by omega)
      have hf := hD.fits
      have hr := hD.room
      have hDf := hD.front m (by omega)
      have hsl : ∀ W : World, (Instr.sliceAt 31 (.slice (some ad) (m + 1) cap) none (some (.int .i64 m)) none).run Tryd.prog W = .ok (.slice (some ad) m cap) W := fun W => slice_front ad (m + 1) cap m (by omega) hf W
      have hia : ∀ W : World, (Instr.indexAt 31 (.slice (some ad) (m + 1) cap) (.int .i64 m)).run Tryd.prog W = .ok (.pointer (some (ad.add (m * 32)))) W := fun W => index_at ad (m + 1) cap m (by omega) W
      have hab : (ad.add (m * 32)).block = ad.block := addr_block _ _
      clear hD
      go_enter Tryd.func63, Tryd.ntmps63
      go_wp2_with fail
      refine (hpb _).mono ?_
      rintro ex w2 ⟨rfl, rfl⟩
      clear hpb
      generalize halfN n = k at *
      generalize ds.getD m [] = T at *
      generalize ad.add (m * 32) = bd at *
      by_cases hik : i < k
      · have hik' : (i : Int) < k := by omega
        rw [if_pos hik] at HE
        go_wp2_with fail
        refine (ih i k (some ad) cap (ds.take m) _ (hDf.below hb0) hik (by omega)).mono ?_
        rintro ex w3 ⟨rfl, b3⟩
        obtain ⟨hcl, hcb⟩ := climbR_ok e (ds.take m).reverse i k
        have d3 : Hid (Dg w3 w.heap.size Z32) := d0.out.next b3
        have B3 : Below w.heap.size w w3 := hb0.trans (b3.mono (by simp))
        have l3 := d3.out.lt
        have n3 : Hid (Dg (w3.alloc (.cells Z8x32 25)) w3.heap.size Z32) := Dg.new w3 _ rfl
        clear b3 d0
        generalize climbR e (ds.take m).reverse i k = C at *
        obtain ⟨C, ok⟩ := C
        go_wp2_with (first
          | (with_reducible refine atStore 25 ?_
             refine store_D rfl _ _ rfl w3.heap.size C rfl rfl Z32 n3.out hcl ?_
             intro X hX
             refine hideGoal ?_))
        have dX : Hid (Dg X w.heap.size Z32) := (d3.out.alloc _).other hX (by omega)
        have cX : Dg X.drew w3.heap.size C := ⟨hcl, hX.here⟩
        have bX : Below w.heap.size w X := hX.below _ _ (by omega) (B3.alloc (by omega) _)
        have aX : At8 X.drew bd T := hA.out.below bX.drew
        clear hX d3 n3 B3
        have l3' : w.heap.size < w3.heap.size := l3
        generalize w3.heap.size = g3 at *
        refine openGoal ?_
        go_wp2_with fail
        have SX := And.intro cX aX
        refine wp_region_noPanic ?_
        refine wp_region_held (S := fun W => Dg W g3 C ∧ At8 W bd T) follows ?_
        refine wpAnyH_take (i := 0) (v := .agg (A8 C)) rfl (by kernel_rfl) (by kernel_rfl) (by kernel_rfl) (fun _ _ _ h => h) (yields_D rfl (.tmp 12) rfl g3 rfl C hcl (fun W hW => hW.1)) SX ?_
        simp only [Act.put, List.getElem_toArray, List.getElem_cons_zero, List.getElem_cons_succ, List.setIfInBounds_toArray, List.set_cons_zero, List.set_cons_succ]
        refine wpAnyH_take (i := 1) (v := .slice (some ad) (m + 1) cap) rfl (by kernel_rfl) (by kernel_rfl) (by kernel_rfl) (fun _ _ _ h => h) (.inl ⟨rfl, fun W _ => by go_simp⟩) SX ?_
        simp only [Act.put, List.getElem_toArray, List.getElem_cons_zero, List.getElem_cons_succ, List.setIfInBounds_toArray, List.set_cons_zero, List.set_cons_succ]
        refine wpAnyH_take (i := 2) (v := .int .i64 m) rfl (by kernel_rfl) (by kernel_rfl) (by kernel_rfl) (fun _ _ _ h => h) (.inl ⟨rfl, fun W _ => by go_simp⟩) SX ?_
        simp only [Act.put, List.getElem_toArray, List.getElem_cons_zero, List.getElem_cons_succ, List.setIfInBounds_toArray, List.set_cons_zero, List.set_cons_succ]
        refine wpAnyH_take (i := 3) (v := .pointer (some bd)) rfl (by kernel_rfl) (by kernel_rfl) (by kernel_rfl) (fun _ _ _ h => h) (.inl ⟨rfl, fun W _ => by have e := hia W; go_simp⟩) SX ?_
        simp only [Act.put, List.getElem_toArray, List.getElem_cons_zero, List.getElem_cons_succ, List.setIfInBounds_toArray, List.set_cons_zero, List.set_cons_succ]
        refine wpAnyH_take (i := 4) (v := .agg (A8 T)) rfl (by kernel_rfl) (by kernel_rfl) (by kernel_rfl) (fun _ _ _ h => h) (yields_at rfl (.tmp 47) rfl bd rfl T hTl (fun W hW => hW.2)) SX ?_
        simp only [Act.put, List.getElem_toArray, List.getElem_cons_zero, List.getElem_cons_succ, List.setIfInBounds_toArray, List.set_cons_zero, List.set_cons_succ]
        refine wpAnyH_take (i := 6) (v := .bool ok) rfl (by kernel_rfl) (by kernel_rfl) (by kernel_rfl) (fun _ _ _ h => h) (.inl ⟨rfl, fun W _ => by go_simp⟩) SX ?_
        simp only [Act.put, List.getElem_toArray, List.getElem_cons_zero, List.getElem_cons_succ, List.setIfInBounds_toArray, List.set_cons_zero, List.set_cons_succ]
        refine relist #[true, true, true, true, true, false, true, false, false] (by kernel_rfl) ?_
        refine any_one (i := 5) (by kernel_rfl) ?_
        refine wpOp_call (f := 96) (args := #[.agg (A8 C), .agg (A8 T)]) rfl rfl (by go_simp) ?_
        refine (refKnot_any _ C T hcl hTl hcb hTb).mono ?_
        rintro ex w4 ⟨rfl, b4⟩
        have b4' : Below X.heap.size X w4 := ((Below.refl _ _).drew).trans b4
        have S4 := And.intro (cX.below b4 cX.lt) (aX.below b4)
        have d4 : Dg w4 w.heap.size Z32 := dX.out.next b4'
        have B4 : Below w.heap.size w w4 := bX.trans (b4'.mono bX.size)
        have hkl := knotP_len C T
        obtain ⟨D, hD'⟩ : ∃ D, knotP C T = D := ⟨_, rfl⟩
        rw [hD'] at hkl HE ⊢
        clear hD'
        refine ⟨_, rfl, S4, ?_⟩
        simp only [Act.put, List.getElem_toArray, List.getElem_cons_zero, List.getElem_cons_succ, List.setIfInBounds_toArray, List.set_cons_zero, List.set_cons_succ]
        refine relist #[true, true, true, true, true, true, true, false, false] (by kernel_rfl) ?_
        refine any_one (i := 7) (by kernel_rfl) ?_
        refine wpOp_store_D rfl rfl (.tmp 8) (.tmp 49) rfl w.heap.size D rfl rfl Z32 d4 hkl ?_
        intro Y hY
        have S5 := And.intro (S4.1.other hY (by omega)) (S4.2.other hY (by omega))
        refine ⟨S5, ?_⟩
        simp only [Act.put, List.getElem_toArray, List.getElem_cons_zero, List.getElem_cons_succ, List.setIfInBounds_toArray, List.set_cons_zero, List.set_cons_succ]
        refine wpAnyH_take (i := 8) (v := .bool ok) rfl (by kernel_rfl) (by kernel_rfl) (by kernel_rfl) (fun _ _ _ h => h) (.inl ⟨rfl, fun W _ => by go_simp⟩) S5 ?_
        simp only [Act.put, List.getElem_toArray, List.getElem_cons_zero, List.getElem_cons_succ, List.setIfInBounds_toArray, List.set_cons_zero, List.set_cons_succ]
        refine wpAnyH_done (by kernel_rfl) ?_ _
        refine NoPanic.normal ?_
        have dY : Hid (Dg Y w.heap.size D) := hY.dg hkl
        have bY : Hid (Below w.heap.size w Y) := hY.below _ _ (Nat.le_refl _) B4
        clear hY d4 B4 S4 S5 SX b4 b4' aX cX hia hsl
        go_wp2_with fail
        exact bodyPost_ret (results_DT rfl _ _ w.heap.size D rfl dY.out) rfl ⟨by rw [HE.out]; rfl, bY.out⟩
      · have hik' : ¬ (i : Int) < k := by omega
        rw [if_neg hik] at HE
        have ei : ((i : Int) - k) = ((i - k : Nat) : Int) := by omega
        have en : ((n : Int) - k) = ((n - k : Nat) : Int) := by omega
        go_wp2_with fail
        refine (ih (i - k) (n - k) (some ad) cap (ds.take m) _ (hDf.below hb0) (by omega) (by omega)).mono ?_
        rintro ex w3 ⟨rfl, b3⟩
        obtain ⟨hcl, hcb⟩ := climbR_ok e (ds.take m).reverse (i - k) (n - k)
        have d3 : Hid (Dg w3 w.heap.size Z32) := d0.out.next b3
        have B3 : Below w.heap.size w w3 := hb0.trans (b3.mono (by simp))
        have l3 := d3.out.lt
        have n3 : Hid (Dg (w3.alloc (.cells Z8x32 25)) w3.heap.size Z32) := Dg.new w3 _ rfl
        clear b3 d0
        generalize climbR e (ds.take m).reverse (i - k) (n - k) = C at *
        obtain ⟨C, ok⟩ := C
        go_wp2_with (first
          | (with_reducible refine atStore 25 ?_
             refine store_D rfl _ _ rfl w3.heap.size C rfl rfl Z32 n3.out hcl ?_
             intro X hX
             refine hideGoal ?_))
        have dX : Hid (Dg X w.heap.size Z32) := (d3.out.alloc _).other hX (by omega)
        have cX : Dg X.drew w3.heap.size C := ⟨hcl, hX.here⟩
        have bX : Below w.heap.size w X := hX.below _ _ (by omega) (B3.alloc (by omega) _)
        have aX : At8 X.drew bd T := hA.out.below bX.drew
        clear hX d3 n3 B3
        have l3' : w.heap.size < w3.heap.size := l3
        generalize w3.heap.size = g3 at *
        refine openGoal ?_
        go_wp2_with fail
        have SX := And.intro cX aX
        refine wp_region_noPanic ?_
        refine wp_region_held (S := fun W => Dg W g3 C ∧ At8 W bd T) follows ?_
        refine wpAnyH_take (i := 0) (v := .slice (some ad) (m + 1) cap) rfl (by kernel_rfl) (by kernel_rfl) (by kernel_rfl) (fun _ _ _ h => h) (.inl ⟨rfl, fun W _ => by go_simp⟩) SX ?_
        simp only [Act.put, List.getElem_toArray, List.getElem_cons_zero, List.getElem_cons_succ, List.setIfInBounds_toArray, List.set_cons_zero, List.set_cons_succ]
        refine wpAnyH_take (i := 1) (v := .int .i64 m) rfl (by kernel_rfl) (by kernel_rfl) (by kernel_rfl) (fun _ _ _ h => h) (.inl ⟨rfl, fun W _ => by go_simp⟩) SX ?_
        simp only [Act.put, List.getElem_toArray, List.getElem_cons_zero, List.getElem_cons_succ, List.setIfInBounds_toArray, List.set_cons_zero, List.set_cons_succ]
        refine wpAnyH_take (i := 2) (v := .pointer (some bd)) rfl (by kernel_rfl) (by kernel_rfl) (by kernel_rfl) (fun _ _ _ h => h) (.inl ⟨rfl, fun W _ => by have e := hia W; go_simp⟩) SX ?_
        simp only [Act.put, List.getElem_toArray, List.getElem_cons_zero, List.getElem_cons_succ, List.setIfInBounds_toArray, List.set_cons_zero, List.set_cons_succ]
        refine wpAnyH_take (i := 3) (v := .agg (A8 T)) rfl (by kernel_rfl) (by kernel_rfl) (by kernel_rfl) (fun _ _ _ h => h) (yields_at rfl (.tmp 67) rfl bd rfl T hTl (fun W hW => hW.2)) SX ?_
        simp only [Act.put, List.getElem_toArray, List.getElem_cons_zero, List.getElem_cons_succ, List.setIfInBounds_toArray, List.set_cons_zero, List.set_cons_succ]
        refine wpAnyH_take (i := 4) (v := .agg (A8 C)) rfl (by kernel_rfl) (by kernel_rfl) (by kernel_rfl) (fun _ _ _ h => h) (yields_D rfl (.tmp 14) rfl g3 rfl C hcl (fun W hW => hW.1)) SX ?_
        simp only [Act.put, List.getElem_toArray, List.getElem_cons_zero, List.getElem_cons_succ, List.setIfInBounds_toArray, List.set_cons_zero, List.set_cons_succ]
        refine wpAnyH_take (i := 6) (v := .bool ok) rfl (by kernel_rfl) (by kernel_rfl) (by kernel_rfl) (fun _ _ _ h => h) (.inl ⟨rfl, fun W _ => by go_simp⟩) SX ?_
        simp only [Act.put, List.getElem_toArray, List.getElem_cons_zero, List.getElem_cons_succ, List.setIfInBounds_toArray, List.set_cons_zero, List.set_cons_succ]
        refine relist #[true, true, true, true, true, false, true, false, false] (by kernel_rfl) ?_
        refine any_one (i := 5) (by kernel_rfl) ?_
        refine wpOp_call (f := 96) (args := #[.agg (A8 T), .agg (A8 C)]) rfl rfl (by go_simp) ?_
        refine (refKnot_any _ T C hTl hcl hTb hcb).mono ?_
        rintro ex w4 ⟨rfl, b4⟩
        have b4' : Below X.heap.size X w4 := ((Below.refl _ _).drew).trans b4
        have S4 := And.intro (cX.below b4 cX.lt) (aX.below b4)
        have d4 : Dg w4 w.heap.size Z32 := dX.out.next b4'
        have B4 : Below w.heap.size w w4 := bX.trans (b4'.mono bX.size)
        have hkl := knotP_len T C
        obtain ⟨D, hD'⟩ : ∃ D, knotP T C = D := ⟨_, rfl⟩
        rw [hD'] at hkl HE ⊢
        clear hD'
        refine ⟨_, rfl, S4, ?_⟩
        simp only [Act.put, List.getElem_toArray, List.getElem_cons_zero, List.getElem_cons_succ, List.setIfInBounds_toArray, List.set_cons_zero, List.set_cons_succ]
        refine relist #[true, true, true, true, true, true, true, false, false] (by kernel_rfl) ?_
        refine any_one (i := 7) (by kernel_rfl) ?_
        refine wpOp_store_D rfl rfl (.tmp 8) (.tmp 70) rfl w.heap.size D rfl rfl Z32 d4 hkl ?_
        intro Y hY
        have S5 := And.intro (S4.1.other hY (by omega)) (S4.2.other hY (by omega))
        refine ⟨S5, ?_⟩
        simp only [Act.put, List.getElem_toArray, List.getElem_cons_zero, List.getElem_cons_succ, List.setIfInBounds_toArray, List.set_cons_zero, List.set_cons_succ]
        refine wpAnyH_take (i := 8) (v := .bool ok) rfl (by kernel_rfl) (by kernel_rfl) (by kernel_rfl) (fun _ _ _ h => h) (.inl ⟨rfl, fun W _ => by go_simp⟩) S5 ?_
        simp only [Act.put, List.getElem_toArray, List.getElem_cons_zero, List.getElem_cons_succ, List.setIfInBounds_toArray, List.set_cons_zero, List.set_cons_succ]
        refine wpAnyH_done (by kernel_rfl) ?_ _
        refine NoPanic.normal ?_
        have dY : Hid (Dg Y w.heap.size D) := hY.dg hkl
        have bY : Hid (Below w.heap.size w Y) := hY.below _ _ (Nat.le_refl _) B4
        clear hY d4 B4 S4 S5 SX b4 b4' aX cX hia hsl
        go_wp2_with fail
        exact bodyPost_ret (results_DT rfl _ _ w.heap.size D rfl dY.out) rfl ⟨by rw [HE.out]; rfl, bY.out⟩
end Go.Proofs.YtcmjlhcpoajbkaaDoor
