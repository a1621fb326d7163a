import Derived.Test.YtcmjlhcpoajbkaaDoorTr
import Derived.Test.YtcmjlhcpoajbkaaDoorDs
import Derived.Test.YtcmjlhcpoajbkaaDoorHalf
import Derived.Deep.OwnRows
import Derived.Deep.AppendLies
namespace Go.Proofs.YtcmjlhcpoajbkaaDoor
set_option maxRecDepth 10000
open Go.RowKit
/-- Of each knot above an entry, from the lowest up: is it on its left? -/
def leftsF : Nat → Nat → Nat → List Bool
  | 0, _, _ => []
  | f + 1, i, n => if n = 1 then [] else if i < halfN n then leftsF f i (halfN n) ++ [true] else leftsF f (i - halfN n) (n - halfN n) ++ [false]
def leftsP (i n : Nat) : List Bool := leftsF 63 i n
theorem leftsF_len : ∀ (f i n : Nat), (leftsF f i n).length ≤ f := by
  intro f
  induction f with
  | zero => intro i n; exact Nat.le_refl _
  | succ f ih =>
    intro i n
    unfold leftsF
    split
    · simp
    · split
      · rw [List.length_append]; have := ih i (halfN n); simp; omega
      · rw [List.length_append]; have := ih (i - halfN n) (n - halfN n); simp; omega
theorem leftsP_len (i n : Nat) : (leftsP i n).length ≤ 63 := leftsF_len _ _ _
theorem halfN_pow (n f : Nat) (h2 : 2 ≤ n) (hn : n ≤ 2 ^ (f + 1)) (h64 : n ≤ 2 ^ 64) : halfN n ≤ 2 ^ f := by
  obtain ⟨a, _, _⟩ := halfN_spec n h2 h64
  unfold halfN at *
  have : 2 ^ (Lib.bitLen (n - 1) - 1) < 2 ^ (f + 1) := by omega
  have := (Nat.pow_lt_pow_iff_right (by omega : 1 < 2)).1 this
  exact Nat.pow_le_pow_right (by omega) (by omega)
theorem owns_below {w w' : World} {B s n : Nat} {t : TypeId} {v : Value} {xs : List Value} (h : w.ownsRow B t s v n xs) (hb : Below w.heap.size w w') : w'.ownsRow B t s v n xs := by
  obtain ⟨h1, h2 | ⟨g, cap, cur, hv, hg, hh, r⟩⟩ := h
  · exact ⟨h1, .inl h2⟩
  · exact ⟨h1, .inr ⟨g, cap, cur, hv, hg, (hb.block g (row_lt hh)).trans hh, r⟩⟩
theorem owns_mono {w : World} {B B' s n : Nat} {t : TypeId} {v : Value} {xs : List Value} (h : w.ownsRow B t s v n xs) (hb : B' ≤ B) : w.ownsRow B' t s v n xs := by
  obtain ⟨h1, h2 | ⟨g, cap, cur, hv, hg, r⟩⟩ := h
  · exact ⟨h1, .inl h2⟩
  · exact ⟨h1, .inr ⟨g, cap, cur, hv, by omega, r⟩⟩
theorem owns_shape {w : World} {B s n : Nat} {t : TypeId} {v : Value} {xs : List Value} (h : w.ownsRow B t s v n xs) : ∃ p cap, v = .slice p n cap ∧ n ≤ cap ∧ cap ≤ 9223372036854775807 := by
  obtain ⟨h1, ⟨rfl, rfl⟩ | ⟨g, cap, cur, hv, hg, hh, hc, hm, r⟩⟩ := h
  · exact ⟨none, 0, rfl, Nat.le_refl _, by omega⟩
  · exact ⟨_, cap, hv, hc, by unfold maxLen at hm; omega⟩
theorem owns_get {w : World} {B n : Nat} {t : TypeId} {v : Value} {xs : List Value} (h : w.ownsRow B t 1 v n xs) (hn : 0 < n) :
    ∃ g cap, v = .slice (some ⟨g, 0, none⟩) n cap ∧ B ≤ g ∧ g < w.heap.size ∧ n ≤ cap ∧ cap ≤ 9223372036854775807 ∧ ∀ k, k < n → w.cell? ⟨g, k, none⟩ = xs[k]? := by
  obtain ⟨h1, ⟨rfl, rfl⟩ | ⟨g, cap, cur, hv, hg, hh, hc, hm, hs, ht⟩⟩ := h
  · omega
  · refine ⟨g, cap, hv, hg, row_lt hh, hc, by unfold maxLen at hm; omega, fun k hk => ?_⟩
    rw [cell_of_row _ _ _ _ _ _ hh, ← ht, List.getElem?_take, if_pos (by omega), Array.getElem?_toList]
theorem info154' : ∃ i, Tryd.prog.info? 154 = some i ∧ i.zero = some .nilFunc ∧ i.size = 1 ∧ i.bytes = 8 := ⟨_, rfl, by kernel_rfl, by kernel_rfl, by kernel_rfl⟩
theorem info4' : ∃ i, Tryd.prog.info? 4 = some i ∧ i.zero = some (.bool false) ∧ i.size = 1 ∧ i.bytes = 1 := ⟨_, rfl, by kernel_rfl, by kernel_rfl, by kernel_rfl⟩
section
variable {ops : Array Oper} {rest : List Oper} {o : Oper} {a : Act} {w : World} {Q : Exit → Act → World → Prop}
/-- One more behind a row of one's own, its elements a cell each. -/
theorem wpList_appOne (hgd : o.guard = none) (s x : Operand) (st t : TypeId) (z : Value) (bytes : Nat) (hst : Tryd.prog.underlying st = some (.slice t)) (hinfo : ∃ i, Tryd.prog.info? t = some i ∧ i.zero = some z ∧ i.size = 1 ∧ i.bytes = bytes) (hz1 : z.cells.size = 1) (hby8 : bytes ≤ 24)
    (ho : o.op = .call { callee := .builtin .append, args := #[s, x], argTypes := #[st, st] }) (B : Nat) (v : Value) (n : Nat) (xs : List Value) (hs : a.eval s = v)
    (hown : Hid (w.ownsRow B t 1 v n xs)) (g1 : Nat) (u : Value) (hx : a.eval x = .slice (some ⟨g1, 0, none⟩) 1 1) (h1 : w.heap[g1]? = some (.cells #[u] t)) (hu : u.oneCell' = true) (hn : n ≤ 1099511627776) (hB : B ≤ w.heap.size)
    (h : ∀ v' w', Hid (w'.ownsRow B t 1 v' (n + 1) (xs ++ [u])) → w.heap.size ≤ w'.heap.size → (∀ w0, Below B w0 w → Below B w0 w') → wpList Tryd.prog ops Q rest (a.put o.dst v') w') : wpList Tryd.prog ops Q (o :: rest) a w := by
  obtain ⟨i, hi, hz, hsz, hby⟩ := hinfo
  refine wpList_append_lies w hgd s x st ho B t i z 1 bytes hst hi hz hsz hby hz1 (by omega) v n xs hs hown.out ⟨g1, 0, none⟩ 1 1 [u] hx rfl (fun j u' hu' => ?_) (fun u' hu' => ?_) (by omega) (by unfold maxLen; omega) (by
    have : (n + 1) * bytes ≤ (n + 1) * 24 := Nat.mul_le_mul_left _ hby8
    omega) hB _ rfl ?_
  · have e : j = 0 := by
      have := (List.getElem?_eq_some_iff.1 hu').1
      simp at this; omega
    subst e
    rw [addr_add, cell_of_row _ _ _ _ _ _ h1]
    simpa using hu'
  · simp only [List.mem_singleton] at hu'; subst hu'; exact hu
  · intro g cap w' h2 h3 h4 h5
    refine h _ w' h2 h3.size (fun w0 hb => hb.grown h3 hB (fun k hk => ?_))
    rcases hown.out.2 with ⟨rfl, _⟩ | ⟨g', c', cur, rfl, hg', _⟩
    · cases hk
    · simp only [Value.ownBlock, Option.some.injEq] at hk; omega
end
theorem leftsF_one (f i : Nat) : leftsF f i 1 = [] := by cases f <;> simp [leftsF]
set_option maxHeartbeats 2000000 in
theorem onLeft_any : ∀ (f i n : Nat) (w : World), i < n → n ≤ 2 ^ f → f ≤ 63 → n ≤ 9223372036854775807 →
    Calls Tryd.prog 115 #[.int .i64 i, .int .i64 n] w fun e w' => ∃ v, e = .returned v ∧ w'.ownsRow w.heap.size 4 1 v (leftsF f i n).length ((leftsF f i n).map Value.bool) ∧ Below w.heap.size w w' := by
  intro f
  induction f with
  | zero =>
    intro i n w hi hn hf hb
    have e1 : n = 1 := by simp at hn; omega
    subst e1
    go_enter Tryd.func115, Tryd.ntmps115
    go_wp2_with fail
    go_ret
    exact ⟨_, rfl, ⟨rfl, .inl ⟨rfl, rfl⟩⟩, Below.refl _ _⟩
  | succ f ih =>
    intro i n w hi hn hf hb
    have hq : ((n : Int) == 1) = decide (n = 1) := by
      by_cases h : n = 1
      · subst h; rfl
      · have : ¬ ((n : Int) = 1) := by omega
        simp [h, this]
    by_cases h1 : n = 1
    · subst h1
      have HZ : Hid (leftsF (f + 1) i 1 = []) := leftsF_one _ _
      go_enter Tryd.func115, Tryd.ntmps115
      go_wp2_with fail
      go_ret
      exact ⟨_, rfl, by rw [HZ.out]; exact ⟨rfl, .inl ⟨rfl, rfl⟩⟩, Below.refl _ _⟩
    · rw [decide_eq_false h1] at hq
      obtain ⟨hk1, hk2, hk3⟩ := halfN_spec n (by omega) (by omega)
      have hk4 := halfN_pow n f (by omega) hn (by omega)
      have HE : Hid (leftsF (f + 1) i n = if i < halfN n then leftsF f i (halfN n) ++ [true] else leftsF f (i - halfN n) (n - halfN n) ++ [false]) := by
        show leftsF (f + 1) i n = _
        rw [leftsF, if_neg h1]
      go_enter Tryd.func115, Tryd.ntmps115
      go_wp2_with fail
      refine (powerBelow_any n w (by omega) (by omega)).mono ?_
      rintro e w1 ⟨rfl, rfl⟩
      generalize halfN n = k at *
      by_cases hik : i < k
      · have hik' : (i : Int) < k := by omega
        go_wp2_with fail
        refine (ih i k w1 hik hk4 (by omega) (by omega)).mono ?_
        rintro e w2 ⟨v, rfl, hO, b2⟩
        have hl := leftsF_len f i k
        have HX : Hid (leftsF (f + 1) i n = leftsF f i k ++ [true]) := by show _ = _; rw [HE.out, if_pos hik]
        have hs := b2.size
        have HO : Hid (w2.ownsRow w1.heap.size 4 1 v (leftsF f i k).length ((leftsF f i k).map Value.bool)) := hO
        clear HE hO
        generalize leftsF f i k = A at *
        go_wp2_with (first
          | (at_builtin
             refine wpList_appOne rfl (.tmp 15) (.tmp 16) 171 4 (.bool false) 1 Tryd.underlying171 info4' rfl (by omega) rfl w1.heap.size v A.length _ rfl (owns_below HO.out ((Below.refl _ _).alloc (Nat.le_refl _) _)) w2.heap.size (.bool true) rfl (heapN w2 _ _ rfl) rfl (by omega) (by simp; omega) ?_
             intro v2 w4 ho4 hs4 hb4
             refine hideGoal ?_))
        have B4 : Hid (Below w1.heap.size w1 w4) := hb4 w1 (b2.alloc hs _)
        clear hb4 HO b2
        refine openGoal ?_
        go_wp2_with fail
        go_ret
        refine ⟨_, rfl, ?_, B4.out⟩
        rw [HX.out, List.length_append, List.map_append]
        exact ho4.out
      · have hik' : ¬ (i : Int) < k := by omega
        have ei : ((i : Int) - k) = ((i - k : Nat) : Int) := by omega
        have en : ((n : Int) - k) = ((n - k : Nat) : Int) := by omega
        go_wp2_with fail
        refine (ih (i - k) (n - k) w1 (by omega) (by omega) (by omega) (by omega)).mono ?_
        rintro e w2 ⟨v, rfl, hO, b2⟩
        have hl := leftsF_len f (i - k) (n - k)
        have HX : Hid (leftsF (f + 1) i n = leftsF f (i - k) (n - k) ++ [false]) := by show _ = _; rw [HE.out, if_neg hik]
        have hs := b2.size
        have HO : Hid (w2.ownsRow w1.heap.size 4 1 v (leftsF f (i - k) (n - k)).length ((leftsF f (i - k) (n - k)).map Value.bool)) := hO
        clear HE hO
        generalize leftsF f (i - k) (n - k) = A at *
        go_wp2_with (first
          | (at_builtin
             refine wpList_appOne rfl (.tmp 24) (.tmp 25) 171 4 (.bool false) 1 Tryd.underlying171 info4' rfl (by omega) rfl w1.heap.size v A.length _ rfl (owns_below HO.out ((Below.refl _ _).alloc (Nat.le_refl _) _)) w2.heap.size (.bool false) rfl (heapN w2 _ _ rfl) rfl (by omega) (by simp; omega) ?_
             intro v2 w4 ho4 hs4 hb4
             refine hideGoal ?_))
        have B4 : Hid (Below w1.heap.size w1 w4) := hb4 w1 (b2.alloc hs _)
        clear hb4 HO b2
        refine openGoal ?_
        go_wp2_with fail
        go_ret
        refine ⟨_, rfl, ?_, B4.out⟩
        rw [HX.out, List.length_append, List.map_append]
        exact ho4.out
end Go.Proofs.YtcmjlhcpoajbkaaDoor
