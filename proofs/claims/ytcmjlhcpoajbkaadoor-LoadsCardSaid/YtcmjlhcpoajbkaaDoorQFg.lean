import Derived.Test.YtcmjlhcpoajbkaaDoorQCh
import Derived.Test.YtcmjlhcpoajbkaaDoorQCs
namespace Go.Proofs.YtcmjlhcpoajbkaaDoor
set_option maxRecDepth 10000
set_option linter.unusedSimpArgs false
open Go.RowKit
theorem cons_inj {a b : Int} {x y : List Int} (h : a :: x = b :: y) : x = y := by injection h
/-- Where the texts are alike up to the root, the entries and the paths are. -/
theorem texts_inj (e e' : List Int) (ls : List Bool) (ds ds' : List (List Int)) (hl : ds.length = ls.length) (hl' : ds'.length = ls.length)
    (h : ∀ k, k ≤ ls.length → textAt e ls ds k = textAt e' ls ds' k) : e = e' ∧ ds = ds' := by
  refine ⟨cons_inj (h 0 (by omega)), ?_⟩
  apply List.ext_getElem (by omega)
  intro k h1 h2
  have e1 := h (k + 1) (by omega)
  have e0 := h k (by omega)
  simp only [textAt, e0] at e1
  have g1 : ds.getD k [] = ds[k] := by rw [List.getD_eq_getElem?_getD, List.getElem?_eq_getElem h1]; rfl
  have g2 : ds'.getD k [] = ds'[k] := by rw [List.getD_eq_getElem?_getD, List.getElem?_eq_getElem h2]; rfl
  rw [← g1, ← g2]
  split at e1
  · exact List.append_cancel_left (cons_inj e1)
  · exact List.append_cancel_right (cons_inj e1)
/-- Alike texts above: alike hashes below. -/
theorem texts_down (e e' : List Int) (ls : List Bool) (ds ds' : List (List Int)) (k : Nat) (hd : (ds.getD k []).length = 32) (hd' : (ds'.getD k []).length = 32) (h : textAt e ls ds (k + 1) = textAt e' ls ds' (k + 1)) : hP (textAt e ls ds k) = hP (textAt e' ls ds' k) := by
  have l1 := hP_len (textAt e ls ds k)
  have l2 := hP_len (textAt e' ls ds' k)
  simp only [textAt] at h
  split at h
  · exact (List.append_inj (cons_inj h) (by omega)).1
  · exact (List.append_inj (cons_inj h) (by omega)).2
theorem clash_root (e e' : List Int) (ls : List Bool) (ds ds' : List (List Int)) (hl : ds.length = ls.length) (hl' : ds'.length = ls.length) (hd : ∀ k, k < ds.length → (ds.getD k []).length = 32) (hd' : ∀ k, k < ds'.length → (ds'.getD k []).length = 32) (k : Nat) (hk : k ≤ ls.length)
    (hup : ∀ j, k < j → j ≤ ls.length → textAt e ls ds j = textAt e' ls ds' j) : decide (hP (textAt e ls ds k) = hP (textAt e' ls ds' k)) = decide (hP (textAt e' ls ds' ls.length) = hP (textAt e ls ds ls.length)) := by
  rcases Nat.lt_or_ge k ls.length with h | h
  · rw [hup ls.length h (Nat.le_refl _), texts_down e e' ls ds ds' k (hd k (by omega)) (hd' k (by omega)) (hup (k + 1) (by omega) (by omega)), decide_eq_true rfl, decide_eq_true rfl]
  · have : k = ls.length := by omega
    subst this
    by_cases h : hP (textAt e ls ds ls.length) = hP (textAt e' ls ds' ls.length)
    · rw [decide_eq_true h, decide_eq_true h.symm]
    · rw [decide_eq_false h, decide_eq_false (fun h' => h h'.symm)]
theorem climbOut_way (e : List Int) (i n : Nat) (ds : List (List Int)) (hi : i < n) (hn : n ≤ 9223372036854775807) (h : ds.length = wayLen i n) : climbOut e i n ds = (hP (textAt e (leftsP i n) ds (wayLen i n)), 0) := by
  obtain ⟨h1, h2⟩ := climb_up e 63 i n ds hi (by omega) (by omega)
  have h' : ds.length = (leftsF 63 i n).length := h
  unfold climbOut
  rw [if_neg (by omega), Int.toNat_natCast, Int.toNat_natCast, h1, decide_eq_true h', if_pos rfl, h2 h', h]
  rfl
theorem climbOut_no (e : List Int) (i n : Nat) (ds : List (List Int)) (hi : i < n) (hn : n ≤ 9223372036854775807) (h : ds.length ≠ wayLen i n) : climbOut e i n ds = (Z32, 1) := by
  obtain ⟨h1, h2⟩ := climb_up e 63 i n ds hi (by omega) (by omega)
  have h' : ¬ ds.length = (leftsF 63 i n).length := h
  unfold climbOut
  rw [if_neg (by omega), Int.toNat_natCast, Int.toNat_natCast, h1, decide_eq_false h', if_neg (by decide)]
theorem neq_nil (a : Option Addr) (l c : Nat) (w : World) : (binOp .neq 22 (.slice a l c) (.slice none 0 0)).run Tryd.prog w = .ok (.bool a.isSome) w := by
  simp only [binOp]
  simp [run_equal_slice_nil w 22 5 a l c Tryd.underlying22]
/-- What Clash tells of two ways: in short. -/
theorem Clashed.cases {w w' : World} {i n : Nat} (hi : i < n) {a b : List Int} {p q : List (List Int)} {ex : Ending} (h : Clashed w w' i n a p b q ex) (hp : p.length = wayLen i n) (hdp : ∀ k, k < p.length → (p.getD k []).length = 32) (hdq : ∀ k, k < q.length → (q.getD k []).length = 32) :
    ((q.length ≠ wayLen i n ∨ (a = b ∧ p = q)) ∧ ex = .returned (.tuple #[.slice none 0 0, .slice none 0 0, .bool false])) ∨
    (q.length = wayLen i n ∧ ¬ (a = b ∧ p = q) ∧ ∃ X Y v1 v2, X ≠ Y ∧ ex = .returned (.tuple #[v1, v2, .bool (decide (hP X = hP Y))]) ∧ Own8 w' w.heap.size v1 X ∧ Own8 w' w.heap.size v2 Y ∧ v1.ownBlock ≠ v2.ownBlock ∧
      decide (hP X = hP Y) = decide (hP (textAt b (leftsP i n) q (wayLen i n)) = hP (textAt a (leftsP i n) p (wayLen i n)))) := by
  rcases h with ⟨h, he⟩ | ⟨h1, h2, h3, h4, h⟩
  · refine .inl ⟨.inl fun hq => h ⟨by omega, by omega, hp, hq⟩, he⟩
  · have h3 : p.length = wayLen i n := h3
    have h4 : q.length = wayLen i n := h4
    have h : Parted w w' (wayLen i n) (textAt a (leftsP i n) p) (textAt b (leftsP i n) q) ex := h
    rcases h with ⟨h, he⟩ | ⟨k, hk, hne, hup, v1, v2, he, o1, o2, ob⟩
    · exact .inl ⟨.inr (texts_inj a b (leftsP i n) p q h3 h4 h), he⟩
    · refine .inr ⟨h4, ?_, _, _, v1, v2, hne, he, o1, o2, ob, clash_root a b (leftsP i n) p q h3 h4 hdp hdq k hk hup⟩
      rintro ⟨rfl, rfl⟩
      exact hne rfl
end Go.Proofs.YtcmjlhcpoajbkaaDoor
