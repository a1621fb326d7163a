import Derived.Test.YtcmjlhcpoajbkaaDoorQCs
namespace Go.Proofs.YtcmjlhcpoajbkaaDoor
set_option maxRecDepth 10000
set_option linter.unusedSimpArgs false
open Go.RowKit
theorem F8_set (l : List (List Int)) (h : ∀ d ∈ l, d.length = 32) (j i : Nat) (hj : j < l.length) (hi : i < 32) (x : Int) : (F8 l).set (j * 32 + i) (.int .u8 x) = F8 (l.set j ((l.getD j []).set i x)) := by
  have hd : ∀ d ∈ l.set j ((l.getD j []).set i x), d.length = 32 := fun d hd => by
    rcases List.mem_or_eq_of_mem_set hd with h1 | h1
    · exact h d h1
    · rw [h1, List.length_set, List.getD_eq_getElem?_getD, List.getElem?_eq_getElem hj]
      exact h _ (List.getElem_mem hj)
  apply List.ext_getElem?
  intro k
  rw [List.getElem?_set, F8_len l h]
  by_cases hk : k < l.length * 32
  · have e : k = k / 32 * 32 + k % 32 := by omega
    have hR : (F8 (l.set j ((l.getD j []).set i x)))[k]? = some (.int .u8 (((l.set j ((l.getD j []).set i x)).getD (k / 32) []).getD (k % 32) 0)) := by
      rw [F8, List.getElem?_map, e, flat_get _ hd (k / 32) (k % 32) (by rw [List.length_set]; omega) (by omega), ← e]; rfl
    have hLk : (F8 l)[k]? = some (.int .u8 ((l.getD (k / 32) []).getD (k % 32) 0)) := by
      rw [F8, List.getElem?_map, e, flat_get _ h (k / 32) (k % 32) (by omega) (by omega), ← e]; rfl
    rw [hR, hLk]
    by_cases h1 : j * 32 + i = k
    · rw [if_pos h1, if_pos (by omega)]
      have e1 : k / 32 = j := by omega
      have e2 : k % 32 = i := by omega
      rw [e1, e2]
      have hjl : (l.getD j []).length = 32 := by
        rw [List.getD_eq_getElem?_getD, List.getElem?_eq_getElem hj]; exact h _ (List.getElem_mem hj)
      have e3 : (l.set j ((l.getD j []).set i x)).getD j [] = (l.getD j []).set i x := by
        rw [List.getD_eq_getElem?_getD, List.getElem?_set_self hj]; rfl
      rw [e3, List.getD_eq_getElem?_getD, List.getElem?_set_self (by omega)]; rfl
    · rw [if_neg h1]
      by_cases h2 : k / 32 = j
      · have e3 : (l.set j ((l.getD j []).set i x)).getD (k / 32) [] = (l.getD j []).set i x := by
          rw [h2, List.getD_eq_getElem?_getD, List.getElem?_set_self hj]; rfl
        rw [e3, h2, List.getD_eq_getElem?_getD (l := (l.getD j []).set i x), List.getElem?_set_ne (by omega), ← List.getD_eq_getElem?_getD]
      · rw [List.getD_eq_getElem?_getD (l := l.set j ((l.getD j []).set i x)), List.getElem?_set_ne (by omega), ← List.getD_eq_getElem?_getD]
  · rw [if_neg (by omega), List.getElem?_eq_none (by rw [F8_len l h]; omega), List.getElem?_eq_none (by rw [F8_len _ hd, List.length_set]; omega)]
theorem Own.set {w : World} {B g n cap : Nat} {l : List (List Int)} (h : w.ownsRow B 25 32 (.slice (some ⟨g, 0, none⟩) n cap) n (F8 l)) (h32 : ∀ d ∈ l, d.length = 32) (hl : l.length = n) (j i : Nat) (hj : j < n) (hi : i < 32) (x : Int) :
    (w.setCell ⟨g, j * 32 + i, none⟩ (.int .u8 x)).ownsRow B 25 32 (.slice (some ⟨g, 0, none⟩) n cap) n (F8 (l.set j ((l.getD j []).set i x))) := by
  obtain ⟨h1, ⟨h2, _⟩ | ⟨g', cap', cur, hv, hg, hh, hc, hm, hs, ht⟩⟩ := h
  · cases h2
  · cases hv
    have hG := heap_setCell_same w g (j * 32 + i) _ _ (.int .u8 x) hh
    rw [← F8_set l h32 j i (by omega) hi x]
    refine ⟨by rw [List.length_set, h1], .inr ⟨g, cap, _, rfl, hg, hG, hc, hm, by simp [hs], ?_⟩⟩
    rw [Array.toList_setIfInBounds, List.take_set, ht]
theorem app25_both (w : World) (B g n cap : Nat) (l : List (List Int)) (hown : w.ownsRow B 25 32 (.slice (some ⟨g, 0, none⟩) n cap) n (F8 l)) (hn : n ≤ 1000) (hB : B ≤ w.heap.size) (ad : Addr) (D : List Int) (hD : D.length = 32)
    (hcells : ∀ j, j < 32 → w.cell? (ad.add j) = some (.int .u8 (D.getD j 0))) (ty : TypeId) :
    ∃ g' cap' w', (Builtin.append_ #[31, 31] ty #[.slice (some ⟨g, 0, none⟩) n cap, .slice (some ad) 1 1]).run Tryd.prog w = .ok (.slice (some ⟨g', 0, none⟩) (n + 1) cap') w' ∧
      w'.ownsRow B 25 32 (.slice (some ⟨g', 0, none⟩) (n + 1) cap') (n + 1) (F8 (l ++ [D])) ∧ w'.ownsRow B 25 32 (.slice (some ⟨g, 0, none⟩) n cap) n (F8 l) ∧ w.grownBy w' (some g) := by
  obtain ⟨i, hi, hz, hsz, hby⟩ := info25'
  have hF : (F8 [D]).length = 32 := by rw [F8_len [D] (fun d hd => by simp at hd; rw [hd]; exact hD)]; rfl
  have hnews : ∀ j u, (F8 [D])[j]? = some u → w.cell? (ad.add j) = some u := fun j u hu => by
    obtain ⟨hj, rfl⟩ := F8_get [D] (fun d hd => by simp at hd; rw [hd]; exact hD) j u hu
    have hj' : j < 32 := by simpa using hj
    rw [hcells j hj', show j / 32 = 0 by omega, show j % 32 = j by omega]; rfl
  have h1 : ∀ u ∈ F8 [D], u.oneCell' = true := fun u hu => by
    simp only [F8, List.mem_map] at hu; obtain ⟨y, _, rfl⟩ := hu; rfl
  obtain ⟨hlen, ⟨h2, _⟩ | ⟨g', cap', cur, hv, hg, hh, hc, hm, hs, ht⟩⟩ := hown
  · cases h2
  · cases hv
    have hlen2 : (F8 l ++ F8 [D]).length = (n + 1) * 32 := by rw [List.length_append, hlen, hF, Nat.add_mul]
    rw [F8_append]
    by_cases hroom : n + 1 ≤ cap
    · have hr := run_append_room (P := Tryd.prog) w 31 ty 25 i Tryd.underlying31 hi g n cap cur hh ad 1 1 (F8 [D]) (by rw [hF, hsz]) hnews h1 hroom (by rw [hF, hsz, hs]; omega)
      rw [hsz, ht] at hr
      have hG := setRow_heap w g cur (F8 l ++ F8 [D] ++ cur.toList.drop (n * 32 + (F8 [D]).length)).toArray 25 _ hh
      refine ⟨g, cap, _, hr, ⟨hlen2, .inr ⟨g, cap, _, rfl, hg, hG, hroom, hm, ?_, ?_⟩⟩, ⟨hlen, .inr ⟨g, cap, _, rfl, hg, hG, hc, hm, ?_, ?_⟩⟩, ⟨rfl, rfl, rfl, by simp [World.setRow], fun k _ hk => setRow_other w g k _ (fun e => hk (by rw [e]))⟩⟩
      · simp only [List.size_toArray, List.length_append, List.length_drop, Array.length_toList, hlen, hF, hs]; omega
      · show List.take _ (F8 l ++ F8 [D] ++ _) = _
        rw [← hlen2]; exact List.take_left
      · simp only [List.size_toArray, List.length_append, List.length_drop, Array.length_toList, hlen, hF, hs]; omega
      · show List.take _ (F8 l ++ F8 [D] ++ _) = _
        rw [← hlen, List.append_assoc]; exact List.take_left
    · have hown' : w.ownsRow B 25 32 (.slice (some ⟨g, 0, none⟩) n cap) n (F8 l) := ⟨hlen, .inr ⟨g, cap, cur, rfl, hg, hh, hc, hm, hs, ht⟩⟩
      have holds := hown'.cells (g := g) rfl
      have hr := run_append_grow (P := Tryd.prog) w 31 ty 25 i _ Tryd.underlying31 hi hz ⟨g, 0, none⟩ n cap (F8 l) (by rw [hlen, hsz]) holds ad 1 1 (F8 [D]) (by rw [hF, hsz]) hnews (by omega) (by omega) (growslice_fits (by omega) (by rw [hby]; omega))
      have hge := grownCap_ge w (n + 1) cap 25
      have hcm := grownCap_le_maxLen w (n + 1) cap 25 (by unfold maxLen; omega)
      refine ⟨w.heap.size, _, _, hr, ⟨hlen2, .inr ⟨w.heap.size, _, _, rfl, hB, heapN w.drew _ _ rfl, hge, hcm, ?_, ?_⟩⟩, ?_, ⟨rfl, rfl, rfl, by simp, fun k hk _ => heapO w.drew _ k hk⟩⟩
      · simp only [Array.size_append, List.size_toArray, size_zeroCells, hlen, hF]
        show n * 32 + 32 + (grownCap w (n + 1) cap 25 - (n + 1)) * 32 = _
        omega
      · show List.take _ ((F8 l).toArray ++ (F8 [D]).toArray ++ _).toList = _
        simp only [Array.toList_append]
        rw [← hlen2]; exact List.take_left
      · exact ⟨hlen, .inr ⟨g, cap, cur, rfl, hg, (heapO w.drew _ g (row_lt hh)).trans hh, hc, hm, hs, ht⟩⟩
/-- One bit another: another byte. -/
theorem xor_other (a b : Int) (h1 : 0 ≤ a) (h2 : a < 256) (h3 : 0 ≤ b) (h4 : b < 256) (h5 : b ≠ 0) : bits .xor .u8 a b ≠ a := by
  rw [u8_xor a b h1 h2 h3 h4]
  intro e
  have e1 : a.toNat ^^^ b.toNat = a.toNat := by omega
  have e2 : a.toNat ^^^ (a.toNat ^^^ b.toNat) = a.toNat ^^^ a.toNat := by rw [e1]
  rw [← Nat.xor_assoc, Nat.xor_self, Nat.zero_xor] at e2
  omega
theorem xor_byte (a b : Int) (h1 : 0 ≤ a) (h2 : a < 256) (h3 : 0 ≤ b) (h4 : b < 256) : 0 ≤ bits .xor .u8 a b ∧ bits .xor .u8 a b < 256 := by
  rw [u8_xor a b h1 h2 h3 h4]
  have := Nat.xor_lt_two_pow (n := 8) (x := a.toNat) (y := b.toNat) (by omega) (by omega)
  omega
end Go.Proofs.YtcmjlhcpoajbkaaDoor
