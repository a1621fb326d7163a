import Derived.Test.YtcmjlhcpoajbkaaDoorQMk
import Derived.Test.YtcmjlhcpoajbkaaDoorQPg
namespace Go.Proofs.YtcmjlhcpoajbkaaDoor
set_option maxRecDepth 10000
set_option linter.unusedSimpArgs false
open Go.RowKit
theorem take_same {k : Nat} {ds es : List (List Int)} (h : ds.take k = es.take k) (h1 : k < ds.length) (h2 : k < es.length) (he : ds.getD k [] = es.getD k []) : ds.take (k + 1) = es.take (k + 1) := by
  rw [List.take_add_one, List.take_add_one, h]
  simp only [List.getD_eq_getElem?_getD, List.getElem?_eq_getElem h1, List.getElem?_eq_getElem h2, Option.getD_some] at he
  simp only [List.getElem?_eq_getElem h1, List.getElem?_eq_getElem h2, he]
set_option maxHeartbeats 2000000 in
theorem same_keep (w : World) (p p' : Option Addr) (n n' c c' : Nat) (ds es : List (List Int)) (hA : D32 w p n c ds) (hB : D32 w p' n' c' es) :
    Calls Tryd.prog 86 #[.slice p n c, .slice p' n' c'] w fun e w' => e = .returned (.bool (decide (ds = es))) ∧ Below w.heap.size w w' := by
  have hr := hA.room
  have hf := hA.fits
  have hr' := hB.room
  have hf' := hB.fits
  have hla := hA.len
  have hlb := hB.len
  by_cases hnn : n = n'
  · subst hnn
    go_enter Tryd.func86, Tryd.ntmps86
    go_wp2_with fail
    go_loopw [5] (fun i wr => ∃ k : Nat, k ≤ n ∧ i = .int .i64 k ∧ Below w.heap.size w wr ∧ ds.take k = es.take k) (fun i _ => n - (intOf i).toNat)
    case atStart => exact ⟨0, by omega, rfl, Below.refl _ _, rfl⟩
    case round =>
      obtain ⟨k, hk, rfl, hb, hds⟩ := hrel
      by_cases hlt : k < n
      · obtain ⟨ad, rfl, _, _⟩ := hA.lies (by omega)
        obtain ⟨bd, rfl, _, _⟩ := hB.lies (by omega)
        have sA : At8 wr.drew (ad.add (k * 32)) (ds.getD k []) := (hA.below hb.drew).at k hlt
        have sB : At8 wr.drew (bd.add (k * 32)) (es.getD k []) := (hB.below hb.drew).at k hlt
        obtain ⟨hl, hby⟩ := hA.get k hlt
        obtain ⟨hl', hby'⟩ := hB.get k hlt
        have hiA : ∀ W : World, (Instr.indexAt 31 (.slice (some ad) n c) (.int .i64 k)).run Tryd.prog W = .ok (.pointer (some (ad.add (k * 32)))) W := fun W => index_at ad n c k hlt W
        have hiB : ∀ W : World, (Instr.indexAt 31 (.slice (some bd) n c') (.int .i64 k)).run Tryd.prog W = .ok (.pointer (some (bd.add (k * 32)))) W := fun W => index_at bd n c' k hlt W
        have hstep : Hid (ds.getD k [] = es.getD k [] → ds.take (k + 1) = es.take (k + 1)) := fun h => take_same hds (by omega) (by omega) h
        have hdiff : Hid (¬ ds.getD k [] = es.getD k [] → decide (ds = es) = false) := fun h => decide_eq_false (fun e => h (by rw [e]))
        clear hds
        generalize ds.getD k [] = D at *
        generalize es.getD k [] = E at *
        generalize ad.add (k * 32) = pa at *
        generalize bd.add (k * 32) = pb at *
        have hb' := hb.drew
        by_cases hDE : D = E
        · subst hDE
          go_wp2_with fail
          have SX := And.intro sA sB
          refine wp_region_noPanic ?_
          refine wp_region_held (S := fun W => At8 W pa D ∧ At8 W pb D) follows ?_
          refine wpAnyH_take (i := 0) (v := .slice (some ad) n c) rfl (by kernel_rfl) (by kernel_rfl) (by kernel_rfl) (fun _ _ _ h => h) (.inl ⟨rfl, fun W _ => by go_simp⟩) SX ?_
          simp only [Act.put, List.getElem_toArray, List.getElem_cons_zero, List.getElem_cons_succ, List.setIfInBounds_toArray, List.set_cons_zero, List.set_cons_succ]
          refine wpAnyH_take (i := 1) (v := .int .i64 k) rfl (by kernel_rfl) (by kernel_rfl) (by kernel_rfl) (fun _ _ _ h => h) (.inl ⟨rfl, fun W _ => by go_simp⟩) SX ?_
          simp only [Act.put, List.getElem_toArray, List.getElem_cons_zero, List.getElem_cons_succ, List.setIfInBounds_toArray, List.set_cons_zero, List.set_cons_succ]
          refine wpAnyH_take (i := 2) (v := .pointer (some pa)) rfl (by kernel_rfl) (by kernel_rfl) (by kernel_rfl) (fun _ _ _ h => h) (.inl ⟨rfl, fun W _ => by have e := hiA W; go_simp⟩) SX ?_
          simp only [Act.put, List.getElem_toArray, List.getElem_cons_zero, List.getElem_cons_succ, List.setIfInBounds_toArray, List.set_cons_zero, List.set_cons_succ]
          refine wpAnyH_take (i := 3) (v := .agg (A8 D)) rfl (by kernel_rfl) (by kernel_rfl) (by kernel_rfl) (fun _ _ _ h => h) (yields_at rfl (.tmp 19) rfl pa rfl D hl (fun W hW => hW.1)) SX ?_
          simp only [Act.put, List.getElem_toArray, List.getElem_cons_zero, List.getElem_cons_succ, List.setIfInBounds_toArray, List.set_cons_zero, List.set_cons_succ]
          refine wpAnyH_take (i := 4) (v := .slice (some bd) n c') rfl (by kernel_rfl) (by kernel_rfl) (by kernel_rfl) (fun _ _ _ h => h) (.inl ⟨rfl, fun W _ => by go_simp⟩) SX ?_
          simp only [Act.put, List.getElem_toArray, List.getElem_cons_zero, List.getElem_cons_succ, List.setIfInBounds_toArray, List.set_cons_zero, List.set_cons_succ]
          refine wpAnyH_take (i := 5) (v := .int .i64 k) rfl (by kernel_rfl) (by kernel_rfl) (by kernel_rfl) (fun _ _ _ h => h) (.inl ⟨rfl, fun W _ => by go_simp⟩) SX ?_
          simp only [Act.put, List.getElem_toArray, List.getElem_cons_zero, List.getElem_cons_succ, List.setIfInBounds_toArray, List.set_cons_zero, List.set_cons_succ]
          refine wpAnyH_take (i := 6) (v := .pointer (some pb)) rfl (by kernel_rfl) (by kernel_rfl) (by kernel_rfl) (fun _ _ _ h => h) (.inl ⟨rfl, fun W _ => by have e := hiB W; go_simp⟩) SX ?_
          simp only [Act.put, List.getElem_toArray, List.getElem_cons_zero, List.getElem_cons_succ, List.setIfInBounds_toArray, List.set_cons_zero, List.set_cons_succ]
          refine wpAnyH_take (i := 7) (v := .agg (A8 D)) rfl (by kernel_rfl) (by kernel_rfl) (by kernel_rfl) (fun _ _ _ h => h) (yields_at rfl (.tmp 23) rfl pb rfl D hl (fun W hW => hW.2)) SX ?_
          simp only [Act.put, List.getElem_toArray, List.getElem_cons_zero, List.getElem_cons_succ, List.setIfInBounds_toArray, List.set_cons_zero, List.set_cons_succ]
          refine wpAnyH_take (i := 8) (v := .bool (!decide (D = D))) rfl (by kernel_rfl) (by kernel_rfl) (by kernel_rfl) (fun _ _ _ h => h) (yields_neq rfl (.tmp 20) (.tmp 24) rfl D D hl hby hl hby rfl rfl) SX ?_
          simp only [Act.put, List.getElem_toArray, List.getElem_cons_zero, List.getElem_cons_succ, List.setIfInBounds_toArray, List.set_cons_zero, List.set_cons_succ]
          refine wpAnyH_done (by kernel_rfl) ?_ _
          refine NoPanic.normal ?_
          clear SX sA sB hiA hiB
          go_wp2_with fail
          go_roundw
          case rel => exact ⟨k + 1, by omega, by go_num, hb', hstep.out (by trivial)⟩
          case measure => simp [intOf]; omega
        · go_wp2_with fail
          have SX := And.intro sA sB
          refine wp_region_noPanic ?_
          refine wp_region_held (S := fun W => At8 W pa D ∧ At8 W pb E) follows ?_
          refine wpAnyH_take (i := 0) (v := .slice (some ad) n c) rfl (by kernel_rfl) (by kernel_rfl) (by kernel_rfl) (fun _ _ _ h => h) (.inl ⟨rfl, fun W _ => by go_simp⟩) SX ?_
          simp only [Act.put, List.getElem_toArray, List.getElem_cons_zero, List.getElem_cons_succ, List.setIfInBounds_toArray, List.set_cons_zero, List.set_cons_succ]
          refine wpAnyH_take (i := 1) (v := .int .i64 k) rfl (by kernel_rfl) (by kernel_rfl) (by kernel_rfl) (fun _ _ _ h => h) (.inl ⟨rfl, fun W _ => by go_simp⟩) SX ?_
          simp only [Act.put, List.getElem_toArray, List.getElem_cons_zero, List.getElem_cons_succ, List.setIfInBounds_toArray, List.set_cons_zero, List.set_cons_succ]
          refine wpAnyH_take (i := 2) (v := .pointer (some pa)) rfl (by kernel_rfl) (by kernel_rfl) (by kernel_rfl) (fun _ _ _ h => h) (.inl ⟨rfl, fun W _ => by have e := hiA W; go_simp⟩) SX ?_
          simp only [Act.put, List.getElem_toArray, List.getElem_cons_zero, List.getElem_cons_succ, List.setIfInBounds_toArray, List.set_cons_zero, List.set_cons_succ]
          refine wpAnyH_take (i := 3) (v := .agg (A8 D)) rfl (by kernel_rfl) (by kernel_rfl) (by kernel_rfl) (fun _ _ _ h => h) (yields_at rfl (.tmp 19) rfl pa rfl D hl (fun W hW => hW.1)) SX ?_
          simp only [Act.put, List.getElem_toArray, List.getElem_cons_zero, List.getElem_cons_succ, List.setIfInBounds_toArray, List.set_cons_zero, List.set_cons_succ]
          refine wpAnyH_take (i := 4) (v := .slice (some bd) n c') rfl (by kernel_rfl) (by kernel_rfl) (by kernel_rfl) (fun _ _ _ h => h) (.inl ⟨rfl, fun W _ => by go_simp⟩) SX ?_
          simp only [Act.put, List.getElem_toArray, List.getElem_cons_zero, List.getElem_cons_succ, List.setIfInBounds_toArray, List.set_cons_zero, List.set_cons_succ]
          refine wpAnyH_take (i := 5) (v := .int .i64 k) rfl (by kernel_rfl) (by kernel_rfl) (by kernel_rfl) (fun _ _ _ h => h) (.inl ⟨rfl, fun W _ => by go_simp⟩) SX ?_
          simp only [Act.put, List.getElem_toArray, List.getElem_cons_zero, List.getElem_cons_succ, List.setIfInBounds_toArray, List.set_cons_zero, List.set_cons_succ]
          refine wpAnyH_take (i := 6) (v := .pointer (some pb)) rfl (by kernel_rfl) (by kernel_rfl) (by kernel_rfl) (fun _ _ _ h => h) (.inl ⟨rfl, fun W _ => by have e := hiB W; go_simp⟩) SX ?_
          simp only [Act.put, List.getElem_toArray, List.getElem_cons_zero, List.getElem_cons_succ, List.setIfInBounds_toArray, List.set_cons_zero, List.set_cons_succ]
          refine wpAnyH_take (i := 7) (v := .agg (A8 E)) rfl (by kernel_rfl) (by kernel_rfl) (by kernel_rfl) (fun _ _ _ h => h) (yields_at rfl (.tmp 23) rfl pb rfl E hl' (fun W hW => hW.2)) SX ?_
          simp only [Act.put, List.getElem_toArray, List.getElem_cons_zero, List.getElem_cons_succ, List.setIfInBounds_toArray, List.set_cons_zero, List.set_cons_succ]
          refine wpAnyH_take (i := 8) (v := .bool (!decide (D = E))) rfl (by kernel_rfl) (by kernel_rfl) (by kernel_rfl) (fun _ _ _ h => h) (yields_neq rfl (.tmp 20) (.tmp 24) rfl D E hl hby hl' hby' rfl rfl) SX ?_
          simp only [Act.put, List.getElem_toArray, List.getElem_cons_zero, List.getElem_cons_succ, List.setIfInBounds_toArray, List.set_cons_zero, List.set_cons_succ]
          refine wpAnyH_done (by kernel_rfl) ?_ _
          refine NoPanic.normal ?_
          have hF := decide_eq_false hDE
          rw [hF]
          clear SX sA sB hiA hiB
          go_wp2_with fail
          go_ret
          exact ⟨by rw [hdiff.out hDE]; rfl, hb'⟩
      · have e : ds = es := by
          rw [List.take_of_length_le (by omega), List.take_of_length_le (by omega)] at hds; exact hds
        have hF := decide_eq_true e
        go_wp2_with fail
        go_ret
        exact ⟨by rw [hF]; rfl, hb⟩
  · have hF : decide (ds = es) = false := decide_eq_false (fun e => hnn (by rw [← hla, ← hlb, e]))
    go_enter Tryd.func86, Tryd.ntmps86
    go_wp2_with fail
    go_ret
    exact ⟨by rw [hF]; rfl, Below.refl _ _⟩
theorem Own.view {w : World} {B : Nat} {v : Value} {ds : List (List Int)} (h : Own w B v ds) (hall : ∀ d ∈ ds, d.length = 32 ∧ Bytes d) : ∃ p c, v = .slice p ds.length c ∧ D32 w p ds.length c ds := by
  obtain ⟨e1, ⟨rfl, e2⟩ | ⟨g, cap, cur, rfl, hg, hh, hc, hm, hs, ht⟩⟩ := h
  · rw [e2]
    exact ⟨none, 0, rfl, ⟨e2, hall, by omega, by omega, fun h0 => by omega⟩⟩
  · refine ⟨_, cap, rfl, ⟨rfl, hall, hc, by unfold maxLen at hm; omega, fun _ => ⟨⟨g, 0, none⟩, rfl, row_lt hh, fun k hk j hj => ?_⟩⟩⟩
    rw [addr_add, Nat.zero_add, cell_of_row _ _ _ _ _ _ hh]
    have h32 : ∀ d ∈ ds, d.length = 32 := fun d hd => (hall d hd).1
    have e := congrArg (fun z : List Value => z[k * 32 + j]?) ht
    have hlt : k * 32 + j < ds.length * 32 := by omega
    simp only [List.getElem?_take, if_pos hlt, F8, List.getElem?_map] at e
    rw [← Array.getElem?_toList, e, flat_get ds h32 k j hk hj]; rfl
theorem linkP_ok (m : Nat) (es : List (List Int)) : ∀ d ∈ linkP m es, d.length = 32 ∧ Bytes d := by
  unfold linkP
  split
  · intro d hd; cases hd
  · exact subP_ok m es true
theorem linkOut_in (m n : Nat) (es : List (List Int)) (hmn : m ≤ n) (hn : n ≤ es.length) : linkOut m n es = (linkP m (es.take n), 0) := by
  unfold linkOut
  rw [if_neg (by omega), Int.toNat_natCast, Int.toNat_natCast]
theorem rootOut_in (n : Nat) (es : List (List Int)) (hn : n ≤ es.length) : rootOut n es = (rootP (es.take n), 0) := by
  unfold rootOut
  rw [if_neg (by omega), Int.toNat_natCast]
set_option maxHeartbeats 1000000 in
theorem clashes_any (w : World) (hT : Tabs KS HS w) (g : Nat) (key : List Int) (es : List (List Int)) (hL : LogR w g key es) (m n : Nat) (hmn : m ≤ n) (hn : n ≤ es.length) (p : Option Addr) (q c : Nat) (ds : List (List Int)) (hD : D32 w p q c ds) (hl : ds.length = (linkP m (es.take n)).length) (hne : ds ≠ linkP m (es.take n)) :
    Calls Tryd.prog 51 #[.pointer (some ⟨g, 0, none⟩), .int .i64 m, .int .i64 n, .slice p q c] w fun e w' => e = .returned (.bool true) ∧ Below w.heap.size w w' := by
  have hq := hD.len
  go_enter Tryd.func51, Tryd.ntmps51
  go_wp2_with fail
  refine (logLink_any w g key es m n hT hL).mono ?_
  rw [linkOut_in m n es hmn hn]
  rintro e w1 ⟨v, rfl, hO, b1⟩
  obtain ⟨p1, c1, rfl, hD1⟩ := hO.view (linkP_ok _ _)
  have hD2 := hD.below b1
  have hF : decide (linkP m (es.take n) = ds) = false := decide_eq_false (fun e => hne e.symm)
  have hlen : (linkP m (es.take n)).length = q := by rw [← hl, hq]
  clear hO
  generalize linkP m (es.take n) = L at *
  rw [hlen] at hD1 ⊢
  go_wp2_with fail
  refine (same_keep w1 p1 p q q c1 c L ds hD1 hD2).mono ?_
  rw [hF]
  rintro e w2 ⟨rfl, b2⟩
  have B2 : Below w.heap.size w w2 := b1.trans (b2.mono b1.size)
  clear b1 b2 hD1 hD2
  go_wp2_with fail
  go_ret
  exact ⟨rfl, B2⟩
end Go.Proofs.YtcmjlhcpoajbkaaDoor
