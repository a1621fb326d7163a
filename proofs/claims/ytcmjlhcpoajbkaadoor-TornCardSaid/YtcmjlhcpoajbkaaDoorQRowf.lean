import Derived.Test.YtcmjlhcpoajbkaaDoorQRowd
import Derived.Test.YtcmjlhcpoajbkaaDoorQMk
import Derived.Test.YtcmjlhcpoajbkaaDoorQEs
import Derived.Test.YtcmjlhcpoajbkaaDoorQDs
import Derived.Test.YtcmjlhcpoajbkaaDoorQRc
import Derived.Test.YtcmjlhcpoajbkaaDoorQGe
namespace Go.Proofs.YtcmjlhcpoajbkaaDoor
set_option maxRecDepth 100000
open Go.ChangeShapes Go.WideShapes Go.ChangeAt Go.RowKit
theorem cells22 : Tryd.prog.cellsOf 22 = 1 := by kernel_rfl
theorem spot_of {w : World} {a : Addr} {v : Value} (h : w.cell? (a.add 0) = some v) : a = ⟨a.block, a.off, none⟩ := by
  cases a with
  | mk b o s =>
    cases s with
    | none => rfl
    | some s =>
      unfold Addr.add World.cell? at h
      split at h <;> simp at h
/-- Bytes that were read, as the walk takes them. -/
theorem in8_of {H : Type} {enc : TypeId × Value → H} {W : World} {fuel : Nat} {v : Value} {d : DataW H} {pl : List MemPlace}
    (hf : DataW.trod enc Tryd.prog W 0 (fun _ => true) true fuel 22 [v] = some (d, pl)) (hsz : ∀ n ∈ d.weights Tryd.prog 22, n ≤ reachBytes) : ∃ p n c xs, v = .slice p n c ∧ In8 W p n c xs := by
  rcases open_ints Tryd.underlying22 Tryd.underlying5 (by kernel_rfl) hf with ⟨hcs, _⟩ | ⟨x, l, c, zs, hcs, _, hl, hm, hz, hx, hcell, hwz⟩
  · simp at hcs
    exact ⟨none, 0, 0, [], hcs, in8_nil W⟩
  · simp at hcs
    have hz' : zs.length = c := by simpa using hz
    simp only [Prod.mk.injEq] at hx
    have hs : (l + (c - l)) * Tryd.prog.bytesOf 5 ≤ reachBytes := by
      refine hsz _ ?_
      rw [hx.1]
      simp only [DataW.weights, Tryd.underlying22, lits, List.length_map, List.length_take, List.length_drop, hz', Nat.min_eq_left hl]
      exact List.mem_cons_self
    rw [bytes5] at hs
    simp only [reachBytes] at hs
    refine ⟨some x, l, c, zs.take l, hcs, ⟨by rw [List.length_take]; omega, Bytes.of fun y hy => ?_, hl, by unfold maxLen at hm; omega, by omega, fun h0 => ?_⟩⟩
    · have := bounds_u8 (hwz y (List.mem_of_mem_take hy))
      omega
    · rw [List.length_take] at h0
      have e0 := spot_of (hcell 0 (by omega))
      refine ⟨x.block, x.off, by rw [← e0], ?_, fun j hj => ?_⟩
      · have := block_lt_of_cell (hcell 0 (by omega))
        rwa [addr_block] at this
      · rw [List.length_take] at hj
        have e1 := hcell j (by omega)
        rw [e0, addr_add] at e1
        rw [e1, List.getD_eq_getElem?_getD, List.getD_eq_getElem?_getD, List.getElem?_take, if_pos (by omega)]
theorem weights_all {H : Type} {P : Program} {e : TypeId} : ∀ {l : List (DataW H)} {d : DataW H}, d ∈ l → ∀ n ∈ d.weights P e, n ∈ DataW.weightsAll P e l
  | x :: r, d, hd, n, hn => by
    rw [DataW.weightsAll, List.mem_append]
    rcases List.mem_cons.1 hd with h | h
    · subst h; exact .inl hn
    · exact .inr (weights_all h n hn)
/-- Entries that were read, as the walk takes them. -/
theorem earg_of {H : Type} {enc : TypeId × Value → H} {W : World} {v : Value} {d : DataW H} {p : List MemPlace} {ts : List TypeId} {ds : List (DataW H)} {base j : Nat}
    (hv : Value.okWide Tryd.prog W .any base 47 v) (h : DataW.Trod enc Tryd.prog W 0 (fun _ => true) true 47 v d p) (hsz : (DataW.weightsEach Tryd.prog ts ds).all (· ≤ reachBytes) = true)
    (ht : ts[j]? = some 47) (hd : ds[j]? = some d) : ∃ q n c es, v = .slice q n c ∧ EN W q n c es := by
  obtain ⟨a0, len0, cap0, rfl⟩ := okWide_slice Tryd.underlying47 hv
  obtain ⟨fuel, hf⟩ := h
  rcases Deep.open_slice Tryd.underlying47 hf with ⟨hcs, _⟩ | ⟨a, l, c, m, n, Df, Pl, hcs, _, hl, hm, hmm, hx, hcell⟩
  · simp [Value.cells] at hcs
    obtain ⟨rfl, rfl, rfl⟩ := hcs
    exact ⟨none, 0, 0, [], rfl, ⟨rfl, by omega, by omega, fun h => by omega⟩⟩
  · simp [Value.cells] at hcs
    obtain ⟨rfl, rfl, rfl⟩ := hcs
    simp only [Prod.mk.injEq] at hx
    simp only [if_true] at hmm
    subst hmm
    have key : ∀ i, i < len0 → ∃ z : (Option Addr × Nat × Nat) × List Int, W.cell? (a.add i) = some (.slice z.1.1 z.1.2.1 z.1.2.2) ∧ In8 W z.1.1 z.1.2.1 z.1.2.2 z.2 := fun i hi => by
      obtain ⟨cs', hc, ht'⟩ := hcell i (by omega)
      rw [cells22, Nat.mul_one] at hc
      have hc2 := World.cells?_some hc
      have e := hc2.2.2 0 (by omega)
      rw [Deep.add_add, Nat.add_zero] at e
      have hl1 : cs'.length = 1 := hc2.2.1
      match cs', hl1 with
      | [u], _ =>
        obtain ⟨q, n', c', xs, rfl, hI⟩ := in8_of ht' (fun k hk => by
          have hmem : k ∈ DataW.weightsEach Tryd.prog ts ds := DataW.weights_mem_each ht hd k (by
            rw [hx.1]
            simp only [DataW.weights, Tryd.underlying47]
            refine List.mem_cons_of_mem _ (List.mem_append.2 (.inl (weights_all (d := Df i) (List.mem_map.2 ⟨i, List.mem_range.2 hi, rfl⟩) k hk))))
          simpa using List.all_eq_true.1 hsz k hmem)
        exact ⟨((q, n', c'), xs), by rw [e]; rfl, hI⟩
    obtain ⟨f, hf⟩ := Deep.choose_lt (α := (Option Addr × Nat × Nat) × List Int) (p := fun i z => W.cell? (a.add i) = some (.slice z.1.1 z.1.2.1 z.1.2.2) ∧ In8 W z.1.1 z.1.2.1 z.1.2.2 z.2) key
    refine ⟨some a, len0, _, (List.range len0).map fun i => (f i).2, rfl, ⟨by simp, hl, by unfold maxLen at hm; omega, fun h0 => ?_⟩⟩
    have e0 := spot_of (hf 0 h0).1
    refine ⟨a.block, a.off, by rw [← e0], ?_, fun i hi => ?_⟩
    · have := block_lt_of_cell (hf 0 h0).1
      rwa [addr_block] at this
    · have e1 := (hf i hi).1
      rw [e0, addr_add] at e1
      refine ⟨_, _, _, e1, ?_⟩
      have e2 : ((List.range len0).map fun i => (f i).2).getD i [] = (f i).2 := by simp [List.getD_eq_getElem?_getD, hi]
      rw [e2]; exact (hf i hi).2
end Go.Proofs.YtcmjlhcpoajbkaaDoor
namespace Go.Proofs.YtcmjlhcpoajbkaaDoor
set_option maxRecDepth 100000
open Go.ChangeShapes Go.WideShapes Go.ChangeAt Go.RowKit
/-- Bytes that were read, as the walk takes them. -/
theorem in8_small {H : Type} {enc : TypeId × Value → H} {W : World} {fuel : Nat} {v : Value} {d : DataW H} {pl : List MemPlace}
    (hf : DataW.trod enc Tryd.prog W 0 (fun _ => true) true fuel 22 [v] = some (d, pl)) (hsz : ∀ n ∈ d.weights Tryd.prog 22, n ≤ reachBytes) : ∃ p n c xs, v = .slice p n c ∧ In8 W p n c xs ∧ n ≤ 140737488351232 := by
  rcases open_ints Tryd.underlying22 Tryd.underlying5 (by kernel_rfl) hf with ⟨hcs, _⟩ | ⟨x, l, c, zs, hcs, _, hl, hm, hz, hx, hcell, hwz⟩
  · simp at hcs
    exact ⟨none, 0, 0, [], hcs, in8_nil W, by omega⟩
  · simp at hcs
    have hz' : zs.length = c := by simpa using hz
    simp only [Prod.mk.injEq] at hx
    have hs : (l + (c - l)) * Tryd.prog.bytesOf 5 ≤ reachBytes := by
      refine hsz _ ?_
      rw [hx.1]
      simp only [DataW.weights, Tryd.underlying22, lits, List.length_map, List.length_take, List.length_drop, hz', Nat.min_eq_left hl]
      exact List.mem_cons_self
    rw [bytes5] at hs
    simp only [reachBytes] at hs
    refine ⟨some x, l, c, zs.take l, hcs, ⟨by rw [List.length_take]; omega, Bytes.of fun y hy => ?_, hl, by unfold maxLen at hm; omega, by omega, fun h0 => ?_⟩, by omega⟩
    · have := bounds_u8 (hwz y (List.mem_of_mem_take hy))
      omega
    · rw [List.length_take] at h0
      have e0 := spot_of (hcell 0 (by omega))
      refine ⟨x.block, x.off, by rw [← e0], ?_, fun j hj => ?_⟩
      · have := block_lt_of_cell (hcell 0 (by omega))
        rwa [addr_block] at this
      · rw [List.length_take] at hj
        have e1 := hcell j (by omega)
        rw [e0, addr_add] at e1
        rw [e1, List.getD_eq_getElem?_getD, List.getD_eq_getElem?_getD, List.getElem?_take, if_pos (by omega)]
theorem key_small {H : Type} {enc : TypeId × Value → H} {W : World} {v : Value} {d : DataW H} {p : List MemPlace} {ts : List TypeId} {ds : List (DataW H)} {base j : Nat}
    (hv : Value.okWide Tryd.prog W .any base 22 v) (h : DataW.Trod enc Tryd.prog W 0 (fun _ => true) true 22 v d p) (hsz : (DataW.weightsEach Tryd.prog ts ds).all (· ≤ reachBytes) = true)
    (ht : ts[j]? = some 22) (hd : ds[j]? = some d) : ∃ q n c xs, v = .slice q n c ∧ In8 W q n c xs ∧ n ≤ 140737488351232 := by
  obtain ⟨a0, len0, cap0, rfl⟩ := okWide_slice Tryd.underlying22 hv
  obtain ⟨fuel, hf⟩ := h
  exact in8_small hf (fun k hk => by simpa using List.all_eq_true.1 hsz k (DataW.weights_mem_each ht hd k hk))
end Go.Proofs.YtcmjlhcpoajbkaaDoor
