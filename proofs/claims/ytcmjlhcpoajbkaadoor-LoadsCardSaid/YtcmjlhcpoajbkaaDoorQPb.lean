import Derived.RangeFuncNested
import Derived.RangeFuncBound
import Derived.RangeFuncCalls
import Derived.RangeFuncLeaves
import Derived.Shelf.Abstract
import Derived.Shelf.RegionOpen
import Derived.WalkKit
import Derived.OwnWalkIn
import Derived.TacticsInMore
import Derived.LoopNIn
import Derived.LoopIn
import Derived.Test.YtcmjlhcpoajbkaaDoorQBr
namespace Go.Proofs.YtcmjlhcpoajbkaaDoor
set_option linter.unusedSimpArgs false
open Go.RowKit Go.Shelf
attribute [local go_sem] Oper.semAt_some
theorem wpOp_skip' {P : Program} {ops : Array Oper} {Q : Exit → Act → World → Prop} {i : Nat} {o : Oper} {K : Act → World → Prop} {a : Act} {w w' : World} (hi : ops[i]? = some o) (hg : o.guard = none)
    (hrun : (execOp a.eval o).run P w = .ok .skip w') (h : K (a.put o.dst undef) w') : wpOp P ops Q i K a w := by
  unfold wpOp
  simp only [hi, Region.wanted, hg, if_true]
  refine .inl ?_
  unfold Oper.wp
  rw [hrun]
  exact h
theorem block_kept {W W' : World} {row : Option Nat} {k : Nat} {c : Array Value} {t : TypeId} {fz : Nat × Nat} (h : W.heap[k]? = some (.cells c t fz)) (hg : W.grownBy W' row) (hr : ∀ r, row = some r → ∃ o : Obj, W.heap[r]? = some o ∧ o.isCells = false) : W'.heap[k]? = W.heap[k]? := by
  refine hg.block k (Array.getElem?_eq_some_iff.1 h).1 (fun e => ?_)
  obtain ⟨o, h1, h2⟩ := hr k e.symm
  rw [h] at h1
  cases h1
  cases h2
theorem owns_kept {W W' : World} {row : Option Nat} {B s n : Nat} {t : TypeId} {v : Value} {xs : List Value} (h : W.ownsRow B t s v n xs) (hg : W.grownBy W' row) (hr : ∀ r, row = some r → ∃ o : Obj, W.heap[r]? = some o ∧ o.isCells = false) : W'.ownsRow B t s v n xs := by
  obtain ⟨h1, h2 | ⟨g, cap, cur, hv, hgb, hh, r⟩⟩ := h
  · exact ⟨h1, .inl h2⟩
  · exact ⟨h1, .inr ⟨g, cap, cur, hv, hgb, (block_kept hh hg hr).trans hh, r⟩⟩
theorem Own8.kept {W W' : World} {row : Option Nat} {B : Nat} {v : Value} {xs : List Int} (h : Own8 W B v xs) (hg : W.grownBy W' row) (hr : ∀ r, row = some r → ∃ o : Obj, W.heap[r]? = some o ∧ o.isCells = false) : Own8 W' B v xs := ⟨h.1, h.2.1, h.2.2.1, owns_kept h.2.2.2 hg hr⟩
theorem Boxed.kept' {W W' : World} {row : Option Nat} {B : Nat} {t : TypeId} {v : Value} (h : Boxed W B t v) (hg : W.grownBy W' row) (hr : ∀ r, row = some r → ∃ o : Obj, W.heap[r]? = some o ∧ o.isCells = false) : Boxed W' B t v := (block_kept h hg hr).trans h
theorem keeps_below {W W' : World} (h : Below W.heap.size W W') : KeepsOthers W W' := ⟨h.size, fun k _ hk _ => (h.block k (Array.getElem?_eq_some_iff.1 hk).1).trans hk⟩
theorem Own8.setOther {W : World} {B : Nat} {v : Value} {xs : List Int} (h : Own8 W B v xs) (b : Nat) (hb : v.ownBlock ≠ some b) (u : Value) : Own8 (W.setCell ⟨b, 0, none⟩ u) B v xs := ⟨h.1, h.2.1, h.2.2.1, ownsRow_setCell_other h.2.2.2 hb u⟩
/-- What stands while the two hashes are told. -/
structure PSt (w W : World) (S1 S2 : Value) (X1 X2 : List Int) (Y : World) : Prop where
  below : Below w.heap.size w Y
  keeps : KeepsOthers W Y
  one : Boxed Y (w.heap.size + 1) 22 S1
  two : Boxed Y (w.heap.size + 2) 22 S2
  three : Boxed Y (w.heap.size + 3) 4 (.bool false)
  own1 : Own8 Y w.heap.size S1 X1
  own2 : Own8 Y w.heap.size S2 X2
theorem PSt.step {w W : World} {S1 S2 : Value} {X1 X2 : List Int} {Y Y' : World} (h : PSt w W S1 S2 X1 X2 Y) (hb : Below Y.heap.size Y Y') : PSt w W S1 S2 X1 X2 Y' :=
  ⟨h.below.trans (hb.mono h.below.size), h.keeps.trans (keeps_below hb), (hb.block _ h.one.lt).trans h.one, (hb.block _ h.two.lt).trans h.two, (hb.block _ h.three.lt).trans h.three, h.own1.below hb, h.own2.below hb⟩
def PCells (w : World) (S1 S2 : Value) (Y : World) : Prop :=
  Y.cell? ⟨w.heap.size + 1, 0, none⟩ = some S1 ∧ Y.frozen? ⟨w.heap.size + 1, 0, none⟩ = false ∧ Y.cell? ⟨w.heap.size + 2, 0, none⟩ = some S2 ∧ Y.frozen? ⟨w.heap.size + 2, 0, none⟩ = false ∧
  (Y.setCell ⟨w.heap.size + 1, 0, none⟩ S1).cell? ⟨w.heap.size + 2, 0, none⟩ = some S2 ∧ (Y.setCell ⟨w.heap.size + 1, 0, none⟩ S1).frozen? ⟨w.heap.size + 2, 0, none⟩ = false ∧
  ((Y.setCell ⟨w.heap.size + 1, 0, none⟩ S1).setCell ⟨w.heap.size + 2, 0, none⟩ S2).cell? ⟨w.heap.size + 3, 0, none⟩ = some (.bool false) ∧ ((Y.setCell ⟨w.heap.size + 1, 0, none⟩ S1).setCell ⟨w.heap.size + 2, 0, none⟩ S2).frozen? ⟨w.heap.size + 3, 0, none⟩ = false
theorem PSt.cells {w W : World} {S1 S2 : Value} {X1 X2 : List Int} {Y : World} (h : PSt w W S1 S2 X1 X2 Y) : PCells w S1 S2 Y := by
  have b2 := h.two.other (B' := w.heap.size + 1) (by omega) S1
  have b3 := (h.three.other (B' := w.heap.size + 1) (by omega) S1).other (B' := w.heap.size + 2) (by omega) S2
  exact ⟨h.one.cell, h.one.frozen, h.two.cell, h.two.frozen, b2.cell, b2.frozen, b3.cell, b3.frozen⟩
theorem PSt.drew {w W : World} {S1 S2 : Value} {X1 X2 : List Int} {Y : World} (h : PSt w W S1 S2 X1 X2 Y) : PSt w W S1 S2 X1 X2 Y.drew := ⟨h.below.drew, h.keeps.trans (KeepsOthers.drew _), h.one, h.two, h.three, h.own1, h.own2⟩
theorem PSt.last {w W : World} {S1 S2 : Value} {X1 X2 : List Int} {Y : World} (h : PSt w W S1 S2 X1 X2 Y) (x1 x2 : Nat) (h1 : S1.ownBlock = some x1) (h2 : S2.ownBlock = some x2) (hx1 : w.heap.size + 4 ≤ x1) (hx2 : w.heap.size + 4 ≤ x2) (v : Value) :
    let Z := ((Y.setCell ⟨w.heap.size + 1, 0, none⟩ S1).setCell ⟨w.heap.size + 2, 0, none⟩ S2).setCell ⟨w.heap.size + 3, 0, none⟩ v
    KeepsOthers W Z ∧ Boxed Z (w.heap.size + 1) 22 S1 ∧ Boxed Z (w.heap.size + 2) 22 S2 ∧ Boxed Z (w.heap.size + 3) 4 v ∧ Own8 Z w.heap.size S1 X1 ∧ Own8 Z w.heap.size S2 X2 ∧ Below w.heap.size w Z :=
  ⟨((h.keeps.trans (KeepsOthers.setCell _ _ _)).trans (KeepsOthers.setCell _ _ _)).trans (KeepsOthers.setCell _ _ _), ((h.one.set S1).other (by omega) _).other (by omega) _, ((h.two.other (by omega) _).set S2).other (by omega) _, ((h.three.other (by omega) _).other (by omega) _).set v,
    ((h.own1.setOther _ (by rw [h1]; simp; omega) _).setOther _ (by rw [h1]; simp; omega) _).setOther _ (by rw [h1]; simp; omega) _, ((h.own2.setOther _ (by rw [h2]; simp; omega) _).setOther _ (by rw [h2]; simp; omega) _).setOther _ (by rw [h2]; simp; omega) _,
    ((h.below.setCell (p := ⟨w.heap.size + 1, 0, none⟩) (by simp) _).setCell (p := ⟨w.heap.size + 2, 0, none⟩) (by simp) _).setCell (p := ⟨w.heap.size + 3, 0, none⟩) (by simp) _⟩
/-- What part tells: none, or the highest two texts that are unlike. -/
def Parted (w w' : World) (m : Nat) (tx ty : Nat → List Int) (e : Ending) : Prop :=
  ((∀ k, k ≤ m → tx k = ty k) ∧ e = .returned (.tuple #[.slice none 0 0, .slice none 0 0, .bool false])) ∨
  (∃ k, k ≤ m ∧ tx k ≠ ty k ∧ (∀ j, k < j → j ≤ m → tx j = ty j) ∧ ∃ v1 v2, e = .returned (.tuple #[v1, v2, .bool (decide (hP (tx k) = hP (ty k)))]) ∧ Own8 w' w.heap.size v1 (tx k) ∧ Own8 w' w.heap.size v2 (ty k) ∧ v1.ownBlock ≠ v2.ownBlock)
set_option maxRecDepth 100000 in
set_option maxHeartbeats 4000000 in
theorem part_any (w : World) (hT : Tabs KS HS w) (g cap g' cap' m : Nat) (tx ty : Nat → List Int) (V U : Nat → Value) (hm : m ≤ 100) (hg : g < w.heap.size) (hg' : g' < w.heap.size)
    (hV : ∀ j, j ≤ m → w.cell? ⟨g, j, none⟩ = some (V j)) (hU : ∀ j, j ≤ m → w.cell? ⟨g', j, none⟩ = some (U j)) (kV : ∀ j, j ≤ m → TextK w (V j) (tx j)) (kU : ∀ j, j ≤ m → TextK w (U j) (ty j)) :
    Calls Tryd.prog 106 #[.slice (some ⟨g, 0, none⟩) (m + 1) cap, .slice (some ⟨g', 0, none⟩) (m + 1) cap'] w fun e w' => Parted w w' m tx ty e ∧ Below w.heap.size w w' := by
  refine (callsIn_wide (n := 3)).1 ?_
  refine callsIn_of_wp_marks Tryd.func106 rfl trivial ?_ rfl
  simp only [Tryd.ntmps106, List.size_toArray, List.length_cons, List.length_nil, Nat.reduceAdd, Nat.reduceSub, Array.replicate_succ, Array.replicate_zero, List.push_toArray, List.append_toArray, List.nil_append, List.cons_append]
  gi_wp2
  refine ⟨trivial, ?_⟩
  refine (back_in Fence.wide 2 trivial rfl _ _ _ _).mono ?_
  rintro e w' ⟨rfl, rfl⟩
  gi_wp2
  obtain ⟨OV, hOV⟩ : ∃ OV, Value.slice (some ⟨g, 0, none⟩) (m + 1) cap = OV := ⟨_, rfl⟩
  obtain ⟨TV, hTV⟩ : ∃ TV, Value.slice (some ⟨g', 0, none⟩) (m + 1) cap' = TV := ⟨_, rfl⟩
  obtain ⟨W0, hW0⟩ : ∃ W0, ((((w.alloc (.cells #[TV] 150)).alloc (.cells #[.slice none 0 0] 22)).alloc (.cells #[.slice none 0 0] 22)).alloc (.cells #[.bool false] 4)).alloc (.cells #[OV] 150) = W0 := ⟨_, rfl⟩
  have hs0 : W0.heap.size = w.heap.size + 5 := by rw [← hW0]; simp
  have b0 : Boxed W0 w.heap.size 150 TV := by rw [← hW0]; exact ((((Boxed.new w _ _).alloc _).alloc _).alloc _).alloc _
  have b1 : Boxed W0 (w.heap.size + 1) 22 (.slice none 0 0) := by rw [← hW0]; exact ((((by have := Boxed.new (w.alloc (.cells #[TV] 150)) 22 (.slice none 0 0); rwa [World.size_alloc] at this : Boxed _ _ _ _)).alloc _).alloc _).alloc _
  have b2 : Boxed W0 (w.heap.size + 2) 22 (.slice none 0 0) := by rw [← hW0]; exact ((by have := Boxed.new ((w.alloc (.cells #[TV] 150)).alloc (.cells #[.slice none 0 0] 22)) 22 (.slice none 0 0); rwa [World.size_alloc, World.size_alloc] at this : Boxed _ _ _ _).alloc _).alloc _
  have b3 : Boxed W0 (w.heap.size + 3) 4 (.bool false) := by rw [← hW0]; exact (by have := Boxed.new (((w.alloc (.cells #[TV] 150)).alloc (.cells #[.slice none 0 0] 22)).alloc (.cells #[.slice none 0 0] 22)) 4 (.bool false); rwa [World.size_alloc, World.size_alloc, World.size_alloc] at this : Boxed _ _ _ _).alloc _
  have b4 : Boxed W0 (w.heap.size + 4) 150 OV := by rw [← hW0]; exact (by have := Boxed.new ((((w.alloc (.cells #[TV] 150)).alloc (.cells #[.slice none 0 0] 22)).alloc (.cells #[.slice none 0 0] 22)).alloc (.cells #[.bool false] 4)) 150 OV; rwa [World.size_alloc, World.size_alloc, World.size_alloc, World.size_alloc] at this : Boxed _ _ _ _)
  have hB0 : Below w.heap.size w W0 := by rw [← hW0]; exact (((((Below.refl _ w).alloc (Nat.le_refl _) _).alloc (by simp) _).alloc (by simp; omega) _).alloc (by simp; omega) _).alloc (by simp; omega) _
  have cell0 : W0.cell? ⟨w.heap.size + 4, 0, none⟩ = some (.slice (some ⟨g, 0, none⟩) (m + 1) cap) := by rw [hOV]; exact b4.cell
  have hVs := back_stops Fence.wide 2 trivial rfl (by omega) (w.heap.size + 4) w.heap.size g m cap V (by omega) hg W0 (by omega) (by omega) cell0 (fun j hj => (hB0.cell (p := ⟨g, j, none⟩) hg).trans (hV j hj))
  simp only [hOV, hTV, hW0]
  have e2 : w.heap.size + 1 + 1 = w.heap.size + 2 := rfl
  have e3 : w.heap.size + 2 + 1 = w.heap.size + 3 := rfl
  have e4 : w.heap.size + 3 + 1 = w.heap.size + 4 := rfl
  simp only [e2, e3, e4]
  refine wpIn_rangeFunc_ownG rfl (by omega) (gf := 131) (lb := #[.pointer (some ⟨w.heap.size + 4, 0, none⟩)]) rfl trivial (enters_of Tryd.func131 (by kernel_rfl) rfl)
    hVs KpB.trans (fun W l o o' hl h hc hw => ⟨belowK_b (w := W0) (by omega) W l o o' hl h hc hw, by have h5 := hs0; rw [World.putObj]; simp [Array.getElem?_setIfInBounds]; omega⟩) (Below.refl _ _) (fun _ => rfl)
    (fun pre W => ((∀ x ∈ pre, tx x.1 = ty x.1) ∧ Boxed W w.heap.size 150 TV ∧ (∃ u, Boxed W (w.heap.size + 1) 22 u) ∧ (∃ u, Boxed W (w.heap.size + 2) 22 u) ∧ Boxed W (w.heap.size + 3) 4 (.bool false) ∧ Boxed W (w.heap.size + 4) 150 OV) ∧ Below w.heap.size w W)
    (fun c pre W => (c = .ret ∧ ∃ ini last v1 v2, pre = ini ++ [last] ∧ (∀ x ∈ ini, tx x.1 = ty x.1) ∧ tx last.1 ≠ ty last.1 ∧ Boxed W (w.heap.size + 1) 22 v1 ∧ Boxed W (w.heap.size + 2) 22 v2 ∧ Boxed W (w.heap.size + 3) 4 (.bool (decide (hP (tx last.1) = hP (ty last.1)))) ∧ Own8 W w.heap.size v1 (tx last.1) ∧ Own8 W w.heap.size v2 (ty last.1) ∧ v1.ownBlock ≠ v2.ownBlock) ∧ Below w.heap.size w W)
    (OwnFrom.and (Own.from (fun s A B row hs hg hr => ⟨hs.1, Boxed.kept' hs.2.1 hg hr, by obtain ⟨u, h⟩ := hs.2.2.1; exact ⟨u, Boxed.kept' h hg hr⟩, by obtain ⟨u, h⟩ := hs.2.2.2.1; exact ⟨u, Boxed.kept' h hg hr⟩, Boxed.kept' hs.2.2.2.2.1 hg hr, Boxed.kept' hs.2.2.2.2.2 hg hr⟩) _) (ownFrom_below (Nat.le_refl _) (by omega)))
    (fun c => OwnFrom.and (Own.from (fun s A B row hs hg hr => by obtain ⟨hc, ini, last, v1, v2, q1, q2, q3, q4, q5, q6, q7, q8, q9⟩ := hs; exact ⟨hc, ini, last, v1, v2, q1, q2, q3, Boxed.kept' q4 hg hr, Boxed.kept' q5 hg hr, Boxed.kept' q6 hg hr, q7.kept hg hr, q8.kept hg hr, q9⟩) _) (ownFrom_below (Nat.le_refl _) (by omega)))
    ⟨⟨by simp, b0, ⟨_, b1⟩, ⟨_, b2⟩, b3, b4⟩, hB0⟩
    (fun x => { tmps := #[OV, TV, undef, .pointer (some ⟨w.heap.size, 0, none⟩), .pointer (some ⟨w.heap.size + 1, 0, none⟩), .pointer (some ⟨w.heap.size + 2, 0, none⟩), .pointer (some ⟨w.heap.size + 3, 0, none⟩), .int .i64 (x.1 : Int), V x.1, undef, OV, .func (.func 131) #[] #[.pointer (some ⟨w.heap.size + 4, 0, none⟩)], .int .i64 (x.1 : Int), V x.1, undef, undef, undef, undef, undef, undef, undef, undef, undef, undef, undef, undef, undef, undef, undef, undef, undef, undef, undef], defers := [] }) ?assign ?body ?done ?stop
  case assign =>
    intro l x W K hK
    gi_wp2
    exact hK
  case body =>
    rintro l pre x W ⟨⟨hp, d0, ⟨u1, d1⟩, ⟨u2, d2⟩, d3, d4⟩, hB⟩ _
    obtain ⟨f1, a1, hv1, en1, c1⟩ := (kV x.1 x.2).own
    obtain ⟨f2, a2, hv2, en2, c2⟩ := (kU x.1 x.2).own
    have hcU : W.cell? ⟨g', x.1, none⟩ = some (.func (.func f2) #[a2] #[]) := (hB.cell (p := ⟨g', x.1, none⟩) hg').trans (by rw [hU x.1 x.2, hv2])
    have hTc := d0.cell
    have hix : ∀ W : World, (Instr.indexAt 150 TV (.int .i64 (x.1 : Int))).run Tryd.prog W = .ok (.pointer (some ⟨g', x.1, none⟩)) W := fun W => by rw [← hTV]; exact index150 g' (m + 1) cap' x.1 (by have := x.2; omega) W
    simp only [hv1]
    have HA : ∀ Y : World, Below w.heap.size w Y → Calls Tryd.prog 93 #[.func (.func f1) #[a1] #[]] Y fun e w' => e = .returned (.agg (A8 (hP (tx x.1)))) ∧ Below Y.heap.size Y w' := fun Y hY => by
      have h := textHash_any Y _ _ (hT.below hY) ((kV x.1 x.2).below hY).text
      rwa [hv1] at h
    have HC : ∀ Y : World, Below w.heap.size w Y → Calls Tryd.prog 93 #[.func (.func f2) #[a2] #[]] Y fun e w' => e = .returned (.agg (A8 (hP (ty x.1)))) ∧ Below Y.heap.size Y w' := fun Y hY => by
      have h := textHash_any Y _ _ (hT.below hY) ((kU x.1 x.2).below hY).text
      rwa [hv2] at h
    clear hVs kV kU
    gi_wp2
    refine ⟨trivial, ?_⟩
    refine (CallsIn.inRound l (callsIn_wide.2 (c1 W hB))).mono ?_
    rintro e W1 ⟨w1, rfl, k1, o1⟩
    have hB1 : Below w.heap.size w W1 := hB.trans (k1.mono hB.size)
    gi_wp2
    refine ⟨trivial, ?_⟩
    refine (CallsIn.inRound l (callsIn_wide.2 (c2 W1 hB1))).mono ?_
    rintro e W2 ⟨w2, rfl, k2, o2⟩
    have hB2 : Below w.heap.size w W2 := hB1.trans (k2.mono hB1.size)
    have kW : Below W.heap.size W W2 := k1.trans (k2.mono k1.size)
    have d1' : Boxed W2 (w.heap.size + 1) 22 u1 := (kW.block _ d1.lt).trans d1
    have d2' : Boxed W2 (w.heap.size + 2) 22 u2 := (kW.block _ d2.lt).trans d2
    have d0' : Boxed W2 w.heap.size 150 TV := (kW.block _ d0.lt).trans d0
    have d3' : Boxed W2 (w.heap.size + 3) 4 (.bool false) := (kW.block _ d3.lt).trans d3
    have o1' := o1.below k2
    obtain ⟨x1, z1, rfl, y1, n1, i1⟩ := o1.in8
    obtain ⟨x2, z2, rfl, y2, n2, i2⟩ := o2.in8
    have q1 := d1'.cell
    have r1 := d1'.frozen
    have q2 := (d2'.other (B' := w.heap.size + 1) (by omega) (.slice (some ⟨x1, 0, none⟩) (tx x.1).length z1)).cell
    have r2 := (d2'.other (B' := w.heap.size + 1) (by omega) (.slice (some ⟨x1, 0, none⟩) (tx x.1).length z1)).frozen
    gi_wp2
    obtain ⟨S1, hS1⟩ : ∃ S1, Value.slice (some ⟨x1, 0, none⟩) (tx x.1).length z1 = S1 := ⟨_, rfl⟩
    obtain ⟨S2, hS2⟩ : ∃ S2, Value.slice (some ⟨x2, 0, none⟩) (ty x.1).length z2 = S2 := ⟨_, rfl⟩
    have ob1 : S1.ownBlock = some x1 := by rw [← hS1]; rfl
    have ob2 : S2.ownBlock = some x2 := by rw [← hS2]; rfl
    rw [hS1] at o1' q2 r2
    rw [hS2] at o2
    obtain ⟨X, hX⟩ : ∃ X, (W2.setCell ⟨w.heap.size + 1, 0, none⟩ S1).setCell ⟨w.heap.size + 2, 0, none⟩ S2 = X := ⟨_, rfl⟩
    have hlt3 := d3.lt
    have oX1 : Own8 X w.heap.size S1 (tx x.1) := by rw [← hX]; exact ((o1'.mono hB.size).setOther _ (by rw [ob1]; simp; omega) _).setOther _ (by rw [ob1]; simp; omega) _
    have oX2 : Own8 X w.heap.size S2 (ty x.1) := by rw [← hX]; exact ((o2.mono hB1.size).setOther _ (by rw [ob2]; simp; have := k1.size; omega) _).setOther _ (by rw [ob2]; simp; have := k1.size; omega) _
    have e1 : Boxed X (w.heap.size + 1) 22 S1 := by rw [← hX]; exact (d1'.set S1).other (by omega) _
    have e2 : Boxed X (w.heap.size + 2) 22 S2 := by rw [← hX]; exact (d2'.other (by omega) _).set S2
    have e0 : Boxed X w.heap.size 150 TV := by rw [← hX]; exact (d0'.other (by omega) _).other (by omega) _
    have e3 : Boxed X (w.heap.size + 3) 4 (.bool false) := by rw [← hX]; exact (d3'.other (by omega) _).other (by omega) _
    have hBX : Below w.heap.size w X := by rw [← hX]; exact (hB2.setCell (p := ⟨w.heap.size + 1, 0, none⟩) (by simp) _).setCell (p := ⟨w.heap.size + 2, 0, none⟩) (by simp) _
    have hWX : Below w.heap.size W X := by rw [← hX]; exact ((kW.mono hB.size).setCell (p := ⟨w.heap.size + 1, 0, none⟩) (by simp) _).setCell (p := ⟨w.heap.size + 2, 0, none⟩) (by simp) _
    have hKX : KeepsOthers W X := by rw [← hX]; exact ((keeps_below kW).trans (KeepsOthers.setCell _ _ _)).trans (KeepsOthers.setCell _ _ _)
    have hsX : W2.heap.size = X.heap.size := by rw [← hX]; simp [World.setCell]
    have hb4 : X.heap[w.heap.size + 4]? = W.heap[w.heap.size + 4]? := by
      rw [← hX, Below.heap_setCell _ _ _ _ (by simp), Below.heap_setCell _ _ _ _ (by simp)]
      exact kW.block _ d4.lt
    have e4 : Boxed X (w.heap.size + 4) 150 OV := hb4.trans d4
    simp only [hS1, hS2, hX]
    clear q1 r1 q2 r2 o1' o2 o1 d1' d2' d0' d3' k1 k2 hcU hTc d0 d1 d2 d3 d4
    obtain ⟨x1', z1', hS1', _, _, i1'⟩ := oX1.in8
    obtain ⟨x2', z2', hS2', _, _, i2'⟩ := oX2.in8
    have hEq : Calls Tryd.prog 124 #[S1, S2] X fun e w' => e = .returned (.bool (decide (tx x.1 = ty x.1))) ∧ w' = X := by
      rw [hS1', hS2']; exact equalB_any X _ _ _ _ _ _ _ _ i1' i2'
    refine ⟨trivial, ?_⟩
    refine (CallsIn.inRound l (callsIn_wide.2 hEq)).mono ?_
    rintro e Y ⟨rfl, rfl⟩
    by_cases hxy : tx x.1 = ty x.1
    · rw [decide_eq_true hxy]
      gi_wp2
      exact ⟨hKX.from _, ⟨hWX, hb4⟩, ⟨fun y hy => (List.mem_append.1 hy).elim (hp y) (fun e => by simp at e; subst e; exact hxy), e0, ⟨_, e1⟩, ⟨_, e2⟩, e3, e4⟩, hBX⟩
    · rw [decide_eq_false hxy]
      clear hS1' hS2' hEq
      subst hS1
      subst hS2
      have hst : PSt w W (.slice (some ⟨x1, 0, none⟩) (tx x.1).length z1) (.slice (some ⟨x2, 0, none⟩) (ty x.1).length z2) (tx x.1) (ty x.1) Y.drew := (show PSt w W (.slice (some ⟨x1, 0, none⟩) (tx x.1).length z1) (.slice (some ⟨x2, 0, none⟩) (ty x.1).length z2) (tx x.1) (ty x.1) Y from ⟨hBX, hKX, e1, e2, e3, oX1, oX2⟩).drew
      have hx14 : w.heap.size + 4 ≤ x1 := by omega
      have hx24 : w.heap.size + 4 ≤ x2 := by omega
      have PA : ∀ Y : World, PSt w W (.slice (some ⟨x1, 0, none⟩) (tx x.1).length z1) (.slice (some ⟨x2, 0, none⟩) (ty x.1).length z2) (tx x.1) (ty x.1) Y → Calls Tryd.prog 93 #[.func (.func f1) #[a1] #[]] Y fun e w' => e = .returned (.agg (A8 (hP (tx x.1)))) ∧ PSt w W (.slice (some ⟨x1, 0, none⟩) (tx x.1).length z1) (.slice (some ⟨x2, 0, none⟩) (ty x.1).length z2) (tx x.1) (ty x.1) w' ∧ PCells w (.slice (some ⟨x1, 0, none⟩) (tx x.1).length z1) (.slice (some ⟨x2, 0, none⟩) (ty x.1).length z2) w' := fun Y hY =>
        (HA Y hY.below).mono fun e w' ⟨h1, h2⟩ => ⟨h1, hY.step h2, (hY.step h2).cells⟩
      have PC : ∀ Y : World, PSt w W (.slice (some ⟨x1, 0, none⟩) (tx x.1).length z1) (.slice (some ⟨x2, 0, none⟩) (ty x.1).length z2) (tx x.1) (ty x.1) Y → Calls Tryd.prog 93 #[.func (.func f2) #[a2] #[]] Y fun e w' => e = .returned (.agg (A8 (hP (ty x.1)))) ∧ PSt w W (.slice (some ⟨x1, 0, none⟩) (tx x.1).length z1) (.slice (some ⟨x2, 0, none⟩) (ty x.1).length z2) (tx x.1) (ty x.1) w' ∧ PCells w (.slice (some ⟨x1, 0, none⟩) (tx x.1).length z1) (.slice (some ⟨x2, 0, none⟩) (ty x.1).length z2) w' := fun Y hY =>
        (HC Y hY.below).mono fun e w' ⟨h1, h2⟩ => ⟨h1, hY.step h2, (hY.step h2).cells⟩
      obtain ⟨q1, r1, q2, r2, _⟩ := hst.cells
      have hql : ∀ W : World, (binOp .eql 25 (.agg (A8 (hP (tx x.1)))) (.agg (A8 (hP (ty x.1))))).run Tryd.prog W = .ok (.bool (decide (hP (tx x.1) = hP (ty x.1)))) W := fun W => eql_D _ _ (hP_len _) (hP_bytes _) (hP_len _) (hP_bytes _) W
      have hqg : ∀ (W : World) (y z : Operand), (eqGuard .eql 25 y z (.agg (A8 (hP (tx x.1)))) (.agg (A8 (hP (ty x.1))))).run Tryd.prog W = .ok () W := fun W y z => run_eqGuard_agg (P := Tryd.prog) W .eql 25 y z _ _ (by kernel_rfl)
      have HH : Hid (PSt w W (.slice (some ⟨x1, 0, none⟩) (tx x.1).length z1) (.slice (some ⟨x2, 0, none⟩) (ty x.1).length z2) (tx x.1) (ty x.1) Y.drew) := hst
      generalize hH1 : hP (tx x.1) = H1 at *
      generalize hH2 : hP (ty x.1) = H2 at *
      generalize hDD : decide (H1 = H2) = DD at *
      clear hix en1 en2 c1 c2 i1 i2 i1' i2' e0 e1 e2 e3 e4 hb4 hWX HA HC oX1 oX2 hKX hBX
      have hmx : Tryd.prog.follows .mixedOrders = true := by kernel_rfl
      gi_wp2
      refine wpIn_region_round (S := fun Y => Boxed Y (w.heap.size + 1) 22 (.slice (some ⟨x1, 0, none⟩) (tx x.1).length z1) ∧ Boxed Y (w.heap.size + 2) 22 (.slice (some ⟨x2, 0, none⟩) (ty x.1).length z2)) (K := fun _ Z => ∃ Y', PSt w W (.slice (some ⟨x1, 0, none⟩) (tx x.1).length z1) (.slice (some ⟨x2, 0, none⟩) (ty x.1).length z2) (tx x.1) (ty x.1) Y' ∧ Z = ((Y'.setCell ⟨w.heap.size + 1, 0, none⟩ (.slice (some ⟨x1, 0, none⟩) (tx x.1).length z1)).setCell ⟨w.heap.size + 2, 0, none⟩ (.slice (some ⟨x2, 0, none⟩) (ty x.1).length z2)).setCell ⟨w.heap.size + 3, 0, none⟩ (.bool DD)) hmx ?nod ?kk ?_
      case nod =>
        intro i o ho c
        rcases i with _ | _ | _ | _ | _ | _ | _ | _ | _ | _ | i
        all_goals first
          | (cases ho; intro h; cases h)
          | (simp at ho)
      case kk =>
        rintro a' Z ⟨Y', hs, rfl⟩
        obtain ⟨k1, k2, k3, k4, k5, k6, k7⟩ := hs.last x1 x2 rfl rfl hx14 hx24 (.bool DD)
        clear hs PA PC hst HH hql hqg
        gi_wp2
        exact ⟨k1.from _, ⟨rfl, pre, x, _, _, rfl, hp, hxy, k2, k3, by rw [hH1, hH2, hDD]; exact k4, k5, k6, by simp [Value.ownBlock]; omega⟩, k7⟩
      have hS0 : Boxed Y.drew (w.heap.size + 1) 22 (.slice (some ⟨x1, 0, none⟩) (tx x.1).length z1) ∧ Boxed Y.drew (w.heap.size + 2) 22 (.slice (some ⟨x2, 0, none⟩) (ty x.1).length z2) := ⟨hst.one, hst.two⟩
      refine wpAnyH_take (i := 2) (v := .func (.func f1) #[a1] #[]) rfl (by kernel_rfl) (by kernel_rfl) (by kernel_rfl) (fun _ _ _ h => h) (.inl ⟨rfl, fun W _ => by go_simp⟩) hS0 ?_
      simp only [Act.put, List.getElem_toArray, List.getElem_cons_zero, List.getElem_cons_succ, List.setIfInBounds_toArray, List.set_cons_zero, List.set_cons_succ]
      refine wpAnyH_take (i := 4) (v := .func (.func f2) #[a2] #[]) rfl (by kernel_rfl) (by kernel_rfl) (by kernel_rfl) (fun _ _ _ h => h) (.inl ⟨rfl, fun W _ => by go_simp⟩) hS0 ?_
      simp only [Act.put, List.getElem_toArray, List.getElem_cons_zero, List.getElem_cons_succ, List.setIfInBounds_toArray, List.set_cons_zero, List.set_cons_succ]
      refine wpAnyH_take (i := 0) (v := .slice (some ⟨x1, 0, none⟩) (tx x.1).length z1) rfl (by kernel_rfl) (by kernel_rfl) (by kernel_rfl) (fun _ _ _ h => h) (.inl ⟨rfl, fun W hW => by have e := hW.1.cell; go_simp⟩) hS0 ?_
      simp only [Act.put, List.getElem_toArray, List.getElem_cons_zero, List.getElem_cons_succ, List.setIfInBounds_toArray, List.set_cons_zero, List.set_cons_succ]
      refine wpAnyH_take (i := 1) (v := .slice (some ⟨x2, 0, none⟩) (ty x.1).length z2) rfl (by kernel_rfl) (by kernel_rfl) (by kernel_rfl) (fun _ _ _ h => h) (.inl ⟨rfl, fun W hW => by have e := hW.2.cell; go_simp⟩) hS0 ?_
      simp only [Act.put, List.getElem_toArray, List.getElem_cons_zero, List.getElem_cons_succ, List.setIfInBounds_toArray, List.set_cons_zero, List.set_cons_succ]
      refine relist #[true, true, true, false, true, false, false, false, false, false] (by kernel_rfl) ?_
      refine any_one (i := 3) (by kernel_rfl) ?_
      refine wpOp_call (f := 93) (args := #[.func (.func f1) #[a1] #[]]) rfl rfl (by go_simp) ?_
      refine (PA _ hst).mono ?_
      rintro e Y1 ⟨rfl, hst1, _⟩
      refine ⟨_, rfl, ⟨hst1.one, hst1.two⟩, ?_⟩
      simp only [Act.put, List.getElem_toArray, List.getElem_cons_zero, List.getElem_cons_succ, List.setIfInBounds_toArray, List.set_cons_zero, List.set_cons_succ]
      refine relist #[true, true, true, true, true, false, false, false, false, false] (by kernel_rfl) ?_
      refine any_one (i := 5) (by kernel_rfl) ?_
      refine wpOp_call (f := 93) (args := #[.func (.func f2) #[a2] #[]]) rfl rfl (by go_simp) ?_
      refine (PC _ hst1).mono ?_
      rintro e Y2 ⟨rfl, hst2, p1, o1, p2, o2, s2, t2, s3, t3⟩
      have hS2 : Boxed Y2 (w.heap.size + 1) 22 (.slice (some ⟨x1, 0, none⟩) (tx x.1).length z1) ∧ Boxed Y2 (w.heap.size + 2) 22 (.slice (some ⟨x2, 0, none⟩) (ty x.1).length z2) := ⟨hst2.one, hst2.two⟩
      refine ⟨_, rfl, hS2, ?_⟩
      simp only [Act.put, List.getElem_toArray, List.getElem_cons_zero, List.getElem_cons_succ, List.setIfInBounds_toArray, List.set_cons_zero, List.set_cons_succ]
      refine wpAnyH_take (i := 6) (v := .bool DD) rfl (by kernel_rfl) (by kernel_rfl) (by kernel_rfl) (fun _ _ _ h => h) (.inl ⟨rfl, fun W _ => by have e := hql W; have e' := hqg W; go_simp⟩) hS2 ?_
      simp only [Act.put, List.getElem_toArray, List.getElem_cons_zero, List.getElem_cons_succ, List.setIfInBounds_toArray, List.set_cons_zero, List.set_cons_succ]
      refine relist #[true, true, true, true, true, true, true, false, false, false] (by kernel_rfl) ?_
      refine any_one (i := 7) (by kernel_rfl) ?_
      refine wpOp_skip' (w' := Y2.setCell ⟨w.heap.size + 1, 0, none⟩ (.slice (some ⟨x1, 0, none⟩) (tx x.1).length z1)) rfl rfl (by go_simp) ?_
      refine ⟨⟨hst2.one.set _, hst2.two.other (by omega) _⟩, ?_⟩
      simp only [Act.put, List.getElem_toArray, List.getElem_cons_zero, List.getElem_cons_succ, List.setIfInBounds_toArray, List.set_cons_zero, List.set_cons_succ]
      refine relist #[true, true, true, true, true, true, true, true, false, false] (by kernel_rfl) ?_
      refine any_one (i := 8) (by kernel_rfl) ?_
      refine wpOp_skip' (w' := (Y2.setCell ⟨w.heap.size + 1, 0, none⟩ (.slice (some ⟨x1, 0, none⟩) (tx x.1).length z1)).setCell ⟨w.heap.size + 2, 0, none⟩ (.slice (some ⟨x2, 0, none⟩) (ty x.1).length z2)) rfl rfl (by go_simp) ?_
      refine ⟨⟨(hst2.one.set _).other (by omega) _, (hst2.two.other (by omega) _).set _⟩, ?_⟩
      simp only [Act.put, List.getElem_toArray, List.getElem_cons_zero, List.getElem_cons_succ, List.setIfInBounds_toArray, List.set_cons_zero, List.set_cons_succ]
      refine relist #[true, true, true, true, true, true, true, true, true, false] (by kernel_rfl) ?_
      refine any_one (i := 9) (by kernel_rfl) ?_
      refine wpOp_skip' (w' := ((Y2.setCell ⟨w.heap.size + 1, 0, none⟩ (.slice (some ⟨x1, 0, none⟩) (tx x.1).length z1)).setCell ⟨w.heap.size + 2, 0, none⟩ (.slice (some ⟨x2, 0, none⟩) (ty x.1).length z2)).setCell ⟨w.heap.size + 3, 0, none⟩ (.bool DD)) rfl rfl (by go_simp) ?_
      refine ⟨⟨((hst2.one.set _).other (by omega) _).other (by omega) _, ((hst2.two.other (by omega) _).set _).other (by omega) _⟩, ?_⟩
      simp only [Act.put, List.getElem_toArray, List.getElem_cons_zero, List.getElem_cons_succ, List.setIfInBounds_toArray, List.set_cons_zero, List.set_cons_succ]
      refine relist #[true, true, true, true, true, true, true, true, true, true] (by kernel_rfl) ?_
      refine wpAnyH_done (by kernel_rfl) ?_ _
      exact ⟨Y2, hst2, rfl⟩
  case done =>
    rintro D ys W hD rfl ⟨⟨hp, d0, ⟨u1, d1⟩, ⟨u2, d2⟩, d3, d4⟩, hB⟩ hK
    have q1 := d1.cell
    have r1 := d1.frozen
    have q2 := (d2.other (B' := w.heap.size + 1) (by omega) (.slice none 0 0)).cell
    have r2 := (d2.other (B' := w.heap.size + 1) (by omega) (.slice none 0 0)).frozen
    have q3 := ((d3.other (B' := w.heap.size + 1) (by omega) (.slice none 0 0)).other (B' := w.heap.size + 2) (by omega) (.slice none 0 0)).cell
    have r3 := ((d3.other (B' := w.heap.size + 1) (by omega) (.slice none 0 0)).other (B' := w.heap.size + 2) (by omega) (.slice none 0 0)).frozen
    gi_wp2
    obtain ⟨Z, hZ⟩ : ∃ Z, ((W.setCell ⟨w.heap.size + 1, 0, none⟩ (.slice none 0 0)).setCell ⟨w.heap.size + 2, 0, none⟩ (.slice none 0 0)).setCell ⟨w.heap.size + 3, 0, none⟩ (.bool false) = Z := ⟨_, rfl⟩
    have hKZ : KeepsOthers W Z := by rw [← hZ]; exact ((KeepsOthers.setCell _ _ _).trans (KeepsOthers.setCell _ _ _)).trans (KeepsOthers.setCell _ _ _)
    have z1 : Boxed Z (w.heap.size + 1) 22 (.slice none 0 0) := by rw [← hZ]; exact ((d1.set _).other (by omega) _).other (by omega) _
    have z2 : Boxed Z (w.heap.size + 2) 22 (.slice none 0 0) := by rw [← hZ]; exact ((d2.other (by omega) _).set _).other (by omega) _
    have z3 : Boxed Z (w.heap.size + 3) 4 (.bool false) := by rw [← hZ]; exact ((d3.other (by omega) _).other (by omega) _).set _
    have hBZ : Below w.heap.size w Z := by rw [← hZ]; exact ((hB.setCell (p := ⟨w.heap.size + 1, 0, none⟩) (by simp) _).setCell (p := ⟨w.heap.size + 2, 0, none⟩) (by simp) _).setCell (p := ⟨w.heap.size + 3, 0, none⟩) (by simp) _
    simp only [hZ]
    have hK' := hKZ.same D _ hK rfl
    refine ⟨by simp, .inl ⟨_, _, rfl, run_takeDeferred hK', ?_⟩⟩
    have y1 := (Boxed.kept' z1 (grownBy_putObj' Z D (.deferred none)) (fun r e => by cases e; exact ⟨_, hK', rfl⟩)).cell
    have y2 := (Boxed.kept' z2 (grownBy_putObj' Z D (.deferred none)) (fun r e => by cases e; exact ⟨_, hK', rfl⟩)).cell
    have y3 := (Boxed.kept' z3 (grownBy_putObj' Z D (.deferred none)) (fun r e => by cases e; exact ⟨_, hK', rfl⟩)).cell
    refine ⟨.tuple #[.slice none 0 0, .slice none 0 0, .bool false], ?_, .inl ⟨fun k hk => ?_, rfl⟩, hBZ.trans (belowK_b (w := w) (Nat.le_refl _) Z D _ _ (by omega) hK' rfl rfl)⟩
    · simp [results, Tryd.f106, go_sem, y1, y2, y3]
    · have h := hp (dn m (m - k)) (by simp only [downTo, List.mem_map, List.mem_range]; exact ⟨m - k, by omega, rfl⟩)
      have e : (dn m (m - k)).1 = k := by show m - (m - k) = k; omega
      rw [e] at h
      exact h
  case stop =>
    rintro D c pre W hD ⟨k, hk, rfl⟩ ⟨⟨rfl, ini, last, v1, v2, q1, q2, q3, q4, q5, q6, q7, q8, q9⟩, hB⟩ hK
    gi_wp2
    refine ⟨by simp, .inl ⟨_, _, rfl, run_takeDeferred hK, ?_⟩⟩
    have hr : ∀ r, some D = some r → ∃ o : Obj, W.heap[r]? = some o ∧ o.isCells = false := fun r e => by cases e; exact ⟨_, hK, rfl⟩
    have y1 := (Boxed.kept' q4 (grownBy_putObj' W D (.deferred none)) hr).cell
    have y2 := (Boxed.kept' q5 (grownBy_putObj' W D (.deferred none)) hr).cell
    have y3 := (Boxed.kept' q6 (grownBy_putObj' W D (.deferred none)) hr).cell
    have y7 := q7.kept (grownBy_putObj' W D (.deferred none)) hr
    have y8 := q8.kept (grownBy_putObj' W D (.deferred none)) hr
    obtain ⟨k', rfl⟩ : ∃ k', k = k' + 1 := by
      cases k with
      | zero => simp [downTo] at q1
      | succ k' => exact ⟨k', rfl⟩
    rw [downTo_succ] at q1
    obtain ⟨rfl, e5⟩ := List.append_inj' q1 rfl
    obtain rfl : dn m k' = last := by simpa using e5
    refine ⟨.tuple #[v1, v2, .bool (decide (hP (tx (dn m k').1) = hP (ty (dn m k').1)))], ?_, .inr ⟨(dn m k').1, (dn m k').2, q3, fun j h1 h2 => ?_, v1, v2, rfl, y7, y8, q9⟩, hB.trans (belowK_b (w := w) (Nat.le_refl _) W D _ _ (by omega) hK rfl rfl)⟩
    · simp [results, Tryd.f106, go_sem, y1, y2, y3]
    · have h1' : m - k' < j := h1
      have h := q2 (dn m (m - j)) (by simp only [downTo, List.mem_map, List.mem_range]; exact ⟨m - j, by omega, rfl⟩)
      have e : (dn m (m - j)).1 = j := by show m - (m - j) = j; omega
      rw [e] at h
      exact h
end Go.Proofs.YtcmjlhcpoajbkaaDoor
