import Derived.RangeFuncNested
import Derived.RangeFuncBound
import Derived.RangeFuncCalls
import Derived.RangeFuncLeaves
import Derived.Shelf.Abstract
import Derived.Shelf.RegionOpen
import Derived.WalkKit
import Derived.OwnWalkIn
import Derived.TacticsInMore
import Derived.LoopNIn
import Derived.LoopIn
import Derived.Test.YtcmjlhcpoajbkaaDoorQCa
import Derived.Test.YtcmjlhcpoajbkaaDoorQLc
import Derived.TacticsIn
import Derived.OrdersIn
import Derived.Test.YtcmjlhcpoajbkaaDoorQTag
namespace Go.Proofs.YtcmjlhcpoajbkaaDoor
open Go.RowKit Go.Shelf
attribute [local go_sem] Oper.semAt_some
abbrev Nx (m : Nat) := { k : Nat // k ≤ m }
def dn (m j : Nat) : Nx m := ⟨m - j, Nat.sub_le _ _⟩
/-- What has come when k rounds are over: m, m - 1, .. -/
def downTo (m k : Nat) : List (Nx m) := (List.range k).map (dn m)
theorem downTo_succ (m k : Nat) : downTo m (k + 1) = downTo m k ++ [dn m k] := by simp [downTo, List.range_succ]
theorem downTo_length (m k : Nat) : (downTo m k).length = k := by simp [downTo]
/-- What a round that goes on keeps. -/
def KpB (n₀ Bs : Nat) (W W' : World) : Prop := Below n₀ W W' ∧ W'.heap[Bs]? = W.heap[Bs]?
theorem KpB.refl (n₀ Bs : Nat) (W : World) : KpB n₀ Bs W W := ⟨Below.refl _ _, rfl⟩
theorem KpB.trans {n₀ Bs : Nat} {A B C : World} (h : KpB n₀ Bs A B) (k : KpB n₀ Bs B C) : KpB n₀ Bs A C := ⟨h.1.trans k.1, k.2.trans h.2⟩
set_option maxRecDepth 100000 in
set_option maxHeartbeats 2000000 in
theorem back1_in (F : Fence) (n : Nat) (hf : F.fn 131) (hro : F.round = none) (hn : 1 ≤ n) (l Bs n₀ g m cap : Nat) (V : Nat → Value) (hm : m ≤ 1000) (hb : g < n₀) (J Jx : List (Nx m) → World → Prop)
    (hY : ∀ pre (x : Nx m) W, J pre W → pre.length < m + 1 → YieldAt F (n - 1) Tryd.prog l #[.int .i64 (x.1 : Int), V x.1] W fun e W' =>
      (e = .returned (.bool true) ∧ J (pre ++ [x]) W' ∧ KpB n₀ Bs W W') ∨ (e = .returned (.bool false) ∧ Jx (pre ++ [x]) W'))
    (W : World) (hBs : W.cell? ⟨Bs, 0, none⟩ = some (.slice (some ⟨g, 0, none⟩) (m + 1) cap)) (hc : ∀ j, j ≤ m → W.cell? ⟨g, j, none⟩ = some (V j)) (h0 : J [] W) :
    CallsIn F n Tryd.prog 131 #[.func (.yield l) #[] #[], .pointer (some ⟨Bs, 0, none⟩)] W fun e W' => (∃ v, e = .returned v) ∧
      ((∃ ys, ys = downTo m (m + 1) ∧ J ys W') ∨ (∃ pre, (∃ k, k ≤ m + 1 ∧ pre = downTo m k) ∧ Jx pre W')) := by
  refine callsIn_of_wp Tryd.func131 rfl hf ?_ hro
  simp only [Tryd.ntmps131, List.size_toArray, List.length_cons, List.length_nil, Nat.reduceAdd, Nat.reduceSub, Array.replicate_succ, Array.replicate_zero, List.push_toArray, List.append_toArray, List.nil_append, List.cons_append]
  have es : ((m : Int) + 1 - 1) = m := by omega
  gi_wp2
  gi_loopw [3] (fun i wr => ∃ k : Nat, k ≤ m + 1 ∧ i = .int .i64 ((m : Int) - k) ∧ J (downTo m k) wr ∧ KpB n₀ Bs W wr)
    (fun i _ => ((intOf i) + 1).toNat)
  case atStart => exact ⟨0, Nat.zero_le _, by simp, h0, KpB.refl _ _ _⟩
  case round =>
    obtain ⟨k, hk, rfl, hJs, hnx⟩ := hrel
    by_cases hlt : k ≤ m
    · have hBs' : wr.cell? ⟨Bs, 0, none⟩ = some (.slice (some ⟨g, 0, none⟩) (m + 1) cap) := (World.cell?_of_block (w := W) hnx.2).trans hBs
      have hcx : wr.cell? ⟨g, m - k, none⟩ = some (V (m - k)) := (hnx.1.cell (p := ⟨g, m - k, none⟩) hb).trans (hc _ (by omega))
      have ek : ((m : Int) - k) = ((m - k : Nat) : Int) := by omega
      have hix : ∀ W : World, (Instr.indexAt 150 (.slice (some ⟨g, 0, none⟩) (m + 1) cap) (.int .i64 ((m - k : Nat) : Int))).run Tryd.prog W = .ok (.pointer (some ⟨g, m - k, none⟩)) W := fun W => index150 g (m + 1) cap (m - k) (by omega) W
      obtain ⟨fn, tmps, assign, body, hy, hR⟩ := hY _ (dn m k) wr hJs (by rw [downTo_length]; omega)
      dsimp only [dn] at hy
      obtain ⟨q, hq⟩ : ∃ q, m - k = q := ⟨_, rfl⟩
      rw [hq] at hy hcx hix ek
      rw [ek]
      have hq0 : (0 : Int) ≤ q := by omega
      gi_wp2
      refine hR.mono ?_
      rintro e W3 (⟨rfl, hJ3, hk3⟩ | ⟨rfl, hJx3⟩)
      · gi_wp2
        go_roundw
        case rel => exact ⟨k + 1, by omega, by congr 1; omega, by rw [downTo_succ]; exact hJ3, hnx.trans hk3⟩
        case measure => simp [intOf]
      · gi_wp2
        refine bodyPost_ret (results_none rfl _ _ _) rfl ?_
        exact ⟨⟨_, rfl⟩, .inr ⟨_, ⟨k + 1, by omega, (downTo_succ _ _).symm⟩, hJx3⟩⟩
    · obtain rfl : k = m + 1 := by omega
      have ek : ((m : Int) - ((m + 1 : Nat) : Int)) = -1 := by omega
      rw [ek]
      gi_wp2
      go_end0
      exact ⟨⟨_, rfl⟩, .inl ⟨_, rfl, hJs⟩⟩
set_option maxHeartbeats 1000000 in
theorem back_in (F : Fence) (n : Nat) (hf : F.fn 123) (hro : F.round = none) (a : Option Addr) (len cap : Nat) (w : World) :
    CallsIn F n Tryd.prog 123 #[.slice a len cap] w fun e w' => e = .returned (.func (.func 131) #[] #[.pointer (some ⟨w.heap.size, 0, none⟩)]) ∧ w' = w.alloc (.cells #[.slice a len cap] 150) := by
  refine callsIn_of_wp Tryd.func123 rfl hf ?_ hro
  simp only [Tryd.ntmps123, List.size_toArray, List.length_cons, List.length_nil, Nat.reduceAdd, Nat.reduceSub, Array.replicate_succ, Array.replicate_zero, List.push_toArray, List.append_toArray, List.nil_append, List.cons_append]
  gi_wp2
  go_ret
  exact ⟨rfl, rfl⟩
theorem back_stops (F : Fence) (n : Nat) (hf : F.fn 131) (hro : F.round = none) (hn : 1 ≤ n) (Bs n₀ g m cap : Nat) (V : Nat → Value) (hm : m ≤ 1000) (hb : g < n₀) (w : World) (hBs : Bs < w.heap.size) (hn₀ : n₀ ≤ w.heap.size)
    (hc : w.cell? ⟨Bs, 0, none⟩ = some (.slice (some ⟨g, 0, none⟩) (m + 1) cap)) (hI : ∀ j, j ≤ m → w.cell? ⟨g, j, none⟩ = some (V j)) :
    SeqStopsK F n Tryd.prog 131 #[.pointer (some ⟨Bs, 0, none⟩)] (fun x : Nx m => #[Value.int .i64 (x.1 : Int), V x.1]) (KpB n₀ Bs) (fun ys => ys = downTo m (m + 1))
      (fun pre => ∃ k, k ≤ m + 1 ∧ pre = downTo m k) (m + 1) w := fun l J Jx W hW _ _ hY h0 => by
  have hc' := (hW.cell (p := ⟨Bs, 0, none⟩) hBs).trans hc
  exact back1_in F n hf hro hn l Bs n₀ g m cap V hm hb J Jx hY W hc' (fun j hj => (hW.cell (p := ⟨g, j, none⟩) (by show g < _; omega)).trans (hI j hj)) h0
end Go.Proofs.YtcmjlhcpoajbkaaDoor
namespace Go.Proofs.YtcmjlhcpoajbkaaDoor
set_option maxRecDepth 10000
open Go.RowKit
/-- Bytes in a row of one's own. -/
def Own8 (w : World) (B : Nat) (v : Value) (xs : List Int) : Prop := Bytes xs ∧ 0 < xs.length ∧ xs.length ≤ 140737488355328 ∧ w.ownsRow B 5 1 v xs.length (xs.map (Value.int .u8))
theorem Own8.mono {w : World} {B B' : Nat} {v : Value} {xs : List Int} (h : Own8 w B v xs) (hb : B' ≤ B) : Own8 w B' v xs := ⟨h.1, h.2.1, h.2.2.1, owns_mono h.2.2.2 hb⟩
theorem Own8.below {w w' : World} {B : Nat} {v : Value} {xs : List Int} (h : Own8 w B v xs) (hb : Below w.heap.size w w') : Own8 w' B v xs := ⟨h.1, h.2.1, h.2.2.1, owns_below h.2.2.2 hb⟩
theorem Own8.in8 {w : World} {B : Nat} {v : Value} {xs : List Int} (h : Own8 w B v xs) : ∃ g c, v = .slice (some ⟨g, 0, none⟩) xs.length c ∧ B ≤ g ∧ g < w.heap.size ∧ In8 w (some ⟨g, 0, none⟩) xs.length c xs := by
  obtain ⟨hby, h0, h47, ho⟩ := h
  obtain ⟨g, cap, rfl, hg1, hg2, hfit, hmost, _, hcells⟩ := owns8 ho h0
  refine ⟨g, cap, rfl, hg1, hg2, rfl, hby, by omega, by unfold maxLen at hmost; omega, by omega, fun _ => ⟨g, 0, rfl, hg2, fun j hj => ?_⟩⟩
  rw [Nat.zero_add]; exact hcells j (by omega)
set_option maxHeartbeats 1000000 in
theorem concat_own (gp m : Nat) (pf : Nat → Option Addr) (nf cf : Nat → Nat) (xf : Nat → List Int) (w : World) (hm : m ≤ 100)
    (hcell : ∀ i, i < m → w.cell? ⟨gp, i, none⟩ = some (.slice (pf i) (nf i) (cf i))) (hin : ∀ i, i < m → In8 w (pf i) (nf i) (cf i) (xf i))
    (hpos : 0 < (catX xf m).length) (htot : (catX xf m).length ≤ 140737488355328) :
    Calls Tryd.prog 97 #[.slice (some ⟨gp, 0, none⟩) m m] w fun e w' => ∃ v, e = .returned v ∧ Below w.heap.size w w' ∧ Own8 w' w.heap.size v (catX xf m) := by
  have HC : Hid (∀ i, i < m → w.cell? ⟨gp, i, none⟩ = some (.slice (pf i) (nf i) (cf i))) := hcell
  have HI : Hid (∀ i, i < m → In8 w (pf i) (nf i) (cf i) (xf i)) := hin
  clear hcell hin
  go_enter Tryd.func97, Tryd.ntmps97
  go_wp2_with fail
  go_loop [3, 11] (fun v i => ∃ k : Nat, k ≤ m ∧ i = .int .i64 k ∧ v = .int .i64 ((catX xf k).length : Nat)) (fun _ i => m - (intOf i).toNat)
  case atStart => exact ⟨0, by omega, rfl, rfl⟩
  case round =>
    obtain ⟨k, hk, rfl, rfl⟩ := hrel
    by_cases hlt : k < m
    · have hc := HC.out k hlt
      have h1 := catX_mono xf (k + 1) m (by omega)
      have hl := (HI.out k hlt).len
      have hs := (HI.out k hlt).small
      have e1 : (catX xf (k + 1)).length = (catX xf k).length + nf k := by simp only [catX, List.length_append]; omega
      have E1 : Hid ((catX xf (k + 1)).length = (catX xf k).length + nf k) := e1
      rw [e1] at h1
      clear e1
      generalize (catX xf k).length = s at *
      generalize nf k = nk at *
      generalize pf k = pk at *
      generalize cf k = ck at *
      clear hl
      go_wp2_with fail
      go_round
      case rel => exact ⟨k + 1, by omega, by go_num, by rw [E1.out]; go_num⟩
      case measure => simp [intOf]; omega
    · have ek : k = m := by omega
      have Ek : Hid (k = m) := ek
      have ecat : (catX xf k).length = (catX xf m).length := by rw [ek]
      rw [ecat]
      have Hlen : Hid (∀ T, T = catX xf m → T.length = (catX xf m).length) := fun T h => by rw [h]
      clear ecat ek
      generalize hS : (catX xf m).length = S at *
      go_wp2_with fail
      refine (grow_any S w (by omega) (by omega)).mono ?_
      rintro e w1 ⟨cap, rfl, hcap1, hcap2, hb1, ho1⟩
      have HO1 : Hid (w1.ownsRow w.heap.size 5 1 (.slice (some ⟨w.heap.size, 0, none⟩) 0 cap) 0 []) := ho1
      have hcap3 : cap ≤ 9223372036854775807 := by unfold maxLen at hcap2; omega
      clear ho1 hcap2
      go_wp2_with fail
      have hbc : ∀ i, i < m → w1.cell? ⟨gp, i, none⟩ = some (.slice (pf i) (nf i) (cf i)) := fun i hi => by rw [hb1.cell (block_lt_of_cell (HC.out i hi))]; exact HC.out i hi
      go_loopw [6, 27] (fun v i wr => ∃ k : Nat, k ≤ m ∧ i = .int .i64 k ∧ Below w.heap.size w wr ∧ wr.ownsRow w.heap.size 5 1 v (catX xf k).length ((catX xf k).map (Value.int .u8)) ∧ ∃ g c, v = .slice (some ⟨g, 0, none⟩) (catX xf k).length c) (fun _ i _ => m - (intOf i).toNat)
      case atStart => exact ⟨0, by omega, rfl, hb1, HO1.out, _, _, rfl⟩
      case round =>
        obtain ⟨k, hk, rfl, hb, ho, g, c, rfl⟩ := hrel
        have HO : Hid _ := ho
        clear ho hbc HO1 hb1
        by_cases hlt : k < m
        · have hc : wr.cell? ⟨gp, k, none⟩ = some (.slice (pf k) (nf k) (cf k)) := by rw [hb.cell (block_lt_of_cell (HC.out k hlt))]; exact HC.out k hlt
          have h1 := catX_mono xf (k + 1) m (by omega)
          have hI : Hid (In8 wr (pf k) (nf k) (cf k) (xf k)) := (HI.out k hlt).below hb
          have hl := hI.out.len
          have E1 : Hid ((catX xf (k + 1)).length = (catX xf k).length + nf k) := by
            show _ = _
            simp only [catX, List.length_append]; omega
          rw [E1.out, hS] at h1
          have h63 := hI.out.small
          have hS' : Hid ((catX xf m).length = S) := hS
          clear hS Hlen
          by_cases hz : 0 < nf k
          · obtain ⟨gs, off, hp, hgs, hcs⟩ := hI.out.lies (by omega)
            have HCS : Hid (∀ j, j < nf k → wr.cell? ((⟨gs, off, none⟩ : Addr).add j) = some (.int .u8 ((xf k).getD j 0))) := fun j hj => by
              rw [addr_add]; exact hcs j (by omega)
            clear hcs
            rw [hp] at hc
            have hBs : w.heap.size ≤ wr.heap.size := hb.size
            generalize hs : (catX xf k).length = s at *
            generalize hnk : nf k = nk at *
            generalize cf k = ck at *
            go_wp2_with (first
              | (at_builtin
                 refine wpList_app8 rfl (.tmp 31) (.tmp 32) rfl w.heap.size (.slice (some ⟨g, 0, none⟩) s c) (catX xf k) s rfl HO.out ⟨gs, off, none⟩ nk ck (xf k) rfl hl HCS.out hz (by omega) hBs ?_
                 intro v2 w2 ho2 hs2 hb2
                 refine hideGoal ?_))
            have HO2 : Hid (w2.ownsRow w.heap.size 5 1 v2 (s + nk) ((catX xf k ++ xf k).map (Value.int .u8))) := ho2
            have hb3 := hb2 w hb
            clear ho2 hb2
            refine openGoal ?_
            go_wp2_with fail
            go_roundw
            case rel =>
              obtain ⟨g2, c2, hv2, _, _⟩ := HO2.out.form (by omega)
              refine ⟨k + 1, by omega, by go_num, hb3, ?_, g2, c2, ?_⟩
              · rw [E1.out]; exact HO2.out
              · rw [E1.out]; exact hv2
            case measure => simp [intOf]; omega
          · have hz0 : nf k = 0 := by omega
            have hx0 : xf k = [] := List.length_eq_zero_iff.1 (by omega)
            have Hx0 : Hid (catX xf (k + 1) = catX xf k) := by
              show catX xf k ++ xf k = _
              rw [hx0, List.append_nil]
            have hcap := HO.out.2
            rw [hz0] at hc
            have hfit : (catX xf k).length ≤ c := by
              rcases HO.out.2 with ⟨h, _⟩ | ⟨g', cap', cur, h, _, _, h2, _⟩
              · cases h
              · cases h; exact h2
            clear hcap hz0 hx0
            generalize hs : (catX xf k).length = s at *
            generalize cf k = ck at *
            generalize pf k = pk at *
            go_wp2_with (first
              | (at_builtin
                 refine wpList_app_none rfl (.tmp 31) (.tmp 32) rfl (some ⟨g, 0, none⟩) pk s c ck rfl rfl hfit ?_))
            go_roundw
            case rel =>
              refine ⟨k + 1, by omega, by go_num, hb, ?_, g, c, ?_⟩
              · rw [Hx0.out, hs]; exact HO.out
              · rw [Hx0.out, hs]
            case measure => simp [intOf]; omega
        · have ek : k = m := by omega
          subst ek
          have hlen : (catX xf k).length = S := hS
          have hby : Bytes (catX xf k) := catX_bytes xf k (fun i hi => (HI.out i hi).bytes)
          clear hS Hlen Ek
          generalize hT : catX xf k = T at *
          have HT : Hid (catX xf k = T) := hT
          clear hT
          rw [hlen]
          have HOO : Hid (Own8 wr w.heap.size (.slice (some ⟨g, 0, none⟩) S c) T) := by
            refine ⟨hby, by omega, by omega, ?_⟩
            have h := HO.out
            rw [← hlen]
            rw [hlen]
            exact hlen ▸ h
          clear HO
          go_wp2_with fail
          go_ret
          exact ⟨_, rfl, hb, by rw [HT.out]; exact HOO.out⟩
set_option maxHeartbeats 400000 in
theorem leaf_own (w : World) (p : Option Addr) (n c : Nat) (xs : List Int) (hi : In8 w p n c xs) (hn : n < 140737488355328) :
    Calls Tryd.prog 128 #[.agg (leafCells p n c)] w fun e w' => ∃ v, e = .returned v ∧ Below w.heap.size w w' ∧ Own8 w' w.heap.size v (0 :: xs) := by
  have hc : ∀ o, ((w.alloc (.cells (leafCells p n c) 184)).alloc o).cell? ⟨w.heap.size, 0, none⟩ = some (.slice p n c) := fun o => by
    rw [cell_of_row _ _ _ _ _ _ (heap2 w _ _).1]; rfl
  have hb2 := fun A B C => below3 w A B C
  go_enter Tryd.func128, Tryd.ntmps128
  go_wp2_with fail
  have V := heap3 w (.cells (leafCells p n c) 184) (.cells #[.int .u8 0] 5) (.cells #[.slice (some ⟨w.heap.size + 1, 0, none⟩) 1 1, .slice p n c] 22)
  have hb := hb2 (.cells (leafCells p n c) 184) (.cells #[.int .u8 0] 5) (.cells #[.slice (some ⟨w.heap.size + 1, 0, none⟩) 1 1, .slice p n c] 22)
  have hl := hi.len
  have e2 := cat2 [0] xs
  refine (concat_own (w.heap.size + 1 + 1) 2 (pf2 (some ⟨w.heap.size + 1, 0, none⟩) p) (nf2 1 n) (nf2 1 c) (xf2 [0] xs) _ (by omega) ?_ ?_ (by rw [e2]; simp) (by rw [e2]; simp; omega)).mono ?_
  · intro i hi'
    rw [cell_of_row _ _ _ _ _ _ V.2.2]
    rcases i with _ | _ | i
    · rfl
    · rfl
    · omega
  · intro i hi'
    rcases i with _ | _ | i
    · exact in8_one _ 0 (by omega) _ _ V.2.1
    · exact hi.below hb
    · omega
  · rintro e w' ⟨v', rfl, hb', hi'⟩
    rw [e2] at hi'
    have HI : Hid (Own8 w' w.heap.size v' (0 :: xs)) := hi'.mono (by simp; omega)
    have HB : Hid (Below w.heap.size w w') := hb.trans (hb'.mono (by simp; omega))
    clear hi' hb' V hb hb2 hc
    go_wp2_with fail
    go_ret
    exact ⟨_, rfl, HB.out, HI.out⟩
set_option maxHeartbeats 1000000 in
theorem knot_own (w : World) (L R : List Int) (hL : L.length = 32) (hR : R.length = 32) (bL : Bytes L) (bR : Bytes R) :
    Calls Tryd.prog 129 #[.agg (knotCells L R)] w fun e w' => ∃ v, e = .returned v ∧ Below w.heap.size w w' ∧ Own8 w' w.heap.size v (1 :: (L ++ R)) := by
  go_enter Tryd.func129, Tryd.ntmps129
  go_wp2_with fail
  have hg := heapN w (.cells (knotCells L R) 184) _ rfl
  have hb : Below w.heap.size w (w.alloc (.cells (knotCells L R) 184)) := (Below.refl _ _).alloc (Nat.le_refl _) _
  have hgs : w.heap.size < (w.alloc (.cells (knotCells L R) 184)).heap.size := by simp
  generalize w.alloc (.cells (knotCells L R) 184) = V at *
  generalize hgg : w.heap.size = g at *
  obtain ⟨KC, hKC⟩ : ∃ KC, knotCells L R = KC := ⟨_, rfl⟩
  have HKC : Hid (KC = knotCells L R) := hKC.symm
  rw [hKC] at hg ⊢
  clear hKC
  have bV : Below V.heap.size V V.drew := (Below.refl _ _).drew
  refine wp_region_noPanic ?_
  refine wp_region_held (S := fun W => Below V.heap.size V W) follows ?_
  refine wpAnyH_take (i := 1) (v := .pointer (some ⟨g, 1, none⟩)) rfl (by kernel_rfl) (by kernel_rfl) (by kernel_rfl) (fun _ _ _ h => h) (.inl ⟨rfl, fun W _ => by go_simp⟩) bV ?_
  refine wpAnyH_take (i := 2) (v := .slice (some ⟨g, 1, none⟩) 32 32) rfl (by kernel_rfl) (by kernel_rfl) (by kernel_rfl) (fun _ _ _ h => h) (.inl ⟨rfl, fun W _ => by go_simp⟩) bV ?_
  refine wpAnyH_take (i := 3) (v := .pointer (some ⟨g, 33, none⟩)) rfl (by kernel_rfl) (by kernel_rfl) (by kernel_rfl) (fun _ _ _ h => h) (.inl ⟨rfl, fun W _ => by go_simp⟩) bV ?_
  refine wpAnyH_take (i := 4) (v := .slice (some ⟨g, 33, none⟩) 32 32) rfl (by kernel_rfl) (by kernel_rfl) (by kernel_rfl) (fun _ _ _ h => h) (.inl ⟨rfl, fun W _ => by go_simp⟩) bV ?_
  refine reframe #[false, true, true, true, true, false, false, false] { tmps := #[.agg KC, .pointer (some ⟨g, 0, none⟩), .slice none 0 0, undef, .pointer (some ⟨g, 1, none⟩), .slice (some ⟨g, 1, none⟩) 32 32, .pointer (some ⟨g, 33, none⟩), .slice (some ⟨g, 33, none⟩) 32 32, undef, undef], defers := [] } (by kernel_rfl) (by rfl) ?_
  refine any_one (i := 0) (by kernel_rfl) ?_
  refine wpOp_val (v := .slice (some ⟨V.drew.heap.size, 0, none⟩) 1 1) (w' := V.drew.alloc (.cells #[.int .u8 1] 5)) rfl rfl (by go_simp) ?_
  have b1 : Below V.heap.size V (V.drew.alloc (.cells #[.int .u8 1] 5)) := bV.alloc (Nat.le_refl _) _
  refine ⟨b1, ?_⟩
  have h1 := heapN V.drew (.cells #[.int .u8 1] 5) _ rfl
  have g1 : V.drew.heap.size = V.heap.size := rfl
  rw [g1] at h1
  have s1 : V.heap.size < (V.drew.alloc (.cells #[.int .u8 1] 5)).heap.size := row_lt h1
  rw [g1]
  generalize V.drew.alloc (.cells #[.int .u8 1] 5) = V1 at *
  generalize hg1 : V.heap.size = k1 at *
  refine reframe #[true, true, true, true, true, false, false, false] { tmps := #[.agg KC, .pointer (some ⟨g, 0, none⟩), .slice none 0 0, .slice (some ⟨k1, 0, none⟩) 1 1, .pointer (some ⟨g, 1, none⟩), .slice (some ⟨g, 1, none⟩) 32 32, .pointer (some ⟨g, 33, none⟩), .slice (some ⟨g, 33, none⟩) 32 32, undef, undef], defers := [] } (by kernel_rfl) (by rfl) ?_
  refine any_one (i := 5) (by kernel_rfl) ?_
  refine wpOp_val (v := .slice (some ⟨V1.heap.size, 0, none⟩) 3 3) (w' := V1.alloc (.cells #[.slice (some ⟨k1, 0, none⟩) 1 1, .slice (some ⟨g, 1, none⟩) 32 32, .slice (some ⟨g, 33, none⟩) 32 32] 22)) rfl rfl (by go_simp) ?_
  have b2 : Below k1 V (V1.alloc (.cells #[.slice (some ⟨k1, 0, none⟩) 1 1, .slice (some ⟨g, 1, none⟩) 32 32, .slice (some ⟨g, 33, none⟩) 32 32] 22)) := b1.alloc (by omega) _
  refine ⟨b2, ?_⟩
  have h2 := heapN V1 (.cells #[.slice (some ⟨k1, 0, none⟩) 1 1, .slice (some ⟨g, 1, none⟩) 32 32, .slice (some ⟨g, 33, none⟩) 32 32] 22) _ rfl
  have h12 := (heapO V1 (.cells #[.slice (some ⟨k1, 0, none⟩) 1 1, .slice (some ⟨g, 1, none⟩) 32 32, .slice (some ⟨g, 33, none⟩) 32 32] 22) k1 s1).trans h1
  have hg2 := (b2.block g hgs).trans hg
  generalize V1.alloc (.cells #[.slice (some ⟨k1, 0, none⟩) 1 1, .slice (some ⟨g, 1, none⟩) 32 32, .slice (some ⟨g, 33, none⟩) 32 32] 22) = V2 at *
  generalize V1.heap.size = k2 at *
  clear hg h1 b1
  refine reframe #[true, true, true, true, true, true, false, false] { tmps := #[.agg KC, .pointer (some ⟨g, 0, none⟩), .slice none 0 0, .slice (some ⟨k1, 0, none⟩) 1 1, .pointer (some ⟨g, 1, none⟩), .slice (some ⟨g, 1, none⟩) 32 32, .pointer (some ⟨g, 33, none⟩), .slice (some ⟨g, 33, none⟩) 32 32, .slice (some ⟨k2, 0, none⟩) 3 3, undef], defers := [] } (by kernel_rfl) (by rfl) ?_
  have e3 := cat3 [1] L R
  refine any_one (i := 6) (by kernel_rfl) ?_
  refine wpOp_call (f := 97) (args := #[.slice (some ⟨k2, 0, none⟩) 3 3]) rfl rfl (by go_simp) ?_
  refine (concat_own k2 3 (pf3 (some ⟨k1, 0, none⟩) (some ⟨g, 1, none⟩) (some ⟨g, 33, none⟩)) (nf3 1 32 32) (nf3 1 32 32) (xf3 [1] L R) _ (by omega) ?_ ?_ (by rw [e3]; simp) (by rw [e3]; simp; omega)).mono ?_
  · intro i hi'
    rw [cell_of_row _ _ _ _ _ _ h2]
    rcases i with _ | _ | _ | i
    · rfl
    · rfl
    · rfl
    · omega
  · intro i hi'
    rcases i with _ | _ | _ | i
    · exact in8_one _ 1 (by omega) _ _ h12
    · exact knot_L hL hR bL (HKC.out ▸ hg2)
    · exact knot_R hL hR bR (HKC.out ▸ hg2)
    · omega
  rintro e V3 ⟨v', rfl, hb3, hi3⟩
  rw [e3] at hi3
  have b3 : Below k1 V V3 := b2.trans (hb3.mono (by have := b2.size; omega))
  refine ⟨_, rfl, b3, ?_⟩
  refine reframe #[true, true, true, true, true, true, true, false] { tmps := #[.agg KC, .pointer (some ⟨g, 0, none⟩), .slice none 0 0, .slice (some ⟨k1, 0, none⟩) 1 1, .pointer (some ⟨g, 1, none⟩), .slice (some ⟨g, 1, none⟩) 32 32, .pointer (some ⟨g, 33, none⟩), .slice (some ⟨g, 33, none⟩) 32 32, .slice (some ⟨k2, 0, none⟩) 3 3, v'], defers := [] } (by kernel_rfl) (by rfl) ?_
  refine wpAnyH_take (i := 7) (v := v') rfl (by kernel_rfl) (by kernel_rfl) (by kernel_rfl) (fun _ _ _ h => h) (.inl ⟨rfl, fun W _ => by go_simp⟩) b3 ?_
  refine reframe #[true, true, true, true, true, true, true, true] { tmps := #[.agg KC, .pointer (some ⟨g, 0, none⟩), v', .slice (some ⟨k1, 0, none⟩) 1 1, .pointer (some ⟨g, 1, none⟩), .slice (some ⟨g, 1, none⟩) 32 32, .pointer (some ⟨g, 33, none⟩), .slice (some ⟨g, 33, none⟩) 32 32, .slice (some ⟨k2, 0, none⟩) 3 3, v'], defers := [] } (by kernel_rfl) (by rfl) ?_
  refine wpAnyH_done (by kernel_rfl) ?_ _
  refine NoPanic.normal ?_
  have HB : Hid (Below g w V3) := hb.trans (b3.mono (by omega))
  have hk2 : g ≤ V2.heap.size := by have := b2.size; omega
  have HI : Hid (Own8 V3 g v' (1 :: (L ++ R))) := hi3.mono hk2
  clear b2 b3 hb3 hi3 h2 h12 hg2 hb bV
  go_wp2_with fail
  go_ret
  exact ⟨_, rfl, by rw [hgg]; exact HB.out, by rw [hgg]; exact HI.out⟩
/-- What a text's method value tells, in memory of its own. -/
def TextO (w : World) (v : Value) (xs : List Int) : Prop :=
  ∃ f u, v = .func (.func f) #[u] #[] ∧ (∀ W : World, (callFunc f #[u]).run Tryd.prog W = .ok (.enter f #[u]) W) ∧
    ∀ W : World, Below w.heap.size w W → Calls Tryd.prog f #[u] W fun e w' => ∃ v, e = .returned v ∧ Below W.heap.size W w' ∧ Own8 w' W.heap.size v xs
theorem TextK.own {w : World} {v : Value} {xs : List Int} (h : TextK w v xs) : TextO w v xs := by
  rcases h with ⟨p, n, c, e, rfl, h1, h2, rfl⟩ | ⟨L, R, rfl, a, b, c, d, rfl⟩
  · exact ⟨_, _, rfl, fun W => by go_simp, fun W hW => leaf_own W p n c e (h1.below hW) h2⟩
  · exact ⟨_, _, rfl, fun W => by go_simp, fun W _ => knot_own W L R a b c d⟩
end Go.Proofs.YtcmjlhcpoajbkaaDoor
namespace Go.Proofs.YtcmjlhcpoajbkaaDoor
set_option maxRecDepth 10000
open Go.RowKit
theorem in8_conv {w : World} {p : Option Addr} {n c : Nat} {xs : List Int} (h : In8 w p n c xs) : (convert 22 9 (.slice p n c)).run Tryd.prog w = .ok (.string ⟨(toU xs).toArray⟩) w := by
  rcases Nat.eq_zero_or_pos n with h0 | h0
  · subst h0
    have : xs = [] := List.length_eq_zero_iff.1 h.len
    subst this
    cases p with
    | none => rw [run_convert_bytes_nil (P := Tryd.prog) w 22 5 Tryd.underlying22 Tryd.underlying5 0 c 9 Tryd.underlying9]; rfl
    | some ad => exact conv_arg [] w ad 0 c rfl (fun j hj => by omega)
  · have hl := h.len
    obtain ⟨g, off, rfl, hg, hc⟩ := h.lies (by omega)
    exact conv_arg xs w ⟨g, off, none⟩ n c hl (fun j hj => by rw [addr_add]; exact hc j (by omega))
theorem beqStr {xs ys : List Int} (hx : Bytes xs) (hy : Bytes ys) : ((⟨(toU xs).toArray⟩ : ByteArray).toList == (⟨(toU ys).toArray⟩ : ByteArray).toList) = decide (xs = ys) := by
  rw [ByteArray.toList_eq, ByteArray.toList_eq]
  exact toU_inj hx hy
theorem equalB_any (w : World) (p q : Option Addr) (n m c d : Nat) (xs ys : List Int) (hx : In8 w p n c xs) (hy : In8 w q m d ys) :
    Calls Tryd.prog 124 #[.slice p n c, .slice q m d] w fun e w' => e = .returned (.bool (decide (xs = ys))) ∧ w' = w := by
  have c1 := in8_conv hx
  have c2 := in8_conv hy
  have he := beqStr hx.bytes hy.bytes
  generalize decide (xs = ys) = B at *
  generalize (⟨(toU xs).toArray⟩ : ByteArray) = S1 at *
  generalize (⟨(toU ys).toArray⟩ : ByteArray) = S2 at *
  have HE : Hid ((S1.toList == S2.toList) = B) := he
  clear he
  go_enter Tryd.func124, Tryd.ntmps124
  go_wp2_with fail
  go_ret
  exact ⟨by rw [← HE.out]; rfl, rfl⟩
theorem equalK_any (w : World) (p q : Option Addr) (n m c d : Nat) (xs ys : List Int) (hx : In8 w p n c xs) (hy : In8 w q m d ys) :
    Calls Tryd.prog 53 #[.slice p n c, .slice q m d] w fun e w' => e = .returned (.bool (decide (xs = ys))) ∧ w' = w := by
  have c1 := in8_conv hx
  have c2 := in8_conv hy
  have he := beqStr hx.bytes hy.bytes
  generalize decide (xs = ys) = B at *
  generalize (⟨(toU xs).toArray⟩ : ByteArray) = S1 at *
  generalize (⟨(toU ys).toArray⟩ : ByteArray) = S2 at *
  have HE : Hid ((S1.toList == S2.toList) = B) := he
  clear he
  go_enter Tryd.func53, Tryd.ntmps53
  go_wp2_with fail
  go_ret
  exact ⟨by rw [← HE.out]; rfl, rfl⟩
end Go.Proofs.YtcmjlhcpoajbkaaDoor
namespace Go.Proofs.YtcmjlhcpoajbkaaDoor
open Go.RowKit
section
variable {P : Program} {ops : Array Oper} {Q : Exit → Act → World → Prop} {md : Region.Mode} {S : World → Prop} {l n : Nat}
theorem rowsIn_of {row : String} {args : Array Value} {w : World} {R : Value → World → Prop} (h : Rows P row args w R) : RowsIn (Fence.wide.inRound l) n P row args w R :=
  fun c cs _ => let ⟨v, w', r, s⟩ := h c cs; ⟨v, w', r, stepsIn_wide.2 s⟩
theorem upon_in {o : Oper} {a : Act} {K : Act → World → Prop} {r : Result Next} (h : o.upon P a K Q r) : o.uponIn (Fence.wide.inRound l) n P a K Q r := by
  cases r with
  | ok x w' =>
    cases x with
    | enter f args => exact ⟨fun h => (by cases h), CallsIn.inRound l (callsIn_wide.2 h)⟩
    | row row args => exact ⟨fun h => (by cases h), rowsIn_of h⟩
    | round l f tmps assign body => exact (h : False).elim
    | _ => exact h
  | halt x w' => cases x <;> exact h
theorem wp_in {o : Oper} {a : Act} {w : World} {K : Act → World → Prop} (hd : ∀ c, o.op ≠ .defer c) (h : o.wp P a w K Q) : o.wpIn (Fence.wide.inRound l) n P a w K Q := by
  refine ⟨fun _ _ => trivial, ?_⟩
  have e : o.semAt (Fence.wide.inRound l).round a.eval = execOp a.eval o := Oper.semAt_some l a.eval o hd
  rw [e]
  exact upon_in h
theorem wpOp_in {i : Nat} {a : Act} {w : World} {K : Act → World → Prop} (hd : ∀ (i : Nat) (o : Oper), ops[i]? = some o → ∀ c, o.op ≠ .defer c) (hQ : ¬ LetsOut Q) (h : wpOp P ops Q i K a w) : wpOpIn (Fence.wide.inRound l) n P ops Q i K a w := by
  unfold wpOp at h
  unfold wpOpIn
  cases ho : ops[i]? with
  | none => rw [ho] at h; exact h
  | some o =>
    rw [ho] at h
    simp only at h ⊢
    split
    · rename_i hw
      rw [if_pos hw] at h
      rcases h with h | h
      · exact wp_in (hd i o ho) h
      · exact absurd h.2 hQ
    · rename_i hw
      rw [if_neg hw] at h
      exact ⟨fun _ _ => trivial, h⟩
theorem wpAny_in (hd : ∀ (i : Nat) (o : Oper), ops[i]? = some o → ∀ c, o.op ≠ .defer c) (hQ : ¬ LetsOut Q) : ∀ (fuel : Nat) (listed : Array Bool) (a : Act) (w : World), wpAny P md ops Q fuel listed a w → wpAnyIn (Fence.wide.inRound l) n P md ops Q fuel listed a w
  | 0, _, _, _, h => h
  | fuel + 1, _, _, _, h => ⟨h.1, fun i hi => wpOpIn_mono (fun a' w' h' => wpAny_in hd hQ fuel _ a' w' h') (wpOp_in hd hQ (h.2 i hi))⟩
/-- A region's end, and no other. -/
def nrm (K : Act → World → Prop) : Exit → Act → World → Prop
  | .normal, a, w => K a w
  | _, _, _ => False
theorem nrm_imp {K : Act → World → Prop} (h : ∀ a w, K a w → Q .normal a w) : ∀ e a w, nrm K e a w → Q e a w := fun e a w hk => by
  cases e with
  | normal => exact h a w hk
  | _ => exact (hk : False).elim
/-- A region that draws its order, in a round, walked as everywhere. -/
theorem wpIn_region_round {K : Act → World → Prop} {id : Nat} {a : Act} {w : World} (S : World → Prop) (hm : P.follows .mixedOrders = true) (hd : ∀ (i : Nat) (o : Oper), ops[i]? = some o → ∀ c, o.op ≠ .defer c) (hK : ∀ a w, K a w → Q .normal a w)
    (h : wpAnyH P .any ops (nrm K) S ops.size (Array.replicate ops.size false) a w.drew) : (Code.region id ops true).wpIn (Fence.wide.inRound l) n P Q a w :=
  Code.wpIn_mono (nrm_imp hK) (wpIn_region_any hm (wpAny_in hd (fun ⟨_, _, h⟩ => h) _ _ _ _ (wpAny_of_held _ _ _ _ h)))
end
end Go.Proofs.YtcmjlhcpoajbkaaDoor
