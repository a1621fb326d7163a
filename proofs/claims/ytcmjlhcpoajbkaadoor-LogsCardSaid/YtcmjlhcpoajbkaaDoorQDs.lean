import Derived.Test.YtcmjlhcpoajbkaaDoorQRow
import Derived.Lib.AppendZerosOnto
import Derived.Laws.OwnMore
import Derived.Deep.Slices
namespace Go.Proofs.YtcmjlhcpoajbkaaDoor
set_option maxRecDepth 10000
open Go.RowKit
/-- Append of nothing. -/
theorem run_app_none (w : World) (ty : TypeId) (p q : Option Addr) (n cap c : Nat) (h : n ≤ cap) :
    (Builtin.append_ #[22, 22] ty #[.slice p n cap, .slice q 0 c]).run Tryd.prog w = .ok (.slice p n cap) w := by
  obtain ⟨i, hi, hz, hsz, hby⟩ := info5'
  cases p <;> cases q <;> simp [Builtin.append_, run_underlying Tryd.underlying22, sizeOf, typeInfo, hi, Builtin.lenOf, Builtin.firstCells, h, storeCells, loadCells, loadCellsFrom]
/-- Grow of nil. -/
theorem grow_zeros (w : World) (ty : TypeId) (k : Nat) (h0 : 0 < k) (hk : k ≤ 140737488355328) :
    (Builtin.append_ #[22, 3] ty #[.slice none 0 0, .int .i64 k]).run Tryd.prog w =
      .ok (.slice (some ⟨w.heap.size, 0, none⟩) k (grownCap w k 0 5)) (w.drew.alloc (.cells ((Builtin.zeroCells #[.int .u8 0] k) ++ (Builtin.zeroCells #[.int .u8 0] (grownCap w k 0 5 - k))) 5)) := by
  obtain ⟨i, hi, hz, hsz, hby⟩ := info5'
  have h := Lib.run_append_grow_zeros (P := Tryd.prog) w 22 3 ty 5 i (.int .u8 0) .i64 .i64 Tryd.underlying22 Tryd.underlying3 hi hz none 0 0 [] (run_firstCells_none w.drew i.size 0 0 0) k h0 (by omega) (by omega) (by omega) (by rw [hby]; omega) (by rw [hby]; exact growslice_fits (by omega) (by omega))
  rw [Nat.zero_add] at h
  rw [h]
  have e : (Value.int .u8 0).cells = #[.int .u8 0] := rfl
  rw [e]
  simp
theorem wpList_growz {ops : Array Oper} {rest : List Oper} {o : Oper} {a : Act} {Q : Exit → Act → World → Prop} {w : World} (hgd : o.guard = none) (s x : Operand)
    (ho : o.op = .call { callee := .builtin .append, args := #[s, x], argTypes := #[22, 3] }) (k : Nat) (hs : a.eval s = .slice none 0 0) (hx : a.eval x = .int .i64 k) (h0 : 0 < k) (hk : k ≤ 140737488355328)
    (h : ∀ G w', k ≤ G → G ≤ maxLen → Hid (w'.ownsRow w.heap.size 5 1 (.slice (some ⟨w.heap.size, 0, none⟩) 0 G) 0 []) → Below w.heap.size w w' → wpList Tryd.prog ops Q rest (a.put o.dst (.slice (some ⟨w.heap.size, 0, none⟩) k G)) w') : wpList Tryd.prog ops Q (o :: rest) a w := by
  have hge := grownCap_ge w k 0 5
  have hle := grownCap_le_maxLen w k 0 5 (by unfold maxLen; omega)
  have hr := grow_zeros w o.type k h0 hk
  refine wpList_plain hgd fun _ hK => ?_
  unfold Oper.wp execOp
  simp only [ho, resolve, invoke, builtin, Sem.run_bind, Sem.run_pure, Result.andThen_ok, List.map_toArray, List.map_cons, List.map_nil, hs, hx, hr]
  generalize grownCap w k 0 5 = G at *
  refine hK _ _ (h G _ hge hle ?_ ((Below.refl _ _).drew.alloc (Nat.le_refl _) _))
  refine ⟨rfl, .inr ⟨w.heap.size, G, _, rfl, Nat.le_refl _, heapN w.drew _ _ rfl, by omega, hle, ?_, rfl⟩⟩
  rw [Array.size_append, size_zeroCells, size_zeroCells]
  show k * 1 + (G - k) * 1 = G * 1
  omega
theorem wpList_app_none {ops : Array Oper} {rest : List Oper} {o : Oper} {a : Act} {Q : Exit → Act → World → Prop} {w : World} (hgd : o.guard = none) (s x : Operand)
    (ho : o.op = .call { callee := .builtin .append, args := #[s, x], argTypes := #[22, 22] }) (p q : Option Addr) (n cap c : Nat) (hs : a.eval s = .slice p n cap) (hx : a.eval x = .slice q 0 c) (hn : n ≤ cap)
    (h : wpList Tryd.prog ops Q rest (a.put o.dst (.slice p n cap)) w) : wpList Tryd.prog ops Q (o :: rest) a w := by
  have hr := run_app_none w o.type p q n cap c hn
  refine wpList_plain hgd fun _ hK => ?_
  unfold Oper.wp execOp
  simp only [ho, resolve, invoke, builtin, Sem.run_bind, Sem.run_pure, Result.andThen_ok, List.map_toArray, List.map_cons, List.map_nil, hs, hx, hr]
  exact hK _ _ h
set_option maxHeartbeats 400000 in
theorem grow_any (k : Nat) (w : World) (h0 : 0 < k) (hk : k ≤ 140737488355328) :
    Calls Tryd.prog 118 #[.slice none 0 0, .int .i64 k] w fun e w' => ∃ cap, e = .returned (.slice (some ⟨w.heap.size, 0, none⟩) 0 cap) ∧ k ≤ cap ∧ cap ≤ maxLen ∧ Below w.heap.size w w' ∧
      w'.ownsRow w.heap.size 5 1 (.slice (some ⟨w.heap.size, 0, none⟩) 0 cap) 0 [] := by
  go_enter Tryd.func118, Tryd.ntmps118
  go_wp2_with (first
    | (at_builtin
       refine wpList_growz rfl (.tmp 20) (.tmp 21) rfl k rfl rfl h0 hk ?_
       intro G w' hge hle hown hbel
       refine hideGoal ?_))
  have Hle : Hid (G ≤ maxLen) := hle
  have hG : G ≤ 9223372036854775807 := by unfold maxLen at hle; omega
  clear hle
  refine openGoal ?_
  go_wp2_with fail
  go_ret
  exact ⟨G, rfl, hge, Hle.out, hbel, hown.out⟩
def catX (xf : Nat → List Int) : Nat → List Int
  | 0 => []
  | k + 1 => catX xf k ++ xf k
theorem catX_mono (xf : Nat → List Int) (i m : Nat) (h : i ≤ m) : (catX xf i).length ≤ (catX xf m).length := by
  induction m with
  | zero => have e : i = 0 := by omega
            subst e; exact Nat.le_refl _
  | succ m ih =>
    rcases Nat.lt_or_ge i (m + 1) with h' | h'
    · have := ih (by omega); simp only [catX, List.length_append]; omega
    · have e : i = m + 1 := by omega
      subst e; exact Nat.le_refl _
theorem catX_bytes (xf : Nat → List Int) (m : Nat) (h : ∀ i, i < m → Bytes (xf i)) : Bytes (catX xf m) := by
  induction m with
  | zero => intro j; simp [catX]
  | succ m ih =>
    refine .of fun x hx => ?_
    simp only [catX, List.mem_append] at hx
    rcases hx with hx | hx
    · exact (ih fun i hi => h i (by omega)).mem x hx
    · exact (h m (by omega)).mem x hx
set_option maxHeartbeats 1000000 in
theorem concat_any (gp m : Nat) (pf : Nat → Option Addr) (nf cf : Nat → Nat) (xf : Nat → List Int) (w : World) (hm : m ≤ 100)
    (hcell : ∀ i, i < m → w.cell? ⟨gp, i, none⟩ = some (.slice (pf i) (nf i) (cf i))) (hin : ∀ i, i < m → In8 w (pf i) (nf i) (cf i) (xf i))
    (hpos : 0 < (catX xf m).length) (htot : (catX xf m).length ≤ 140737488355328) :
    Calls Tryd.prog 97 #[.slice (some ⟨gp, 0, none⟩) m m] w fun e w' => ∃ p n c, e = .returned (.slice p n c) ∧ Below w.heap.size w w' ∧ In8 w' p n c (catX xf m) := by
  have HC : Hid (∀ i, i < m → w.cell? ⟨gp, i, none⟩ = some (.slice (pf i) (nf i) (cf i))) := hcell
  have HI : Hid (∀ i, i < m → In8 w (pf i) (nf i) (cf i) (xf i)) := hin
  clear hcell hin
  go_enter Tryd.func97, Tryd.ntmps97
  go_wp2_with fail
  go_loop [3, 11] (fun v i => ∃ k : Nat, k ≤ m ∧ i = .int .i64 k ∧ v = .int .i64 ((catX xf k).length : Nat)) (fun _ i => m - (intOf i).toNat)
  case atStart => exact ⟨0, by omega, rfl, rfl⟩
  case round =>
    obtain ⟨k, hk, rfl, rfl⟩ := hrel
    by_cases hlt : k < m
    · have hc := HC.out k hlt
      have h1 := catX_mono xf (k + 1) m (by omega)
      have hl := (HI.out k hlt).len
      have hs := (HI.out k hlt).small
      have e1 : (catX xf (k + 1)).length = (catX xf k).length + nf k := by simp only [catX, List.length_append]; omega
      have E1 : Hid ((catX xf (k + 1)).length = (catX xf k).length + nf k) := e1
      rw [e1] at h1
      clear e1
      generalize (catX xf k).length = s at *
      generalize nf k = nk at *
      generalize pf k = pk at *
      generalize cf k = ck at *
      clear hl
      go_wp2_with fail
      go_round
      case rel => exact ⟨k + 1, by omega, by go_num, by rw [E1.out]; go_num⟩
      case measure => simp [intOf]; omega
    · have ek : k = m := by omega
      have Ek : Hid (k = m) := ek
      have ecat : (catX xf k).length = (catX xf m).length := by rw [ek]
      rw [ecat]
      have Hlen : Hid (∀ T, T = catX xf m → T.length = (catX xf m).length) := fun T h => by rw [h]
      clear ecat ek
      generalize hS : (catX xf m).length = S at *
      go_wp2_with fail
      refine (grow_any S w (by omega) (by omega)).mono ?_
      rintro e w1 ⟨cap, rfl, hcap1, hcap2, hb1, ho1⟩
      have HO1 : Hid (w1.ownsRow w.heap.size 5 1 (.slice (some ⟨w.heap.size, 0, none⟩) 0 cap) 0 []) := ho1
      have hcap3 : cap ≤ 9223372036854775807 := by unfold maxLen at hcap2; omega
      clear ho1 hcap2
      go_wp2_with fail
      have hbc : ∀ i, i < m → w1.cell? ⟨gp, i, none⟩ = some (.slice (pf i) (nf i) (cf i)) := fun i hi => by rw [hb1.cell (block_lt_of_cell (HC.out i hi))]; exact HC.out i hi
      go_loopw [6, 27] (fun v i wr => ∃ k : Nat, k ≤ m ∧ i = .int .i64 k ∧ Below w.heap.size w wr ∧ wr.ownsRow w.heap.size 5 1 v (catX xf k).length ((catX xf k).map (Value.int .u8)) ∧ ∃ g c, v = .slice (some ⟨g, 0, none⟩) (catX xf k).length c) (fun _ i _ => m - (intOf i).toNat)
      case atStart => exact ⟨0, by omega, rfl, hb1, HO1.out, _, _, rfl⟩
      case round =>
        obtain ⟨k, hk, rfl, hb, ho, g, c, rfl⟩ := hrel
        have HO : Hid _ := ho
        clear ho hbc HO1 hb1
        by_cases hlt : k < m
        · have hc : wr.cell? ⟨gp, k, none⟩ = some (.slice (pf k) (nf k) (cf k)) := by rw [hb.cell (block_lt_of_cell (HC.out k hlt))]; exact HC.out k hlt
          have h1 := catX_mono xf (k + 1) m (by omega)
          have hI : Hid (In8 wr (pf k) (nf k) (cf k) (xf k)) := (HI.out k hlt).below hb
          have hl := hI.out.len
          have E1 : Hid ((catX xf (k + 1)).length = (catX xf k).length + nf k) := by
            show _ = _
            simp only [catX, List.length_append]; omega
          rw [E1.out, hS] at h1
          have h63 := hI.out.small
          have hS' : Hid ((catX xf m).length = S) := hS
          clear hS Hlen
          by_cases hz : 0 < nf k
          · obtain ⟨gs, off, hp, hgs, hcs⟩ := hI.out.lies (by omega)
            have HCS : Hid (∀ j, j < nf k → wr.cell? ((⟨gs, off, none⟩ : Addr).add j) = some (.int .u8 ((xf k).getD j 0))) := fun j hj => by
              rw [addr_add]; exact hcs j (by omega)
            clear hcs
            rw [hp] at hc
            have hBs : w.heap.size ≤ wr.heap.size := hb.size
            generalize hs : (catX xf k).length = s at *
            generalize hnk : nf k = nk at *
            generalize cf k = ck at *
            go_wp2_with (first
              | (at_builtin
                 refine wpList_app8 rfl (.tmp 31) (.tmp 32) rfl w.heap.size (.slice (some ⟨g, 0, none⟩) s c) (catX xf k) s rfl HO.out ⟨gs, off, none⟩ nk ck (xf k) rfl hl HCS.out hz (by omega) hBs ?_
                 intro v2 w2 ho2 hs2 hb2
                 refine hideGoal ?_))
            have HO2 : Hid (w2.ownsRow w.heap.size 5 1 v2 (s + nk) ((catX xf k ++ xf k).map (Value.int .u8))) := ho2
            have hb3 := hb2 w hb
            clear ho2 hb2
            refine openGoal ?_
            go_wp2_with fail
            go_roundw
            case rel =>
              obtain ⟨g2, c2, hv2, _, _⟩ := HO2.out.form (by omega)
              refine ⟨k + 1, by omega, by go_num, hb3, ?_, g2, c2, ?_⟩
              · rw [E1.out]; exact HO2.out
              · rw [E1.out]; exact hv2
            case measure => simp [intOf]; omega
          · have hz0 : nf k = 0 := by omega
            have hx0 : xf k = [] := List.length_eq_zero_iff.1 (by omega)
            have Hx0 : Hid (catX xf (k + 1) = catX xf k) := by
              show catX xf k ++ xf k = _
              rw [hx0, List.append_nil]
            have hcap := HO.out.2
            rw [hz0] at hc
            have hfit : (catX xf k).length ≤ c := by
              rcases HO.out.2 with ⟨h, _⟩ | ⟨g', cap', cur, h, _, _, h2, _⟩
              · cases h
              · cases h; exact h2
            clear hcap hz0 hx0
            generalize hs : (catX xf k).length = s at *
            generalize cf k = ck at *
            generalize pf k = pk at *
            go_wp2_with (first
              | (at_builtin
                 refine wpList_app_none rfl (.tmp 31) (.tmp 32) rfl (some ⟨g, 0, none⟩) pk s c ck rfl rfl hfit ?_))
            go_roundw
            case rel =>
              refine ⟨k + 1, by omega, by go_num, hb, ?_, g, c, ?_⟩
              · rw [Hx0.out, hs]; exact HO.out
              · rw [Hx0.out, hs]
            case measure => simp [intOf]; omega
        · have ek : k = m := by omega
          subst ek
          have hlen : (catX xf k).length = S := hS
          have hby : Bytes (catX xf k) := catX_bytes xf k (fun i hi => (HI.out i hi).bytes)
          clear hS Hlen Ek
          generalize hT : catX xf k = T at *
          have HT : Hid (catX xf k = T) := hT
          clear hT
          rw [hlen]
          obtain ⟨g', cap', hv, hg1, hg2, hfit, hmost, _, hcells⟩ := owns8 HO.out (by omega)
          cases hv
          have HI8 : Hid (In8 wr (some ⟨g, 0, none⟩) S c T) := by
            refine ⟨hlen, hby, by omega, by unfold maxLen at hmost; omega, by omega, fun _ => ⟨g, 0, rfl, hg2, fun j hj => ?_⟩⟩
            rw [Nat.zero_add]; exact hcells j (by omega)
          clear hcells hmost
          go_wp2_with fail
          go_ret
          exact ⟨_, _, _, rfl, hb, by rw [HT.out]; exact HI8.out⟩
end Go.Proofs.YtcmjlhcpoajbkaaDoor
namespace Go.Proofs.YtcmjlhcpoajbkaaDoor
set_option maxRecDepth 10000
open Go.RowKit
/-- A digest in a block of its own. -/
structure Dg (w : World) (g : Nat) (D : List Int) : Prop where
  len : D.length = 32
  here : w.heap[g]? = some (.cells (A8 D) 25)
theorem Dg.lt {w : World} {g : Nat} {D : List Int} (h : Dg w g D) : g < w.heap.size := row_lt h.here
theorem Dg.below {w w' : World} {g n : Nat} {D : List Int} (h : Dg w g D) (hb : Below n w w') (hn : g < n) : Dg w' g D := ⟨h.len, (hb.block g hn).trans h.here⟩
theorem Dg.next {w w' : World} {g : Nat} {D : List Int} (h : Dg w g D) (hb : Below w.heap.size w w') : Dg w' g D := h.below hb h.lt
theorem Dg.alloc {w : World} {g : Nat} {D : List Int} (h : Dg w g D) (o : Obj) : Dg (w.alloc o) g D := ⟨h.len, (heapO w o g h.lt).trans h.here⟩
theorem Dg.other {w W : World} {g g' : Nat} {D : List Int} {c : Array Value} {t : TypeId} (h : Dg w g D) (hS : Stored w W g' c t) (hne : g ≠ g') : Dg W g D := ⟨h.len, (hS.other g hne).trans h.here⟩
theorem Stored.dg {w W : World} {g : Nat} {D : List Int} (hS : Stored w W g (A8 D) 25) (hl : D.length = 32) : Dg W g D := ⟨hl, hS.here⟩
def Z32 : List Int := List.replicate 32 0
theorem Dg.new (w : World) (g : Nat) (h : g = w.heap.size) : Dg (w.alloc (.cells Z8x32 25)) g Z32 := ⟨rfl, heapN w _ _ h⟩
theorem wpList_w {P : Program} {ops : Array Oper} {rest : List Oper} {o : Oper} {a : Act} {w : World} {Q : Exit → Act → World → Prop} (hw : Region.wanted o (yielded ops a.tmps) = true)
    (h : ∀ K : Act → World → Prop, (∀ a w, wpList P ops Q rest a w → K a w) → o.wp P a w K Q) : wpList P ops Q (o :: rest) a w := by
  unfold wpList
  simp only [hw, if_true]
  exact .inl (h _ fun _ _ h => h)
section
variable {ops : Array Oper} {rest : List Oper} {o : Oper} {a : Act} {w : World} {Q : Exit → Act → World → Prop} {S : World → Prop}
theorem load_D (hw : Region.wanted o (yielded ops a.tmps) = true) (x : Operand) (ho : o.op = .load 25 x) (g : Nat) (hx : a.eval x = .pointer (some ⟨g, 0, none⟩)) (D : List Int) (h0 : Dg w g D)
    (h : wpList Tryd.prog ops Q rest (a.put o.dst (.agg (A8 D))) w) : wpList Tryd.prog ops Q (o :: rest) a w :=
  wpList_w hw fun _ hK => wp_load_row 25 x ho g hx 25 (A8 D) (0, 0) (.array 32 5) h0.here und25 rfl (by rw [info25, A8_size, h0.len]) (hK _ _ h)
theorem store_D (hgd : o.guard = none) (x y : Operand) (ho : o.op = .store 25 x y) (g : Nat) (D : List Int) (hx : a.eval x = .pointer (some ⟨g, 0, none⟩)) (hy : a.eval y = .agg (A8 D)) (D0 : List Int) (h0 : Dg w g D0) (hl : D.length = 32)
    (h : ∀ W, Stored w W g (A8 D) 25 → wpList Tryd.prog ops Q rest (a.put o.dst undef) W) : wpList Tryd.prog ops Q (o :: rest) a w :=
  wpList_store_W hgd 25 x y ho g (A8 D) hx hy 25 (A8 D0) h0.here (by rw [info25, A8_size, hl]) (by rw [A8_size, A8_size, h0.len, hl]) (A8_one _) h
theorem wpOp_load_D {i : Nat} {K : Act → World → Prop} (hi : ops[i]? = some o) (hgd : o.guard = none) (x : Operand) (ho : o.op = .load 25 x) (g : Nat) (hx : a.eval x = .pointer (some ⟨g, 0, none⟩)) (D : List Int) (h0 : Dg w g D)
    (h : K (a.put o.dst (.agg (A8 D))) w) : wpOp Tryd.prog ops Q i K a w :=
  wpOp_load_row hi hgd 25 x ho g hx 25 (A8 D) (0, 0) (.array 32 5) h0.here und25 rfl (by rw [info25, A8_size, h0.len]) h
theorem wpOp_store_D {i : Nat} {K : Act → World → Prop} (hi : ops[i]? = some o) (hgd : o.guard = none) (x y : Operand) (ho : o.op = .store 25 x y) (g : Nat) (D : List Int) (hx : a.eval x = .pointer (some ⟨g, 0, none⟩)) (hy : a.eval y = .agg (A8 D)) (D0 : List Int) (h0 : Dg w g D0) (hl : D.length = 32)
    (h : ∀ W, Stored w W g (A8 D) 25 → K (a.put o.dst undef) W) : wpOp Tryd.prog ops Q i K a w :=
  wpOp_store_W hi hgd 25 x y ho g (A8 D) hx hy 25 (A8 D0) h0.here (by rw [info25, A8_size, hl]) (by rw [A8_size, A8_size, h0.len, hl]) (A8_one _) h
theorem yields_D (hw : Region.wanted o (yielded ops a.tmps) = true) (x : Operand) (ho : o.op = .load 25 x) (g : Nat) (hx : a.eval x = .pointer (some ⟨g, 0, none⟩)) (D : List Int) (hl : D.length = 32) (hS : ∀ w, S w → Dg w g D) : YieldsIf Tryd.prog ops S o (.agg (A8 D)) a :=
  yieldsIf_rowG hw 25 x ho g hx 25 (A8 D) (0, 0) (.array 32 5) (fun w h => (hS w h).here) und25 rfl (by rw [info25, A8_size, hl])
end
theorem relist {P : Program} {ops : Array Oper} {Q : Exit → Act → World → Prop} {md : Region.Mode} {S : World → Prop} {fuel : Nat} {listed : Array Bool} {a : Act} {w : World} (listed' : Array Bool) (hl : listed = listed')
    (h : wpAnyH P md ops Q S fuel listed' a w) : wpAnyH P md ops Q S fuel listed a w := by subst hl; exact h
/-- The hash of both sides. -/
def hP (xs : List Int) : List Int := hashP KS HS xs
theorem hP_len (xs : List Int) : (hP xs).length = 32 := hashP_len _ _ _
theorem hP_bytes (xs : List Int) : Bytes (hP xs) := hashP_bytes _ _ _
theorem hP_any (w : World) (hT : Tabs KS HS w) (p : Option Addr) (n cap : Nat) (xs : List Int) (hi : In8 w p n cap xs) :
    Calls Tryd.prog 54 #[.slice p n cap] w fun e w' => e = .returned (.agg (A8 (hP xs))) ∧ Below w.heap.size w w' := hash_any KS HS w hT p n cap xs hi
theorem ref_any (t : ByteArray) (l : List UInt8) (xs : List Int) (ht : t = ⟨l.toArray⟩) (hx : toI l = xs) (w : World) (hl : l.length ≤ 140737488355500) :
    Calls Tryd.prog 19 #[.string t] w fun e w' => e = .returned (.agg (A8 (hP xs))) ∧ Below w.heap.size w w' := by
  subst hx
  unfold hP
  rw [hash_same]
  exact refHash_b t l ht w hl
def leafP (xs : List Int) : List Int := hP (0 :: xs)
def knotP (L R : List Int) : List Int := hP (1 :: (L ++ R))
theorem leafP_len (xs : List Int) : (leafP xs).length = 32 := hP_len _
theorem knotP_len (L R : List Int) : (knotP L R).length = 32 := hP_len _
theorem leafP_bytes (xs : List Int) : Bytes (leafP xs) := hP_bytes _
theorem knotP_bytes (L R : List Int) : Bytes (knotP L R) := hP_bytes _
def leafCells (p : Option Addr) (n c : Nat) : Array Value := (Value.slice p n c :: List.replicate 64 (Value.int .u8 0)).toArray
theorem build_leaf (p : Option Addr) (n c : Nat) (w : World) : (Instr.build 184 #[(0, .slice p n c)]).run Tryd.prog w = .ok (.agg (leafCells p n c)) w := by
  kernel_rfl
def knotCells (L R : List Int) : Array Value := (Value.slice none 0 0 :: ((L ++ R).map (Value.int .u8))).toArray
theorem list32 (L : List Int) (h : L.length = 32) : ∃ x0 x1 x2 x3 x4 x5 x6 x7 x8 x9 x10 x11 x12 x13 x14 x15 x16 x17 x18 x19 x20 x21 x22 x23 x24 x25 x26 x27 x28 x29 x30 x31, L = [x0, x1, x2, x3, x4, x5, x6, x7, x8, x9, x10, x11, x12, x13, x14, x15, x16, x17, x18, x19, x20, x21, x22, x23, x24, x25, x26, x27, x28, x29, x30, x31] := by
  match L, h with
  | [x0, x1, x2, x3, x4, x5, x6, x7, x8, x9, x10, x11, x12, x13, x14, x15, x16, x17, x18, x19, x20, x21, x22, x23, x24, x25, x26, x27, x28, x29, x30, x31], _ => exact ⟨_, _, _, _, _, _, _, _, _, _, _, _, _, _, _, _, _, _, _, _, _, _, _, _, _, _, _, _, _, _, _, _, rfl⟩
theorem build_knot (L R : List Int) (hL : L.length = 32) (hR : R.length = 32) (w : World) : (Instr.build 184 #[(1, .agg (A8 L)), (2, .agg (A8 R))]).run Tryd.prog w = .ok (.agg (knotCells L R)) w := by
  obtain ⟨x0, x1, x2, x3, x4, x5, x6, x7, x8, x9, x10, x11, x12, x13, x14, x15, x16, x17, x18, x19, x20, x21, x22, x23, x24, x25, x26, x27, x28, x29, x30, x31, rfl⟩ := list32 L hL
  obtain ⟨y0, y1, y2, y3, y4, y5, y6, y7, y8, y9, y10, y11, y12, y13, y14, y15, y16, y17, y18, y19, y20, y21, y22, y23, y24, y25, y26, y27, y28, y29, y30, y31, rfl⟩ := list32 R hR
  kernel_rfl
end Go.Proofs.YtcmjlhcpoajbkaaDoor
namespace Go.Proofs.YtcmjlhcpoajbkaaDoor
set_option maxRecDepth 10000
open Go.RowKit
theorem toI_cons (b : UInt8) (l : List UInt8) : toI (b :: l) = (b.toNat : Int) :: toI l := rfl
set_option maxHeartbeats 400000 in
theorem refLeaf_any (w : World) (l : List UInt8) (xs : List Int) (hx : toI l = xs) (hl : l.length ≤ 140737488355400) :
    Calls Tryd.prog 94 #[.string ⟨l.toArray⟩] w fun e w' => e = .returned (.agg (A8 (leafP xs))) ∧ Below w.heap.size w w' := by
  have hb0 : Below w.heap.size w (w.alloc (.cells Z8x32 25)) := (Below.refl _ _).alloc (Nat.le_refl _) _
  have d0 : Hid (Dg (w.alloc (.cells Z8x32 25)) w.heap.size Z32) := Dg.new w _ rfl
  have hsz : (ByteArray.mk l.toArray).size = l.length := by show l.toArray.size = _; simp
  go_enter Tryd.func94, Tryd.ntmps94
  go_wp2_with fail
  refine (ref_any _ (0 :: l) (0 :: xs) (ByteArray.mk_append_mk [0] l) (by rw [toI_cons, hx]; rfl) _ (by simp; omega)).mono ?_
  rintro e w2 ⟨rfl, b2⟩
  have d2 : Hid (Dg w2 w.heap.size Z32) := d0.out.next b2
  have B2 : Below w.heap.size w w2 := hb0.trans (b2.mono (by simp))
  have hl := leafP_len xs
  have e1 : hP (0 :: xs) = leafP xs := rfl
  rw [e1]
  clear b2 d0 e1
  obtain ⟨D, hD⟩ : ∃ D, leafP xs = D := ⟨_, rfl⟩
  have HD : Hid (leafP xs = D) := hD
  rw [hD] at hl ⊢
  clear hD
  go_wp2_with (first
    | (with_reducible refine atStore 25 ?_
       refine store_D rfl (.tmp 2) (.tmp 5) rfl w.heap.size D rfl rfl Z32 d2.out hl ?_
       intro U hU))
  exact bodyPost_ret (v := .agg (A8 D)) (results_cell_row rfl _ _ w.heap.size 25 _ (0, 0) _ rfl hU.here und25 rfl (by rw [info25, A8_size, hl])) rfl ⟨by rw [HD.out], hU.below _ _ (Nat.le_refl _) B2⟩
set_option maxHeartbeats 1000000 in
theorem refKnot_any (w : World) (L R : List Int) (hL : L.length = 32) (hR : R.length = 32) (bL : Bytes L) (bR : Bytes R) :
    Calls Tryd.prog 96 #[.agg (A8 L), .agg (A8 R)] w fun e w' => e = .returned (.agg (A8 (knotP L R))) ∧ Below w.heap.size w w' := by
  have hb0 := below3 w (.cells (A8 L) 25) (.cells (A8 R) 25) (.cells Z8x32 25)
  have V0 := heap3 w (.cells (A8 L) 25) (.cells (A8 R) 25) (.cells Z8x32 25)
  have dL : Dg (((w.alloc (.cells (A8 L) 25)).alloc (.cells (A8 R) 25)).alloc (.cells Z8x32 25)) w.heap.size L := ⟨hL, V0.1⟩
  have dR : Dg (((w.alloc (.cells (A8 L) 25)).alloc (.cells (A8 R) 25)).alloc (.cells Z8x32 25)) (w.heap.size + 1) R := ⟨hR, V0.2.1⟩
  have d0 : Dg (((w.alloc (.cells (A8 L) 25)).alloc (.cells (A8 R) 25)).alloc (.cells Z8x32 25)) (w.heap.size + 1 + 1) Z32 := ⟨rfl, V0.2.2⟩
  clear V0
  go_enter Tryd.func96, Tryd.ntmps96
  go_wp2_with fail
  obtain ⟨V, hV⟩ : ∃ V, V = ((w.alloc (.cells (A8 L) 25)).alloc (.cells (A8 R) 25)).alloc (.cells Z8x32 25) := ⟨_, rfl⟩
  rw [← hV] at hb0 dL dR d0
  have bV : Below V.heap.size V V.drew := (Below.refl _ _).drew
  have ltL := dL.lt
  have ltR := dR.lt
  have lt0 := d0.lt
  have hwV : w.heap.size ≤ V.heap.size := hb0.size
  have S0 : Dg V.drew w.heap.size L ∧ Dg V.drew (w.heap.size + 1) R := ⟨⟨dL.len, dL.here⟩, ⟨dR.len, dR.here⟩⟩
  refine wp_region_noPanic ?_
  refine wp_region_held (S := fun W => Dg W w.heap.size L ∧ Dg W (w.heap.size + 1) R) follows ?_
  refine wpAnyH_take (i := 0) (v := .agg (A8 L)) rfl (by kernel_rfl) (by kernel_rfl) (by kernel_rfl) (fun _ _ _ h => h) (yields_D rfl (.tmp 2) rfl w.heap.size rfl L hL (fun W hW => hW.1)) (hV ▸ S0) ?_
  refine wpAnyH_take (i := 3) (v := .agg (A8 R)) rfl (by kernel_rfl) (by kernel_rfl) (by kernel_rfl) (fun _ _ _ h => h) (yields_D rfl (.tmp 3) rfl (w.heap.size + 1) rfl R hR (fun W hW => hW.2)) (hV ▸ S0) ?_
  generalize hg : w.heap.size = g at *
  refine reframe #[true, false, false, true, false, false, false, false] { tmps := #[.agg (A8 L), .agg (A8 R), .pointer (some ⟨g, 0, none⟩), .pointer (some ⟨g + 1, 0, none⟩), .pointer (some ⟨g + 1 + 1, 0, none⟩), .agg (A8 L), undef, undef, .agg (A8 R), undef, undef, undef], defers := [] } (by kernel_rfl) (by rfl) ?_
  refine any_one (i := 1) (by kernel_rfl) ?_
  refine wpOp_call (f := 60) (args := #[.agg (A8 L)]) rfl rfl (by go_simp) ?_
  refine (text_any L _ hL).mono ?_
  rintro e w1 ⟨rfl, b1⟩
  have B1 : Below V.heap.size V w1 := bV.trans (show Below V.heap.size V.drew w1 by rw [hV]; exact b1)
  clear b1
  have S1 := And.intro (dL.below B1 ltL) (dR.below B1 ltR)
  refine ⟨_, rfl, S1, ?_⟩
  have hsL : (ByteArray.mk (toU L).toArray).size = 32 := by show (toU L).toArray.size = _; simp [toU_len, hL]
  have hsR : (ByteArray.mk (toU R).toArray).size = 32 := by show (toU R).toArray.size = _; simp [toU_len, hR]
  have eA : (ByteArray.mk #[1]) ++ (ByteArray.mk (toU L).toArray) = ByteArray.mk (1 :: toU L).toArray := ByteArray.mk_append_mk [1] (toU L)
  have eB : (ByteArray.mk (1 :: toU L).toArray) ++ (ByteArray.mk (toU R).toArray) = ByteArray.mk (1 :: toU L ++ toU R).toArray := ByteArray.mk_append_mk (1 :: toU L) (toU R)
  have hsA : (ByteArray.mk (1 :: toU L).toArray).size = 33 := by show (1 :: toU L).toArray.size = _; simp [toU_len, hL]
  refine reframe #[true, true, false, true, false, false, false, false] { tmps := #[.agg (A8 L), .agg (A8 R), .pointer (some ⟨g, 0, none⟩), .pointer (some ⟨g + 1, 0, none⟩), .pointer (some ⟨g + 1 + 1, 0, none⟩), .agg (A8 L), .string ⟨(toU L).toArray⟩, undef, .agg (A8 R), undef, undef, undef], defers := [] } (by kernel_rfl) (by rfl) ?_
  refine wpAnyH_take (i := 2) (v := .string ⟨(1 :: toU L).toArray⟩) rfl (by kernel_rfl) (by kernel_rfl) (by kernel_rfl) (fun _ _ _ h => h) (.inl ⟨rfl, fun W _ => by go_simp⟩) S1 ?_
  refine reframe #[true, true, true, true, false, false, false, false] { tmps := #[.agg (A8 L), .agg (A8 R), .pointer (some ⟨g, 0, none⟩), .pointer (some ⟨g + 1, 0, none⟩), .pointer (some ⟨g + 1 + 1, 0, none⟩), .agg (A8 L), .string ⟨(toU L).toArray⟩, .string ⟨(1 :: toU L).toArray⟩, .agg (A8 R), undef, undef, undef], defers := [] } (by kernel_rfl) (by rfl) ?_
  refine any_one (i := 4) (by kernel_rfl) ?_
  refine wpOp_call (f := 60) (args := #[.agg (A8 R)]) rfl rfl (by go_simp) ?_
  refine (text_any R _ hR).mono ?_
  rintro e w2 ⟨rfl, b2⟩
  have B2 : Below V.heap.size V w2 := B1.trans (b2.mono B1.size)
  clear b2 B1
  have S2 := And.intro (dL.below B2 ltL) (dR.below B2 ltR)
  refine ⟨_, rfl, S2, ?_⟩
  refine reframe #[true, true, true, true, true, false, false, false] { tmps := #[.agg (A8 L), .agg (A8 R), .pointer (some ⟨g, 0, none⟩), .pointer (some ⟨g + 1, 0, none⟩), .pointer (some ⟨g + 1 + 1, 0, none⟩), .agg (A8 L), .string ⟨(toU L).toArray⟩, .string ⟨(1 :: toU L).toArray⟩, .agg (A8 R), .string ⟨(toU R).toArray⟩, undef, undef], defers := [] } (by kernel_rfl) (by rfl) ?_
  refine wpAnyH_take (i := 5) (v := .string ⟨(1 :: toU L ++ toU R).toArray⟩) rfl (by kernel_rfl) (by kernel_rfl) (by kernel_rfl) (fun _ _ _ h => h) (.inl ⟨rfl, fun W _ => by go_simp⟩) S2 ?_
  refine reframe #[true, true, true, true, true, true, false, false] { tmps := #[.agg (A8 L), .agg (A8 R), .pointer (some ⟨g, 0, none⟩), .pointer (some ⟨g + 1, 0, none⟩), .pointer (some ⟨g + 1 + 1, 0, none⟩), .agg (A8 L), .string ⟨(toU L).toArray⟩, .string ⟨(1 :: toU L).toArray⟩, .agg (A8 R), .string ⟨(toU R).toArray⟩, .string ⟨(1 :: toU L ++ toU R).toArray⟩, undef], defers := [] } (by kernel_rfl) (by rfl) ?_
  refine any_one (i := 6) (by kernel_rfl) ?_
  refine wpOp_call (f := 19) (args := #[.string ⟨(1 :: toU L ++ toU R).toArray⟩]) rfl rfl (by go_simp) ?_
  refine (ref_any _ (1 :: toU L ++ toU R) (1 :: (L ++ R)) rfl (by rw [toI_append, toI_cons, toI_toU L bL, toI_toU R bR]; rfl) _ (by simp [toU_len]; omega)).mono ?_
  rintro e w3 ⟨rfl, b3⟩
  have B3 : Below V.heap.size V w3 := B2.trans (b3.mono B2.size)
  clear b3 B2
  have S3 := And.intro (dL.below B3 ltL) (dR.below B3 ltR)
  refine ⟨_, rfl, S3, ?_⟩
  have hl := knotP_len L R
  have e1 : hP (1 :: (L ++ R)) = knotP L R := rfl
  rw [e1]
  obtain ⟨D, hD⟩ : ∃ D, knotP L R = D := ⟨_, rfl⟩
  have HD : Hid (knotP L R = D) := hD
  rw [hD] at hl ⊢
  clear hD
  have d3 := d0.below B3 lt0
  refine reframe #[true, true, true, true, true, true, true, false] { tmps := #[.agg (A8 L), .agg (A8 R), .pointer (some ⟨g, 0, none⟩), .pointer (some ⟨g + 1, 0, none⟩), .pointer (some ⟨g + 1 + 1, 0, none⟩), .agg (A8 L), .string ⟨(toU L).toArray⟩, .string ⟨(1 :: toU L).toArray⟩, .agg (A8 R), .string ⟨(toU R).toArray⟩, .string ⟨(1 :: toU L ++ toU R).toArray⟩, .agg (A8 D)], defers := [] } (by kernel_rfl) (by rfl) ?_
  refine any_one (i := 7) (by kernel_rfl) ?_
  refine wpOp_store_D rfl rfl (.tmp 4) (.tmp 11) rfl (g + 1 + 1) D rfl rfl Z32 d3 hl ?_
  intro U hU
  have HB : Hid (Below g w U) := hU.below _ _ (by omega) (hb0.trans (B3.mono hwV))
  refine ⟨⟨S3.1.other hU (by omega), S3.2.other hU (by omega)⟩, ?_⟩
  refine reframe #[true, true, true, true, true, true, true, true] { tmps := #[.agg (A8 L), .agg (A8 R), .pointer (some ⟨g, 0, none⟩), .pointer (some ⟨g + 1, 0, none⟩), .pointer (some ⟨g + 1 + 1, 0, none⟩), .agg (A8 L), .string ⟨(toU L).toArray⟩, .string ⟨(1 :: toU L).toArray⟩, .agg (A8 R), .string ⟨(toU R).toArray⟩, .string ⟨(1 :: toU L ++ toU R).toArray⟩, .agg (A8 D)], defers := [] } (by kernel_rfl) (by rfl) ?_
  refine wpAnyH_done (by kernel_rfl) ?_ _
  refine NoPanic.normal ?_
  have hUh : Hid (U.heap[g + 1 + 1]? = _) := hU.here
  clear hU S1 S2 S3 d3 B3 hb0 bV dL dR d0 eA eB
  go_wp2_with fail
  exact bodyPost_ret (v := .agg (A8 D)) (results_cell_row rfl _ _ (g + 1 + 1) 25 _ (0, 0) _ rfl hUh.out und25 rfl (by rw [info25, A8_size, hl])) rfl ⟨by rw [HD.out], by rw [hg]; exact HB.out⟩
end Go.Proofs.YtcmjlhcpoajbkaaDoor
namespace Go.Proofs.YtcmjlhcpoajbkaaDoor
set_option maxRecDepth 10000
open Go.RowKit
theorem mkf (fn : Fn) (first cap : Array Value) (w : World) : (Instr.makeFunc fn first cap).run Tryd.prog w = .ok (.func fn first cap) w := rfl
def xf2 (a b : List Int) : Nat → List Int
  | 0 => a
  | _ => b
def pf2 (p q : Option Addr) : Nat → Option Addr
  | 0 => p
  | _ => q
def nf2 (m n : Nat) : Nat → Nat
  | 0 => m
  | _ => n
theorem cat2 (a b : List Int) : catX (xf2 a b) 2 = a ++ b := by simp [catX, xf2]
theorem in8_one (w : World) (b : Int) (hb : 0 ≤ b ∧ b < 256) (g : Nat) (t : TypeId) (h : w.heap[g]? = some (.cells #[.int .u8 b] t)) : In8 w (some ⟨g, 0, none⟩) 1 1 [b] := by
  refine ⟨rfl, .of fun x hx => ?_, by omega, by omega, by omega, fun _ => ⟨g, 0, rfl, row_lt h, fun j hj => ?_⟩⟩
  · simp only [List.mem_singleton] at hx; subst hx; exact hb
  · have e : j = 0 := by simp at hj; omega
    subst e
    rw [cell_of_row _ _ _ _ _ _ h]; rfl
set_option maxHeartbeats 400000 in
theorem leaf_any (w : World) (p : Option Addr) (n c : Nat) (xs : List Int) (hi : In8 w p n c xs) (hn : n < 140737488355328) :
    Calls Tryd.prog 128 #[.agg (leafCells p n c)] w fun e w' => ∃ p' n' c', e = .returned (.slice p' n' c') ∧ Below w.heap.size w w' ∧ In8 w' p' n' c' (0 :: xs) := by
  have hc : ∀ o, ((w.alloc (.cells (leafCells p n c) 184)).alloc o).cell? ⟨w.heap.size, 0, none⟩ = some (.slice p n c) := fun o => by
    rw [cell_of_row _ _ _ _ _ _ (heap2 w _ _).1]; rfl
  have hb2 := fun A B C => below3 w A B C
  go_enter Tryd.func128, Tryd.ntmps128
  go_wp2_with fail
  have V := heap3 w (.cells (leafCells p n c) 184) (.cells #[.int .u8 0] 5) (.cells #[.slice (some ⟨w.heap.size + 1, 0, none⟩) 1 1, .slice p n c] 22)
  have hb := hb2 (.cells (leafCells p n c) 184) (.cells #[.int .u8 0] 5) (.cells #[.slice (some ⟨w.heap.size + 1, 0, none⟩) 1 1, .slice p n c] 22)
  have hl := hi.len
  have e2 := cat2 [0] xs
  refine (concat_any (w.heap.size + 1 + 1) 2 (pf2 (some ⟨w.heap.size + 1, 0, none⟩) p) (nf2 1 n) (nf2 1 c) (xf2 [0] xs) _ (by omega) ?_ ?_ (by rw [e2]; simp) (by rw [e2]; simp; omega)).mono ?_
  · intro i hi'
    rw [cell_of_row _ _ _ _ _ _ V.2.2]
    rcases i with _ | _ | i
    · rfl
    · rfl
    · omega
  · intro i hi'
    rcases i with _ | _ | i
    · exact in8_one _ 0 (by omega) _ _ V.2.1
    · exact hi.below hb
    · omega
  · rintro e w' ⟨p', n', c', rfl, hb', hi'⟩
    rw [e2] at hi'
    have HI : Hid (In8 w' p' n' c' (0 :: xs)) := hi'
    have HB : Hid (Below w.heap.size w w') := hb.trans (hb'.mono (by simp; omega))
    clear hi' hb' V hb hb2 hc
    go_wp2_with fail
    go_ret
    exact ⟨_, _, _, rfl, HB.out, HI.out⟩
theorem knot_cell (L R : List Int) (hL : L.length = 32) (hR : R.length = 32) (j : Nat) (hj : j < 64) : (knotCells L R)[1 + j]? = some (.int .u8 ((L ++ R).getD j 0)) := by
  have h : j < (L ++ R).length := by rw [List.length_append]; omega
  simp only [knotCells, List.getElem?_toArray]
  rw [Nat.add_comm 1 j, List.getElem?_cons_succ, List.getElem?_map, List.getElem?_eq_getElem h, List.getD_eq_getElem?_getD, List.getElem?_eq_getElem h]
  rfl
theorem knot_L {w : World} {g : Nat} {t : TypeId} {L R : List Int} (hL : L.length = 32) (hR : R.length = 32) (bL : Bytes L) (h : w.heap[g]? = some (.cells (knotCells L R) t)) : In8 w (some ⟨g, 1, none⟩) 32 32 L := by
  refine ⟨hL, bL, by omega, by omega, by omega, fun _ => ⟨g, 1, rfl, row_lt h, fun j hj => ?_⟩⟩
  rw [cell_of_row _ _ _ _ _ _ h, knot_cell L R hL hR j (by omega), List.getD_eq_getElem?_getD, List.getElem?_append_left hj, ← List.getD_eq_getElem?_getD]
theorem knot_R {w : World} {g : Nat} {t : TypeId} {L R : List Int} (hL : L.length = 32) (hR : R.length = 32) (bR : Bytes R) (h : w.heap[g]? = some (.cells (knotCells L R) t)) : In8 w (some ⟨g, 33, none⟩) 32 32 R := by
  refine ⟨hR, bR, by omega, by omega, by omega, fun _ => ⟨g, 33, rfl, row_lt h, fun j hj => ?_⟩⟩
  rw [cell_of_row _ _ _ _ _ _ h, show 33 + j = 1 + (32 + j) by omega, knot_cell L R hL hR (32 + j) (by omega), List.getD_eq_getElem?_getD, List.getElem?_append_right (by omega), hL, Nat.add_sub_cancel_left, ← List.getD_eq_getElem?_getD]
def xf3 (a b c : List Int) : Nat → List Int
  | 0 => a
  | 1 => b
  | _ => c
def pf3 (p q r : Option Addr) : Nat → Option Addr
  | 0 => p
  | 1 => q
  | _ => r
def nf3 (m n k : Nat) : Nat → Nat
  | 0 => m
  | 1 => n
  | _ => k
theorem cat3 (a b c : List Int) : catX (xf3 a b c) 3 = a ++ (b ++ c) := by simp [catX, xf3]
set_option maxHeartbeats 1000000 in
theorem knot_any (w : World) (L R : List Int) (hL : L.length = 32) (hR : R.length = 32) (bL : Bytes L) (bR : Bytes R) :
    Calls Tryd.prog 129 #[.agg (knotCells L R)] w fun e w' => ∃ p' n' c', e = .returned (.slice p' n' c') ∧ Below w.heap.size w w' ∧ In8 w' p' n' c' (1 :: (L ++ R)) := by
  go_enter Tryd.func129, Tryd.ntmps129
  go_wp2_with fail
  have hg := heapN w (.cells (knotCells L R) 184) _ rfl
  have hb : Below w.heap.size w (w.alloc (.cells (knotCells L R) 184)) := (Below.refl _ _).alloc (Nat.le_refl _) _
  have hgs : w.heap.size < (w.alloc (.cells (knotCells L R) 184)).heap.size := by simp
  generalize w.alloc (.cells (knotCells L R) 184) = V at *
  generalize hgg : w.heap.size = g at *
  obtain ⟨KC, hKC⟩ : ∃ KC, knotCells L R = KC := ⟨_, rfl⟩
  have HKC : Hid (KC = knotCells L R) := hKC.symm
  rw [hKC] at hg ⊢
  clear hKC
  have bV : Below V.heap.size V V.drew := (Below.refl _ _).drew
  refine wp_region_noPanic ?_
  refine wp_region_held (S := fun W => Below V.heap.size V W) follows ?_
  refine wpAnyH_take (i := 1) (v := .pointer (some ⟨g, 1, none⟩)) rfl (by kernel_rfl) (by kernel_rfl) (by kernel_rfl) (fun _ _ _ h => h) (.inl ⟨rfl, fun W _ => by go_simp⟩) bV ?_
  refine wpAnyH_take (i := 2) (v := .slice (some ⟨g, 1, none⟩) 32 32) rfl (by kernel_rfl) (by kernel_rfl) (by kernel_rfl) (fun _ _ _ h => h) (.inl ⟨rfl, fun W _ => by go_simp⟩) bV ?_
  refine wpAnyH_take (i := 3) (v := .pointer (some ⟨g, 33, none⟩)) rfl (by kernel_rfl) (by kernel_rfl) (by kernel_rfl) (fun _ _ _ h => h) (.inl ⟨rfl, fun W _ => by go_simp⟩) bV ?_
  refine wpAnyH_take (i := 4) (v := .slice (some ⟨g, 33, none⟩) 32 32) rfl (by kernel_rfl) (by kernel_rfl) (by kernel_rfl) (fun _ _ _ h => h) (.inl ⟨rfl, fun W _ => by go_simp⟩) bV ?_
  refine reframe #[false, true, true, true, true, false, false, false] { tmps := #[.agg KC, .pointer (some ⟨g, 0, none⟩), .slice none 0 0, undef, .pointer (some ⟨g, 1, none⟩), .slice (some ⟨g, 1, none⟩) 32 32, .pointer (some ⟨g, 33, none⟩), .slice (some ⟨g, 33, none⟩) 32 32, undef, undef], defers := [] } (by kernel_rfl) (by rfl) ?_
  refine any_one (i := 0) (by kernel_rfl) ?_
  refine wpOp_val (v := .slice (some ⟨V.drew.heap.size, 0, none⟩) 1 1) (w' := V.drew.alloc (.cells #[.int .u8 1] 5)) rfl rfl (by go_simp) ?_
  have b1 : Below V.heap.size V (V.drew.alloc (.cells #[.int .u8 1] 5)) := bV.alloc (Nat.le_refl _) _
  refine ⟨b1, ?_⟩
  have h1 := heapN V.drew (.cells #[.int .u8 1] 5) _ rfl
  have g1 : V.drew.heap.size = V.heap.size := rfl
  rw [g1] at h1
  have s1 : V.heap.size < (V.drew.alloc (.cells #[.int .u8 1] 5)).heap.size := row_lt h1
  rw [g1]
  generalize V.drew.alloc (.cells #[.int .u8 1] 5) = V1 at *
  generalize hg1 : V.heap.size = k1 at *
  refine reframe #[true, true, true, true, true, false, false, false] { tmps := #[.agg KC, .pointer (some ⟨g, 0, none⟩), .slice none 0 0, .slice (some ⟨k1, 0, none⟩) 1 1, .pointer (some ⟨g, 1, none⟩), .slice (some ⟨g, 1, none⟩) 32 32, .pointer (some ⟨g, 33, none⟩), .slice (some ⟨g, 33, none⟩) 32 32, undef, undef], defers := [] } (by kernel_rfl) (by rfl) ?_
  refine any_one (i := 5) (by kernel_rfl) ?_
  refine wpOp_val (v := .slice (some ⟨V1.heap.size, 0, none⟩) 3 3) (w' := V1.alloc (.cells #[.slice (some ⟨k1, 0, none⟩) 1 1, .slice (some ⟨g, 1, none⟩) 32 32, .slice (some ⟨g, 33, none⟩) 32 32] 22)) rfl rfl (by go_simp) ?_
  have b2 : Below k1 V (V1.alloc (.cells #[.slice (some ⟨k1, 0, none⟩) 1 1, .slice (some ⟨g, 1, none⟩) 32 32, .slice (some ⟨g, 33, none⟩) 32 32] 22)) := b1.alloc (by omega) _
  refine ⟨b2, ?_⟩
  have h2 := heapN V1 (.cells #[.slice (some ⟨k1, 0, none⟩) 1 1, .slice (some ⟨g, 1, none⟩) 32 32, .slice (some ⟨g, 33, none⟩) 32 32] 22) _ rfl
  have h12 := (heapO V1 (.cells #[.slice (some ⟨k1, 0, none⟩) 1 1, .slice (some ⟨g, 1, none⟩) 32 32, .slice (some ⟨g, 33, none⟩) 32 32] 22) k1 s1).trans h1
  have hg2 := (b2.block g hgs).trans hg
  generalize V1.alloc (.cells #[.slice (some ⟨k1, 0, none⟩) 1 1, .slice (some ⟨g, 1, none⟩) 32 32, .slice (some ⟨g, 33, none⟩) 32 32] 22) = V2 at *
  generalize V1.heap.size = k2 at *
  clear hg h1 b1
  refine reframe #[true, true, true, true, true, true, false, false] { tmps := #[.agg KC, .pointer (some ⟨g, 0, none⟩), .slice none 0 0, .slice (some ⟨k1, 0, none⟩) 1 1, .pointer (some ⟨g, 1, none⟩), .slice (some ⟨g, 1, none⟩) 32 32, .pointer (some ⟨g, 33, none⟩), .slice (some ⟨g, 33, none⟩) 32 32, .slice (some ⟨k2, 0, none⟩) 3 3, undef], defers := [] } (by kernel_rfl) (by rfl) ?_
  have e3 := cat3 [1] L R
  refine any_one (i := 6) (by kernel_rfl) ?_
  refine wpOp_call (f := 97) (args := #[.slice (some ⟨k2, 0, none⟩) 3 3]) rfl rfl (by go_simp) ?_
  refine (concat_any k2 3 (pf3 (some ⟨k1, 0, none⟩) (some ⟨g, 1, none⟩) (some ⟨g, 33, none⟩)) (nf3 1 32 32) (nf3 1 32 32) (xf3 [1] L R) _ (by omega) ?_ ?_ (by rw [e3]; simp) (by rw [e3]; simp; omega)).mono ?_
  · intro i hi'
    rw [cell_of_row _ _ _ _ _ _ h2]
    rcases i with _ | _ | _ | i
    · rfl
    · rfl
    · rfl
    · omega
  · intro i hi'
    rcases i with _ | _ | _ | i
    · exact in8_one _ 1 (by omega) _ _ h12
    · exact knot_L hL hR bL (HKC.out ▸ hg2)
    · exact knot_R hL hR bR (HKC.out ▸ hg2)
    · omega
  rintro e V3 ⟨p', n', c', rfl, hb3, hi3⟩
  rw [e3] at hi3
  have b3 : Below k1 V V3 := b2.trans (hb3.mono (by have := b2.size; omega))
  refine ⟨_, rfl, b3, ?_⟩
  refine reframe #[true, true, true, true, true, true, true, false] { tmps := #[.agg KC, .pointer (some ⟨g, 0, none⟩), .slice none 0 0, .slice (some ⟨k1, 0, none⟩) 1 1, .pointer (some ⟨g, 1, none⟩), .slice (some ⟨g, 1, none⟩) 32 32, .pointer (some ⟨g, 33, none⟩), .slice (some ⟨g, 33, none⟩) 32 32, .slice (some ⟨k2, 0, none⟩) 3 3, .slice p' n' c'], defers := [] } (by kernel_rfl) (by rfl) ?_
  refine wpAnyH_take (i := 7) (v := .slice p' n' c') rfl (by kernel_rfl) (by kernel_rfl) (by kernel_rfl) (fun _ _ _ h => h) (.inl ⟨rfl, fun W _ => by go_simp⟩) b3 ?_
  refine reframe #[true, true, true, true, true, true, true, true] { tmps := #[.agg KC, .pointer (some ⟨g, 0, none⟩), .slice p' n' c', .slice (some ⟨k1, 0, none⟩) 1 1, .pointer (some ⟨g, 1, none⟩), .slice (some ⟨g, 1, none⟩) 32 32, .pointer (some ⟨g, 33, none⟩), .slice (some ⟨g, 33, none⟩) 32 32, .slice (some ⟨k2, 0, none⟩) 3 3, .slice p' n' c'], defers := [] } (by kernel_rfl) (by rfl) ?_
  refine wpAnyH_done (by kernel_rfl) ?_ _
  refine NoPanic.normal ?_
  have HB : Hid (Below g w V3) := hb.trans (b3.mono (by omega))
  have HI : Hid (In8 V3 p' n' c' (1 :: (L ++ R))) := hi3
  clear b2 b3 hb3 hi3 h2 h12 hg2 hb bV
  go_wp2_with fail
  go_ret
  exact ⟨_, _, _, rfl, by rw [hgg]; exact HB.out, HI.out⟩
set_option maxHeartbeats 400000 in
theorem thash_any (w : World) (f : FuncId) (v : Value) (xs : List Int) (hT : Tabs KS HS w)
    (hen : ∀ W : World, (callFunc f #[v]).run Tryd.prog W = .ok (.enter f #[v]) W)
    (hf : ∀ W : World, Below w.heap.size w W → Calls Tryd.prog f #[v] W fun e w' => ∃ p' n' c', e = .returned (.slice p' n' c') ∧ Below W.heap.size W w' ∧ In8 w' p' n' c' xs) :
    Calls Tryd.prog 93 #[.func (.func f) #[v] #[]] w fun e w' => e = .returned (.agg (A8 (hP xs))) ∧ Below w.heap.size w w' := by
  have hb0 : Below w.heap.size w (w.alloc (.cells Z8x32 25)) := (Below.refl _ _).alloc (Nat.le_refl _) _
  have d0 : Hid (Dg (w.alloc (.cells Z8x32 25)) w.heap.size Z32) := Dg.new w _ rfl
  go_enter Tryd.func93, Tryd.ntmps93
  go_wp2_with fail
  refine (hf _ hb0).mono ?_
  rintro e w1 ⟨p', n', c', rfl, b1, hi1⟩
  have d1 : Hid (Dg w1 w.heap.size Z32) := d0.out.next b1
  have B1 : Below w.heap.size w w1 := hb0.trans (b1.mono (by simp))
  clear b1 d0 hf
  go_wp2_with fail
  refine (hP_any w1 (hT.below B1) p' n' c' xs hi1).mono ?_
  rintro e w2 ⟨rfl, b2⟩
  have d2 : Hid (Dg w2 w.heap.size Z32) := d1.out.next b2
  have B2 : Below w.heap.size w w2 := B1.trans (b2.mono B1.size)
  have hl := hP_len xs
  clear b2 d1 B1 hi1
  obtain ⟨D, hD⟩ : ∃ D, hP xs = D := ⟨_, rfl⟩
  have HD : Hid (hP xs = D) := hD
  rw [hD] at hl ⊢
  clear hD
  go_wp2_with (first
    | (with_reducible refine atStore 25 ?_
       refine store_D rfl (.tmp 2) (.tmp 5) rfl w.heap.size D rfl rfl Z32 d2.out hl ?_
       intro U hU))
  exact bodyPost_ret (v := .agg (A8 D)) (results_cell_row rfl _ _ w.heap.size 25 _ (0, 0) _ rfl hU.here und25 rfl (by rw [info25, A8_size, hl])) rfl ⟨by rw [HD.out], hU.below _ _ (Nat.le_refl _) B2⟩
/-- What a method value of a place is, and the text that it tells. -/
def leafV (p : Option Addr) (n c : Nat) : Value := .func (.func 128) #[.agg (leafCells p n c)] #[]
def knotV (L R : List Int) : Value := .func (.func 129) #[.agg (knotCells L R)] #[]
def TextV (w : World) (v : Value) (xs : List Int) : Prop :=
  ∃ f u, v = .func (.func f) #[u] #[] ∧ (∀ W : World, (callFunc f #[u]).run Tryd.prog W = .ok (.enter f #[u]) W) ∧
    ∀ W : World, Below w.heap.size w W → Calls Tryd.prog f #[u] W fun e w' => ∃ p' n' c', e = .returned (.slice p' n' c') ∧ Below W.heap.size W w' ∧ In8 w' p' n' c' xs
theorem leafV_text (w : World) (p : Option Addr) (n c : Nat) (xs : List Int) (hi : In8 w p n c xs) (hn : n < 140737488355328) : TextV w (leafV p n c) (0 :: xs) :=
  ⟨_, _, rfl, fun W => by go_simp, fun W hW => leaf_any W p n c xs (hi.below hW) hn⟩
theorem knotV_text (w : World) (L R : List Int) (hL : L.length = 32) (hR : R.length = 32) (bL : Bytes L) (bR : Bytes R) : TextV w (knotV L R) (1 :: (L ++ R)) :=
  ⟨_, _, rfl, fun W => by go_simp, fun W _ => knot_any W L R hL hR bL bR⟩
theorem textHash_any (w : World) (v : Value) (xs : List Int) (hT : Tabs KS HS w) (h : TextV w v xs) :
    Calls Tryd.prog 93 #[v] w fun e w' => e = .returned (.agg (A8 (hP xs))) ∧ Below w.heap.size w w' := by
  obtain ⟨f, u, rfl, h2, h3⟩ := h
  exact thash_any w f u xs hT h2 h3
theorem leafText_any (w : World) (p : Option Addr) (n c : Nat) :
    Calls Tryd.prog 116 #[.slice p n c] w fun e w' => e = .returned (leafV p n c) ∧ w' = w := by
  have hbd := build_leaf p n c
  have hmf := mkf
  go_enter Tryd.func116, Tryd.ntmps116
  go_wp2_with fail
  go_ret
  exact ⟨rfl, rfl⟩
set_option maxHeartbeats 400000 in
theorem leafOf_any (w : World) (hT : Tabs KS HS w) (p : Option Addr) (n c : Nat) (xs : List Int) (hi : In8 w p n c xs) (hn : n < 140737488355328) :
    Calls Tryd.prog 101 #[.slice p n c] w fun e w' => e = .returned (.agg (A8 (leafP xs))) ∧ Below w.heap.size w w' := by
  have hb0 : Below w.heap.size w (w.alloc (.cells Z8x32 25)) := (Below.refl _ _).alloc (Nat.le_refl _) _
  have d0 : Hid (Dg (w.alloc (.cells Z8x32 25)) w.heap.size Z32) := Dg.new w _ rfl
  go_enter Tryd.func101, Tryd.ntmps101
  go_wp2_with fail
  refine (leafText_any _ p n c).mono ?_
  rintro e w1 ⟨rfl, rfl⟩
  go_wp2_with fail
  refine (textHash_any _ _ (0 :: xs) (hT.below hb0) (leafV_text _ p n c xs (hi.below hb0) hn)).mono ?_
  rintro e w2 ⟨rfl, b2⟩
  have d2 : Hid (Dg w2 w.heap.size Z32) := d0.out.next b2
  have B2 : Below w.heap.size w w2 := hb0.trans (b2.mono (by simp))
  have hl := leafP_len xs
  have e1 : hP (0 :: xs) = leafP xs := rfl
  rw [e1]
  clear b2 d0 e1
  obtain ⟨D, hD⟩ : ∃ D, leafP xs = D := ⟨_, rfl⟩
  have HD : Hid (leafP xs = D) := hD
  rw [hD] at hl ⊢
  clear hD
  go_wp2_with (first
    | (with_reducible refine atStore 25 ?_
       refine store_D rfl (.tmp 2) (.tmp 5) rfl w.heap.size D rfl rfl Z32 d2.out hl ?_
       intro U hU))
  exact bodyPost_ret (v := .agg (A8 D)) (results_cell_row rfl _ _ w.heap.size 25 _ (0, 0) _ rfl hU.here und25 rfl (by rw [info25, A8_size, hl])) rfl ⟨by rw [HD.out], hU.below _ _ (Nat.le_refl _) B2⟩
theorem atBuild {P : Program} {ops : Array Oper} {Q : Exit → Act → World → Prop} {rest : List Oper} {a : Act} {w : World} {d ps t p af g} (ty : TypeId)
    (h : wpList P ops Q (⟨d, .build ty ps, t, p, af, g⟩ :: rest) a w) : wpList P ops Q (⟨d, .build ty ps, t, p, af, g⟩ :: rest) a w := h
theorem wpList_build_knot {ops : Array Oper} {rest : List Oper} {o : Oper} {a : Act} {w : World} {Q : Exit → Act → World → Prop} (hgd : o.guard = none) (x y : Operand) (ho : o.op = .build 184 #[(1, x), (2, y)])
    (L R : List Int) (hx : a.eval x = .agg (A8 L)) (hy : a.eval y = .agg (A8 R)) (hL : L.length = 32) (hR : R.length = 32)
    (h : wpList Tryd.prog ops Q rest (a.put o.dst (.agg (knotCells L R))) w) : wpList Tryd.prog ops Q (o :: rest) a w := by
  have hr := build_knot L R hL hR w
  refine wpList_plain hgd fun _ hK => ?_
  unfold Oper.wp execOp
  simp only [ho, Sem.run_bind, Sem.run_pure, Result.andThen_ok, List.map_toArray, List.map_cons, List.map_nil, hx, hy, hr]
  exact hK _ _ h
set_option maxHeartbeats 400000 in
theorem knotText_any (w : World) (L R : List Int) (hL : L.length = 32) (hR : R.length = 32) :
    Calls Tryd.prog 117 #[.agg (A8 L), .agg (A8 R)] w fun e w' => e = .returned (knotV L R) ∧ Below w.heap.size w w' := by
  have hb0 : Below w.heap.size w ((w.alloc (.cells (A8 L) 25)).alloc (.cells (A8 R) 25)) := ((Below.refl _ _).alloc (Nat.le_refl _) _).alloc (by simp) _
  have V := heap2 w (.cells (A8 L) 25) (.cells (A8 R) 25)
  have dL : Hid (Dg ((w.alloc (.cells (A8 L) 25)).alloc (.cells (A8 R) 25)) w.heap.size L) := ⟨hL, V.1⟩
  have dR : Hid (Dg ((w.alloc (.cells (A8 L) 25)).alloc (.cells (A8 R) 25)) (w.heap.size + 1) R) := ⟨hR, V.2⟩
  clear V
  have hmf := mkf
  go_enter Tryd.func117, Tryd.ntmps117
  go_wp2_with (first
    | (with_reducible refine atLoad 25 ?_
       first
         | refine load_D rfl (.tmp 2) rfl w.heap.size rfl L dL.out ?_
         | refine load_D rfl (.tmp 3) rfl (w.heap.size + 1) rfl R dR.out ?_)
    | (with_reducible refine atBuild 184 ?_
       refine wpList_build_knot rfl (.tmp 5) (.tmp 6) rfl L R rfl rfl hL hR ?_))
  go_ret
  exact ⟨rfl, hb0⟩
set_option maxHeartbeats 400000 in
theorem knotOf_any (w : World) (hT : Tabs KS HS w) (L R : List Int) (hL : L.length = 32) (hR : R.length = 32) (bL : Bytes L) (bR : Bytes R) :
    Calls Tryd.prog 103 #[.agg (A8 L), .agg (A8 R)] w fun e w' => e = .returned (.agg (A8 (knotP L R))) ∧ Below w.heap.size w w' := by
  have hb0 := below3 w (.cells (A8 L) 25) (.cells (A8 R) 25) (.cells Z8x32 25)
  have V := heap3 w (.cells (A8 L) 25) (.cells (A8 R) 25) (.cells Z8x32 25)
  have dL : Hid (Dg (((w.alloc (.cells (A8 L) 25)).alloc (.cells (A8 R) 25)).alloc (.cells Z8x32 25)) w.heap.size L) := ⟨hL, V.1⟩
  have dR : Hid (Dg (((w.alloc (.cells (A8 L) 25)).alloc (.cells (A8 R) 25)).alloc (.cells Z8x32 25)) (w.heap.size + 1) R) := ⟨hR, V.2.1⟩
  have d0 : Hid (Dg (((w.alloc (.cells (A8 L) 25)).alloc (.cells (A8 R) 25)).alloc (.cells Z8x32 25)) (w.heap.size + 2) Z32) := ⟨rfl, V.2.2⟩
  clear V
  go_enter Tryd.func103, Tryd.ntmps103
  go_wp2_with (first
    | (with_reducible refine atLoad 25 ?_
       first
         | refine load_D rfl (.tmp 2) rfl w.heap.size rfl L dL.out ?_
         | refine load_D rfl (.tmp 3) rfl (w.heap.size + 1) rfl R dR.out ?_))
  refine (knotText_any _ L R hL hR).mono ?_
  rintro e w1 ⟨rfl, b1⟩
  have d1 : Hid (Dg w1 (w.heap.size + 2) Z32) := d0.out.next b1
  have B1 : Below w.heap.size w w1 := hb0.trans (b1.mono (by simp; omega))
  clear d0 b1 dL dR hb0
  go_wp2_with fail
  refine (textHash_any _ _ (1 :: (L ++ R)) (hT.below B1) (knotV_text _ L R hL hR bL bR)).mono ?_
  rintro e w2 ⟨rfl, b2⟩
  have d2 : Hid (Dg w2 (w.heap.size + 2) Z32) := d1.out.next b2
  have B2 : Below w.heap.size w w2 := B1.trans (b2.mono B1.size)
  have hl := knotP_len L R
  have e1 : hP (1 :: (L ++ R)) = knotP L R := rfl
  rw [e1]
  clear b2 d1 e1 B1
  obtain ⟨D, hD⟩ : ∃ D, knotP L R = D := ⟨_, rfl⟩
  have HD : Hid (knotP L R = D) := hD
  rw [hD] at hl ⊢
  clear hD
  go_wp2_with (first
    | (with_reducible refine atStore 25 ?_
       refine store_D rfl (.tmp 4) (.tmp 8) rfl (w.heap.size + 2) D rfl rfl Z32 d2.out hl ?_
       intro U hU))
  exact bodyPost_ret (v := .agg (A8 D)) (results_cell_row rfl _ _ (w.heap.size + 2) 25 _ (0, 0) _ rfl hU.here und25 rfl (by rw [info25, A8_size, hl])) rfl ⟨by rw [HD.out], hU.below _ _ (by omega) B2⟩
end Go.Proofs.YtcmjlhcpoajbkaaDoor
namespace Go.Proofs.YtcmjlhcpoajbkaaDoor
set_option maxRecDepth 10000
open Go.RowKit
/-- A slice of digests. -/
structure D32 (w : World) (p : Option Addr) (n cap : Nat) (ds : List (List Int)) : Prop where
  len : ds.length = n
  all : ∀ d ∈ ds, d.length = 32 ∧ Bytes d
  fits : n ≤ cap
  room : cap ≤ 9223372036854775807
  lies : 0 < n → ∃ ad, p = some ad ∧ ad.block < w.heap.size ∧ ∀ k, k < n → ∀ j, j < 32 → w.cell? (ad.add (k * 32 + j)) = some (.int .u8 ((ds.getD k []).getD j 0))
theorem D32.below {w w' : World} {p : Option Addr} {n cap : Nat} {ds : List (List Int)} (h : D32 w p n cap ds) (hb : Below w.heap.size w w') : D32 w' p n cap ds :=
  ⟨h.len, h.all, h.fits, h.room, fun h0 => by
    obtain ⟨ad, hp, hl, hc⟩ := h.lies h0
    exact ⟨ad, hp, Nat.lt_of_lt_of_le hl hb.size, fun k hk j hj => by rw [hb.cell (block_lt_of_cell (hc k hk j hj))]; exact hc k hk j hj⟩⟩
theorem D32.get {w : World} {p : Option Addr} {n cap : Nat} {ds : List (List Int)} (h : D32 w p n cap ds) (k : Nat) (hk : k < n) : (ds.getD k []).length = 32 ∧ Bytes (ds.getD k []) := by
  have hl := h.len
  rw [List.getD_eq_getElem?_getD, List.getElem?_eq_getElem (by omega)]
  exact h.all _ (List.getElem_mem _)
/-- A digest at an address. -/
def At8 (w : World) (ad : Addr) (D : List Int) : Prop := ∀ j, j < 32 → w.cell? (ad.add j) = some (.int .u8 (D.getD j 0))
theorem D32.at {w : World} {ad : Addr} {n cap : Nat} {ds : List (List Int)} (h : D32 w (some ad) n cap ds) (k : Nat) (hk : k < n) : At8 w (ad.add (k * 32)) (ds.getD k []) := fun j hj => by
  obtain ⟨ad', hp, hl, hc⟩ := h.lies (by omega)
  cases hp
  have := hc k hk j hj
  rw [Deep.add_add]
  exact this
theorem run_loadVar_at (w : World) (ad : Addr) (D : List Int) (hl : D.length = 32) (hc : At8 w ad D) : (loadVar 25 ad).run Tryd.prog w = .ok (.agg (A8 D)) w := by
  have hL : (loadCells ad 32).run Tryd.prog w = .ok (A8 D) w := by
    have := run_loadCells_list (P := Tryd.prog) w ad (D.map (Value.int .u8)) (fun j v hv => by
      have hj : j < D.length := by
        rcases Nat.lt_or_ge j D.length with h | h
        · exact h
        · rw [List.getElem?_eq_none (by simpa using h)] at hv; cases hv
      rw [hc j (by omega)]
      simp only [List.getElem?_map, List.getElem?_eq_getElem hj, Option.map_some, Option.some.injEq] at hv
      rw [← hv, List.getD_eq_getElem?_getD, List.getElem?_eq_getElem hj]; rfl)
    rw [List.length_map, hl] at this
    exact this
  have hagg : (isAgg 25).run Tryd.prog w = .ok true w := by
    unfold isAgg
    rw [Sem.run_bind, run_underlying und25 w]
    rfl
  cases hq : Tryd.prog.info? 25 with
  | none => have := info25; rw [hq] at this; cases this
  | some i =>
    have hs : i.size = 32 := by have := info25; rw [hq] at this; simpa using this
    simp [loadVar, Sem.run_bind, hagg, sizeOf, typeInfo, hq, hs, hL]
section
variable {ops : Array Oper} {rest : List Oper} {o : Oper} {a : Act} {w : World} {Q : Exit → Act → World → Prop} {S : World → Prop}
theorem yields_at (hw : Region.wanted o (yielded ops a.tmps) = true) (x : Operand) (ho : o.op = .load 25 x) (ad : Addr) (hx : a.eval x = .pointer (some ad)) (D : List Int) (hl : D.length = 32) (hS : ∀ w, S w → At8 w ad D) : YieldsIf Tryd.prog ops S o (.agg (A8 D)) a :=
  .inl ⟨hw, fun w h => by
    unfold execOp
    simp only [ho, hx, Instr.loadAt, Instr.sureAddr, Sem.run_bind, Sem.run_pure, Result.andThen_ok, run_loadVar_at w ad D hl (hS w h)]⟩
end
theorem loadVar_D {w : World} {g : Nat} {D : List Int} (h : Dg w g D) : (loadVar 25 ⟨g, 0, none⟩).run Tryd.prog w = .ok (.agg (A8 D)) w :=
  run_loadVar_row (P := Tryd.prog) w g 25 25 (A8 D) (0, 0) (.array 32 5) h.here und25 rfl (by rw [info25, A8_size, h.len])
theorem results_D {fn : Func} {p : Tmp} (h : fn.results = #[.cell p 25]) (tmps : Array Value) (w : World) (g : Nat) (D : List Int) (hp : tmps.getD p undef = .pointer (some ⟨g, 0, none⟩)) (hd : Dg w g D) :
    (results fn tmps).run Tryd.prog w = .ok (.agg (A8 D)) w := by
  have hp' : tmps[p]?.getD undef = .pointer (some ⟨g, 0, none⟩) := by simpa using hp
  simp [results, h, hp', asAddr, loadVar_D hd]
theorem results_DT {fn : Func} {p u : Tmp} (h : fn.results = #[.cell p 25, .tmp u]) (tmps : Array Value) (w : World) (g : Nat) (D : List Int) (hp : tmps.getD p undef = .pointer (some ⟨g, 0, none⟩)) (hd : Dg w g D) :
    (results fn tmps).run Tryd.prog w = .ok (.tuple #[.agg (A8 D), tmps.getD u undef]) w := by
  have hp' : tmps[p]?.getD undef = .pointer (some ⟨g, 0, none⟩) := by simpa using hp
  simp [results, h, hp', asAddr, loadVar_D hd]
theorem results_TDT {fn : Func} {p u v : Tmp} (h : fn.results = #[.tmp v, .cell p 25, .tmp u]) (tmps : Array Value) (w : World) (g : Nat) (D : List Int) (hp : tmps.getD p undef = .pointer (some ⟨g, 0, none⟩)) (hd : Dg w g D) :
    (results fn tmps).run Tryd.prog w = .ok (.tuple #[tmps.getD v undef, .agg (A8 D), tmps.getD u undef]) w := by
  have hp' : tmps[p]?.getD undef = .pointer (some ⟨g, 0, none⟩) := by simpa using hp
  simp [results, h, hp', asAddr, loadVar_D hd]
theorem addr_block (a : Addr) (n : Nat) : (a.add n).block = a.block := by unfold Addr.add; split <;> rfl
theorem index_at (ad : Addr) (n c m : Nat) (hm : m < n) (W : World) :
    (Instr.indexAt 31 (.slice (some ad) n c) (.int .i64 m)).run Tryd.prog W = .ok (.pointer (some (ad.add (m * 32)))) W := by
  have h1 : (m : Int) < n := by omega
  go_simp
end Go.Proofs.YtcmjlhcpoajbkaaDoor
