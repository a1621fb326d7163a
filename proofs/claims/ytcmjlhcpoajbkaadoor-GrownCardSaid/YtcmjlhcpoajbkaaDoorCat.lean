import Derived.Test.YtcmjlhcpoajbkaaDoorLaw
import Derived.Lib.AppendZerosOnto
import Derived.Laws.OwnMore
namespace Go.Proofs.YtcmjlhcpoajbkaaDoor
set_option maxRecDepth 10000
open Go.RowKit
/-- Append of nothing. -/
theorem run_app_none (w : World) (ty : TypeId) (p q : Option Addr) (n cap c : Nat) (h : n ≤ cap) :
    (Builtin.append_ #[22, 22] ty #[.slice p n cap, .slice q 0 c]).run Tryd.prog w = .ok (.slice p n cap) w := by
  obtain ⟨i, hi, hz, hsz, hby⟩ := info5'
  cases p <;> cases q <;> simp [Builtin.append_, run_underlying Tryd.underlying22, sizeOf, typeInfo, hi, Builtin.lenOf, Builtin.firstCells, h, storeCells, loadCells, loadCellsFrom]
/-- Grow of nil. -/
theorem grow_zeros (w : World) (ty : TypeId) (k : Nat) (h0 : 0 < k) (hk : k ≤ 140737488355328) :
    (Builtin.append_ #[22, 3] ty #[.slice none 0 0, .int .i64 k]).run Tryd.prog w =
      .ok (.slice (some ⟨w.heap.size, 0, none⟩) k (grownCap w k 0 5)) (w.drew.alloc (.cells ((Builtin.zeroCells #[.int .u8 0] k) ++ (Builtin.zeroCells #[.int .u8 0] (grownCap w k 0 5 - k))) 5)) := by
  obtain ⟨i, hi, hz, hsz, hby⟩ := info5'
  have h := Lib.run_append_grow_zeros (P := Tryd.prog) w 22 3 ty 5 i (.int .u8 0) .i64 .i64 Tryd.underlying22 Tryd.underlying3 hi hz none 0 0 [] (run_firstCells_none w.drew i.size 0 0 0) k h0 (by omega) (by omega) (by omega) (by rw [hby]; omega) (by rw [hby]; exact growslice_fits (by omega) (by omega))
  rw [Nat.zero_add] at h
  rw [h]
  have e : (Value.int .u8 0).cells = #[.int .u8 0] := rfl
  rw [e]
  simp
theorem wpList_growz {ops : Array Oper} {rest : List Oper} {o : Oper} {a : Act} {Q : Exit → Act → World → Prop} {w : World} (hgd : o.guard = none) (s x : Operand)
    (ho : o.op = .call { callee := .builtin .append, args := #[s, x], argTypes := #[22, 3] }) (k : Nat) (hs : a.eval s = .slice none 0 0) (hx : a.eval x = .int .i64 k) (h0 : 0 < k) (hk : k ≤ 140737488355328)
    (h : ∀ G w', k ≤ G → G ≤ maxLen → Hid (w'.ownsRow w.heap.size 5 1 (.slice (some ⟨w.heap.size, 0, none⟩) 0 G) 0 []) → Below w.heap.size w w' → wpList Tryd.prog ops Q rest (a.put o.dst (.slice (some ⟨w.heap.size, 0, none⟩) k G)) w') : wpList Tryd.prog ops Q (o :: rest) a w := by
  have hge := grownCap_ge w k 0 5
  have hle := grownCap_le_maxLen w k 0 5 (by unfold maxLen; omega)
  have hr := grow_zeros w o.type k h0 hk
  refine wpList_plain hgd fun _ hK => ?_
  unfold Oper.wp execOp
  simp only [ho, resolve, invoke, builtin, Sem.run_bind, Sem.run_pure, Result.andThen_ok, List.map_toArray, List.map_cons, List.map_nil, hs, hx, hr]
  generalize grownCap w k 0 5 = G at *
  refine hK _ _ (h G _ hge hle ?_ ((Below.refl _ _).drew.alloc (Nat.le_refl _) _))
  refine ⟨rfl, .inr ⟨w.heap.size, G, _, rfl, Nat.le_refl _, heapN w.drew _ _ rfl, by omega, hle, ?_, rfl⟩⟩
  rw [Array.size_append, size_zeroCells, size_zeroCells]
  show k * 1 + (G - k) * 1 = G * 1
  omega
theorem wpList_app_none {ops : Array Oper} {rest : List Oper} {o : Oper} {a : Act} {Q : Exit → Act → World → Prop} {w : World} (hgd : o.guard = none) (s x : Operand)
    (ho : o.op = .call { callee := .builtin .append, args := #[s, x], argTypes := #[22, 22] }) (p q : Option Addr) (n cap c : Nat) (hs : a.eval s = .slice p n cap) (hx : a.eval x = .slice q 0 c) (hn : n ≤ cap)
    (h : wpList Tryd.prog ops Q rest (a.put o.dst (.slice p n cap)) w) : wpList Tryd.prog ops Q (o :: rest) a w := by
  have hr := run_app_none w o.type p q n cap c hn
  refine wpList_plain hgd fun _ hK => ?_
  unfold Oper.wp execOp
  simp only [ho, resolve, invoke, builtin, Sem.run_bind, Sem.run_pure, Result.andThen_ok, List.map_toArray, List.map_cons, List.map_nil, hs, hx, hr]
  exact hK _ _ h
set_option maxHeartbeats 400000 in
theorem grow_any (k : Nat) (w : World) (h0 : 0 < k) (hk : k ≤ 140737488355328) :
    Calls Tryd.prog 118 #[.slice none 0 0, .int .i64 k] w fun e w' => ∃ cap, e = .returned (.slice (some ⟨w.heap.size, 0, none⟩) 0 cap) ∧ k ≤ cap ∧ cap ≤ maxLen ∧ Below w.heap.size w w' ∧
      w'.ownsRow w.heap.size 5 1 (.slice (some ⟨w.heap.size, 0, none⟩) 0 cap) 0 [] := by
  go_enter Tryd.func118, Tryd.ntmps118
  go_wp2_with (first
    | (at_builtin
       refine wpList_growz rfl (.tmp 20) (.tmp 21) rfl k rfl rfl h0 hk ?_
       intro G w' hge hle hown hbel
       refine hideGoal ?_))
  have Hle : Hid (G ≤ maxLen) := hle
  have hG : G ≤ 9223372036854775807 := by unfold maxLen at hle; omega
  clear hle
  refine openGoal ?_
  go_wp2_with fail
  go_ret
  exact ⟨G, rfl, hge, Hle.out, hbel, hown.out⟩
def catX (xf : Nat → List Int) : Nat → List Int
  | 0 => []
  | k + 1 => catX xf k ++ xf k
theorem catX_mono (xf : Nat → List Int) (i m : Nat) (h : i ≤ m) : (catX xf i).length ≤ (catX xf m).length := by
  induction m with
  | zero => have e : i = 0 := by omega
            subst e; exact Nat.le_refl _
  | succ m ih =>
    rcases Nat.lt_or_ge i (m + 1) with h' | h'
    · have := ih (by omega); simp only [catX, List.length_append]; omega
    · have e : i = m + 1 := by omega
      subst e; exact Nat.le_refl _
theorem catX_bytes (xf : Nat → List Int) (m : Nat) (h : ∀ i, i < m → Bytes (xf i)) : Bytes (catX xf m) := by
  induction m with
  | zero => intro j; simp [catX]
  | succ m ih =>
    refine .of fun x hx => ?_
    simp only [catX, List.mem_append] at hx
    rcases hx with hx | hx
    · exact (ih fun i hi => h i (by omega)).mem x hx
    · exact (h m (by omega)).mem x hx
set_option maxHeartbeats 1000000 in
theorem concat_any (gp m : Nat) (pf : Nat → Option Addr) (nf cf : Nat → Nat) (xf : Nat → List Int) (w : World) (hm : m ≤ 100)
    (hcell : ∀ i, i < m → w.cell? ⟨gp, i, none⟩ = some (.slice (pf i) (nf i) (cf i))) (hin : ∀ i, i < m → In8 w (pf i) (nf i) (cf i) (xf i))
    (hpos : 0 < (catX xf m).length) (htot : (catX xf m).length ≤ 140737488355328) :
    Calls Tryd.prog 97 #[.slice (some ⟨gp, 0, none⟩) m m] w fun e w' => ∃ p n c, e = .returned (.slice p n c) ∧ Below w.heap.size w w' ∧ In8 w' p n c (catX xf m) := by
  have HC : Hid (∀ i, i < m → w.cell? ⟨gp, i, none⟩ = some (.slice (pf i) (nf i) (cf i))) := hcell
  have HI : Hid (∀ i, i < m → In8 w (pf i) (nf i) (cf i) (xf i)) := hin
  clear hcell hin
  go_enter Tryd.func97, Tryd.ntmps97
  go_wp2_with fail
  go_loop [3, 11] (fun v i => ∃ k : Nat, k ≤ m ∧ i = .int .i64 k ∧ v = .int .i64 ((catX xf k).length : Nat)) (fun _ i => m - (intOf i).toNat)
  case atStart => exact ⟨0, by omega, rfl, rfl⟩
  case round =>
    obtain ⟨k, hk, rfl, rfl⟩ := hrel
    by_cases hlt : k < m
    · have hc := HC.out k hlt
      have h1 := catX_mono xf (k + 1) m (by omega)
      have hl := (HI.out k hlt).len
      have hs := (HI.out k hlt).small
      have e1 : (catX xf (k + 1)).length = (catX xf k).length + nf k := by simp only [catX, List.length_append]; omega
      have E1 : Hid ((catX xf (k + 1)).length = (catX xf k).length + nf k) := e1
      rw [e1] at h1
      clear e1
      generalize (catX xf k).length = s at *
      generalize nf k = nk at *
      generalize pf k = pk at *
      generalize cf k = ck at *
      clear hl
      go_wp2_with fail
      go_round
      case rel => exact ⟨k + 1, by omega, by go_num, by rw [E1.out]; go_num⟩
      case measure => simp [intOf]; omega
    · have ek : k = m := by omega
      have Ek : Hid (k = m) := ek
      have ecat : (catX xf k).length = (catX xf m).length := by rw [ek]
      rw [ecat]
      have Hlen : Hid (∀ T, T = catX xf m → T.length = (catX xf m).length) := fun T h => by rw [h]
      clear ecat ek
      generalize hS : (catX xf m).length = S at *
      go_wp2_with fail
      refine (grow_any S w (by omega) (by omega)).mono ?_
      rintro e w1 ⟨cap, rfl, hcap1, hcap2, hb1, ho1⟩
      have HO1 : Hid (w1.ownsRow w.heap.size 5 1 (.slice (some ⟨w.heap.size, 0, none⟩) 0 cap) 0 []) := ho1
      have hcap3 : cap ≤ 9223372036854775807 := by unfold maxLen at hcap2; omega
      clear ho1 hcap2
      go_wp2_with fail
      have hbc : ∀ i, i < m → w1.cell? ⟨gp, i, none⟩ = some (.slice (pf i) (nf i) (cf i)) := fun i hi => by rw [hb1.cell (block_lt_of_cell (HC.out i hi))]; exact HC.out i hi
      go_loopw [6, 27] (fun v i wr => ∃ k : Nat, k ≤ m ∧ i = .int .i64 k ∧ Below w.heap.size w wr ∧ wr.ownsRow w.heap.size 5 1 v (catX xf k).length ((catX xf k).map (Value.int .u8)) ∧ ∃ g c, v = .slice (some ⟨g, 0, none⟩) (catX xf k).length c) (fun _ i _ => m - (intOf i).toNat)
      case atStart => exact ⟨0, by omega, rfl, hb1, HO1.out, _, _, rfl⟩
      case round =>
        obtain ⟨k, hk, rfl, hb, ho, g, c, rfl⟩ := hrel
        have HO : Hid _ := ho
        clear ho hbc HO1 hb1
        by_cases hlt : k < m
        · have hc : wr.cell? ⟨gp, k, none⟩ = some (.slice (pf k) (nf k) (cf k)) := by rw [hb.cell (block_lt_of_cell (HC.out k hlt))]; exact HC.out k hlt
          have h1 := catX_mono xf (k + 1) m (by omega)
          have hI : Hid (In8 wr (pf k) (nf k) (cf k) (xf k)) := (HI.out k hlt).below hb
          have hl := hI.out.len
          have E1 : Hid ((catX xf (k + 1)).length = (catX xf k).length + nf k) := by
            show _ = _
            simp only [catX, List.length_append]; omega
          rw [E1.out, hS] at h1
          have h63 := hI.out.small
          have hS' : Hid ((catX xf m).length = S) := hS
          clear hS Hlen
          by_cases hz : 0 < nf k
          · obtain ⟨gs, off, hp, hgs, hcs⟩ := hI.out.lies (by omega)
            have HCS : Hid (∀ j, j < nf k → wr.cell? ((⟨gs, off, none⟩ : Addr).add j) = some (.int .u8 ((xf k).getD j 0))) := fun j hj => by
              rw [addr_add]; exact hcs j (by omega)
            clear hcs
            rw [hp] at hc
            have hBs : w.heap.size ≤ wr.heap.size := hb.size
            generalize hs : (catX xf k).length = s at *
            generalize hnk : nf k = nk at *
            generalize cf k = ck at *
            go_wp2_with (first
              | (at_builtin
                 refine wpList_app8 rfl (.tmp 31) (.tmp 32) rfl w.heap.size (.slice (some ⟨g, 0, none⟩) s c) (catX xf k) s rfl HO.out ⟨gs, off, none⟩ nk ck (xf k) rfl hl HCS.out hz (by omega) hBs ?_
                 intro v2 w2 ho2 hs2 hb2
                 refine hideGoal ?_))
            have HO2 : Hid (w2.ownsRow w.heap.size 5 1 v2 (s + nk) ((catX xf k ++ xf k).map (Value.int .u8))) := ho2
            have hb3 := hb2 w hb
            clear ho2 hb2
            refine openGoal ?_
            go_wp2_with fail
            go_roundw
            case rel =>
              obtain ⟨g2, c2, hv2, _, _⟩ := HO2.out.form (by omega)
              refine ⟨k + 1, by omega, by go_num, hb3, ?_, g2, c2, ?_⟩
              · rw [E1.out]; exact HO2.out
              · rw [E1.out]; exact hv2
            case measure => simp [intOf]; omega
          · have hz0 : nf k = 0 := by omega
            have hx0 : xf k = [] := List.length_eq_zero_iff.1 (by omega)
            have Hx0 : Hid (catX xf (k + 1) = catX xf k) := by
              show catX xf k ++ xf k = _
              rw [hx0, List.append_nil]
            have hcap := HO.out.2
            rw [hz0] at hc
            have hfit : (catX xf k).length ≤ c := by
              rcases HO.out.2 with ⟨h, _⟩ | ⟨g', cap', cur, h, _, _, h2, _⟩
              · cases h
              · cases h; exact h2
            clear hcap hz0 hx0
            generalize hs : (catX xf k).length = s at *
            generalize cf k = ck at *
            generalize pf k = pk at *
            go_wp2_with (first
              | (at_builtin
                 refine wpList_app_none rfl (.tmp 31) (.tmp 32) rfl (some ⟨g, 0, none⟩) pk s c ck rfl rfl hfit ?_))
            go_roundw
            case rel =>
              refine ⟨k + 1, by omega, by go_num, hb, ?_, g, c, ?_⟩
              · rw [Hx0.out, hs]; exact HO.out
              · rw [Hx0.out, hs]
            case measure => simp [intOf]; omega
        · have ek : k = m := by omega
          subst ek
          have hlen : (catX xf k).length = S := hS
          have hby : Bytes (catX xf k) := catX_bytes xf k (fun i hi => (HI.out i hi).bytes)
          clear hS Hlen Ek
          generalize hT : catX xf k = T at *
          have HT : Hid (catX xf k = T) := hT
          clear hT
          rw [hlen]
          obtain ⟨g', cap', hv, hg1, hg2, hfit, hmost, _, hcells⟩ := owns8 HO.out (by omega)
          cases hv
          have HI8 : Hid (In8 wr (some ⟨g, 0, none⟩) S c T) := by
            refine ⟨hlen, hby, by omega, by unfold maxLen at hmost; omega, by omega, fun _ => ⟨g, 0, rfl, hg2, fun j hj => ?_⟩⟩
            rw [Nat.zero_add]; exact hcells j (by omega)
          clear hcells hmost
          go_wp2_with fail
          go_ret
          exact ⟨_, _, _, rfl, hb, by rw [HT.out]; exact HI8.out⟩
end Go.Proofs.YtcmjlhcpoajbkaaDoor
