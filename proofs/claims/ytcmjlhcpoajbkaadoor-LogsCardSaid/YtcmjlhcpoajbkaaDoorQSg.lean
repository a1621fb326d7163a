import Derived.Test.YtcmjlhcpoajbkaaDoorQDs
import Derived.Deep.OwnRows
import Derived.Laws.OwnMore
namespace Go.Proofs.YtcmjlhcpoajbkaaDoor
set_option maxRecDepth 100000
theorem abc_hash : (hP [97, 98, 99]).take 2 = [186, 120] := by kernel_rfl
end Go.Proofs.YtcmjlhcpoajbkaaDoor
namespace Go.Proofs.YtcmjlhcpoajbkaaDoor
set_option maxRecDepth 10000
set_option linter.unusedSimpArgs false
open Go.RowKit
theorem In8.none_zero {w : World} {n c : Nat} {xs : List Int} (h : In8 w none n c xs) : n = 0 := by
  rcases Nat.eq_zero_or_pos n with h0 | h0
  · exact h0
  · obtain ⟨b, o, hp, _⟩ := h.lies (by have := h.len; omega)
    cases hp
set_option maxHeartbeats 1000000 in
theorem clone_any (w : World) (p : Option Addr) (n c : Nat) (xs : List Int) (hi : In8 w p n c xs) :
    Calls Tryd.prog 69 #[.slice p n c] w fun e w' => ∃ p' c', e = .returned (.slice p' n c') ∧ Below w.heap.size w w' ∧ In8 w' p' n c' xs ∧ p'.isNone = p.isNone ∧ (∀ ad, p' = some ad → w.heap.size ≤ ad.block) ∧ ∀ ad, p' = some ad → ad.block < w'.heap.size := by
  have hq := eql_nil p n c w
  have hl := hi.len
  cases p with
  | none =>
    have h0 := hi.none_zero
    subst h0
    have hx : xs = [] := List.length_eq_zero_iff.1 hl
    subst hx
    go_enter Tryd.func69, Tryd.ntmps69
    go_wp2
    go_ret
    exact ⟨none, 0, rfl, Below.refl _ _, ⟨rfl, hi.bytes, by omega, by omega, by omega, fun h => by simp at h⟩, rfl, (fun ad h => by cases h), (fun ad h => by cases h)⟩
  | some a =>
    by_cases h0 : n = 0
    · subst h0
      have hx : xs = [] := List.length_eq_zero_iff.1 hl
      subst hx
      go_enter Tryd.func69, Tryd.ntmps69
      go_wp2_with (first
        | (at_builtin
           refine wpList_app_none rfl (.tmp 5) (.tmp 6) rfl (some ⟨w.heap.size, 0, none⟩) (some a) 0 0 c rfl rfl (by omega) ?_))
      go_ret
      exact ⟨_, 0, rfl, (Below.refl _ _).alloc (Nat.le_refl _) _, ⟨rfl, hi.bytes, by omega, by omega, by omega, fun h => by simp at h⟩, rfl, (fun ad h => by cases h; exact Nat.le_refl _), (fun ad h => by cases h; simp)⟩
    · obtain ⟨b, o, hp, hbl, hcs⟩ := hi.lies (by omega)
      cases hp
      have hb0 : Below w.heap.size w (w.alloc (.cells #[] 5)) := (Below.refl _ _).alloc (Nat.le_refl _) _
      have HCS : Hid (∀ j, j < n → (w.alloc (.cells #[] 5)).cell? ((⟨b, o, none⟩ : Addr).add j) = some (.int .u8 (xs.getD j 0))) := fun j hj => by
        have h1 := hcs j (by omega)
        rw [addr_add, hb0.cell (block_lt_of_cell h1)]; exact h1
      have HOW : Hid ((w.alloc (.cells #[] 5)).ownsRow w.heap.size 5 1 (.slice (some ⟨w.heap.size, 0, none⟩) 0 0) 0 (([] : List Int).map (Value.int .u8))) := ⟨rfl, .inr ⟨w.heap.size, 0, #[], rfl, Nat.le_refl _, heapN w _ _ rfl, by omega, by unfold maxLen; omega, rfl, rfl⟩⟩
      have hsm := hi.small
      clear hcs
      go_enter Tryd.func69, Tryd.ntmps69
      go_wp2_with (first
        | (at_builtin
           refine wpList_app8 rfl (.tmp 5) (.tmp 6) rfl w.heap.size (.slice (some ⟨w.heap.size, 0, none⟩) 0 0) [] 0 rfl HOW.out ⟨b, o, none⟩ n c xs rfl hl HCS.out (by omega) (by omega) (by simp) ?_
           intro v2 w2 ho2 hs2 hb2
           refine hideGoal ?_))
      obtain ⟨g, cap', rfl, hg, hgs, hfit, hmost, _, hcells⟩ := owns8 ho2 (by omega)
      have B2 : Hid (Below w.heap.size w w2) := hb2 w hb0
      have HI : Hid (In8 w2 (some ⟨g, 0, none⟩) n cap' xs) := ⟨hl, hi.bytes, by omega, by unfold maxLen at hmost; omega, hsm, fun _ => ⟨g, 0, rfl, hgs, fun j hj => by rw [Nat.zero_add]; exact hcells j (by omega)⟩⟩
      clear ho2 hb2 hcells HOW HCS hq
      rw [Nat.zero_add]
      refine openGoal ?_
      go_wp2_with fail
      go_ret
      exact ⟨_, cap', rfl, B2.out, HI.out, rfl, (fun ad h => by cases h; exact hg), (fun ad h => by cases h; exact hgs)⟩
set_option maxHeartbeats 400000 in
theorem new_nil (w : World) : Calls Tryd.prog 31 #[.slice none 0 0] w fun e w' => e = .returned (.tuple #[.pointer (some ⟨w.heap.size, 0, none⟩), .int .i64 0]) ∧ w' = w.alloc (.cells #[.slice none 0 0, .slice none 0 0] 116) := by
  have hq := eql_nil none 0 0 w
  go_enter Tryd.func31, Tryd.ntmps31
  go_wp2
  go_ret2
  exact ⟨rfl, rfl⟩
section
variable {P : Program} {ops : Array Oper} {Q : Exit → Act → World → Prop}
theorem wpOp_app {i : Nat} {o : Oper} {K : Act → World → Prop} {a : Act} {w w' : World} {v : Value} (hi : ops[i]? = some o) (hg : o.guard = none) (s x : Operand) (t t' : TypeId)
    (ho : o.op = .call { callee := .builtin .append, args := #[s, x], argTypes := #[t, t'] }) (vs vx : Value) (hs : a.eval s = vs) (hx : a.eval x = vx)
    (hr : (Builtin.append_ #[t, t'] o.type #[vs, vx]).run P w = .ok v w') (h : K (a.put o.dst v) w') : wpOp P ops Q i K a w := by
  refine wpOp_val (v := v) (w' := w') hi hg ?_ h
  unfold execOp
  simp only [ho, resolve, invoke, builtin, Sem.run_bind, Sem.run_pure, Result.andThen_ok, List.map_toArray, List.map_cons, List.map_nil, hs, hx, hr]
end
theorem wpOp_skip {P : Program} {ops : Array Oper} {Q : Exit → Act → World → Prop} {i : Nat} {o : Oper} {K : Act → World → Prop} {a : Act} {w w' : World} (hi : ops[i]? = some o) (hg : o.guard = none)
    (hrun : (execOp a.eval o).run P w = .ok .skip w') (h : K (a.put o.dst undef) w') : wpOp P ops Q i K a w := by
  unfold wpOp
  simp only [hi, Region.wanted, hg, if_true]
  refine .inl ?_
  unfold Oper.wp
  rw [hrun]
  exact h
theorem info22' : ∃ i, Tryd.prog.info? 22 = some i ∧ i.zero = some (.slice none 0 0) ∧ i.size = 1 ∧ i.bytes = 24 := ⟨_, rfl, by kernel_rfl, by kernel_rfl, by kernel_rfl⟩
set_option maxHeartbeats 4000000 in
theorem append_first (w : World) (g : Nat) (p : Option Addr) (n c : Nat) (xs : List Int) (hg : w.heap[g]? = some (.cells #[.slice none 0 0, .slice none 0 0] 116)) (hi : In8 w p n c xs) (hn : n ≤ 300) :
    Calls Tryd.prog 50 #[.pointer (some ⟨g, 0, none⟩), .slice p n c] w fun e w' => e = .returned (.tuple #[.int .i64 0, .int .i64 0]) ∧ ∀ B w0, B ≤ g → B ≤ w.heap.size → Below B w0 w → Below B w0 w' := by
  have hc : w.cell? ⟨g, 1, none⟩ = some (.slice none 0 0) := by rw [cell_of_row _ _ _ _ _ _ hg]; rfl
  have hcd : w.drew.cell? ⟨g, 1, none⟩ = some (.slice none 0 0) := hc
  have hgl := row_lt hg
  obtain ⟨i22, hi22, hz, hsz, hby⟩ := info22'
  have hb0 : Below w.heap.size w w.drew := (Below.refl _ _).drew
  go_enter Tryd.func50, Tryd.ntmps50
  go_wp2_with fail
  refine wp_region_noPanic ?_
  refine wp_region_held (S := fun _ => True) follows ?_
  refine wpAnyH_take (i := 0) (v := .pointer (some ⟨g, 0, none⟩)) rfl (by kernel_rfl) (by kernel_rfl) (by kernel_rfl) (fun _ _ _ h => h) (.inl ⟨rfl, fun W _ => by go_simp⟩) trivial ?_
  simp only [Act.put, List.getElem_toArray, List.getElem_cons_zero, List.getElem_cons_succ, List.setIfInBounds_toArray, List.set_cons_zero, List.set_cons_succ]
  refine wpAnyH_take (i := 1) (v := .pointer (some ⟨g, 0, none⟩)) rfl (by kernel_rfl) (by kernel_rfl) (by kernel_rfl) (fun _ _ _ h => h) (.inl ⟨rfl, fun W _ => by go_simp⟩) trivial ?_
  simp only [Act.put, List.getElem_toArray, List.getElem_cons_zero, List.getElem_cons_succ, List.setIfInBounds_toArray, List.set_cons_zero, List.set_cons_succ]
  refine wpAnyH_take (i := 2) (v := .pointer (some ⟨g, 0, none⟩)) rfl (by kernel_rfl) (by kernel_rfl) (by kernel_rfl) (fun _ _ _ h => h) (.inl ⟨rfl, fun W _ => by go_simp⟩) trivial ?_
  simp only [Act.put, List.getElem_toArray, List.getElem_cons_zero, List.getElem_cons_succ, List.setIfInBounds_toArray, List.set_cons_zero, List.set_cons_succ]
  refine wpAnyH_take (i := 3) (v := .pointer (some ⟨g, 1, none⟩)) rfl (by kernel_rfl) (by kernel_rfl) (by kernel_rfl) (fun _ _ _ h => h) (.inl ⟨rfl, fun W _ => by go_simp⟩) trivial ?_
  simp only [Act.put, List.getElem_toArray, List.getElem_cons_zero, List.getElem_cons_succ, List.setIfInBounds_toArray, List.set_cons_zero, List.set_cons_succ]
  refine wpAnyH_take (i := 5) (v := .slice p n c) rfl (by kernel_rfl) (by kernel_rfl) (by kernel_rfl) (fun _ _ _ h => h) (.inl ⟨rfl, fun W _ => by go_simp⟩) trivial ?_
  simp only [Act.put, List.getElem_toArray, List.getElem_cons_zero, List.getElem_cons_succ, List.setIfInBounds_toArray, List.set_cons_zero, List.set_cons_succ]
  refine relist #[true, true, true, true, false, true, false, false, false, false, false, false] (by kernel_rfl) ?_
  refine any_two (i := 4) (j := 6) (by kernel_rfl) ?_ ?_
  · refine wpOp_val (v := .slice none 0 0) (w' := w.drew) rfl rfl (by have e := hcd; go_simp) ?_
    refine ⟨trivial, ?_⟩
    simp only [Act.put, List.getElem_toArray, List.getElem_cons_zero, List.getElem_cons_succ, List.setIfInBounds_toArray, List.set_cons_zero, List.set_cons_succ]
    refine relist #[true, true, true, true, true, true, false, false, false, false, false, false] (by kernel_rfl) ?_
    refine any_one (i := 6) (by kernel_rfl) ?_
    refine wpOp_call (f := 69) (args := #[.slice p n c]) rfl rfl (by go_simp) ?_
    refine (clone_any _ p n c xs (hi.below hb0)).mono ?_
    rintro e w1 ⟨p', c', rfl, b1, hi1, _, _, _⟩
    have hs1 : w.heap.size ≤ w1.heap.size := b1.size
    have b1' : Below w.heap.size w w1 := hb0.trans b1
    have hc1 : w1.cell? ⟨g, 1, none⟩ = some (.slice none 0 0) := by rw [b1'.cell (p := ⟨g, 1, none⟩) hgl]; exact hc
    refine ⟨_, rfl, trivial, ?_⟩
    simp only [Act.put, List.getElem_toArray, List.getElem_cons_zero, List.getElem_cons_succ, List.setIfInBounds_toArray, List.set_cons_zero, List.set_cons_succ]
    refine relist #[true, true, true, true, true, true, true, false, false, false, false, false] (by kernel_rfl) ?_
    refine any_one (i := 7) (by kernel_rfl) ?_
    refine wpOp_val (v := .slice (some ⟨w1.heap.size, 0, none⟩) 1 1) (w' := w1.alloc (.cells #[.slice p' n c'] 22)) rfl rfl (by go_simp) ?_
    have b2 : Below w.heap.size w (w1.alloc (.cells #[.slice p' n c'] 22)) := b1'.alloc hs1 _
    have hc2 : (w1.alloc (.cells #[.slice p' n c'] 22)).cell? ⟨g, 1, none⟩ = some (.slice none 0 0) := by rw [b2.cell (p := ⟨g, 1, none⟩) hgl]; exact hc
    have h2 := heapN w1 (.cells #[.slice p' n c'] 22) _ rfl
    refine ⟨trivial, ?_⟩
    simp only [Act.put, List.getElem_toArray, List.getElem_cons_zero, List.getElem_cons_succ, List.setIfInBounds_toArray, List.set_cons_zero, List.set_cons_succ]
    have hs2 : w.heap.size ≤ (w1.alloc (.cells #[.slice p' n c'] 22)).heap.size := b2.size
    generalize w1.alloc (.cells #[.slice p' n c'] 22) = w2 at *
    generalize w1.heap.size = g1 at *
    refine relist #[true, true, true, true, true, true, true, true, false, false, false, false] (by kernel_rfl) ?_
    refine any_one (i := 8) (by kernel_rfl) ?_
    obtain ⟨ga, cap, w3, hr, ho3, hgr, _, _⟩ := run_append_lies (P := Tryd.prog) w2 47 47 w.heap.size 22 i22 (.slice none 0 0) 1 24 Tryd.underlying47 hi22 hz hsz hby rfl (by omega) (.slice none 0 0) 0 [] (World.ownsRow_nil _ _ _ _)
      ⟨g1, 0, none⟩ 1 1 [.slice p' n c'] rfl (fun j u hu => by
        have e : j = 0 := by
          have := (List.getElem?_eq_some_iff.1 hu).1
          simp at this; omega
        subst e
        rw [addr_add, cell_of_row _ _ _ _ _ _ h2]
        simpa using hu) (fun u hu => by simp only [List.mem_singleton] at hu; subst hu; rfl) (by omega) (by unfold maxLen; omega) (by omega) hs2 _ rfl
    refine wpOp_app rfl rfl (.tmp 27) (.tmp 30) 47 47 rfl (.slice none 0 0) (.slice (some ⟨g1, 0, none⟩) 1 1) rfl rfl hr ?_
    have b3 : ∀ B w0, B ≤ w2.heap.size → Below B w0 w2 → Below B w0 w3 := fun B w0 hB hb => hb.grown hgr hB (fun k hk => by cases hk)
    have hg2 : g < w2.heap.size := Nat.lt_of_lt_of_le hgl hs2
    have e3 : w3.heap[g]? = w2.heap[g]? := hgr.block g hg2 (by simp [Value.ownBlock])
    have hc3 : w3.cell? ⟨g, 1, none⟩ = some (.slice none 0 0) := by rw [World.cell?_of_block (w := w2) e3]; exact hc2
    have hf3 : w3.frozen? ⟨g, 1, none⟩ = false := by
      rw [World.frozen?_of_block (w := w2) e3, World.frozen?_of_block (w := w) (b2.block g hgl)]
      exact frozen_of_row w g 1 _ _ hg
    refine ⟨trivial, ?_⟩
    simp only [Act.put, List.getElem_toArray, List.getElem_cons_zero, List.getElem_cons_succ, List.setIfInBounds_toArray, List.set_cons_zero, List.set_cons_succ]
    refine wpAnyH_take (i := 9) (v := .pointer (some ⟨g, 0, none⟩)) rfl (by kernel_rfl) (by kernel_rfl) (by kernel_rfl) (fun _ _ _ h => h) (.inl ⟨rfl, fun W _ => by go_simp⟩) trivial ?_
    simp only [Act.put, List.getElem_toArray, List.getElem_cons_zero, List.getElem_cons_succ, List.setIfInBounds_toArray, List.set_cons_zero, List.set_cons_succ]
    refine wpAnyH_take (i := 10) (v := .pointer (some ⟨g, 1, none⟩)) rfl (by kernel_rfl) (by kernel_rfl) (by kernel_rfl) (fun _ _ _ h => h) (.inl ⟨rfl, fun W _ => by go_simp⟩) trivial ?_
    simp only [Act.put, List.getElem_toArray, List.getElem_cons_zero, List.getElem_cons_succ, List.setIfInBounds_toArray, List.set_cons_zero, List.set_cons_succ]
    refine relist #[true, true, true, true, true, true, true, true, true, true, true, false] (by kernel_rfl) ?_
    refine any_one (i := 11) (by kernel_rfl) ?_
    refine wpOp_skip (w' := w3.setCell ⟨g, 1, none⟩ (.slice (some ⟨ga, 0, none⟩) (0 + 1) cap)) rfl rfl (by go_simp) ?_
    refine ⟨trivial, ?_⟩
    simp only [Act.put, List.getElem_toArray, List.getElem_cons_zero, List.getElem_cons_succ, List.setIfInBounds_toArray, List.set_cons_zero, List.set_cons_succ]
    refine wpAnyH_done (by kernel_rfl) ?_ _
    refine NoPanic.normal ?_
    have HB : Hid (∀ B w0, B ≤ g → B ≤ w.heap.size → Below B w0 w → Below B w0 (w3.setCell ⟨g, 1, none⟩ (.slice (some ⟨ga, 0, none⟩) (0 + 1) cap))) := fun B w0 h1 h2 h3 => (b3 B w0 (by omega) (h3.trans (b2.mono h2))).setCell h1 _
    clear hc hcd hc1 hc2 hc3 hf3 b1 b1' b2 b3 hgr hr
    generalize w3.setCell ⟨g, 1, none⟩ (.slice (some ⟨ga, 0, none⟩) (0 + 1) cap) = w4 at *
    go_wp2_with fail
    go_ret2
    exact ⟨rfl, HB.out⟩
  · refine wpOp_call (f := 69) (args := #[.slice p n c]) rfl rfl (by go_simp) ?_
    refine (clone_any _ p n c xs (hi.below hb0)).mono ?_
    rintro e w1 ⟨p', c', rfl, b1, hi1, _, _, _⟩
    have hs1 : w.heap.size ≤ w1.heap.size := b1.size
    have b1' : Below w.heap.size w w1 := hb0.trans b1
    have hc1 : w1.cell? ⟨g, 1, none⟩ = some (.slice none 0 0) := by rw [b1'.cell (p := ⟨g, 1, none⟩) hgl]; exact hc
    refine ⟨_, rfl, trivial, ?_⟩
    simp only [Act.put, List.getElem_toArray, List.getElem_cons_zero, List.getElem_cons_succ, List.setIfInBounds_toArray, List.set_cons_zero, List.set_cons_succ]
    refine relist #[true, true, true, true, false, true, true, false, false, false, false, false] (by kernel_rfl) ?_
    refine any_two (i := 4) (j := 7) (by kernel_rfl) ?_ ?_
    · refine wpOp_val (v := .slice none 0 0) (w' := w1) rfl rfl (by have e := hc1; go_simp) ?_
      refine ⟨trivial, ?_⟩
      simp only [Act.put, List.getElem_toArray, List.getElem_cons_zero, List.getElem_cons_succ, List.setIfInBounds_toArray, List.set_cons_zero, List.set_cons_succ]
      refine relist #[true, true, true, true, true, true, true, false, false, false, false, false] (by kernel_rfl) ?_
      refine any_one (i := 7) (by kernel_rfl) ?_
      refine wpOp_val (v := .slice (some ⟨w1.heap.size, 0, none⟩) 1 1) (w' := w1.alloc (.cells #[.slice p' n c'] 22)) rfl rfl (by go_simp) ?_
      have b2 : Below w.heap.size w (w1.alloc (.cells #[.slice p' n c'] 22)) := b1'.alloc hs1 _
      have hc2 : (w1.alloc (.cells #[.slice p' n c'] 22)).cell? ⟨g, 1, none⟩ = some (.slice none 0 0) := by rw [b2.cell (p := ⟨g, 1, none⟩) hgl]; exact hc
      have h2 := heapN w1 (.cells #[.slice p' n c'] 22) _ rfl
      refine ⟨trivial, ?_⟩
      simp only [Act.put, List.getElem_toArray, List.getElem_cons_zero, List.getElem_cons_succ, List.setIfInBounds_toArray, List.set_cons_zero, List.set_cons_succ]
      have hs2 : w.heap.size ≤ (w1.alloc (.cells #[.slice p' n c'] 22)).heap.size := b2.size
      generalize w1.alloc (.cells #[.slice p' n c'] 22) = w2 at *
      generalize w1.heap.size = g1 at *
      refine relist #[true, true, true, true, true, true, true, true, false, false, false, false] (by kernel_rfl) ?_
      refine any_one (i := 8) (by kernel_rfl) ?_
      obtain ⟨ga, cap, w3, hr, ho3, hgr, _, _⟩ := run_append_lies (P := Tryd.prog) w2 47 47 w.heap.size 22 i22 (.slice none 0 0) 1 24 Tryd.underlying47 hi22 hz hsz hby rfl (by omega) (.slice none 0 0) 0 [] (World.ownsRow_nil _ _ _ _)
        ⟨g1, 0, none⟩ 1 1 [.slice p' n c'] rfl (fun j u hu => by
          have e : j = 0 := by
            have := (List.getElem?_eq_some_iff.1 hu).1
            simp at this; omega
          subst e
          rw [addr_add, cell_of_row _ _ _ _ _ _ h2]
          simpa using hu) (fun u hu => by simp only [List.mem_singleton] at hu; subst hu; rfl) (by omega) (by unfold maxLen; omega) (by omega) hs2 _ rfl
      refine wpOp_app rfl rfl (.tmp 27) (.tmp 30) 47 47 rfl (.slice none 0 0) (.slice (some ⟨g1, 0, none⟩) 1 1) rfl rfl hr ?_
      have b3 : ∀ B w0, B ≤ w2.heap.size → Below B w0 w2 → Below B w0 w3 := fun B w0 hB hb => hb.grown hgr hB (fun k hk => by cases hk)
      have hg2 : g < w2.heap.size := Nat.lt_of_lt_of_le hgl hs2
      have e3 : w3.heap[g]? = w2.heap[g]? := hgr.block g hg2 (by simp [Value.ownBlock])
      have hc3 : w3.cell? ⟨g, 1, none⟩ = some (.slice none 0 0) := by rw [World.cell?_of_block (w := w2) e3]; exact hc2
      have hf3 : w3.frozen? ⟨g, 1, none⟩ = false := by
        rw [World.frozen?_of_block (w := w2) e3, World.frozen?_of_block (w := w) (b2.block g hgl)]
        exact frozen_of_row w g 1 _ _ hg
      refine ⟨trivial, ?_⟩
      simp only [Act.put, List.getElem_toArray, List.getElem_cons_zero, List.getElem_cons_succ, List.setIfInBounds_toArray, List.set_cons_zero, List.set_cons_succ]
      refine wpAnyH_take (i := 9) (v := .pointer (some ⟨g, 0, none⟩)) rfl (by kernel_rfl) (by kernel_rfl) (by kernel_rfl) (fun _ _ _ h => h) (.inl ⟨rfl, fun W _ => by go_simp⟩) trivial ?_
      simp only [Act.put, List.getElem_toArray, List.getElem_cons_zero, List.getElem_cons_succ, List.setIfInBounds_toArray, List.set_cons_zero, List.set_cons_succ]
      refine wpAnyH_take (i := 10) (v := .pointer (some ⟨g, 1, none⟩)) rfl (by kernel_rfl) (by kernel_rfl) (by kernel_rfl) (fun _ _ _ h => h) (.inl ⟨rfl, fun W _ => by go_simp⟩) trivial ?_
      simp only [Act.put, List.getElem_toArray, List.getElem_cons_zero, List.getElem_cons_succ, List.setIfInBounds_toArray, List.set_cons_zero, List.set_cons_succ]
      refine relist #[true, true, true, true, true, true, true, true, true, true, true, false] (by kernel_rfl) ?_
      refine any_one (i := 11) (by kernel_rfl) ?_
      refine wpOp_skip (w' := w3.setCell ⟨g, 1, none⟩ (.slice (some ⟨ga, 0, none⟩) (0 + 1) cap)) rfl rfl (by go_simp) ?_
      refine ⟨trivial, ?_⟩
      simp only [Act.put, List.getElem_toArray, List.getElem_cons_zero, List.getElem_cons_succ, List.setIfInBounds_toArray, List.set_cons_zero, List.set_cons_succ]
      refine wpAnyH_done (by kernel_rfl) ?_ _
      refine NoPanic.normal ?_
      have HB : Hid (∀ B w0, B ≤ g → B ≤ w.heap.size → Below B w0 w → Below B w0 (w3.setCell ⟨g, 1, none⟩ (.slice (some ⟨ga, 0, none⟩) (0 + 1) cap))) := fun B w0 h1 h2 h3 => (b3 B w0 (by omega) (h3.trans (b2.mono h2))).setCell h1 _
      clear hc hcd hc1 hc2 hc3 hf3 b1 b1' b2 b3 hgr hr
      generalize w3.setCell ⟨g, 1, none⟩ (.slice (some ⟨ga, 0, none⟩) (0 + 1) cap) = w4 at *
      go_wp2_with fail
      go_ret2
      exact ⟨rfl, HB.out⟩
    · refine wpOp_val (v := .slice (some ⟨w1.heap.size, 0, none⟩) 1 1) (w' := w1.alloc (.cells #[.slice p' n c'] 22)) rfl rfl (by go_simp) ?_
      have b2 : Below w.heap.size w (w1.alloc (.cells #[.slice p' n c'] 22)) := b1'.alloc hs1 _
      have hc2 : (w1.alloc (.cells #[.slice p' n c'] 22)).cell? ⟨g, 1, none⟩ = some (.slice none 0 0) := by rw [b2.cell (p := ⟨g, 1, none⟩) hgl]; exact hc
      have h2 := heapN w1 (.cells #[.slice p' n c'] 22) _ rfl
      refine ⟨trivial, ?_⟩
      simp only [Act.put, List.getElem_toArray, List.getElem_cons_zero, List.getElem_cons_succ, List.setIfInBounds_toArray, List.set_cons_zero, List.set_cons_succ]
      have hs2 : w.heap.size ≤ (w1.alloc (.cells #[.slice p' n c'] 22)).heap.size := b2.size
      generalize w1.alloc (.cells #[.slice p' n c'] 22) = w2 at *
      generalize w1.heap.size = g1 at *
      refine relist #[true, true, true, true, false, true, true, true, false, false, false, false] (by kernel_rfl) ?_
      refine any_one (i := 4) (by kernel_rfl) ?_
      refine wpOp_val (v := .slice none 0 0) (w' := w2) rfl rfl (by have e := hc2; go_simp) ?_
      refine ⟨trivial, ?_⟩
      simp only [Act.put, List.getElem_toArray, List.getElem_cons_zero, List.getElem_cons_succ, List.setIfInBounds_toArray, List.set_cons_zero, List.set_cons_succ]
      refine relist #[true, true, true, true, true, true, true, true, false, false, false, false] (by kernel_rfl) ?_
      refine any_one (i := 8) (by kernel_rfl) ?_
      obtain ⟨ga, cap, w3, hr, ho3, hgr, _, _⟩ := run_append_lies (P := Tryd.prog) w2 47 47 w.heap.size 22 i22 (.slice none 0 0) 1 24 Tryd.underlying47 hi22 hz hsz hby rfl (by omega) (.slice none 0 0) 0 [] (World.ownsRow_nil _ _ _ _)
        ⟨g1, 0, none⟩ 1 1 [.slice p' n c'] rfl (fun j u hu => by
          have e : j = 0 := by
            have := (List.getElem?_eq_some_iff.1 hu).1
            simp at this; omega
          subst e
          rw [addr_add, cell_of_row _ _ _ _ _ _ h2]
          simpa using hu) (fun u hu => by simp only [List.mem_singleton] at hu; subst hu; rfl) (by omega) (by unfold maxLen; omega) (by omega) hs2 _ rfl
      refine wpOp_app rfl rfl (.tmp 27) (.tmp 30) 47 47 rfl (.slice none 0 0) (.slice (some ⟨g1, 0, none⟩) 1 1) rfl rfl hr ?_
      have b3 : ∀ B w0, B ≤ w2.heap.size → Below B w0 w2 → Below B w0 w3 := fun B w0 hB hb => hb.grown hgr hB (fun k hk => by cases hk)
      have hg2 : g < w2.heap.size := Nat.lt_of_lt_of_le hgl hs2
      have e3 : w3.heap[g]? = w2.heap[g]? := hgr.block g hg2 (by simp [Value.ownBlock])
      have hc3 : w3.cell? ⟨g, 1, none⟩ = some (.slice none 0 0) := by rw [World.cell?_of_block (w := w2) e3]; exact hc2
      have hf3 : w3.frozen? ⟨g, 1, none⟩ = false := by
        rw [World.frozen?_of_block (w := w2) e3, World.frozen?_of_block (w := w) (b2.block g hgl)]
        exact frozen_of_row w g 1 _ _ hg
      refine ⟨trivial, ?_⟩
      simp only [Act.put, List.getElem_toArray, List.getElem_cons_zero, List.getElem_cons_succ, List.setIfInBounds_toArray, List.set_cons_zero, List.set_cons_succ]
      refine wpAnyH_take (i := 9) (v := .pointer (some ⟨g, 0, none⟩)) rfl (by kernel_rfl) (by kernel_rfl) (by kernel_rfl) (fun _ _ _ h => h) (.inl ⟨rfl, fun W _ => by go_simp⟩) trivial ?_
      simp only [Act.put, List.getElem_toArray, List.getElem_cons_zero, List.getElem_cons_succ, List.setIfInBounds_toArray, List.set_cons_zero, List.set_cons_succ]
      refine wpAnyH_take (i := 10) (v := .pointer (some ⟨g, 1, none⟩)) rfl (by kernel_rfl) (by kernel_rfl) (by kernel_rfl) (fun _ _ _ h => h) (.inl ⟨rfl, fun W _ => by go_simp⟩) trivial ?_
      simp only [Act.put, List.getElem_toArray, List.getElem_cons_zero, List.getElem_cons_succ, List.setIfInBounds_toArray, List.set_cons_zero, List.set_cons_succ]
      refine relist #[true, true, true, true, true, true, true, true, true, true, true, false] (by kernel_rfl) ?_
      refine any_one (i := 11) (by kernel_rfl) ?_
      refine wpOp_skip (w' := w3.setCell ⟨g, 1, none⟩ (.slice (some ⟨ga, 0, none⟩) (0 + 1) cap)) rfl rfl (by go_simp) ?_
      refine ⟨trivial, ?_⟩
      simp only [Act.put, List.getElem_toArray, List.getElem_cons_zero, List.getElem_cons_succ, List.setIfInBounds_toArray, List.set_cons_zero, List.set_cons_succ]
      refine wpAnyH_done (by kernel_rfl) ?_ _
      refine NoPanic.normal ?_
      have HB : Hid (∀ B w0, B ≤ g → B ≤ w.heap.size → Below B w0 w → Below B w0 (w3.setCell ⟨g, 1, none⟩ (.slice (some ⟨ga, 0, none⟩) (0 + 1) cap))) := fun B w0 h1 h2 h3 => (b3 B w0 (by omega) (h3.trans (b2.mono h2))).setCell h1 _
      clear hc hcd hc1 hc2 hc3 hf3 b1 b1' b2 b3 hgr hr
      generalize w3.setCell ⟨g, 1, none⟩ (.slice (some ⟨ga, 0, none⟩) (0 + 1) cap) = w4 at *
      go_wp2_with fail
      go_ret2
      exact ⟨rfl, HB.out⟩
end Go.Proofs.YtcmjlhcpoajbkaaDoor
namespace Go.Proofs.YtcmjlhcpoajbkaaDoor
set_option maxRecDepth 10000
open Go.RowKit
/-- A number's k-th byte from the end. -/
def beI (n : Int) (k : Nat) : Int := n / 2 ^ (8 * k) % 256
/-- A number in so many bytes, the highest first. -/
def longI (n : Int) : Nat → List Int
  | 0 => []
  | k + 1 => beI n k :: longI n k
def longU (n : Int) : Nat → List UInt8
  | 0 => []
  | k + 1 => UInt8.ofNat (beI n k).toNat :: longU n k
theorem beI_range (n : Int) (k : Nat) : 0 ≤ beI n k ∧ beI n k < 256 := by unfold beI; omega
theorem longI_len (n : Int) (k : Nat) : (longI n k).length = k := by
  induction k with
  | zero => rfl
  | succ k ih => simp [longI, ih]
theorem longU_len (n : Int) (k : Nat) : (longU n k).length = k := by
  induction k with
  | zero => rfl
  | succ k ih => simp [longU, ih]
theorem longI_bytes (n : Int) (k : Nat) : Bytes (longI n k) := .of fun x hx => by
  induction k with
  | zero => simp [longI] at hx
  | succ k ih =>
    simp only [longI, List.mem_cons] at hx
    rcases hx with rfl | hx
    · exact beI_range n k
    · exact ih hx
theorem toI_longU (n : Int) (k : Nat) : toI (longU n k) = longI n k := by
  induction k with
  | zero => rfl
  | succ k ih =>
    show _ :: toI (longU n k) = _ :: longI n k
    rw [ih]
    congr 1
    have := beI_range n k
    simp only [UInt8.toNat_ofNat']
    omega
set_option maxHeartbeats 1000000 in
theorem long_any (n : Int) (m : Nat) (w : World) (hm : m ≤ 8) :
    Calls Tryd.prog 65 #[.int .i64 n, .int .i64 m] w fun e w' => e = .returned (.string ⟨(longU n m).toArray⟩) ∧ Below w.heap.size w w' := by
  go_enter Tryd.func65, Tryd.ntmps65
  go_wp2_with fail
  go_loopw [5, 6] (fun v i wr => ∃ k : Nat, k ≤ m ∧ i = .int .i64 k ∧ v = .string ⟨(longU n k).toArray⟩ ∧ Below w.heap.size w wr) (fun _ i _ => m - (intOf i).toNat)
  case atStart => exact ⟨0, by omega, rfl, rfl, Below.refl _ _⟩
  case round =>
    obtain ⟨k, hk, rfl, rfl, hb⟩ := hrel
    by_cases hlt : k < m
    · have hcv := conv_one (n / 2 ^ (8 * k) % 256) (UInt8.ofNat (n / 2 ^ (8 * k) % 256).toNat) wr rfl
      have hsz : (ByteArray.mk (longU n k).toArray).size = k := by show (longU n k).toArray.size = _; simp [longU_len]
      have hap : Hid ((ByteArray.mk #[UInt8.ofNat (n / 2 ^ (8 * k) % 256).toNat]) ++ (ByteArray.mk (longU n k).toArray) = ByteArray.mk (longU n (k + 1)).toArray) := ByteArray.mk_append_mk [_] (longU n k)
      go_wp2_with fail
      go_roundw
      case rel => exact ⟨k + 1, by omega, by go_num, by rw [hap.out], hb.alloc hb.size _⟩
      case measure => simp [intOf]; omega
    · go_wp2_with fail
      go_ret
      have e : k = m := by omega
      subst e
      exact ⟨rfl, hb⟩
/-- The row that highestFirst writes, k bytes from the end on. -/
def hfpart (x : Int) (m k : Nat) : List Int := List.replicate (m - k) 0 ++ longI x k
theorem hfpart_len (x : Int) (m k : Nat) (h : k ≤ m) : (hfpart x m k).length = m := by simp [hfpart, longI_len]; omega
theorem hfpart_step (x : Int) (m k : Nat) (h : k < m) : (hfpart x m k).set (m - 1 - k) (beI x k) = hfpart x m (k + 1) := by
  unfold hfpart
  rw [show m - k = (m - (k + 1)) + 1 by omega, List.replicate_succ', List.append_assoc, List.set_append_right _ _ (by simp; omega)]
  simp only [List.length_replicate]
  rw [show m - 1 - k - (m - (k + 1)) = 0 by omega]
  rfl
theorem made8 (m : Nat) : madeCells #[Value.int .u8 0] m = A8 (List.replicate m 0) := by
  have := toList_madeCells_one (.int .u8 0) m
  apply Array.toList_inj.1
  rw [this]
  simp [A8]
set_option maxHeartbeats 1000000 in
theorem highest_any (x : Int) (m : Nat) (w : World) (hm : m ≤ 8) :
    Calls Tryd.prog 81 #[.int .u64 x, .int .i64 m] w fun e w' => e = .returned (.slice (some ⟨w.heap.size, 0, none⟩) m m) ∧ Below w.heap.size w w' ∧ w'.heap[w.heap.size]? = some (.cells (A8 (longI x m)) 5) := by
  obtain ⟨i5, hi5, hz5, hs5, hy5⟩ := info5'
  have hmk := fun W => run_make_row (P := Tryd.prog) 22 5 i5 (.int .u8 0) Tryd.underlying22 hi5 hz5 hs5 rfl .i64 .i64 m (by rw [hy5]; omega) (by omega) W
  rw [made8] at hmk
  have h0 := heapN w (.cells (A8 (List.replicate m 0)) 5) _ rfl
  have hb0 : Below w.heap.size w (w.alloc (.cells (A8 (List.replicate m 0)) 5)) := (Below.refl _ _).alloc (Nat.le_refl _) _
  go_enter Tryd.func81, Tryd.ntmps81
  go_wp2_with fail
  go_loopw [11] (fun i wr => ∃ k : Nat, k ≤ m ∧ i = .int .i64 k ∧ Below w.heap.size w wr ∧ wr.heap[w.heap.size]? = some (.cells (A8 (hfpart x m k)) 5)) (fun i _ => m - (intOf i).toNat)
  case atStart => exact ⟨0, by omega, rfl, hb0, by simpa [hfpart, longI] using h0⟩
  case round =>
    obtain ⟨k, hk, rfl, hb, hg⟩ := hrel
    clear h0 hb0 hmk
    by_cases hlt : k < m
    · have hf := frozen_of_row wr w.heap.size (m - 1 - k) _ _ hg
      have hcell : ∃ u, wr.cell? ⟨w.heap.size, m - 1 - k, none⟩ = some u := by
        rw [cell_of_row _ _ _ _ _ _ hg, A8_get _ _ (by rw [hfpart_len x m k hk]; omega)]; exact ⟨_, rfl⟩
      obtain ⟨u, hc⟩ := hcell
      have hG := heap_setCell_same wr w.heap.size (m - 1 - k) _ _ (.int .u8 (beI x k)) hg
      rw [A8_set, hfpart_step x m k hlt] at hG
      have HG : Hid _ := hG
      have ei : ((m : Int) - 1 - k) = ((m - 1 - k : Nat) : Int) := by omega
      have HB : Hid (Below w.heap.size w (wr.setCell ⟨w.heap.size, m - 1 - k, none⟩ (.int .u8 (beI x k)))) := hb.setCell (Nat.le_refl _) _
      clear hG hg
      go_wp2_with fail
      go_roundw
      case rel => exact ⟨k + 1, by omega, by go_num, HB.out, HG.out⟩
      case measure => simp [intOf]; omega
    · have e : k = m := by omega
      subst e
      have hG : Hid (wr.heap[w.heap.size]? = some (.cells (A8 (longI x k)) 5)) := by
        rw [show hfpart x k k = longI x k by simp [hfpart]] at hg; exact hg
      clear hg
      go_wp2_with fail
      go_ret
      exact ⟨rfl, hb, hG.out⟩
end Go.Proofs.YtcmjlhcpoajbkaaDoor
namespace Go.Proofs.YtcmjlhcpoajbkaaDoor
set_option maxRecDepth 10000
set_option linter.unusedSimpArgs false
open Go.RowKit
/-- The tag of a head. -/
def signP (key : List Int) (n : Int) (R : List Int) : List Int := tagP KS HS key (longI n 8 ++ R)
theorem signP_len (key : List Int) (n : Int) (R : List Int) : (signP key n R).length = 32 := tagP_len _ _ _ _
theorem signP_bytes (key : List Int) (n : Int) (R : List Int) : Bytes (signP key n R) := finP_bytes _ _ _ _
theorem in8_blk {w : World} {g : Nat} {t : TypeId} {fr : Nat × Nat} {xs : List Int} {n : Nat} (hn : xs.length = n) (hb : Bytes xs) (hs : n ≤ 1000) (h : w.heap[g]? = some (.cells (A8 xs) t fr)) : In8 w (some ⟨g, 0, none⟩) n n xs :=
  ⟨hn, hb, Nat.le_refl _, by omega, by omega, fun _ => ⟨g, 0, rfl, row_lt h, fun j hj => by rw [cell_of_row _ _ _ _ _ _ h, Nat.zero_add, A8_get _ _ hj]⟩⟩
set_option maxHeartbeats 2000000 in
theorem headTag_any (w : World) (hT : Tabs KS HS w) (p : Option Addr) (m c : Nat) (key : List Int) (hi : In8 w p m c key) (n : Int) (h1 : 0 ≤ n) (h2 : n ≤ 9223372036854775807) (R : List Int) (hl : R.length = 32) (hb : Bytes R) :
    Calls Tryd.prog 66 #[.slice p m c, .int .i64 n, .agg (A8 R)] w fun e w' => e = .returned (.agg (A8 (signP key n R))) ∧ Below w.heap.size w w' := by
  have hb0 := below2 w (.cells (A8 R) 25) (.cells Z8x32 25)
  have V0 := heap2 w (.cells (A8 R) 25) (.cells Z8x32 25)
  obtain ⟨V, hV⟩ : ∃ V, V = (w.alloc (.cells (A8 R) 25)).alloc (.cells Z8x32 25) := ⟨_, rfl⟩
  rw [← hV] at hb0 V0
  have hu : IntKind.u64.wrap n = n := by simp only [IntKind.wrap, IntKind.bits, IntKind.signed]; simp; omega
  have l0 := row_lt V0.2
  go_enter Tryd.func66, Tryd.ntmps66
  go_wp2_with fail
  refine wp_region_noPanic ?_
  refine wp_region_held (S := fun _ => True) follows ?_
  refine wpAnyH_take (i := 0) (v := .slice p m c) rfl (by kernel_rfl) (by kernel_rfl) (by kernel_rfl) (fun _ _ _ h => h) (.inl ⟨rfl, fun W _ => by go_simp⟩) trivial ?_
  simp only [Act.put, List.getElem_toArray, List.getElem_cons_zero, List.getElem_cons_succ, List.setIfInBounds_toArray, List.set_cons_zero, List.set_cons_succ]
  refine wpAnyH_take (i := 1) (v := .int .i64 n) rfl (by kernel_rfl) (by kernel_rfl) (by kernel_rfl) (fun _ _ _ h => h) (.inl ⟨rfl, fun W _ => by go_simp⟩) trivial ?_
  simp only [Act.put, List.getElem_toArray, List.getElem_cons_zero, List.getElem_cons_succ, List.setIfInBounds_toArray, List.set_cons_zero, List.set_cons_succ]
  refine wpAnyH_take (i := 2) (v := .int .u64 n) rfl (by kernel_rfl) (by kernel_rfl) (by kernel_rfl) (fun _ _ _ h => h) (.inl ⟨rfl, fun W _ => by go_simp⟩) trivial ?_
  simp only [Act.put, List.getElem_toArray, List.getElem_cons_zero, List.getElem_cons_succ, List.setIfInBounds_toArray, List.set_cons_zero, List.set_cons_succ]
  refine wpAnyH_take (i := 4) (v := .slice (some ⟨w.heap.size, 0, none⟩) 32 32) rfl (by kernel_rfl) (by kernel_rfl) (by kernel_rfl) (fun _ _ _ h => h) (.inl ⟨rfl, fun W _ => by go_simp⟩) trivial ?_
  simp only [Act.put, List.getElem_toArray, List.getElem_cons_zero, List.getElem_cons_succ, List.setIfInBounds_toArray, List.set_cons_zero, List.set_cons_succ]
  refine relist #[true, true, true, false, true, false, false, false, false] (by kernel_rfl) ?_
  refine any_one (i := 3) (by kernel_rfl) ?_
  refine wpOp_call (f := 81) (args := #[.int .u64 n, .int .i64 8]) rfl rfl (by go_simp) ?_
  refine (highest_any n 8 _ (by omega)).mono ?_
  rintro e w1 ⟨rfl, b1, hg1⟩
  have B1 : Below V.heap.size V w1 := by rw [hV]; exact ((Below.refl _ _).drew).trans b1
  have e1 : V.heap.size = w.heap.size + 1 + 1 := by rw [hV]; simp
  have hg1' : w1.heap[w.heap.size + 1 + 1]? = some (.cells (A8 (longI n 8)) 5) := by rw [← e1]; rw [hV]; exact hg1
  have hs1 := B1.size
  have hl1 := row_lt hg1'
  refine ⟨_, rfl, trivial, ?_⟩
  simp only [Act.put, List.getElem_toArray, List.getElem_cons_zero, List.getElem_cons_succ, List.setIfInBounds_toArray, List.set_cons_zero, List.set_cons_succ]
  refine relist #[true, true, true, true, true, false, false, false, false] (by kernel_rfl) ?_
  refine any_one (i := 5) (by kernel_rfl) ?_
  refine wpOp_val (v := .slice (some ⟨w1.heap.size, 0, none⟩) 2 2) (w' := w1.alloc (.cells #[.slice (some ⟨w.heap.size + 1 + 1, 0, none⟩) 8 8, .slice (some ⟨w.heap.size, 0, none⟩) 32 32] 22)) rfl rfl (by go_simp) ?_
  refine ⟨trivial, ?_⟩
  simp only [Act.put, List.getElem_toArray, List.getElem_cons_zero, List.getElem_cons_succ, List.setIfInBounds_toArray, List.set_cons_zero, List.set_cons_succ]
  refine relist #[true, true, true, true, true, true, false, false, false] (by kernel_rfl) ?_
  have h2' := heapN w1 (.cells #[.slice (some ⟨w.heap.size + 1 + 1, 0, none⟩) 8 8, .slice (some ⟨w.heap.size, 0, none⟩) 32 32] 22) _ rfl
  have B2 : Below V.heap.size V (w1.alloc (.cells #[.slice (some ⟨w.heap.size + 1 + 1, 0, none⟩) 8 8, .slice (some ⟨w.heap.size, 0, none⟩) 32 32] 22)) := B1.alloc hs1 _
  have g2 := (heapO w1 (.cells #[.slice (some ⟨w.heap.size + 1 + 1, 0, none⟩) 8 8, .slice (some ⟨w.heap.size, 0, none⟩) 32 32] 22) _ hl1).trans hg1'
  have r2 := (B2.block w.heap.size (by omega)).trans V0.1
  generalize w1.alloc (.cells #[.slice (some ⟨w.heap.size + 1 + 1, 0, none⟩) 8 8, .slice (some ⟨w.heap.size, 0, none⟩) 32 32] 22) = w2 at *
  generalize w1.heap.size = k2 at *
  have ec := cat2 (longI n 8) R
  have hn8 := longI_len n 8
  refine any_one (i := 6) (by kernel_rfl) ?_
  refine wpOp_call (f := 97) (args := #[.slice (some ⟨k2, 0, none⟩) 2 2]) rfl rfl (by go_simp) ?_
  refine (concat_any k2 2 (pf2 (some ⟨w.heap.size + 1 + 1, 0, none⟩) (some ⟨w.heap.size, 0, none⟩)) (nf2 8 32) (nf2 8 32) (xf2 (longI n 8) R) _ (by omega) ?_ ?_ (by rw [ec, List.length_append]; omega) (by rw [ec, List.length_append]; omega)).mono ?_
  · intro i hi'
    rw [cell_of_row _ _ _ _ _ _ h2']
    rcases i with _ | _ | i
    · rfl
    · rfl
    · omega
  · intro i hi'
    rcases i with _ | _ | i
    · exact in8_blk (n := 8) hn8 (longI_bytes n 8) (by omega) g2
    · exact in8_blk (n := 32) hl hb (by omega) r2
    · omega
  rintro e w3 ⟨p3, n3, c3, rfl, b3, hi3⟩
  rw [ec] at hi3
  have B3 : Below V.heap.size V w3 := B2.trans (b3.mono B2.size)
  refine ⟨_, rfl, trivial, ?_⟩
  simp only [Act.put, List.getElem_toArray, List.getElem_cons_zero, List.getElem_cons_succ, List.setIfInBounds_toArray, List.set_cons_zero, List.set_cons_succ]
  refine relist #[true, true, true, true, true, true, true, false, false] (by kernel_rfl) ?_
  have BW : Below w.heap.size w w3 := hb0.trans (B3.mono hb0.size)
  refine any_one (i := 7) (by kernel_rfl) ?_
  refine wpOp_call (f := 55) (args := #[.slice p m c, .slice p3 n3 c3]) rfl rfl (by go_simp) ?_
  refine (tag_any KS HS w3 (hT.below BW) p p3 m c n3 c3 key (longI n 8 ++ R) (hi.below BW) hi3).mono ?_
  rintro e w4 ⟨rfl, b4⟩
  have B4 : Below V.heap.size V w4 := B3.trans (b4.mono B3.size)
  have hkl := signP_len key n R
  have es : tagP KS HS key (longI n 8 ++ R) = signP key n R := rfl
  rw [es]
  obtain ⟨D, hD⟩ : ∃ D, signP key n R = D := ⟨_, rfl⟩
  have HD : Hid (signP key n R = D) := hD
  rw [hD] at hkl ⊢
  clear hD es
  have d4 : Dg w4 (w.heap.size + 1) Z32 := ⟨rfl, (B4.block _ (by omega)).trans V0.2⟩
  refine ⟨_, rfl, trivial, ?_⟩
  simp only [Act.put, List.getElem_toArray, List.getElem_cons_zero, List.getElem_cons_succ, List.setIfInBounds_toArray, List.set_cons_zero, List.set_cons_succ]
  refine relist #[true, true, true, true, true, true, true, true, false] (by kernel_rfl) ?_
  refine any_one (i := 8) (by kernel_rfl) ?_
  refine wpOp_store_D rfl rfl (.tmp 6) (.tmp 14) rfl (w.heap.size + 1) D rfl rfl Z32 d4 hkl ?_
  intro U hU
  refine ⟨trivial, ?_⟩
  simp only [Act.put, List.getElem_toArray, List.getElem_cons_zero, List.getElem_cons_succ, List.setIfInBounds_toArray, List.set_cons_zero, List.set_cons_succ]
  refine wpAnyH_done (by kernel_rfl) ?_ _
  refine NoPanic.normal ?_
  have dU : Hid (Dg U (w.heap.size + 1) D) := hU.dg hkl
  have bU : Hid (Below w.heap.size w U) := hU.below _ _ (by omega) (hb0.trans (B4.mono hb0.size))
  clear hU d4 B1 B2 B3 B4 b1 b3 b4 BW h2' g2 r2 hi3 V0 hb0
  go_wp2_with fail
  exact bodyPost_ret (results_D rfl _ _ (w.heap.size + 1) D rfl dU.out) rfl ⟨by rw [HD.out], bU.out⟩
set_option maxHeartbeats 2000000 in
theorem refSign_any (w : World) (l : List UInt8) (key : List Int) (hk : toI l = key) (hlk : l.length ≤ 140737488355400) (n : Int) (R : List Int) (hl : R.length = 32) (hb : Bytes R) :
    Calls Tryd.prog 27 #[.string ⟨l.toArray⟩, .int .i64 n, .agg (A8 R)] w fun e w' => e = .returned (.agg (A8 (signP key n R))) ∧ Below w.heap.size w w' := by
  have hb0 := below2 w (.cells (A8 R) 25) (.cells Z8x32 25)
  have V0 := heap2 w (.cells (A8 R) 25) (.cells Z8x32 25)
  obtain ⟨V, hV⟩ : ∃ V, V = (w.alloc (.cells (A8 R) 25)).alloc (.cells Z8x32 25) := ⟨_, rfl⟩
  rw [← hV] at hb0 V0
  have l0 := row_lt V0.2
  have l1 := row_lt V0.1
  have S0 : Dg V.drew w.heap.size R := ⟨hl, V0.1⟩
  go_enter Tryd.func27, Tryd.ntmps27
  go_wp2_with fail
  refine wp_region_noPanic ?_
  refine wp_region_held (S := fun W => Dg W w.heap.size R) follows ?_
  refine wpAnyH_take (i := 0) (v := .string ⟨l.toArray⟩) rfl (by kernel_rfl) (by kernel_rfl) (by kernel_rfl) (fun _ _ _ h => h) (.inl ⟨rfl, fun W _ => by go_simp⟩) (hV ▸ S0) ?_
  simp only [Act.put, List.getElem_toArray, List.getElem_cons_zero, List.getElem_cons_succ, List.setIfInBounds_toArray, List.set_cons_zero, List.set_cons_succ]
  refine wpAnyH_take (i := 1) (v := .int .i64 n) rfl (by kernel_rfl) (by kernel_rfl) (by kernel_rfl) (fun _ _ _ h => h) (.inl ⟨rfl, fun W _ => by go_simp⟩) (hV ▸ S0) ?_
  simp only [Act.put, List.getElem_toArray, List.getElem_cons_zero, List.getElem_cons_succ, List.setIfInBounds_toArray, List.set_cons_zero, List.set_cons_succ]
  refine wpAnyH_take (i := 3) (v := .agg (A8 R)) rfl (by kernel_rfl) (by kernel_rfl) (by kernel_rfl) (fun _ _ _ h => h) (yields_D rfl (.tmp 5) rfl w.heap.size rfl R hl (fun W hW => hW)) (hV ▸ S0) ?_
  simp only [Act.put, List.getElem_toArray, List.getElem_cons_zero, List.getElem_cons_succ, List.setIfInBounds_toArray, List.set_cons_zero, List.set_cons_succ]
  refine relist #[true, true, false, true, false, false, false, false] (by kernel_rfl) ?_
  refine any_one (i := 2) (by kernel_rfl) ?_
  refine wpOp_call (f := 65) (args := #[.int .i64 n, .int .i64 8]) rfl rfl (by go_simp) ?_
  refine (long_any n 8 _ (by omega)).mono ?_
  rintro e w1 ⟨rfl, b1⟩
  have B1 : Below V.heap.size V w1 := by rw [hV]; exact ((Below.refl _ _).drew).trans b1
  have S1 : Dg w1 w.heap.size R := ⟨hl, (B1.block _ l1).trans V0.1⟩
  refine ⟨_, rfl, S1, ?_⟩
  simp only [Act.put, List.getElem_toArray, List.getElem_cons_zero, List.getElem_cons_succ, List.setIfInBounds_toArray, List.set_cons_zero, List.set_cons_succ]
  refine relist #[true, true, true, true, false, false, false, false] (by kernel_rfl) ?_
  refine any_one (i := 4) (by kernel_rfl) ?_
  refine wpOp_call (f := 60) (args := #[.agg (A8 R)]) rfl rfl (by go_simp) ?_
  refine (text_any R _ hl).mono ?_
  rintro e w2 ⟨rfl, b2⟩
  have B2 : Below V.heap.size V w2 := B1.trans (b2.mono B1.size)
  have S2 : Dg w2 w.heap.size R := ⟨hl, (B2.block _ l1).trans V0.1⟩
  have hsA : (ByteArray.mk (longU n 8).toArray).size = 8 := by show (longU n 8).toArray.size = _; simp [longU_len]
  have hsR : (ByteArray.mk (toU R).toArray).size = 32 := by show (toU R).toArray.size = _; simp [toU_len, hl]
  have eA : (ByteArray.mk (longU n 8).toArray) ++ (ByteArray.mk (toU R).toArray) = ByteArray.mk (longU n 8 ++ toU R).toArray := ByteArray.mk_append_mk (longU n 8) (toU R)
  refine ⟨_, rfl, S2, ?_⟩
  simp only [Act.put, List.getElem_toArray, List.getElem_cons_zero, List.getElem_cons_succ, List.setIfInBounds_toArray, List.set_cons_zero, List.set_cons_succ]
  refine wpAnyH_take (i := 5) (v := .string ⟨(longU n 8 ++ toU R).toArray⟩) rfl (by kernel_rfl) (by kernel_rfl) (by kernel_rfl) (fun _ _ _ h => h) (.inl ⟨rfl, fun W _ => by go_simp⟩) S2 ?_
  simp only [Act.put, List.getElem_toArray, List.getElem_cons_zero, List.getElem_cons_succ, List.setIfInBounds_toArray, List.set_cons_zero, List.set_cons_succ]
  refine relist #[true, true, true, true, true, true, false, false] (by kernel_rfl) ?_
  refine any_one (i := 6) (by kernel_rfl) ?_
  refine wpOp_call (f := 20) (args := #[.string ⟨l.toArray⟩, .string ⟨(longU n 8 ++ toU R).toArray⟩]) rfl rfl (by go_simp) ?_
  refine (refTag_any l (longU n 8 ++ toU R) _ hlk (by rw [List.length_append, longU_len, toU_len]; omega)).mono ?_
  rintro e w4 ⟨rfl, b4⟩
  have es : refTagP l (longU n 8 ++ toU R) = signP key n R := by
    rw [← tag_same, hk, toI_append, toI_longU, toI_toU R hb]; rfl
  rw [es]
  have B4 : Below V.heap.size V w4 := B2.trans (b4.mono B2.size)
  have hkl := signP_len key n R
  obtain ⟨D, hD⟩ : ∃ D, signP key n R = D := ⟨_, rfl⟩
  have HD : Hid (signP key n R = D) := hD
  rw [hD] at hkl ⊢
  clear hD es
  have d4 : Dg w4 (w.heap.size + 1) Z32 := ⟨rfl, (B4.block _ l0).trans V0.2⟩
  have S4 : Dg w4 w.heap.size R := ⟨hl, (B4.block _ l1).trans V0.1⟩
  refine ⟨_, rfl, S4, ?_⟩
  simp only [Act.put, List.getElem_toArray, List.getElem_cons_zero, List.getElem_cons_succ, List.setIfInBounds_toArray, List.set_cons_zero, List.set_cons_succ]
  refine relist #[true, true, true, true, true, true, true, false] (by kernel_rfl) ?_
  refine any_one (i := 7) (by kernel_rfl) ?_
  refine wpOp_store_D rfl rfl (.tmp 6) (.tmp 13) rfl (w.heap.size + 1) D rfl rfl Z32 d4 hkl ?_
  intro U hU
  refine ⟨S4.other hU (by omega), ?_⟩
  simp only [Act.put, List.getElem_toArray, List.getElem_cons_zero, List.getElem_cons_succ, List.setIfInBounds_toArray, List.set_cons_zero, List.set_cons_succ]
  refine wpAnyH_done (by kernel_rfl) ?_ _
  refine NoPanic.normal ?_
  have dU : Hid (Dg U (w.heap.size + 1) D) := hU.dg hkl
  have bU : Hid (Below w.heap.size w U) := hU.below _ _ (by omega) (hb0.trans (B4.mono hb0.size))
  clear hU d4 B1 B2 B4 b1 b2 b4 S0 S1 S2 S4 V0 hb0 eA
  go_wp2_with fail
  exact bodyPost_ret (results_D rfl _ _ (w.heap.size + 1) D rfl dU.out) rfl ⟨by rw [HD.out], bU.out⟩
end Go.Proofs.YtcmjlhcpoajbkaaDoor
