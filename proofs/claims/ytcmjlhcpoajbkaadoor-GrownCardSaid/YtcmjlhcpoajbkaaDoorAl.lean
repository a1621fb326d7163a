import Derived.Test.YtcmjlhcpoajbkaaDoorAbc
import Derived.Test.YtcmjlhcpoajbkaaDoorTr
namespace Go.Proofs.YtcmjlhcpoajbkaaDoor
set_option maxRecDepth 10000
set_option linter.unusedSimpArgs false
open Go.RowKit
theorem In8.none_zero {w : World} {n c : Nat} {xs : List Int} (h : In8 w none n c xs) : n = 0 := by
  rcases Nat.eq_zero_or_pos n with h0 | h0
  · exact h0
  · obtain ⟨b, o, hp, _⟩ := h.lies (by have := h.len; omega)
    cases hp
set_option maxHeartbeats 1000000 in
theorem clone_any (w : World) (p : Option Addr) (n c : Nat) (xs : List Int) (hi : In8 w p n c xs) :
    Calls Tryd.prog 69 #[.slice p n c] w fun e w' => ∃ p' c', e = .returned (.slice p' n c') ∧ Below w.heap.size w w' ∧ In8 w' p' n c' xs ∧ p'.isNone = p.isNone ∧ (∀ ad, p' = some ad → w.heap.size ≤ ad.block) ∧ ∀ ad, p' = some ad → ad.block < w'.heap.size := by
  have hq := eql_nil p n c w
  have hl := hi.len
  cases p with
  | none =>
    have h0 := hi.none_zero
    subst h0
    have hx : xs = [] := List.length_eq_zero_iff.1 hl
    subst hx
    go_enter Tryd.func69, Tryd.ntmps69
    go_wp2
    go_ret
    exact ⟨none, 0, rfl, Below.refl _ _, ⟨rfl, hi.bytes, by omega, by omega, by omega, fun h => by simp at h⟩, rfl, (fun ad h => by cases h), (fun ad h => by cases h)⟩
  | some a =>
    by_cases h0 : n = 0
    · subst h0
      have hx : xs = [] := List.length_eq_zero_iff.1 hl
      subst hx
      go_enter Tryd.func69, Tryd.ntmps69
      go_wp2_with (first
        | (at_builtin
           refine wpList_app_none rfl (.tmp 5) (.tmp 6) rfl (some ⟨w.heap.size, 0, none⟩) (some a) 0 0 c rfl rfl (by omega) ?_))
      go_ret
      exact ⟨_, 0, rfl, (Below.refl _ _).alloc (Nat.le_refl _) _, ⟨rfl, hi.bytes, by omega, by omega, by omega, fun h => by simp at h⟩, rfl, (fun ad h => by cases h; exact Nat.le_refl _), (fun ad h => by cases h; simp)⟩
    · obtain ⟨b, o, hp, hbl, hcs⟩ := hi.lies (by omega)
      cases hp
      have hb0 : Below w.heap.size w (w.alloc (.cells #[] 5)) := (Below.refl _ _).alloc (Nat.le_refl _) _
      have HCS : Hid (∀ j, j < n → (w.alloc (.cells #[] 5)).cell? ((⟨b, o, none⟩ : Addr).add j) = some (.int .u8 (xs.getD j 0))) := fun j hj => by
        have h1 := hcs j (by omega)
        rw [addr_add, hb0.cell (block_lt_of_cell h1)]; exact h1
      have HOW : Hid ((w.alloc (.cells #[] 5)).ownsRow w.heap.size 5 1 (.slice (some ⟨w.heap.size, 0, none⟩) 0 0) 0 (([] : List Int).map (Value.int .u8))) := ⟨rfl, .inr ⟨w.heap.size, 0, #[], rfl, Nat.le_refl _, heapN w _ _ rfl, by omega, by unfold maxLen; omega, rfl, rfl⟩⟩
      have hsm := hi.small
      clear hcs
      go_enter Tryd.func69, Tryd.ntmps69
      go_wp2_with (first
        | (at_builtin
           refine wpList_app8 rfl (.tmp 5) (.tmp 6) rfl w.heap.size (.slice (some ⟨w.heap.size, 0, none⟩) 0 0) [] 0 rfl HOW.out ⟨b, o, none⟩ n c xs rfl hl HCS.out (by omega) (by omega) (by simp) ?_
           intro v2 w2 ho2 hs2 hb2
           refine hideGoal ?_))
      obtain ⟨g, cap', rfl, hg, hgs, hfit, hmost, _, hcells⟩ := owns8 ho2 (by omega)
      have B2 : Hid (Below w.heap.size w w2) := hb2 w hb0
      have HI : Hid (In8 w2 (some ⟨g, 0, none⟩) n cap' xs) := ⟨hl, hi.bytes, by omega, by unfold maxLen at hmost; omega, hsm, fun _ => ⟨g, 0, rfl, hgs, fun j hj => by rw [Nat.zero_add]; exact hcells j (by omega)⟩⟩
      clear ho2 hb2 hcells HOW HCS hq
      rw [Nat.zero_add]
      refine openGoal ?_
      go_wp2_with fail
      go_ret
      exact ⟨_, cap', rfl, B2.out, HI.out, rfl, (fun ad h => by cases h; exact hg), (fun ad h => by cases h; exact hgs)⟩
set_option maxHeartbeats 400000 in
theorem new_nil (w : World) : Calls Tryd.prog 31 #[.slice none 0 0] w fun e w' => e = .returned (.tuple #[.pointer (some ⟨w.heap.size, 0, none⟩), .int .i64 0]) ∧ w' = w.alloc (.cells #[.slice none 0 0, .slice none 0 0] 116) := by
  have hq := eql_nil none 0 0 w
  go_enter Tryd.func31, Tryd.ntmps31
  go_wp2
  go_ret2
  exact ⟨rfl, rfl⟩
section
variable {P : Program} {ops : Array Oper} {Q : Exit → Act → World → Prop}
theorem wpOp_app {i : Nat} {o : Oper} {K : Act → World → Prop} {a : Act} {w w' : World} {v : Value} (hi : ops[i]? = some o) (hg : o.guard = none) (s x : Operand) (t t' : TypeId)
    (ho : o.op = .call { callee := .builtin .append, args := #[s, x], argTypes := #[t, t'] }) (vs vx : Value) (hs : a.eval s = vs) (hx : a.eval x = vx)
    (hr : (Builtin.append_ #[t, t'] o.type #[vs, vx]).run P w = .ok v w') (h : K (a.put o.dst v) w') : wpOp P ops Q i K a w := by
  refine wpOp_val (v := v) (w' := w') hi hg ?_ h
  unfold execOp
  simp only [ho, resolve, invoke, builtin, Sem.run_bind, Sem.run_pure, Result.andThen_ok, List.map_toArray, List.map_cons, List.map_nil, hs, hx, hr]
end
theorem wpOp_skip {P : Program} {ops : Array Oper} {Q : Exit → Act → World → Prop} {i : Nat} {o : Oper} {K : Act → World → Prop} {a : Act} {w w' : World} (hi : ops[i]? = some o) (hg : o.guard = none)
    (hrun : (execOp a.eval o).run P w = .ok .skip w') (h : K (a.put o.dst undef) w') : wpOp P ops Q i K a w := by
  unfold wpOp
  simp only [hi, Region.wanted, hg, if_true]
  refine .inl ?_
  unfold Oper.wp
  rw [hrun]
  exact h
theorem info22' : ∃ i, Tryd.prog.info? 22 = some i ∧ i.zero = some (.slice none 0 0) ∧ i.size = 1 ∧ i.bytes = 24 := ⟨_, rfl, by kernel_rfl, by kernel_rfl, by kernel_rfl⟩
set_option maxHeartbeats 4000000 in
theorem append_first (w : World) (g : Nat) (p : Option Addr) (n c : Nat) (xs : List Int) (hg : w.heap[g]? = some (.cells #[.slice none 0 0, .slice none 0 0] 116)) (hi : In8 w p n c xs) (hn : n ≤ 300) :
    Calls Tryd.prog 50 #[.pointer (some ⟨g, 0, none⟩), .slice p n c] w fun e w' => e = .returned (.tuple #[.int .i64 0, .int .i64 0]) ∧ ∀ B w0, B ≤ g → B ≤ w.heap.size → Below B w0 w → Below B w0 w' := by
  have hc : w.cell? ⟨g, 1, none⟩ = some (.slice none 0 0) := by rw [cell_of_row _ _ _ _ _ _ hg]; rfl
  have hcd : w.drew.cell? ⟨g, 1, none⟩ = some (.slice none 0 0) := hc
  have hgl := row_lt hg
  obtain ⟨i22, hi22, hz, hsz, hby⟩ := info22'
  have hb0 : Below w.heap.size w w.drew := (Below.refl _ _).drew
  go_enter Tryd.func50, Tryd.ntmps50
  go_wp2_with fail
  refine wp_region_noPanic ?_
  refine wp_region_held (S := fun _ => True) follows ?_
  refine wpAnyH_take (i := 0) (v := .pointer (some ⟨g, 0, none⟩)) rfl (by kernel_rfl) (by kernel_rfl) (by kernel_rfl) (fun _ _ _ h => h) (.inl ⟨rfl, fun W _ => by go_simp⟩) trivial ?_
  simp only [Act.put, List.getElem_toArray, List.getElem_cons_zero, List.getElem_cons_succ, List.setIfInBounds_toArray, List.set_cons_zero, List.set_cons_succ]
  refine wpAnyH_take (i := 1) (v := .pointer (some ⟨g, 0, none⟩)) rfl (by kernel_rfl) (by kernel_rfl) (by kernel_rfl) (fun _ _ _ h => h) (.inl ⟨rfl, fun W _ => by go_simp⟩) trivial ?_
  simp only [Act.put, List.getElem_toArray, List.getElem_cons_zero, List.getElem_cons_succ, List.setIfInBounds_toArray, List.set_cons_zero, List.set_cons_succ]
  refine wpAnyH_take (i := 2) (v := .pointer (some ⟨g, 0, none⟩)) rfl (by kernel_rfl) (by kernel_rfl) (by kernel_rfl) (fun _ _ _ h => h) (.inl ⟨rfl, fun W _ => by go_simp⟩) trivial ?_
  simp only [Act.put, List.getElem_toArray, List.getElem_cons_zero, List.getElem_cons_succ, List.setIfInBounds_toArray, List.set_cons_zero, List.set_cons_succ]
  refine wpAnyH_take (i := 3) (v := .pointer (some ⟨g, 1, none⟩)) rfl (by kernel_rfl) (by kernel_rfl) (by kernel_rfl) (fun _ _ _ h => h) (.inl ⟨rfl, fun W _ => by go_simp⟩) trivial ?_
  simp only [Act.put, List.getElem_toArray, List.getElem_cons_zero, List.getElem_cons_succ, List.setIfInBounds_toArray, List.set_cons_zero, List.set_cons_succ]
  refine wpAnyH_take (i := 5) (v := .slice p n c) rfl (by kernel_rfl) (by kernel_rfl) (by kernel_rfl) (fun _ _ _ h => h) (.inl ⟨rfl, fun W _ => by go_simp⟩) trivial ?_
  simp only [Act.put, List.getElem_toArray, List.getElem_cons_zero, List.getElem_cons_succ, List.setIfInBounds_toArray, List.set_cons_zero, List.set_cons_succ]
  refine relist #[true, true, true, true, false, true, false, false, false, false, false, false] (by kernel_rfl) ?_
  refine any_two (i := 4) (j := 6) (by kernel_rfl) ?_ ?_
  · refine wpOp_val (v := .slice none 0 0) (w' := w.drew) rfl rfl (by have e := hcd; go_simp) ?_
    refine ⟨trivial, ?_⟩
    simp only [Act.put, List.getElem_toArray, List.getElem_cons_zero, List.getElem_cons_succ, List.setIfInBounds_toArray, List.set_cons_zero, List.set_cons_succ]
    refine relist #[true, true, true, true, true, true, false, false, false, false, false, false] (by kernel_rfl) ?_
    refine any_one (i := 6) (by kernel_rfl) ?_
    refine wpOp_call (f := 69) (args := #[.slice p n c]) rfl rfl (by go_simp) ?_
    refine (clone_any _ p n c xs (hi.below hb0)).mono ?_
    rintro e w1 ⟨p', c', rfl, b1, hi1, _, _, _⟩
    have hs1 : w.heap.size ≤ w1.heap.size := b1.size
    have b1' : Below w.heap.size w w1 := hb0.trans b1
    have hc1 : w1.cell? ⟨g, 1, none⟩ = some (.slice none 0 0) := by rw [b1'.cell (p := ⟨g, 1, none⟩) hgl]; exact hc
    refine ⟨_, rfl, trivial, ?_⟩
    simp only [Act.put, List.getElem_toArray, List.getElem_cons_zero, List.getElem_cons_succ, List.setIfInBounds_toArray, List.set_cons_zero, List.set_cons_succ]
    refine relist #[true, true, true, true, true, true, true, false, false, false, false, false] (by kernel_rfl) ?_
    refine any_one (i := 7) (by kernel_rfl) ?_
    refine wpOp_val (v := .slice (some ⟨w1.heap.size, 0, none⟩) 1 1) (w' := w1.alloc (.cells #[.slice p' n c'] 22)) rfl rfl (by go_simp) ?_
    have b2 : Below w.heap.size w (w1.alloc (.cells #[.slice p' n c'] 22)) := b1'.alloc hs1 _
    have hc2 : (w1.alloc (.cells #[.slice p' n c'] 22)).cell? ⟨g, 1, none⟩ = some (.slice none 0 0) := by rw [b2.cell (p := ⟨g, 1, none⟩) hgl]; exact hc
    have h2 := heapN w1 (.cells #[.slice p' n c'] 22) _ rfl
    refine ⟨trivial, ?_⟩
    simp only [Act.put, List.getElem_toArray, List.getElem_cons_zero, List.getElem_cons_succ, List.setIfInBounds_toArray, List.set_cons_zero, List.set_cons_succ]
    have hs2 : w.heap.size ≤ (w1.alloc (.cells #[.slice p' n c'] 22)).heap.size := b2.size
    generalize w1.alloc (.cells #[.slice p' n c'] 22) = w2 at *
    generalize w1.heap.size = g1 at *
    refine relist #[true, true, true, true, true, true, true, true, false, false, false, false] (by kernel_rfl) ?_
    refine any_one (i := 8) (by kernel_rfl) ?_
    obtain ⟨ga, cap, w3, hr, ho3, hgr, _, _⟩ := run_append_lies (P := Tryd.prog) w2 47 47 w.heap.size 22 i22 (.slice none 0 0) 1 24 Tryd.underlying47 hi22 hz hsz hby rfl (by omega) (.slice none 0 0) 0 [] (World.ownsRow_nil _ _ _ _)
      ⟨g1, 0, none⟩ 1 1 [.slice p' n c'] rfl (fun j u hu => by
        have e : j = 0 := by
          have := (List.getElem?_eq_some_iff.1 hu).1
          simp at this; omega
        subst e
        rw [addr_add, cell_of_row _ _ _ _ _ _ h2]
        simpa using hu) (fun u hu => by simp only [List.mem_singleton] at hu; subst hu; rfl) (by omega) (by unfold maxLen; omega) (by omega) hs2 _ rfl
    refine wpOp_app rfl rfl (.tmp 27) (.tmp 30) 47 47 rfl (.slice none 0 0) (.slice (some ⟨g1, 0, none⟩) 1 1) rfl rfl hr ?_
    have b3 : ∀ B w0, B ≤ w2.heap.size → Below B w0 w2 → Below B w0 w3 := fun B w0 hB hb => hb.grown hgr hB (fun k hk => by cases hk)
    have hg2 : g < w2.heap.size := Nat.lt_of_lt_of_le hgl hs2
    have e3 : w3.heap[g]? = w2.heap[g]? := hgr.block g hg2 (by simp [Value.ownBlock])
    have hc3 : w3.cell? ⟨g, 1, none⟩ = some (.slice none 0 0) := by rw [World.cell?_of_block (w := w2) e3]; exact hc2
    have hf3 : w3.frozen? ⟨g, 1, none⟩ = false := by
      rw [World.frozen?_of_block (w := w2) e3, World.frozen?_of_block (w := w) (b2.block g hgl)]
      exact frozen_of_row w g 1 _ _ hg
    refine ⟨trivial, ?_⟩
    simp only [Act.put, List.getElem_toArray, List.getElem_cons_zero, List.getElem_cons_succ, List.setIfInBounds_toArray, List.set_cons_zero, List.set_cons_succ]
    refine wpAnyH_take (i := 9) (v := .pointer (some ⟨g, 0, none⟩)) rfl (by kernel_rfl) (by kernel_rfl) (by kernel_rfl) (fun _ _ _ h => h) (.inl ⟨rfl, fun W _ => by go_simp⟩) trivial ?_
    simp only [Act.put, List.getElem_toArray, List.getElem_cons_zero, List.getElem_cons_succ, List.setIfInBounds_toArray, List.set_cons_zero, List.set_cons_succ]
    refine wpAnyH_take (i := 10) (v := .pointer (some ⟨g, 1, none⟩)) rfl (by kernel_rfl) (by kernel_rfl) (by kernel_rfl) (fun _ _ _ h => h) (.inl ⟨rfl, fun W _ => by go_simp⟩) trivial ?_
    simp only [Act.put, List.getElem_toArray, List.getElem_cons_zero, List.getElem_cons_succ, List.setIfInBounds_toArray, List.set_cons_zero, List.set_cons_succ]
    refine relist #[true, true, true, true, true, true, true, true, true, true, true, false] (by kernel_rfl) ?_
    refine any_one (i := 11) (by kernel_rfl) ?_
    refine wpOp_skip (w' := w3.setCell ⟨g, 1, none⟩ (.slice (some ⟨ga, 0, none⟩) (0 + 1) cap)) rfl rfl (by go_simp) ?_
    refine ⟨trivial, ?_⟩
    simp only [Act.put, List.getElem_toArray, List.getElem_cons_zero, List.getElem_cons_succ, List.setIfInBounds_toArray, List.set_cons_zero, List.set_cons_succ]
    refine wpAnyH_done (by kernel_rfl) ?_ _
    refine NoPanic.normal ?_
    have HB : Hid (∀ B w0, B ≤ g → B ≤ w.heap.size → Below B w0 w → Below B w0 (w3.setCell ⟨g, 1, none⟩ (.slice (some ⟨ga, 0, none⟩) (0 + 1) cap))) := fun B w0 h1 h2 h3 => (b3 B w0 (by omega) (h3.trans (b2.mono h2))).setCell h1 _
    clear hc hcd hc1 hc2 hc3 hf3 b1 b1' b2 b3 hgr hr
    generalize w3.setCell ⟨g, 1, none⟩ (.slice (some ⟨ga, 0, none⟩) (0 + 1) cap) = w4 at *
    go_wp2_with fail
    go_ret2
    exact ⟨rfl, HB.out⟩
  · refine wpOp_call (f := 69) (args := #[.slice p n c]) rfl rfl (by go_simp) ?_
    refine (clone_any _ p n c xs (hi.below hb0)).mono ?_
    rintro e w1 ⟨p', c', rfl, b1, hi1, _, _, _⟩
    have hs1 : w.heap.size ≤ w1.heap.size := b1.size
    have b1' : Below w.heap.size w w1 := hb0.trans b1
    have hc1 : w1.cell? ⟨g, 1, none⟩ = some (.slice none 0 0) := by rw [b1'.cell (p := ⟨g, 1, none⟩) hgl]; exact hc
    refine ⟨_, rfl, trivial, ?_⟩
    simp only [Act.put, List.getElem_toArray, List.getElem_cons_zero, List.getElem_cons_succ, List.setIfInBounds_toArray, List.set_cons_zero, List.set_cons_succ]
    refine relist #[true, true, true, true, false, true, true, false, false, false, false, false] (by kernel_rfl) ?_
    refine any_two (i := 4) (j := 7) (by kernel_rfl) ?_ ?_
    · refine wpOp_val (v := .slice none 0 0) (w' := w1) rfl rfl (by have e := hc1; go_simp) ?_
      refine ⟨trivial, ?_⟩
      simp only [Act.put, List.getElem_toArray, List.getElem_cons_zero, List.getElem_cons_succ, List.setIfInBounds_toArray, List.set_cons_zero, List.set_cons_succ]
      refine relist #[true, true, true, true, true, true, true, false, false, false, false, false] (by kernel_rfl) ?_
      refine any_one (i := 7) (by kernel_rfl) ?_
      refine wpOp_val (v := .slice (some ⟨w1.heap.size, 0, none⟩) 1 1) (w' := w1.alloc (.cells #[.slice p' n c'] 22)) rfl rfl (by go_simp) ?_
      have b2 : Below w.heap.size w (w1.alloc (.cells #[.slice p' n c'] 22)) := b1'.alloc hs1 _
      have hc2 : (w1.alloc (.cells #[.slice p' n c'] 22)).cell? ⟨g, 1, none⟩ = some (.slice none 0 0) := by rw [b2.cell (p := ⟨g, 1, none⟩) hgl]; exact hc
      have h2 := heapN w1 (.cells #[.slice p' n c'] 22) _ rfl
      refine ⟨trivial, ?_⟩
      simp only [Act.put, List.getElem_toArray, List.getElem_cons_zero, List.getElem_cons_succ, List.setIfInBounds_toArray, List.set_cons_zero, List.set_cons_succ]
      have hs2 : w.heap.size ≤ (w1.alloc (.cells #[.slice p' n c'] 22)).heap.size := b2.size
      generalize w1.alloc (.cells #[.slice p' n c'] 22) = w2 at *
      generalize w1.heap.size = g1 at *
      refine relist #[true, true, true, true, true, true, true, true, false, false, false, false] (by kernel_rfl) ?_
      refine any_one (i := 8) (by kernel_rfl) ?_
      obtain ⟨ga, cap, w3, hr, ho3, hgr, _, _⟩ := run_append_lies (P := Tryd.prog) w2 47 47 w.heap.size 22 i22 (.slice none 0 0) 1 24 Tryd.underlying47 hi22 hz hsz hby rfl (by omega) (.slice none 0 0) 0 [] (World.ownsRow_nil _ _ _ _)
        ⟨g1, 0, none⟩ 1 1 [.slice p' n c'] rfl (fun j u hu => by
          have e : j = 0 := by
            have := (List.getElem?_eq_some_iff.1 hu).1
            simp at this; omega
          subst e
          rw [addr_add, cell_of_row _ _ _ _ _ _ h2]
          simpa using hu) (fun u hu => by simp only [List.mem_singleton] at hu; subst hu; rfl) (by omega) (by unfold maxLen; omega) (by omega) hs2 _ rfl
      refine wpOp_app rfl rfl (.tmp 27) (.tmp 30) 47 47 rfl (.slice none 0 0) (.slice (some ⟨g1, 0, none⟩) 1 1) rfl rfl hr ?_
      have b3 : ∀ B w0, B ≤ w2.heap.size → Below B w0 w2 → Below B w0 w3 := fun B w0 hB hb => hb.grown hgr hB (fun k hk => by cases hk)
      have hg2 : g < w2.heap.size := Nat.lt_of_lt_of_le hgl hs2
      have e3 : w3.heap[g]? = w2.heap[g]? := hgr.block g hg2 (by simp [Value.ownBlock])
      have hc3 : w3.cell? ⟨g, 1, none⟩ = some (.slice none 0 0) := by rw [World.cell?_of_block (w := w2) e3]; exact hc2
      have hf3 : w3.frozen? ⟨g, 1, none⟩ = false := by
        rw [World.frozen?_of_block (w := w2) e3, World.frozen?_of_block (w := w) (b2.block g hgl)]
        exact frozen_of_row w g 1 _ _ hg
      refine ⟨trivial, ?_⟩
      simp only [Act.put, List.getElem_toArray, List.getElem_cons_zero, List.getElem_cons_succ, List.setIfInBounds_toArray, List.set_cons_zero, List.set_cons_succ]
      refine wpAnyH_take (i := 9) (v := .pointer (some ⟨g, 0, none⟩)) rfl (by kernel_rfl) (by kernel_rfl) (by kernel_rfl) (fun _ _ _ h => h) (.inl ⟨rfl, fun W _ => by go_simp⟩) trivial ?_
      simp only [Act.put, List.getElem_toArray, List.getElem_cons_zero, List.getElem_cons_succ, List.setIfInBounds_toArray, List.set_cons_zero, List.set_cons_succ]
      refine wpAnyH_take (i := 10) (v := .pointer (some ⟨g, 1, none⟩)) rfl (by kernel_rfl) (by kernel_rfl) (by kernel_rfl) (fun _ _ _ h => h) (.inl ⟨rfl, fun W _ => by go_simp⟩) trivial ?_
      simp only [Act.put, List.getElem_toArray, List.getElem_cons_zero, List.getElem_cons_succ, List.setIfInBounds_toArray, List.set_cons_zero, List.set_cons_succ]
      refine relist #[true, true, true, true, true, true, true, true, true, true, true, false] (by kernel_rfl) ?_
      refine any_one (i := 11) (by kernel_rfl) ?_
      refine wpOp_skip (w' := w3.setCell ⟨g, 1, none⟩ (.slice (some ⟨ga, 0, none⟩) (0 + 1) cap)) rfl rfl (by go_simp) ?_
      refine ⟨trivial, ?_⟩
      simp only [Act.put, List.getElem_toArray, List.getElem_cons_zero, List.getElem_cons_succ, List.setIfInBounds_toArray, List.set_cons_zero, List.set_cons_succ]
      refine wpAnyH_done (by kernel_rfl) ?_ _
      refine NoPanic.normal ?_
      have HB : Hid (∀ B w0, B ≤ g → B ≤ w.heap.size → Below B w0 w → Below B w0 (w3.setCell ⟨g, 1, none⟩ (.slice (some ⟨ga, 0, none⟩) (0 + 1) cap))) := fun B w0 h1 h2 h3 => (b3 B w0 (by omega) (h3.trans (b2.mono h2))).setCell h1 _
      clear hc hcd hc1 hc2 hc3 hf3 b1 b1' b2 b3 hgr hr
      generalize w3.setCell ⟨g, 1, none⟩ (.slice (some ⟨ga, 0, none⟩) (0 + 1) cap) = w4 at *
      go_wp2_with fail
      go_ret2
      exact ⟨rfl, HB.out⟩
    · refine wpOp_val (v := .slice (some ⟨w1.heap.size, 0, none⟩) 1 1) (w' := w1.alloc (.cells #[.slice p' n c'] 22)) rfl rfl (by go_simp) ?_
      have b2 : Below w.heap.size w (w1.alloc (.cells #[.slice p' n c'] 22)) := b1'.alloc hs1 _
      have hc2 : (w1.alloc (.cells #[.slice p' n c'] 22)).cell? ⟨g, 1, none⟩ = some (.slice none 0 0) := by rw [b2.cell (p := ⟨g, 1, none⟩) hgl]; exact hc
      have h2 := heapN w1 (.cells #[.slice p' n c'] 22) _ rfl
      refine ⟨trivial, ?_⟩
      simp only [Act.put, List.getElem_toArray, List.getElem_cons_zero, List.getElem_cons_succ, List.setIfInBounds_toArray, List.set_cons_zero, List.set_cons_succ]
      have hs2 : w.heap.size ≤ (w1.alloc (.cells #[.slice p' n c'] 22)).heap.size := b2.size
      generalize w1.alloc (.cells #[.slice p' n c'] 22) = w2 at *
      generalize w1.heap.size = g1 at *
      refine relist #[true, true, true, true, false, true, true, true, false, false, false, false] (by kernel_rfl) ?_
      refine any_one (i := 4) (by kernel_rfl) ?_
      refine wpOp_val (v := .slice none 0 0) (w' := w2) rfl rfl (by have e := hc2; go_simp) ?_
      refine ⟨trivial, ?_⟩
      simp only [Act.put, List.getElem_toArray, List.getElem_cons_zero, List.getElem_cons_succ, List.setIfInBounds_toArray, List.set_cons_zero, List.set_cons_succ]
      refine relist #[true, true, true, true, true, true, true, true, false, false, false, false] (by kernel_rfl) ?_
      refine any_one (i := 8) (by kernel_rfl) ?_
      obtain ⟨ga, cap, w3, hr, ho3, hgr, _, _⟩ := run_append_lies (P := Tryd.prog) w2 47 47 w.heap.size 22 i22 (.slice none 0 0) 1 24 Tryd.underlying47 hi22 hz hsz hby rfl (by omega) (.slice none 0 0) 0 [] (World.ownsRow_nil _ _ _ _)
        ⟨g1, 0, none⟩ 1 1 [.slice p' n c'] rfl (fun j u hu => by
          have e : j = 0 := by
            have := (List.getElem?_eq_some_iff.1 hu).1
            simp at this; omega
          subst e
          rw [addr_add, cell_of_row _ _ _ _ _ _ h2]
          simpa using hu) (fun u hu => by simp only [List.mem_singleton] at hu; subst hu; rfl) (by omega) (by unfold maxLen; omega) (by omega) hs2 _ rfl
      refine wpOp_app rfl rfl (.tmp 27) (.tmp 30) 47 47 rfl (.slice none 0 0) (.slice (some ⟨g1, 0, none⟩) 1 1) rfl rfl hr ?_
      have b3 : ∀ B w0, B ≤ w2.heap.size → Below B w0 w2 → Below B w0 w3 := fun B w0 hB hb => hb.grown hgr hB (fun k hk => by cases hk)
      have hg2 : g < w2.heap.size := Nat.lt_of_lt_of_le hgl hs2
      have e3 : w3.heap[g]? = w2.heap[g]? := hgr.block g hg2 (by simp [Value.ownBlock])
      have hc3 : w3.cell? ⟨g, 1, none⟩ = some (.slice none 0 0) := by rw [World.cell?_of_block (w := w2) e3]; exact hc2
      have hf3 : w3.frozen? ⟨g, 1, none⟩ = false := by
        rw [World.frozen?_of_block (w := w2) e3, World.frozen?_of_block (w := w) (b2.block g hgl)]
        exact frozen_of_row w g 1 _ _ hg
      refine ⟨trivial, ?_⟩
      simp only [Act.put, List.getElem_toArray, List.getElem_cons_zero, List.getElem_cons_succ, List.setIfInBounds_toArray, List.set_cons_zero, List.set_cons_succ]
      refine wpAnyH_take (i := 9) (v := .pointer (some ⟨g, 0, none⟩)) rfl (by kernel_rfl) (by kernel_rfl) (by kernel_rfl) (fun _ _ _ h => h) (.inl ⟨rfl, fun W _ => by go_simp⟩) trivial ?_
      simp only [Act.put, List.getElem_toArray, List.getElem_cons_zero, List.getElem_cons_succ, List.setIfInBounds_toArray, List.set_cons_zero, List.set_cons_succ]
      refine wpAnyH_take (i := 10) (v := .pointer (some ⟨g, 1, none⟩)) rfl (by kernel_rfl) (by kernel_rfl) (by kernel_rfl) (fun _ _ _ h => h) (.inl ⟨rfl, fun W _ => by go_simp⟩) trivial ?_
      simp only [Act.put, List.getElem_toArray, List.getElem_cons_zero, List.getElem_cons_succ, List.setIfInBounds_toArray, List.set_cons_zero, List.set_cons_succ]
      refine relist #[true, true, true, true, true, true, true, true, true, true, true, false] (by kernel_rfl) ?_
      refine any_one (i := 11) (by kernel_rfl) ?_
      refine wpOp_skip (w' := w3.setCell ⟨g, 1, none⟩ (.slice (some ⟨ga, 0, none⟩) (0 + 1) cap)) rfl rfl (by go_simp) ?_
      refine ⟨trivial, ?_⟩
      simp only [Act.put, List.getElem_toArray, List.getElem_cons_zero, List.getElem_cons_succ, List.setIfInBounds_toArray, List.set_cons_zero, List.set_cons_succ]
      refine wpAnyH_done (by kernel_rfl) ?_ _
      refine NoPanic.normal ?_
      have HB : Hid (∀ B w0, B ≤ g → B ≤ w.heap.size → Below B w0 w → Below B w0 (w3.setCell ⟨g, 1, none⟩ (.slice (some ⟨ga, 0, none⟩) (0 + 1) cap))) := fun B w0 h1 h2 h3 => (b3 B w0 (by omega) (h3.trans (b2.mono h2))).setCell h1 _
      clear hc hcd hc1 hc2 hc3 hf3 b1 b1' b2 b3 hgr hr
      generalize w3.setCell ⟨g, 1, none⟩ (.slice (some ⟨ga, 0, none⟩) (0 + 1) cap) = w4 at *
      go_wp2_with fail
      go_ret2
      exact ⟨rfl, HB.out⟩
end Go.Proofs.YtcmjlhcpoajbkaaDoor
