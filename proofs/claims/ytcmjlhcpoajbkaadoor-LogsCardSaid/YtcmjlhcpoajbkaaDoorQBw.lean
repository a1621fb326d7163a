import Derived.Shelf.Strings.Builder1
import Derived.Test.YtcmjlhcpoajbkaaDoorQAp
namespace Go.Proofs.YtcmjlhcpoajbkaaDoor
set_option maxRecDepth 100000
set_option linter.unusedSimpArgs false
open Go.RowKit
/-- A builder: its own address (or none yet), its bytes in a row of one's own, beyond B. -/
structure Bld (w : World) (B g : Nat) (xs : List Int) : Prop where
  base : g < B
  size : B ≤ w.heap.size
  bytes : Bytes xs
  at_ : ∃ ad v, w.heap[g]? = some (.cells #[ad, v] 132) ∧ (ad = .pointer none ∨ ad = .pointer (some ⟨g, 0, none⟩)) ∧ w.ownsRow B 5 1 v xs.length (xs.map (Value.int .u8))
theorem sizeBld : ∃ j, Tryd.prog.info? 132 = some j ∧ j.size = 2 := ⟨_, rfl, by kernel_rfl⟩
theorem copyCheck_fresh (w : World) (g : Nat) (v : Value) (h : w.heap[g]? = some (.cells #[.pointer none, v] 132)) :
    Calls Tryd.prog 105 #[.pointer (some ⟨g, 0, none⟩)] w fun e w' => e = .returned (.tuple #[]) ∧ w' = w.setCell ⟨g, 0, none⟩ (.pointer (some ⟨g, 0, none⟩)) := by
  have hc : w.cell? ⟨g, 0, none⟩ = some (.pointer none) := by rw [cell_of_row _ _ _ _ _ _ h]; rfl
  have hf := frozen_of_row w g 0 _ _ h
  obtain ⟨j, hj, hjs⟩ := sizeBld
  have hsh : w.shape? g = some (132, 2) := by simp [World.shape?, h]
  have c1 : (convert 130 178 (.pointer (some ⟨g, 0, none⟩))).run Tryd.prog w = .ok (.pointer (some ⟨g, 0, none⟩)) w := Lib.run_to_unsafe w ⟨g, 0, none⟩ Tryd.underlying130 Tryd.underlying178 hj (by rw [hjs]; decide) hsh (Nat.zero_lt_succ 1)
  have c2 : (convert 178 130 (.pointer (some ⟨g, 0, none⟩))).run Tryd.prog w = .ok (.pointer (some ⟨g, 0, none⟩)) w := Lib.run_from_unsafe w ⟨g, 0, none⟩ Tryd.underlying178 Tryd.underlying130 hj hsh (by kernel_rfl)
  go_enter Tryd.func105, Tryd.ntmps105
  go_wp2_with fail
  rw [run_callFunc_extern Tryd.func122 (by kernel_rfl) (by kernel_rfl) (by kernel_rfl) (e := Extern.AbiNoEscape.same) (by kernel_rfl)]
  rw [Lib.run_noEscape]
  simp only [Result.andThen]
  rw [Oper.upon_value]
  go_wp2_with fail
  go_end0
  exact ⟨rfl, rfl⟩
theorem copyCheck_used (w : World) (g : Nat) (v : Value) (h : w.heap[g]? = some (.cells #[.pointer (some ⟨g, 0, none⟩), v] 132)) :
    Calls Tryd.prog 105 #[.pointer (some ⟨g, 0, none⟩)] w fun e w' => e = .returned (.tuple #[]) ∧ w' = w := by
  have hc : w.cell? ⟨g, 0, none⟩ = some (.pointer (some ⟨g, 0, none⟩)) := by rw [cell_of_row _ _ _ _ _ _ h]; rfl
  obtain ⟨j, hj, hjs⟩ := sizeBld
  go_enter Tryd.func105, Tryd.ntmps105
  go_wp2_with fail
  rw [Lib.run_neq_ptr_same w _ Tryd.underlying130 hj]
  go_wp2_with fail
  go_end0
  exact ⟨rfl, rfl⟩
/-- Nothing below B has changed but the block g. -/
def KpG (B g : Nat) (w w' : World) : Prop := Kp (fun k => k = g ∨ B ≤ k) w w'
theorem Bld.below {w w' : World} {B g : Nat} {xs : List Int} (h : Bld w B g xs) (hb : Below w.heap.size w w') : Bld w' B g xs := by
  obtain ⟨h1, h2, h3, ad, v, h4, h5, h6⟩ := h
  refine ⟨h1, Nat.le_trans h2 hb.size, h3, ad, v, (hb.block g (row_lt h4)).trans h4, h5, ?_⟩
  obtain ⟨e1, e2 | ⟨q, cap, cur, hv, hg, hh, r⟩⟩ := h6
  · exact ⟨e1, .inl e2⟩
  · exact ⟨e1, .inr ⟨q, cap, cur, hv, hg, (hb.block q (row_lt hh)).trans hh, r⟩⟩
theorem Bld.used {w : World} {B g : Nat} {xs : List Int} (h : Bld w B g xs) :
    Calls Tryd.prog 105 #[.pointer (some ⟨g, 0, none⟩)] w fun e w' => e = .returned (.tuple #[]) ∧ Kp (fun k => k = g) w w' ∧ B ≤ w'.heap.size ∧ ∃ v, w'.heap[g]? = some (.cells #[.pointer (some ⟨g, 0, none⟩), v] 132) ∧ w'.ownsRow B 5 1 v xs.length (xs.map (Value.int .u8)) := by
  obtain ⟨h1, h2, h3, ad, v, h4, h5 | h5, h6⟩ := h
  · subst h5
    refine (copyCheck_fresh w g v h4).mono ?_
    rintro e w' ⟨rfl, rfl⟩
    refine ⟨rfl, ⟨rfl, rfl, rfl, by simp [World.setCell], fun k hk hx => Below.heap_setCell _ _ _ _ (fun e => hx e)⟩, by simpa [World.setCell] using h2, v, ?_, ?_⟩
    · have := heap_setCell_same w g 0 _ _ (.pointer (some ⟨g, 0, none⟩)) h4
      simpa using this
    · obtain ⟨e1, e2 | ⟨q, cap, cur, hv, hg, hh, r⟩⟩ := h6
      · exact ⟨e1, .inl e2⟩
      · exact ⟨e1, .inr ⟨q, cap, cur, hv, hg, (Below.heap_setCell _ _ _ _ (by show q ≠ g; omega)).trans hh, r⟩⟩
  · subst h5
    refine (copyCheck_used w g v h4).mono ?_
    rintro e w' ⟨rfl, rfl⟩
    exact ⟨rfl, ⟨rfl, rfl, rfl, Nat.le_refl _, fun _ _ _ => rfl⟩, h2, v, h4, h6⟩
end Go.Proofs.YtcmjlhcpoajbkaaDoor
namespace Go.Proofs.YtcmjlhcpoajbkaaDoor
set_option maxRecDepth 100000
set_option linter.unusedSimpArgs false
open Go.RowKit
theorem two_cell1 {w : World} {g : Nat} {a v : Value} {t : TypeId} (h : w.heap[g]? = some (.cells #[a, v] t)) : w.cell? ⟨g, 1, none⟩ = some v := by rw [cell_of_row _ _ _ _ _ _ h]; rfl
/-- What append does to a row, of this many bytes more. -/
theorem app8_world (w : World) (B : Nat) (v : Value) (xs : List Int) (hown : w.ownsRow B 5 1 v xs.length (xs.map (Value.int .u8))) (hB : B ≤ w.heap.size) (p : Option Addr) (n c : Nat) (ys : List Int) (hi : In8 w p n c ys) (hlen : xs.length + n ≤ 1000000) :
    ∃ v' w', (Builtin.append_ #[22, 22] 22 #[v, .slice p n c]).run Tryd.prog w = .ok v' w' ∧ w'.ownsRow B 5 1 v' (xs ++ ys).length ((xs ++ ys).map (Value.int .u8)) ∧ w.heap.size ≤ w'.heap.size ∧ (∀ k, k < B → w'.heap[k]? = w.heap[k]?) ∧ w'.os = w.os ∧ w'.tape = w.tape ∧ w'.output = w.output ∧ (∃ q m d, v' = .slice q m d) := by
  have hl := hi.len
  obtain ⟨i5, hi5, hz, hsz, hby⟩ := info5'
  rcases Nat.eq_zero_or_pos n with h0 | h0
  · subst h0
    have : ys = [] := List.length_eq_zero_iff.1 hl
    subst this
    rw [List.append_nil]
    obtain ⟨q, cap, rfl, hf, _⟩ := owns_shape hown
    refine ⟨.slice q xs.length cap, w, ?_, hown, Nat.le_refl _, fun _ _ => rfl, rfl, rfl, rfl, _, _, _, rfl⟩
    rcases hown.2 with ⟨h, h'⟩ | ⟨g, cap', cur, h, _, _, hcc, _⟩
    · rw [h'] at h ⊢
      simp only [Value.slice.injEq] at h
      obtain ⟨rfl, _, rfl⟩ := h
      cases p <;> simp [Builtin.append_, run_underlying Tryd.underlying22, sizeOf, typeInfo, hi5, Builtin.lenOf, Builtin.firstCells, storeCells, loadCells, loadCellsFrom]
    · cases h
      cases p <;> simp [Builtin.append_, run_underlying Tryd.underlying22, sizeOf, typeInfo, hi5, Builtin.lenOf, Builtin.firstCells, storeCells, loadCells, loadCellsFrom, hf]
  · obtain ⟨gs, off, rfl, hgs, hcs⟩ := hi.lies (by omega)
    obtain ⟨ga, cap, w3, hr, ho3, hgr, hwh, hga⟩ := run_append_lies (P := Tryd.prog) w 22 22 B 5 i5 (.int .u8 0) 1 1 Tryd.underlying22 hi5 hz hsz hby rfl (by omega) v xs.length (xs.map (Value.int .u8)) hown
      ⟨gs, off, none⟩ n c (ys.map (Value.int .u8)) (by simp [hl]) (fun j u hu => by
        have hj : j < ys.length := by
          have := (List.getElem?_eq_some_iff.1 hu).1
          simpa using this
        rw [addr_add, hcs j hj]
        rw [List.getElem?_map, List.getElem?_eq_getElem hj] at hu
        simp only [Option.map_some, Option.some.injEq] at hu
        rw [← hu, List.getD_eq_getElem?_getD, List.getElem?_eq_getElem hj]; rfl) (fun u hu => by simp only [List.mem_map] at hu; obtain ⟨y, _, rfl⟩ := hu; rfl) h0 (by unfold maxLen; omega) (by omega) hB _ rfl
    refine ⟨_, w3, hr, ?_, hgr.size, fun k hk => hgr.block k (by omega) (fun e => ?_), hgr.os, hgr.tape, hgr.output, _, _, _, rfl⟩
    · rw [List.length_append, List.map_append, hl]; exact ho3
    · rcases hown.2 with ⟨rfl, _⟩ | ⟨g', c', cur, rfl, hg', _⟩
      · cases e
      · simp only [Value.ownBlock, Option.some.injEq] at e; omega
theorem wpList_appRun {P : Program} {ops : Array Oper} {rest : List Oper} {o : Oper} {a : Act} {Q : Exit → Act → World → Prop} {w w' : World} {v : Value} (hgd : o.guard = none) (s x : Operand) (t t' : TypeId)
    (ho : o.op = .call { callee := .builtin .append, args := #[s, x], argTypes := #[t, t'] }) (vs vx : Value) (hs : a.eval s = vs) (hx : a.eval x = vx)
    (hr : (Builtin.append_ #[t, t'] o.type #[vs, vx]).run P w = .ok v w') (h : wpList P ops Q rest (a.put o.dst v) w') : wpList P ops Q (o :: rest) a w := by
  refine wpList_plain hgd fun _ hK => ?_
  unfold Oper.wp execOp
  simp only [ho, resolve, invoke, builtin, Sem.run_bind, Sem.run_pure, Result.andThen_ok, List.map_toArray, List.map_cons, List.map_nil, hs, hx, hr]
  exact hK _ _ h
set_option maxHeartbeats 2000000 in
theorem write_any (w : World) (B g : Nat) (xs : List Int) (h : Bld w B g xs) (p : Option Addr) (n c : Nat) (ys : List Int) (hi : In8 w p n c ys) (hp : 0 < n → ∀ ad, p = some ad → ad.block ≠ g) (hlen : xs.length + n ≤ 1000000) :
    Calls Tryd.prog 80 #[.pointer (some ⟨g, 0, none⟩), .slice p n c] w fun e w' => (∃ v, e = .returned v) ∧ Bld w' B g (xs ++ ys) ∧ KpG B g w w' := by
  have hbase := h.base
  have hxb := h.bytes
  have HB : Hid (Bld w B g xs) := h
  clear h
  go_enter Tryd.func80, Tryd.ntmps80
  go_wp2_with fail
  refine Calls.mono HB.out.used ?_
  rintro e w1 ⟨rfl, k1, hs1, v, hg, ho⟩
  have hi1 : In8 w1 p n c ys := by
    rcases Nat.eq_zero_or_pos n with hz | hz
    · exact ⟨hi.len, hi.bytes, hi.fits, hi.room, hi.small, fun h0 => by have := hi.len; omega⟩
    · exact hi.same k1.size (fun ad ha hl => k1.block _ hl (fun hx => hp hz ad ha hx))
  obtain ⟨v', w2, hr, ho2, hs2, hblk, hos, htp, hou, q', m', d', rfl⟩ := app8_world w1 B v xs ho hs1 p n c ys hi1 hlen
  obtain ⟨q0, cap0, rfl, _, _⟩ := owns_shape ho
  have hg2 : w2.heap[g]? = some (.cells #[.pointer (some ⟨g, 0, none⟩), .slice q0 xs.length cap0] 132) := (hblk g hbase).trans hg
  have hc1 := two_cell1 hg
  have hc2 := two_cell1 hg2
  have hf2 := frozen_of_row w2 g 1 _ _ hg2
  have hyb := hi.bytes
  have HBF : Hid (Bld (w2.setCell ⟨g, 1, none⟩ (.slice q' m' d')) B g (xs ++ ys)) := by
    refine ⟨hbase, by have : B ≤ w2.heap.size := Nat.le_trans hs1 hs2; simpa [World.setCell] using this, .of fun y hy => ?_, .pointer (some ⟨g, 0, none⟩), .slice q' m' d', two_setCell hg2, .inr rfl, ?_⟩
    · rcases List.mem_append.1 hy with e | e
      · exact hxb.mem y e
      · exact hyb.mem y e
    · obtain ⟨e1, e2 | ⟨q, cap, cur, hv, hgq, hh, r⟩⟩ := ho2
      · exact ⟨e1, .inl e2⟩
      · exact ⟨e1, .inr ⟨q, cap, cur, hv, hgq, (Below.heap_setCell _ _ _ _ (by show q ≠ g; omega)).trans hh, r⟩⟩
  have HK : Hid (KpG B g w (w2.setCell ⟨g, 1, none⟩ (.slice q' m' d'))) := by
    refine ⟨hos.trans k1.os, htp.trans k1.tape, hou.trans k1.output, ?_, fun k hk hx => ?_⟩
    · have : w.heap.size ≤ w2.heap.size := Nat.le_trans k1.size hs2
      simpa [World.setCell] using this
    · rw [Below.heap_setCell _ _ _ _ (fun e => hx (.inl e)), hblk k (by rcases Nat.lt_or_ge k B with h | h; exact h; exact absurd (.inr h) hx)]
      exact k1.block k hk (fun e => hx (.inl e))
  clear ho ho2 hblk hg hg2 HB k1 hi hi1
  go_wp2_with (first
    | (at_builtin
       refine wpList_appRun rfl (.tmp 12) (.tmp 13) 22 22 rfl _ _ rfl rfl hr ?_))
  go_ret2
  exact ⟨⟨_, rfl⟩, HBF.out, HK.out⟩
theorem cells5 : Tryd.prog.cellsOf 5 = 1 := by kernel_rfl
set_option maxHeartbeats 2000000 in
/-- What String tells (of at least one byte). -/
theorem string_any (w : World) (B g : Nat) (xs : List Int) (h : Bld w B g xs) (h0 : 0 < xs.length) (hs : xs.length ≤ 1000000) (B0 : Nat) (hB0 : B0 ≤ B) :
    Calls Tryd.prog 82 #[.pointer (some ⟨g, 0, none⟩)] w fun e w' => e = .returned (.string ⟨(toU xs).toArray⟩) ∧ Below B0 w w' := by
  obtain ⟨h1, h2, h3, ad, v, h4, _, h6⟩ := h
  obtain ⟨q, cap, cur, rfl, hg, hh, hnc, hcm, hcs, htake⟩ := h6.2.resolve_left (fun h => by omega)
  have c0 := two_cell1 h4
  have c1 : w.drew.cell? ⟨g, 1, none⟩ = some (.slice (some ⟨q, 0, none⟩) xs.length cap) := c0
  have hul : (toU xs).length = xs.length := toU_len xs
  have hSD : (Builtin.unsafeSliceData_ #[22] 164 #[.slice (some ⟨q, 0, none⟩) xs.length cap]).run Tryd.prog w.drew = .ok (.pointer (some ⟨q, 0, none⟩)) w.drew := Lib.run_unsafeSliceData_row _ _ _ _ _ _ (by omega)
  obtain ⟨_, _, hv8, _, hq2, _, _, _, hcells⟩ := owns8 h6 h0
  cases hv8
  have hUS : (Builtin.unsafeString_ #[164, 3] 9 #[.pointer (some ⟨q, 0, none⟩), .int .i64 xs.length]).run Tryd.prog w.drew = .ok (.string ⟨(toU xs).toArray⟩) (w.drew.freeze ⟨q, 0, none⟩ xs.length) := by
    have h := Lib.run_unsafeString_row (P := Tryd.prog) w.drew 164 3 9 5 Tryd.underlying164 cells5 q cur.size (by have hg' : w.drew.heap[q]? = some (.cells cur 5 (0, 0)) := hh; simp [World.shape?, hg']) (toU xs) (fun e => by rw [e] at hul; simp at hul; omega) (by rw [hul]; omega) (by rw [hul]; omega) (fun j x hx => by
      have hj : j < xs.length := by have := (List.getElem?_eq_some_iff.1 hx).1; omega
      have hc := hcells j hj
      have hx' : (x.toNat : Int) = xs.getD j 0 := by
        have e := toI_toU xs h3
        have e2 : (toI (toU xs)).getD j 0 = xs.getD j 0 := by rw [e]
        rw [← e2, toI_get (toU xs) j (by omega)]
        rw [List.getElem?_eq_getElem (by omega)] at hx
        simp only [Option.some.injEq] at hx
        rw [hx]
      rw [addr_add, Nat.zero_add, hx']
      exact hc)
    rw [hul] at h
    exact h
  have hbf : Below B0 w (w.drew.freeze ⟨q, 0, none⟩ xs.length) := Lib.below_freeze (Below.drew (Below.refl B0 w)) (p := ⟨q, 0, none⟩) (by show B0 ≤ q; omega) _
  have HBF : Hid (Below B0 w (w.drew.freeze ⟨q, 0, none⟩ xs.length)) := hbf
  clear hcells hbf htake hh h6 h4
  go_enter Tryd.func82, Tryd.ntmps82
  go_wp2_with fail
  go_region
  all_goals (go_wp2_with fail)
  all_goals go_ret
  all_goals exact ⟨rfl, HBF.out⟩
end Go.Proofs.YtcmjlhcpoajbkaaDoor
