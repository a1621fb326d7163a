import Derived.Test.YtcmjlhcpoajbkaaDoorQBu
import Derived.Test.YtcmjlhcpoajbkaaDoorQLs
import Derived.Laws.Bits64b
import Derived.Lib.BufferWrite
import Derived.Lib.ConvBytes
namespace Go.Proofs.YtcmjlhcpoajbkaaDoor
set_option maxRecDepth 100000
set_option linter.unusedSimpArgs false
open Go.RowKit
theorem two_cell1 {w : World} {g : Nat} {a v : Value} {t : TypeId} (h : w.heap[g]? = some (.cells #[a, v] t)) : w.cell? ⟨g, 1, none⟩ = some v := by rw [cell_of_row _ _ _ _ _ _ h]; rfl
/-- What append does to a row, of this many bytes more. -/
theorem app8_world (w : World) (B : Nat) (v : Value) (xs : List Int) (hown : w.ownsRow B 5 1 v xs.length (xs.map (Value.int .u8))) (hB : B ≤ w.heap.size) (p : Option Addr) (n c : Nat) (ys : List Int) (hi : In8 w p n c ys) (hlen : xs.length + n ≤ 1000000) :
    ∃ v' w', (Builtin.append_ #[22, 22] 22 #[v, .slice p n c]).run Tryd.prog w = .ok v' w' ∧ w'.ownsRow B 5 1 v' (xs ++ ys).length ((xs ++ ys).map (Value.int .u8)) ∧ w.heap.size ≤ w'.heap.size ∧ (∀ k, k < B → w'.heap[k]? = w.heap[k]?) ∧ w'.os = w.os ∧ w'.tape = w.tape ∧ w'.output = w.output ∧ (∃ q m d, v' = .slice q m d) := by
  have hl := hi.len
  obtain ⟨i5, hi5, hz, hsz, hby⟩ := info5'
  rcases Nat.eq_zero_or_pos n with h0 | h0
  · subst h0
    have : ys = [] := List.length_eq_zero_iff.1 hl
    subst this
    rw [List.append_nil]
    obtain ⟨q, cap, rfl, hf, _⟩ := owns_shape hown
    refine ⟨.slice q xs.length cap, w, ?_, hown, Nat.le_refl _, fun _ _ => rfl, rfl, rfl, rfl, _, _, _, rfl⟩
    rcases hown.2 with ⟨h, h'⟩ | ⟨g, cap', cur, h, _, _, hcc, _⟩
    · rw [h'] at h ⊢
      simp only [Value.slice.injEq] at h
      obtain ⟨rfl, _, rfl⟩ := h
      cases p <;> simp [Builtin.append_, run_underlying Tryd.underlying22, sizeOf, typeInfo, hi5, Builtin.lenOf, Builtin.firstCells, storeCells, loadCells, loadCellsFrom]
    · cases h
      cases p <;> simp [Builtin.append_, run_underlying Tryd.underlying22, sizeOf, typeInfo, hi5, Builtin.lenOf, Builtin.firstCells, storeCells, loadCells, loadCellsFrom, hf]
  · obtain ⟨gs, off, rfl, hgs, hcs⟩ := hi.lies (by omega)
    obtain ⟨ga, cap, w3, hr, ho3, hgr, hwh, hga⟩ := run_append_lies (P := Tryd.prog) w 22 22 B 5 i5 (.int .u8 0) 1 1 Tryd.underlying22 hi5 hz hsz hby rfl (by omega) v xs.length (xs.map (Value.int .u8)) hown
      ⟨gs, off, none⟩ n c (ys.map (Value.int .u8)) (by simp [hl]) (fun j u hu => by
        have hj : j < ys.length := by
          have := (List.getElem?_eq_some_iff.1 hu).1
          simpa using this
        rw [addr_add, hcs j hj]
        rw [List.getElem?_map, List.getElem?_eq_getElem hj] at hu
        simp only [Option.map_some, Option.some.injEq] at hu
        rw [← hu, List.getD_eq_getElem?_getD, List.getElem?_eq_getElem hj]; rfl) (fun u hu => by simp only [List.mem_map] at hu; obtain ⟨y, _, rfl⟩ := hu; rfl) h0 (by unfold maxLen; omega) (by omega) hB _ rfl
    refine ⟨_, w3, hr, ?_, hgr.size, fun k hk => hgr.block k (by omega) (fun e => ?_), hgr.os, hgr.tape, hgr.output, _, _, _, rfl⟩
    · rw [List.length_append, List.map_append, hl]; exact ho3
    · rcases hown.2 with ⟨rfl, _⟩ | ⟨g', c', cur, rfl, hg', _⟩
      · cases e
      · simp only [Value.ownBlock, Option.some.injEq] at e; omega
theorem wpList_appRun {P : Program} {ops : Array Oper} {rest : List Oper} {o : Oper} {a : Act} {Q : Exit → Act → World → Prop} {w w' : World} {v : Value} (hgd : o.guard = none) (s x : Operand) (t t' : TypeId)
    (ho : o.op = .call { callee := .builtin .append, args := #[s, x], argTypes := #[t, t'] }) (vs vx : Value) (hs : a.eval s = vs) (hx : a.eval x = vx)
    (hr : (Builtin.append_ #[t, t'] o.type #[vs, vx]).run P w = .ok v w') (h : wpList P ops Q rest (a.put o.dst v) w') : wpList P ops Q (o :: rest) a w := by
  refine wpList_plain hgd fun _ hK => ?_
  unfold Oper.wp execOp
  simp only [ho, resolve, invoke, builtin, Sem.run_bind, Sem.run_pure, Result.andThen_ok, List.map_toArray, List.map_cons, List.map_nil, hs, hx, hr]
  exact hK _ _ h
set_option maxHeartbeats 2000000 in
theorem write_any (w : World) (B g : Nat) (xs : List Int) (h : Bld w B g xs) (p : Option Addr) (n c : Nat) (ys : List Int) (hi : In8 w p n c ys) (hp : 0 < n → ∀ ad, p = some ad → ad.block ≠ g) (hlen : xs.length + n ≤ 1000000) :
    Calls Tryd.prog 80 #[.pointer (some ⟨g, 0, none⟩), .slice p n c] w fun e w' => (∃ v, e = .returned v) ∧ Bld w' B g (xs ++ ys) ∧ KpG B g w w' := by
  have hbase := h.base
  have hxb := h.bytes
  have HB : Hid (Bld w B g xs) := h
  clear h
  go_enter Tryd.func80, Tryd.ntmps80
  go_wp2_with fail
  refine Calls.mono HB.out.used ?_
  rintro e w1 ⟨rfl, k1, hs1, v, hg, ho⟩
  have hi1 : In8 w1 p n c ys := by
    rcases Nat.eq_zero_or_pos n with hz | hz
    · exact ⟨hi.len, hi.bytes, hi.fits, hi.room, hi.small, fun h0 => by have := hi.len; omega⟩
    · exact hi.same k1.size (fun ad ha hl => k1.block _ hl (fun hx => hp hz ad ha hx))
  obtain ⟨v', w2, hr, ho2, hs2, hblk, hos, htp, hou, q', m', d', rfl⟩ := app8_world w1 B v xs ho hs1 p n c ys hi1 hlen
  obtain ⟨q0, cap0, rfl, _, _⟩ := owns_shape ho
  have hg2 : w2.heap[g]? = some (.cells #[.pointer (some ⟨g, 0, none⟩), .slice q0 xs.length cap0] 132) := (hblk g hbase).trans hg
  have hc1 := two_cell1 hg
  have hc2 := two_cell1 hg2
  have hf2 := frozen_of_row w2 g 1 _ _ hg2
  have hyb := hi.bytes
  have HBF : Hid (Bld (w2.setCell ⟨g, 1, none⟩ (.slice q' m' d')) B g (xs ++ ys)) := by
    refine ⟨hbase, by have : B ≤ w2.heap.size := Nat.le_trans hs1 hs2; simpa [World.setCell] using this, .of fun y hy => ?_, .pointer (some ⟨g, 0, none⟩), .slice q' m' d', two_setCell hg2, .inr rfl, ?_⟩
    · rcases List.mem_append.1 hy with e | e
      · exact hxb.mem y e
      · exact hyb.mem y e
    · obtain ⟨e1, e2 | ⟨q, cap, cur, hv, hgq, hh, r⟩⟩ := ho2
      · exact ⟨e1, .inl e2⟩
      · exact ⟨e1, .inr ⟨q, cap, cur, hv, hgq, (Below.heap_setCell _ _ _ _ (by show q ≠ g; omega)).trans hh, r⟩⟩
  have HK : Hid (KpG B g w (w2.setCell ⟨g, 1, none⟩ (.slice q' m' d'))) := by
    refine ⟨hos.trans k1.os, htp.trans k1.tape, hou.trans k1.output, ?_, fun k hk hx => ?_⟩
    · have : w.heap.size ≤ w2.heap.size := Nat.le_trans k1.size hs2
      simpa [World.setCell] using this
    · rw [Below.heap_setCell _ _ _ _ (fun e => hx (.inl e)), hblk k (by rcases Nat.lt_or_ge k B with h | h; exact h; exact absurd (.inr h) hx)]
      exact k1.block k hk (fun e => hx (.inl e))
  clear ho ho2 hblk hg hg2 HB k1 hi hi1
  go_wp2_with (first
    | (at_builtin
       refine wpList_appRun rfl (.tmp 12) (.tmp 13) 22 22 rfl _ _ rfl rfl hr ?_))
  go_ret2
  exact ⟨⟨_, rfl⟩, HBF.out, HK.out⟩
theorem cells5 : Tryd.prog.cellsOf 5 = 1 := by kernel_rfl
set_option maxHeartbeats 2000000 in
/-- What String tells (of at least one byte). -/
theorem string_any (w : World) (B g : Nat) (xs : List Int) (h : Bld w B g xs) (h0 : 0 < xs.length) (hs : xs.length ≤ 1000000) (B0 : Nat) (hB0 : B0 ≤ B) :
    Calls Tryd.prog 82 #[.pointer (some ⟨g, 0, none⟩)] w fun e w' => e = .returned (.string ⟨(toU xs).toArray⟩) ∧ Below B0 w w' := by
  obtain ⟨h1, h2, h3, ad, v, h4, _, h6⟩ := h
  obtain ⟨q, cap, cur, rfl, hg, hh, hnc, hcm, hcs, htake⟩ := h6.2.resolve_left (fun h => by omega)
  have c0 := two_cell1 h4
  have c1 : w.drew.cell? ⟨g, 1, none⟩ = some (.slice (some ⟨q, 0, none⟩) xs.length cap) := c0
  have hul : (toU xs).length = xs.length := toU_len xs
  have hSD : (Builtin.unsafeSliceData_ #[22] 164 #[.slice (some ⟨q, 0, none⟩) xs.length cap]).run Tryd.prog w.drew = .ok (.pointer (some ⟨q, 0, none⟩)) w.drew := Lib.run_unsafeSliceData_row _ _ _ _ _ _ (by omega)
  obtain ⟨_, _, hv8, _, hq2, _, _, _, hcells⟩ := owns8 h6 h0
  cases hv8
  have hUS : (Builtin.unsafeString_ #[164, 3] 9 #[.pointer (some ⟨q, 0, none⟩), .int .i64 xs.length]).run Tryd.prog w.drew = .ok (.string ⟨(toU xs).toArray⟩) (w.drew.freeze ⟨q, 0, none⟩ xs.length) := by
    have h := Lib.run_unsafeString_row (P := Tryd.prog) w.drew 164 3 9 5 Tryd.underlying164 cells5 q cur.size (by have hg' : w.drew.heap[q]? = some (.cells cur 5 (0, 0)) := hh; simp [World.shape?, hg']) (toU xs) (fun e => by rw [e] at hul; simp at hul; omega) (by rw [hul]; omega) (by rw [hul]; omega) (fun j x hx => by
      have hj : j < xs.length := by have := (List.getElem?_eq_some_iff.1 hx).1; omega
      have hc := hcells j hj
      have hx' : (x.toNat : Int) = xs.getD j 0 := by
        have e := toI_toU xs h3
        have e2 : (toI (toU xs)).getD j 0 = xs.getD j 0 := by rw [e]
        rw [← e2, toI_get (toU xs) j (by omega)]
        rw [List.getElem?_eq_getElem (by omega)] at hx
        simp only [Option.some.injEq] at hx
        rw [hx]
      rw [addr_add, Nat.zero_add, hx']
      exact hc)
    rw [hul] at h
    exact h
  have hbf : Below B0 w (w.drew.freeze ⟨q, 0, none⟩ xs.length) := Lib.below_freeze (Below.drew (Below.refl B0 w)) (p := ⟨q, 0, none⟩) (by show B0 ≤ q; omega) _
  have HBF : Hid (Below B0 w (w.drew.freeze ⟨q, 0, none⟩ xs.length)) := hbf
  clear hcells hbf htake hh h6 h4
  go_enter Tryd.func82, Tryd.ntmps82
  go_wp2_with fail
  go_region
  all_goals (go_wp2_with fail)
  all_goals go_ret
  all_goals exact ⟨rfl, HBF.out⟩
end Go.Proofs.YtcmjlhcpoajbkaaDoor
namespace Go.Proofs.YtcmjlhcpoajbkaaDoor
set_option maxRecDepth 10000
set_option linter.unusedSimpArgs false
open Go.RowKit
/-- The 32 bytes behind an entry in a file. -/
def sealP (key s e : List Int) : List Int := tagP KS HS key (s ++ e)
theorem sealP_len (key s e : List Int) : (sealP key s e).length = 32 := tagP_len _ _ _ _
theorem sealP_bytes (key s e : List Int) : Bytes (sealP key s e) := finP_bytes _ _ _ _
set_option maxHeartbeats 2000000 in
theorem sealOf_any (w : World) (hT : Tabs KS HS w) (p : Option Addr) (m c : Nat) (key : List Int) (hi : In8 w p m c key) (R : List Int) (hl : R.length = 32) (hb : Bytes R) (q : Option Addr) (n d : Nat) (e : List Int) (he : In8 w q n d e) (hn : n ≤ 1000) :
    Calls Tryd.prog 79 #[.slice p m c, .agg (A8 R), .slice q n d] w fun ex w' => ex = .returned (.agg (A8 (sealP key R e))) ∧ Below w.heap.size w w' := by
  have hb0 := below2 w (.cells (A8 R) 25) (.cells Z8x32 25)
  have V0 := heap2 w (.cells (A8 R) 25) (.cells Z8x32 25)
  have hel := he.len
  have ec := cat2 R e
  have B1 : Below w.heap.size w (((w.alloc (.cells (A8 R) 25)).alloc (.cells Z8x32 25)).alloc (.cells #[.slice (some ⟨w.heap.size, 0, none⟩) 32 32, .slice q n d] 22)) := hb0.alloc (by have := hb0.size; simp; omega) _
  have h2' := heapN ((w.alloc (.cells (A8 R) 25)).alloc (.cells Z8x32 25)) (.cells #[.slice (some ⟨w.heap.size, 0, none⟩) 32 32, .slice q n d] 22) _ rfl
  have r2 : (((w.alloc (.cells (A8 R) 25)).alloc (.cells Z8x32 25)).alloc (.cells #[.slice (some ⟨w.heap.size, 0, none⟩) 32 32, .slice q n d] 22)).heap[w.heap.size]? = some (.cells (A8 R) 25) := (heapO _ _ _ (row_lt V0.1)).trans V0.1
  have d2 : Dg (((w.alloc (.cells (A8 R) 25)).alloc (.cells Z8x32 25)).alloc (.cells #[.slice (some ⟨w.heap.size, 0, none⟩) 32 32, .slice q n d] 22)) (w.heap.size + 1) Z32 := ⟨rfl, (heapO _ _ _ (row_lt V0.2)).trans V0.2⟩
  go_enter Tryd.func79, Tryd.ntmps79
  go_wp2_with fail
  simp only [World.size_alloc] at h2'
  refine (concat_any (w.heap.size + 1 + 1) 2 (pf2 (some ⟨w.heap.size, 0, none⟩) q) (nf2 32 n) (nf2 32 d) (xf2 R e) (((w.alloc (.cells (A8 R) 25)).alloc (.cells Z8x32 25)).alloc (.cells #[.slice (some ⟨w.heap.size, 0, none⟩) 32 32, .slice q n d] 22)) (by omega) ?_ ?_ (by rw [ec, List.length_append]; omega) (by rw [ec, List.length_append]; omega)).mono ?_
  · intro i hi'
    rw [cell_of_row _ _ _ _ _ _ h2']
    rcases i with _ | _ | i
    · rfl
    · rfl
    · omega
  · intro i hi'
    rcases i with _ | _ | i
    · exact in8_blk (n := 32) hl hb (by omega) r2
    · exact he.below B1
    · omega
  rintro ex w3 ⟨p3, n3, c3, rfl, b3, hi3⟩
  rw [ec] at hi3
  have B3 : Below w.heap.size w w3 := B1.trans (b3.mono B1.size)
  have d3 : Hid (Dg w3 (w.heap.size + 1) Z32) := d2.next b3
  have HI3 : Hid (In8 w3 p3 n3 c3 (R ++ e)) := hi3
  clear hi3 b3 B1 h2' r2 d2 V0 hb0
  go_wp2_with fail
  refine (tag_any KS HS w3 (hT.below B3) p p3 m c n3 c3 key (R ++ e) (hi.below B3) HI3.out).mono ?_
  rintro ex w4 ⟨rfl, b4⟩
  have B4 : Below w.heap.size w w4 := B3.trans (b4.mono B3.size)
  have d4 : Hid (Dg w4 (w.heap.size + 1) Z32) := d3.out.next b4
  have hkl := sealP_len key R e
  have es : tagP KS HS key (R ++ e) = sealP key R e := rfl
  rw [es]
  obtain ⟨D, hD⟩ : ∃ D, sealP key R e = D := ⟨_, rfl⟩
  have HD : Hid (sealP key R e = D) := hD
  rw [hD] at hkl ⊢
  clear hD es b4 d3 HI3 B3
  go_wp2_with (first
    | (with_reducible refine atStore 25 ?_
       refine store_D rfl _ _ rfl (w.heap.size + 1) D rfl rfl Z32 d4.out hkl ?_
       intro U hU))
  exact bodyPost_ret (results_D rfl _ _ (w.heap.size + 1) D rfl (hU.dg hkl)) rfl ⟨by rw [HD.out], hU.below _ _ (by omega) B4⟩
/-- The seal and the file, entry by entry. -/
def sealU (key : List Int) (es : List (List Int)) : Nat → List Int
  | 0 => Z32
  | k + 1 => sealP key (sealU key es k) (es.getD k [])
def saveU (key : List Int) (es : List (List Int)) : Nat → List Int
  | 0 => []
  | k + 1 => saveU key es k ++ (longI ((es.getD k []).length : Nat) 4 ++ (es.getD k [] ++ sealU key es (k + 1)))
def saveP (key : List Int) (es : List (List Int)) : List Int := saveU key es es.length
theorem sealU_ok (key : List Int) (es : List (List Int)) (k : Nat) : (sealU key es k).length = 32 ∧ Bytes (sealU key es k) := by
  cases k with
  | zero => exact ⟨rfl, Z32_bytes⟩
  | succ k => exact ⟨sealP_len _ _ _, sealP_bytes _ _ _⟩
theorem saveU_len (key : List Int) (es : List (List Int)) (h : ∀ k, (es.getD k []).length ≤ 300) : ∀ k, (saveU key es k).length ≤ k * 336 := by
  intro k
  induction k with
  | zero => simp [saveU]
  | succ k ih =>
    have h1 := h k
    have h2 := (sealU_ok key es (k + 1)).1
    have h3 := longI_len ((es.getD k []).length : Nat) 4
    simp only [saveU, List.length_append, h2, h3]
    omega
theorem in8_dg {w : World} {g : Nat} {D : List Int} (h : Dg w g D) (hb : Bytes D) : In8 w (some ⟨g, 0, none⟩) 32 32 D := in8_blk (n := 32) h.len hb (by omega) h.here
theorem KpG.dg {B g k : Nat} {w w' : World} {D : List Int} (h : KpG B g w w') (hd : Dg w k D) (h1 : k < B) (h2 : k ≠ g) : Dg w' k D := ⟨hd.len, (h.block k hd.lt (fun hx => by rcases hx with hx | hx; exact h2 hx; omega)).trans hd.here⟩
set_option maxHeartbeats 8000000 in
theorem save_any (w : World) (hT : Tabs KS HS w) (g : Nat) (key : List Int) (es : List (List Int)) (hL : LogR w g key es) (hne : 1 ≤ es.length) :
    Calls Tryd.prog 39 #[.pointer (some ⟨g, 0, none⟩)] w fun e w' => e = .returned (.string ⟨(toU (saveP key es)).toArray⟩) ∧ Below w.heap.size w w' := by
  obtain ⟨⟨kp, kn, kc, hk0, hkI⟩, ⟨ep, ec, he0, hE, _⟩, hfew⟩ := hL
  obtain ⟨eb, eo, rfl, hebl, hec⟩ := hE.lies (by omega)
  have hfit := hE.fits
  have hroom := hE.room
  have he300 : Hid (∀ k, (es.getD k []).length ≤ 300) := fun k => by
    rcases Nat.lt_or_ge k es.length with h | h
    · obtain ⟨p', n', c', _, h2, h3⟩ := hec k h
      have := h2.len; omega
    · rw [List.getD_eq_getElem?_getD, List.getElem?_eq_none h]; simp
  have HEC : Hid (∀ i, i < es.length → ∃ p' n' c', w.cell? ⟨eb, eo + i, none⟩ = some (.slice p' n' c') ∧ In8 w p' n' c' (es.getD i []) ∧ n' ≤ 300) := hec
  clear hec hE
  have hb0 := below2 w (.cells #[.pointer none, .slice none 0 0] 132) (.cells Z8x32 25)
  have V0 := heap2 w (.cells #[.pointer none, .slice none 0 0] 132) (.cells Z8x32 25)
  have HB0 : Hid (Bld ((w.alloc (.cells #[.pointer none, .slice none 0 0] 132)).alloc (.cells Z8x32 25)) (w.heap.size + 2) w.heap.size (saveU key es 0)) :=
    ⟨by omega, by simp, fun j => by simp [saveU], .pointer none, .slice none 0 0, V0.1, .inl rfl, rfl, .inl ⟨rfl, rfl⟩⟩
  have HD0 : Hid (Dg ((w.alloc (.cells #[.pointer none, .slice none 0 0] 132)).alloc (.cells Z8x32 25)) (w.heap.size + 1) (sealU key es 0)) := ⟨rfl, V0.2⟩
  have HBL : Hid (Below w.heap.size w ((w.alloc (.cells #[.pointer none, .slice none 0 0] 132)).alloc (.cells Z8x32 25))) := hb0
  have hcw := fun o1 o2 => cell_alloc (cell_alloc he0 o1) o2
  clear hb0 V0
  go_enter Tryd.func39, Tryd.ntmps39
  go_wp2_with fail
  go_loopw [12] (fun i wr => ∃ k : Nat, k ≤ es.length ∧ i = .int .i64 k ∧ Bld wr (w.heap.size + 2) w.heap.size (saveU key es k) ∧ Dg wr (w.heap.size + 1) (sealU key es k) ∧ Below w.heap.size w wr) (fun i _ => es.length - (intOf i).toNat)
  case atStart => exact ⟨0, by omega, rfl, HB0.out, HD0.out, HBL.out⟩
  case round =>
    obtain ⟨k, hk, rfl, hB, hD, hbr⟩ := hrel
    have HB : Hid _ := hB
    have HD : Hid _ := hD
    clear hB hD HB0 HD0 HBL hcw
    have hlen := saveU_len key es he300.out k
    by_cases hlt : k < es.length
    · obtain ⟨q, qn, qc, hcell, hq, hq3⟩ := HEC.out k hlt
      have hcr : wr.cell? ⟨eb, eo + k, none⟩ = some (.slice q qn qc) := by rw [hbr.cell (p := ⟨eb, eo + k, none⟩) hebl]; exact hcell
      have HQ : Hid (In8 w q qn qc (es.getD k [])) := hq
      have hix : ∀ W : World, (Instr.indexAt 47 (.slice (some ⟨eb, eo, none⟩) es.length ec) (.int .i64 k)).run Tryd.prog W = .ok (.pointer (some ⟨eb, eo + k, none⟩)) W := fun W => by
        have h1 : (k : Int) < es.length := by omega
        go_simp
      have hkr : wr.drew.cell? ⟨g, 0, none⟩ = some (.slice kp kn kc) := by
        have : wr.cell? ⟨g, 0, none⟩ = some (.slice kp kn kc) := by rw [hbr.cell (block_lt_of_cell hk0)]; exact hk0
        exact this
      have hgs : g < w.heap.size := by have := block_lt_of_cell hk0; simpa using this
      have hks : ∀ W : World, Below w.heap.size w W → W.cell? ⟨g, 0, none⟩ = some (.slice kp kn kc) := fun W hW => by rw [hW.cell (block_lt_of_cell hk0)]; exact hk0
      clear hq hcell
      go_wp2_with fail
      have hbd : Below w.heap.size w wr.drew := hbr.drew
      have HDd : Dg wr.drew (w.heap.size + 1) (sealU key es k) := ⟨HD.out.len, HD.out.here⟩
      refine wp_region_noPanic ?_
      refine wp_region_held (S := fun W => W.cell? ⟨g, 0, none⟩ = some (.slice kp kn kc)) follows ?_
      refine wpAnyH_take (i := 0) (v := .pointer (some ⟨g, 0, none⟩)) rfl (by kernel_rfl) (by kernel_rfl) (by kernel_rfl) (fun _ _ _ h => h) (.inl ⟨rfl, fun W _ => by go_simp⟩) hkr ?_
      simp only [Act.put, List.getElem_toArray, List.getElem_cons_zero, List.getElem_cons_succ, List.setIfInBounds_toArray, List.set_cons_zero, List.set_cons_succ]
      refine wpAnyH_take (i := 1) (v := .pointer (some ⟨g, 0, none⟩)) rfl (by kernel_rfl) (by kernel_rfl) (by kernel_rfl) (fun _ _ _ h => h) (.inl ⟨rfl, fun W _ => by go_simp⟩) hkr ?_
      simp only [Act.put, List.getElem_toArray, List.getElem_cons_zero, List.getElem_cons_succ, List.setIfInBounds_toArray, List.set_cons_zero, List.set_cons_succ]
      refine wpAnyH_take (i := 2) (v := .pointer (some ⟨g, 0, none⟩)) rfl (by kernel_rfl) (by kernel_rfl) (by kernel_rfl) (fun _ _ _ h => h) (.inl ⟨rfl, fun W _ => by go_simp⟩) hkr ?_
      simp only [Act.put, List.getElem_toArray, List.getElem_cons_zero, List.getElem_cons_succ, List.setIfInBounds_toArray, List.set_cons_zero, List.set_cons_succ]
      refine wpAnyH_take (i := 3) (v := .slice kp kn kc) rfl (by kernel_rfl) (by kernel_rfl) (by kernel_rfl) (fun _ _ _ h => h) (.inl ⟨rfl, fun W hW => by have e := hW; go_simp⟩) hkr ?_
      simp only [Act.put, List.getElem_toArray, List.getElem_cons_zero, List.getElem_cons_succ, List.setIfInBounds_toArray, List.set_cons_zero, List.set_cons_succ]
      refine wpAnyH_take (i := 5) (v := .slice q qn qc) rfl (by kernel_rfl) (by kernel_rfl) (by kernel_rfl) (fun _ _ _ h => h) (.inl ⟨rfl, fun W _ => by go_simp⟩) hkr ?_
      simp only [Act.put, List.getElem_toArray, List.getElem_cons_zero, List.getElem_cons_succ, List.setIfInBounds_toArray, List.set_cons_zero, List.set_cons_succ]
      refine relist #[true, true, true, true, false, true, false, false] (by kernel_rfl) ?_
      refine any_one (i := 4) (by kernel_rfl) ?_
      refine wpOp_load_D rfl rfl (.tmp 4) rfl (w.heap.size + 1) rfl (sealU key es k) HDd ?_
      refine ⟨hkr, ?_⟩
      simp only [Act.put, List.getElem_toArray, List.getElem_cons_zero, List.getElem_cons_succ, List.setIfInBounds_toArray, List.set_cons_zero, List.set_cons_succ]
      refine relist #[true, true, true, true, true, true, false, false] (by kernel_rfl) ?_
      refine any_one (i := 6) (by kernel_rfl) ?_
      refine wpOp_call (f := 79) (args := #[.slice kp kn kc, .agg (A8 (sealU key es k)), .slice q qn qc]) rfl rfl (by go_simp) ?_
      refine (sealOf_any wr.drew (hT.below hbd) kp kn kc key (hkI.below hbd) (sealU key es k) (sealU_ok _ _ _).1 (sealU_ok _ _ _).2 q qn qc (es.getD k []) (HQ.out.below hbd) (by omega)).mono ?_
      rintro ex w1 ⟨rfl, b1⟩
      have es1 : sealP key (sealU key es k) (es.getD k []) = sealU key es (k + 1) := rfl
      rw [es1]
      have B1 : Below w.heap.size w w1 := hbd.trans (b1.mono hbd.size)
      have D1 : Dg w1 (w.heap.size + 1) (sealU key es k) := HDd.next b1
      have HB1 : Bld w1 (w.heap.size + 2) w.heap.size (saveU key es k) := Bld.below (w := wr) HB.out (show Below wr.heap.size wr w1 from (Below.refl _ _).drew.trans b1)
      obtain ⟨hsl, hsb⟩ := sealU_ok key es (k + 1)
      refine ⟨_, rfl, hks _ B1, ?_⟩
      simp only [Act.put, List.getElem_toArray, List.getElem_cons_zero, List.getElem_cons_succ, List.setIfInBounds_toArray, List.set_cons_zero, List.set_cons_succ]
      refine relist #[true, true, true, true, true, true, true, false] (by kernel_rfl) ?_
      refine any_one (i := 7) (by kernel_rfl) ?_
      refine wpOp_store_D rfl rfl (.tmp 4) (.tmp 22) rfl (w.heap.size + 1) (sealU key es (k + 1)) rfl rfl (sealU key es k) D1 hsl ?_
      intro U hU
      have BU : Below w.heap.size w U := hU.below _ _ (by omega) B1
      refine ⟨hks _ BU, ?_⟩
      simp only [Act.put, List.getElem_toArray, List.getElem_cons_zero, List.getElem_cons_succ, List.setIfInBounds_toArray, List.set_cons_zero, List.set_cons_succ]
      refine wpAnyH_done (by kernel_rfl) ?_ _
      refine NoPanic.normal ?_
      have DU : Hid (Dg U (w.heap.size + 1) (sealU key es (k + 1))) := hU.dg hsl
      have HBU : Hid (Bld U (w.heap.size + 2) w.heap.size (saveU key es k)) := by
        obtain ⟨h1, h2, h3, ad, v, h4, h5, h6⟩ := HB1
        refine ⟨h1, by rw [hU.size]; exact h2, h3, ad, v, (hU.other _ (by omega)).trans h4, h5, ?_⟩
        obtain ⟨e1, e2 | ⟨q', cap, cur, hv, hg', hh, r⟩⟩ := h6
        · exact ⟨e1, .inl e2⟩
        · exact ⟨e1, .inr ⟨q', cap, cur, hv, hg', (hU.other _ (by omega)).trans hh, r⟩⟩
      have hql := HQ.out.len
      have hqe : ((es.getD k []).length : Int) = qn := by omega
      have HSV : Hid (saveU key es (k + 1) = saveU key es k ++ (longI ((es.getD k []).length : Nat) 4 ++ (es.getD k [] ++ sealU key es (k + 1)))) := rfl
      rw [hql] at HSV
      clear hU HB1 D1 HDd HB HD b1 B1 hkr hcr hbd
      obtain ⟨SL, hSL⟩ : ∃ SL, sealU key es (k + 1) = SL := ⟨_, rfl⟩
      have HSL : Hid (sealU key es (k + 1) = SL) := hSL
      rw [hSL] at DU hsl hsb HSV ⊢
      clear hSL
      generalize saveU key es k = SF at *
      have hu : IntKind.u64.wrap (qn : Int) = qn := by simp only [IntKind.wrap, IntKind.bits, IntKind.signed]; simp; omega
      go_wp2_with fail
      refine (highest_any (qn : Int) 4 U (by omega)).mono ?_
      rintro ex w2 ⟨rfl, b2, hg2⟩
      have B2 := BU.trans (b2.mono BU.size)
      have HB2 : Hid (Bld w2 (w.heap.size + 2) w.heap.size SF) := HBU.out.below b2
      have D2 : Hid (Dg w2 (w.heap.size + 1) SL) := DU.out.next b2
      have I2 : In8 w2 (some ⟨U.heap.size, 0, none⟩) 4 4 (longI qn 4) := in8_blk (n := 4) (longI_len _ _) (longI_bytes _ _) (by omega) hg2
      have hUs := HBU.out.size
      clear HBU DU b2 hg2
      go_wp2_with fail
      refine (write_any w2 _ _ SF HB2.out _ 4 4 (longI qn 4) I2 (fun _ ad ha => by cases ha; show U.heap.size ≠ _; omega) (by omega)).mono ?_
      rintro ex w3 ⟨⟨v3, rfl⟩, HB3, k3⟩
      have B3 : Below w.heap.size w w3 := Kp.below k3 (fun k hk => by rcases hk with hk | hk <;> omega) B2.size B2
      have D3 : Hid (Dg w3 (w.heap.size + 1) SL) := k3.dg D2.out (by omega) (by omega)
      have HB3' : Hid _ := HB3
      clear HB2 D2 k3 HB3 I2 B2
      go_wp2_with fail
      refine (write_any w3 _ _ _ HB3'.out q qn qc (es.getD k []) (HQ.out.below B3) (fun h0 ad ha => by
        obtain ⟨gg, off, hp, hlt', _⟩ := HQ.out.lies (by omega)
        rw [hp] at ha; cases ha; show gg ≠ _; omega) (by rw [List.length_append, longI_len]; omega)).mono ?_
      rintro ex w4 ⟨⟨v4, rfl⟩, HB4, k4⟩
      have B4 : Below w.heap.size w w4 := Kp.below k4 (fun k hk => by rcases hk with hk | hk <;> omega) B3.size B3
      have D4 : Hid (Dg w4 (w.heap.size + 1) SL) := k4.dg D3.out (by omega) (by omega)
      have HB4' : Hid _ := HB4
      clear HB3' D3 k4 HB4 B3
      go_wp2_with fail
      refine (write_any w4 _ _ _ HB4'.out (some ⟨w.heap.size + 1, 0, none⟩) 32 32 SL (in8_dg D4.out hsb) (fun _ ad ha => by cases ha; show w.heap.size + 1 ≠ _; omega) (by rw [List.length_append, List.length_append, longI_len]; omega)).mono ?_
      rintro ex w5 ⟨⟨v5, rfl⟩, HB5, k5⟩
      have B5 : Below w.heap.size w w5 := Kp.below k5 (fun k hk => by rcases hk with hk | hk <;> omega) B4.size B4
      have D5 : Hid (Dg w5 (w.heap.size + 1) SL) := k5.dg D4.out (by omega) (by omega)
      have HB5' : Hid (Bld w5 (w.heap.size + 2) w.heap.size (SF ++ (longI (qn : Int) 4 ++ (es.getD k [] ++ SL)))) := by
        have h := HB5
        rw [List.append_assoc, List.append_assoc] at h
        exact h
      clear HB4' D4 k5 HB5 B4
      go_wp2_with fail
      go_roundw
      case rel => exact ⟨k + 1, by omega, by go_num, by rw [HSV.out]; exact HB5'.out, by rw [HSL.out]; exact D5.out, B5⟩
      case measure => simp [intOf]; omega
    · have ek : k = es.length := by omega
      subst ek
      have hpos : 0 < (saveU key es es.length).length := by
        obtain ⟨j, hj⟩ : ∃ j, es.length = j + 1 := ⟨es.length - 1, by omega⟩
        rw [hj]
        have h3 := longI_len ((es.getD j []).length : Nat) 4
        simp only [saveU, List.length_append, h3]
        omega
      go_wp2_with fail
      refine (string_any wr _ _ _ HB.out hpos (by omega) w.heap.size (by omega)).mono ?_
      rintro ex w2 ⟨rfl, b2⟩
      have B2 := hbr.trans b2
      go_wp2_with fail
      go_ret
      exact ⟨rfl, B2⟩
end Go.Proofs.YtcmjlhcpoajbkaaDoor
namespace Go.Proofs.YtcmjlhcpoajbkaaDoor
set_option maxRecDepth 10000
set_option linter.unusedSimpArgs false
open Go.RowKit
/-- A number out of bytes, the highest first. -/
def numN (l : List UInt8) : Nat := l.foldl (fun n b => n * 256 + b.toNat) 0
theorem numN_snoc (l : List UInt8) (b : UInt8) : numN (l ++ [b]) = numN l * 256 + b.toNat := by simp [numN]
theorem fold_lt : ∀ (l : List UInt8) (a : Nat), l.foldl (fun n b => n * 256 + b.toNat) a < (a + 1) * 256 ^ l.length := by
  intro l
  induction l with
  | nil => intro a; simp
  | cons b l ih =>
    intro a
    have h := ih (a * 256 + b.toNat)
    have hb := b.toNat_lt
    rw [List.foldl_cons, List.length_cons, Nat.pow_succ]
    have h2 : (a * 256 + b.toNat + 1) * 256 ^ l.length ≤ ((a + 1) * 256) * 256 ^ l.length := Nat.mul_le_mul_right _ (by omega)
    have h3 : ((a + 1) * 256) * 256 ^ l.length = (a + 1) * (256 ^ l.length * 256) := by rw [Nat.mul_assoc, Nat.mul_comm 256]
    omega
theorem numN_lt (l : List UInt8) (h : l.length ≤ 4) : numN l < 4294967296 := by
  have h1 := fold_lt l 0
  have h2 : 256 ^ l.length ≤ 256 ^ 4 := Nat.pow_le_pow_right (by omega) h
  unfold numN
  omega
theorem wrap_u64 (n : Nat) (h : n < 18446744073709551616) : IntKind.u64.wrap (n : Int) = n := by simp only [IntKind.wrap, IntKind.bits, IntKind.signed]; simp; omega
theorem or_byte (n b : Nat) (hn : n < 4294967296) (h : b < 256) : bits .or .u64 ((n : Int) * 256) (IntKind.u64.wrap (b : Int)) = ((n * 256 + b : Nat) : Int) := by
  have e : n * 256 ||| b = n * 256 + b := by
    have := Nat.shiftLeft_add_eq_or_of_lt (i := 8) (b := b) (by omega) n
    rw [Nat.shiftLeft_eq] at this
    exact this.symm
  have e1 : ((n : Int) * 256) = ((n * 256 : Nat) : Int) := by omega
  rw [e1, wrap_u64 _ (by omega), bits_or_u64_nat _ _ (by omega) (by omega), e]
set_option maxHeartbeats 2000000 in
theorem number_any (l : List UInt8) (hl : l.length ≤ 4) (w : World) :
    Calls Tryd.prog 104 #[.string ⟨l.toArray⟩] w fun e w' => e = .returned (.int .u64 (numN l)) ∧ w' = w := by
  have hsz : (ByteArray.mk l.toArray).size = l.length := by show l.toArray.size = _; simp
  go_enter Tryd.func104, Tryd.ntmps104
  go_wp2_with fail
  go_loop [3, 7] (fun v i => ∃ k : Nat, k ≤ l.length ∧ i = .int .i64 k ∧ v = .int .u64 (numN (l.take k))) (fun _ i => l.length - (intOf i).toNat)
  case atStart => exact ⟨0, by omega, rfl, rfl⟩
  case round =>
    obtain ⟨k, hk, rfl, rfl⟩ := hrel
    by_cases hlt : k < l.length
    · have hlt' : (k : Int) < l.length := by omega
      have hg : l.toArray[k]? = some l[k] := by simp [hlt]
      have hs : l.take (k + 1) = l.take k ++ [l[k]] := List.take_succ_eq_append_getElem hlt
      have hnl := numN_lt (l.take k) (by rw [List.length_take]; omega)
      have HS : Hid (numN (l.take (k + 1)) = numN (l.take k) * 256 + (l[k]).toNat) := by show _ = _; rw [hs, numN_snoc]
      have hbl := (l[k]).toNat_lt
      clear hs
      generalize numN (l.take k) = y at *
      go_wp2_with fail
      go_round
      case rel =>
        refine ⟨k + 1, by omega, by go_num, ?_⟩
        have hb := byte_at l k hlt (by assumption)
        rw [hb, or_byte y _ hnl hbl, HS.out]
      case measure => simp [intOf]; omega
    · go_wp2_with fail
      go_ret
      have e : k = l.length := by omega
      exact ⟨by rw [e, List.take_length]; rfl, rfl⟩
theorem ext_take (f : List UInt8) (k : Nat) : (ByteArray.mk f.toArray).extract 0 k = ⟨(f.take k).toArray⟩ := by
  apply ByteArray.ext
  simp [ByteArray.data_extract]
theorem ext_drop (f : List UInt8) (k n : Nat) (hn : f.length = n) : (ByteArray.mk f.toArray).extract k n = ⟨(f.drop k).toArray⟩ := by
  apply ByteArray.ext
  simp [ByteArray.data_extract, List.extract_eq_take_drop, ← hn]
  rw [List.take_of_length_le (by simp)]
theorem str_front (f : List UInt8) (k : Nat) (hk : k ≤ f.length) (W : World) : (Instr.sliceAt 9 (.string ⟨f.toArray⟩) none (some (.int .i64 (k : Int))) none).run Tryd.prog W = .ok (.string ⟨(f.take k).toArray⟩) W := by
  have hsz : (ByteArray.mk f.toArray).size = f.length := by show f.toArray.size = _; simp
  have h1 : (k : Int) ≤ f.length := by omega
  have h2 : ¬ (k : Int) < 0 := by omega
  have he := ext_take f k
  go_simp
theorem str_back (f : List UInt8) (k : Nat) (hk : k ≤ f.length) (W : World) : (Instr.sliceAt 9 (.string ⟨f.toArray⟩) (some (.int .i64 (k : Int))) none none).run Tryd.prog W = .ok (.string ⟨(f.drop k).toArray⟩) W := by
  have hsz : (ByteArray.mk f.toArray).size = f.length := by show f.toArray.size = _; simp
  have h1 : (k : Int) ≤ f.length := by omega
  have h2 : ¬ (k : Int) < 0 := by omega
  have he := ext_drop f k f.length rfl
  go_simp
end Go.Proofs.YtcmjlhcpoajbkaaDoor
namespace Go.Proofs.YtcmjlhcpoajbkaaDoor
set_option maxRecDepth 10000
set_option linter.unusedSimpArgs false
open Go.RowKit
/-- copy of the first 32 bytes of a string that has them, over a block of 32. -/
theorem copy32 (w : World) (g : Nat) (f : List UInt8) (hf : 32 ≤ f.length) (D : List Int) (h : Dg w g D) :
    ∃ W, (Builtin.copy_ #[22, 9] 3 #[.slice (some ⟨g, 0, none⟩) 32 32, .string ⟨f.toArray⟩]).run Tryd.prog w = .ok (.int .i64 32) W ∧ Stored w W g (A8 (toI (f.take 32))) 25 := by
  obtain ⟨i5, hi5, hz, hsz, hby⟩ := info5'
  have hl : (toI (f.take 32)).length = 32 := by rw [toI_len, List.length_take]; omega
  have hst := run_storeCells_at Tryd.prog g 0 25 ((toI (f.take 32)).map (Value.int .u8)) 0 (A8 D) w h.here (by rw [A8_size, h.len, List.length_map, hl]; omega) (fun v hv => by obtain ⟨y, _, rfl⟩ := List.mem_map.1 hv; rfl)
  have hmin : Nat.min (ByteArray.mk f.toArray).size 32 = 32 := by
    have : (ByteArray.mk f.toArray).size = f.length := by show f.toArray.size = _; simp
    rw [this]; exact Nat.min_eq_right hf
  have htk : List.take 32 (List.map (fun b : UInt8 => Value.int IntKind.u8 (b.toNat : Int)) f) = (toI (f.take 32)).map (Value.int .u8) := by
    simp [toI, List.map_take]
    rfl
  have hrow : (List.take (0 + 0) (A8 D).toList ++ List.map (Value.int IntKind.u8) (toI (f.take 32)) ++ List.drop (0 + 0 + (List.map (Value.int IntKind.u8) (toI (f.take 32))).length) (A8 D).toList).toArray = A8 (toI (f.take 32)) := by
    have hd : List.drop (0 + 0 + (List.map (Value.int IntKind.u8) (toI (f.take 32))).length) (A8 D).toList = [] := List.drop_of_length_le (by have := h.len; simp [A8, hl]; omega)
    rw [hd]
    simp [A8]
  rw [hrow] at hst
  refine ⟨w.setRow g (A8 (toI (f.take 32))), ?_, ⟨setRow_heap _ _ _ _ _ _ h.here, fun _ hk => setRow_other _ _ _ _ hk, setRow_size _ _ _, fun _ _ hB hb => below_setRow hb hB _⟩⟩
  simp [Builtin.copy_, run_underlying Tryd.underlying22, Builtin.lenOf, Builtin.firstCells, sizeOf, typeInfo, hi5, hsz, hmin]
  rw [htk, hst]
  simp [Result.andThen]
  rfl
set_option maxHeartbeats 4000000 in
theorem first_short (f : List UInt8) (a : Nat) (w : World) (h : f.length < 4) :
    Calls Tryd.prog 78 #[.string ⟨f.toArray⟩, .int .i64 a] w fun e w' => e = .returned (.tuple #[.slice none 0 0, .agg (A8 Z32), .int .i64 3]) ∧ Below w.heap.size w w' := by
  have hb0 : Below w.heap.size w (w.alloc (.cells Z8x32 25)) := (Below.refl _ _).alloc (Nat.le_refl _) _
  have d0 : Dg (w.alloc (.cells Z8x32 25)) w.heap.size Z32 := Dg.new w _ rfl
  have hsz : (ByteArray.mk f.toArray).size = f.length := by show f.toArray.size = _; simp
  have h' : (f.length : Int) < 4 := by omega
  have d0d : Dg (w.alloc (.cells Z8x32 25)).drew w.heap.size Z32 := ⟨d0.len, d0.here⟩
  go_enter Tryd.func78, Tryd.ntmps78
  go_wp2_with fail
  refine wp_region_noPanic ?_
  refine wp_region_held (S := fun _ => True) follows ?_
  refine wpAnyH_take (i := 1) (v := .slice none 0 0) rfl (by kernel_rfl) (by kernel_rfl) (by kernel_rfl) (fun _ _ _ h => h) (.inl ⟨rfl, fun W _ => by go_simp⟩) trivial ?_
  simp only [Act.put, List.getElem_toArray, List.getElem_cons_zero, List.getElem_cons_succ, List.setIfInBounds_toArray, List.set_cons_zero, List.set_cons_succ]
  refine relist #[false, true, false, false] (by kernel_rfl) ?_
  refine any_one (i := 0) (by kernel_rfl) ?_
  refine wpOp_load_D rfl rfl (.tmp 5) rfl w.heap.size rfl Z32 d0d ?_
  refine ⟨trivial, ?_⟩
  simp only [Act.put, List.getElem_toArray, List.getElem_cons_zero, List.getElem_cons_succ, List.setIfInBounds_toArray, List.set_cons_zero, List.set_cons_succ]
  refine relist #[true, true, false, false] (by kernel_rfl) ?_
  refine any_one (i := 2) (by kernel_rfl) ?_
  refine wpOp_store_D rfl rfl (.tmp 5) (.tmp 13) rfl w.heap.size Z32 rfl rfl Z32 d0d rfl ?_
  intro U hU
  refine ⟨trivial, ?_⟩
  simp only [Act.put, List.getElem_toArray, List.getElem_cons_zero, List.getElem_cons_succ, List.setIfInBounds_toArray, List.set_cons_zero, List.set_cons_succ]
  refine wpAnyH_take (i := 3) (v := .int .i64 3) rfl (by kernel_rfl) (by kernel_rfl) (by kernel_rfl) (fun _ _ _ h => h) (.inl ⟨rfl, fun W _ => by go_simp⟩) trivial ?_
  simp only [Act.put, List.getElem_toArray, List.getElem_cons_zero, List.getElem_cons_succ, List.setIfInBounds_toArray, List.set_cons_zero, List.set_cons_succ]
  refine wpAnyH_done (by kernel_rfl) ?_ _
  refine NoPanic.normal ?_
  have dU : Hid (Dg U w.heap.size Z32) := hU.dg rfl
  have bU : Hid (Below w.heap.size w U) := hU.below _ _ (Nat.le_refl _) hb0.drew
  clear hU d0 d0d hb0
  go_wp2_with fail
  exact bodyPost_ret (results_TDT rfl _ _ w.heap.size Z32 rfl dU.out) rfl ⟨rfl, bU.out⟩
set_option maxHeartbeats 4000000 in
theorem first_long (f : List UInt8) (a : Nat) (w : World) (h : 4 ≤ f.length) (hL : 300 < numN (f.take 4)) :
    Calls Tryd.prog 78 #[.string ⟨f.toArray⟩, .int .i64 a] w fun e w' => e = .returned (.tuple #[.slice none 0 0, .agg (A8 Z32), .int .i64 2]) ∧ Below w.heap.size w w' := by
  have hb00 : Below w.heap.size w (w.alloc (.cells Z8x32 25)) := (Below.refl _ _).alloc (Nat.le_refl _) _
  have d00 : Dg (w.alloc (.cells Z8x32 25)) w.heap.size Z32 := Dg.new w _ rfl
  have hsz : (ByteArray.mk f.toArray).size = f.length := by show f.toArray.size = _; simp
  have h' : ¬ (f.length : Int) < 4 := by omega
  have s1 : ∀ W : World, (Instr.sliceAt 9 (.string ⟨f.toArray⟩) none (some (.int .i64 4)) none).run Tryd.prog W = .ok (.string ⟨(f.take 4).toArray⟩) W := fun W => str_front f 4 h W
  have s2 : ∀ W : World, (Instr.sliceAt 9 (.string ⟨f.toArray⟩) (some (.int .i64 4)) none none).run Tryd.prog W = .ok (.string ⟨(f.drop 4).toArray⟩) W := fun W => str_back f 4 h W
  have hdl : (ByteArray.mk (f.drop 4).toArray).size = f.length - 4 := by show (f.drop 4).toArray.size = _; simp
  have hL' : (300 : Int) < numN (f.take 4) := by omega
  go_enter Tryd.func78, Tryd.ntmps78
  go_wp2_with fail
  have hb0 : Below w.heap.size w (w.alloc (.cells Z8x32 25)).drew := hb00.drew
  have d0 : Dg (w.alloc (.cells Z8x32 25)).drew w.heap.size Z32 := ⟨d00.len, d00.here⟩
  refine wp_region_noPanic ?_
  refine wp_region_held (S := fun _ => True) follows ?_
  refine wpAnyH_take (i := 0) (v := .string ⟨f.toArray⟩) rfl (by kernel_rfl) (by kernel_rfl) (by kernel_rfl) (fun _ _ _ h => h) (.inl ⟨rfl, fun W _ => by go_simp⟩) trivial ?_
  simp only [Act.put, List.getElem_toArray, List.getElem_cons_zero, List.getElem_cons_succ, List.setIfInBounds_toArray, List.set_cons_zero, List.set_cons_succ]
  refine wpAnyH_take (i := 3) (v := .string ⟨f.toArray⟩) rfl (by kernel_rfl) (by kernel_rfl) (by kernel_rfl) (fun _ _ _ h => h) (.inl ⟨rfl, fun W _ => by go_simp⟩) trivial ?_
  simp only [Act.put, List.getElem_toArray, List.getElem_cons_zero, List.getElem_cons_succ, List.setIfInBounds_toArray, List.set_cons_zero, List.set_cons_succ]
  refine wpAnyH_take (i := 1) (v := .string ⟨(f.take 4).toArray⟩) rfl (by kernel_rfl) (by kernel_rfl) (by kernel_rfl) (fun _ _ _ h => h) (.inl ⟨rfl, fun W _ => by have e := s1 W; go_simp⟩) trivial ?_
  simp only [Act.put, List.getElem_toArray, List.getElem_cons_zero, List.getElem_cons_succ, List.setIfInBounds_toArray, List.set_cons_zero, List.set_cons_succ]
  refine wpAnyH_take (i := 4) (v := .string ⟨(f.drop 4).toArray⟩) rfl (by kernel_rfl) (by kernel_rfl) (by kernel_rfl) (fun _ _ _ h => h) (.inl ⟨rfl, fun W _ => by have e := s2 W; go_simp⟩) trivial ?_
  simp only [Act.put, List.getElem_toArray, List.getElem_cons_zero, List.getElem_cons_succ, List.setIfInBounds_toArray, List.set_cons_zero, List.set_cons_succ]
  refine relist #[true, true, false, true, true, false, false] (by kernel_rfl) ?_
  refine any_one (i := 2) (by kernel_rfl) ?_
  refine wpOp_call (f := 104) (args := #[.string ⟨(f.take 4).toArray⟩]) rfl rfl (by go_simp) ?_
  refine (number_any (f.take 4) (by rw [List.length_take]; omega) _).mono ?_
  rintro e W ⟨rfl, hW⟩
  subst hW
  refine ⟨_, rfl, trivial, ?_⟩
  simp only [Act.put, List.getElem_toArray, List.getElem_cons_zero, List.getElem_cons_succ, List.setIfInBounds_toArray, List.set_cons_zero, List.set_cons_succ]
  refine wpAnyH_take (i := 5) (v := .int .u64 (numN (f.take 4))) rfl (by kernel_rfl) (by kernel_rfl) (by kernel_rfl) (fun _ _ _ h => h) (.inl ⟨rfl, fun W _ => by go_simp⟩) trivial ?_
  simp only [Act.put, List.getElem_toArray, List.getElem_cons_zero, List.getElem_cons_succ, List.setIfInBounds_toArray, List.set_cons_zero, List.set_cons_succ]
  refine wpAnyH_take (i := 6) (v := .string ⟨(f.drop 4).toArray⟩) rfl (by kernel_rfl) (by kernel_rfl) (by kernel_rfl) (fun _ _ _ h => h) (.inl ⟨rfl, fun W _ => by go_simp⟩) trivial ?_
  simp only [Act.put, List.getElem_toArray, List.getElem_cons_zero, List.getElem_cons_succ, List.setIfInBounds_toArray, List.set_cons_zero, List.set_cons_succ]
  refine wpAnyH_done (by kernel_rfl) ?_ _
  refine NoPanic.normal ?_
  clear s1 s2 d00 hb00
  generalize numN (f.take 4) = NN at *
  have d0d : Dg (w.alloc (.cells Z8x32 25)).drew.drew w.heap.size Z32 := ⟨d0.len, d0.here⟩
  go_wp2_with fail
  refine wp_region_noPanic ?_
  refine wp_region_held (S := fun _ => True) follows ?_
  refine wpAnyH_take (i := 1) (v := .slice none 0 0) rfl (by kernel_rfl) (by kernel_rfl) (by kernel_rfl) (fun _ _ _ h => h) (.inl ⟨rfl, fun W _ => by go_simp⟩) trivial ?_
  simp only [Act.put, List.getElem_toArray, List.getElem_cons_zero, List.getElem_cons_succ, List.setIfInBounds_toArray, List.set_cons_zero, List.set_cons_succ]
  refine relist #[false, true, false, false] (by kernel_rfl) ?_
  refine any_one (i := 0) (by kernel_rfl) ?_
  refine wpOp_load_D rfl rfl (.tmp 5) rfl w.heap.size rfl Z32 d0d ?_
  refine ⟨trivial, ?_⟩
  simp only [Act.put, List.getElem_toArray, List.getElem_cons_zero, List.getElem_cons_succ, List.setIfInBounds_toArray, List.set_cons_zero, List.set_cons_succ]
  refine relist #[true, true, false, false] (by kernel_rfl) ?_
  refine any_one (i := 2) (by kernel_rfl) ?_
  refine wpOp_store_D rfl rfl (.tmp 5) (.tmp 25) rfl w.heap.size Z32 rfl rfl Z32 d0d rfl ?_
  intro U hU
  refine ⟨trivial, ?_⟩
  simp only [Act.put, List.getElem_toArray, List.getElem_cons_zero, List.getElem_cons_succ, List.setIfInBounds_toArray, List.set_cons_zero, List.set_cons_succ]
  refine wpAnyH_take (i := 3) (v := .int .i64 2) rfl (by kernel_rfl) (by kernel_rfl) (by kernel_rfl) (fun _ _ _ h => h) (.inl ⟨rfl, fun W _ => by go_simp⟩) trivial ?_
  simp only [Act.put, List.getElem_toArray, List.getElem_cons_zero, List.getElem_cons_succ, List.setIfInBounds_toArray, List.set_cons_zero, List.set_cons_succ]
  refine wpAnyH_done (by kernel_rfl) ?_ _
  refine NoPanic.normal ?_
  have dU : Hid (Dg U w.heap.size Z32) := hU.dg rfl
  have bU : Hid (Below w.heap.size w U) := hU.below _ _ (Nat.le_refl _) hb0.drew
  clear hU d0 d0d hb0
  go_wp2_with fail
  exact bodyPost_ret (results_TDT rfl _ _ w.heap.size Z32 rfl dU.out) rfl ⟨rfl, bU.out⟩
set_option maxHeartbeats 4000000 in
theorem first_many (f : List UInt8) (a : Nat) (w : World) (h : 4 ≤ f.length) (hL : numN (f.take 4) ≤ 300) (ha : 64 ≤ a) :
    Calls Tryd.prog 78 #[.string ⟨f.toArray⟩, .int .i64 a] w fun e w' => e = .returned (.tuple #[.slice none 0 0, .agg (A8 Z32), .int .i64 2]) ∧ Below w.heap.size w w' := by
  have hb00 : Below w.heap.size w (w.alloc (.cells Z8x32 25)) := (Below.refl _ _).alloc (Nat.le_refl _) _
  have d00 : Dg (w.alloc (.cells Z8x32 25)) w.heap.size Z32 := Dg.new w _ rfl
  have hsz : (ByteArray.mk f.toArray).size = f.length := by show f.toArray.size = _; simp
  have h' : ¬ (f.length : Int) < 4 := by omega
  have s1 : ∀ W : World, (Instr.sliceAt 9 (.string ⟨f.toArray⟩) none (some (.int .i64 4)) none).run Tryd.prog W = .ok (.string ⟨(f.take 4).toArray⟩) W := fun W => str_front f 4 h W
  have s2 : ∀ W : World, (Instr.sliceAt 9 (.string ⟨f.toArray⟩) (some (.int .i64 4)) none none).run Tryd.prog W = .ok (.string ⟨(f.drop 4).toArray⟩) W := fun W => str_back f 4 h W
  have hdl : (ByteArray.mk (f.drop 4).toArray).size = f.length - 4 := by show (f.drop 4).toArray.size = _; simp
  have hL' : ¬ (300 : Int) < numN (f.take 4) := by omega
  have ha' : (64 : Int) ≤ a := by omega
  go_enter Tryd.func78, Tryd.ntmps78
  go_wp2_with fail
  have hb0 : Below w.heap.size w (w.alloc (.cells Z8x32 25)).drew := hb00.drew
  have d0 : Dg (w.alloc (.cells Z8x32 25)).drew w.heap.size Z32 := ⟨d00.len, d00.here⟩
  refine wp_region_noPanic ?_
  refine wp_region_held (S := fun _ => True) follows ?_
  refine wpAnyH_take (i := 0) (v := .string ⟨f.toArray⟩) rfl (by kernel_rfl) (by kernel_rfl) (by kernel_rfl) (fun _ _ _ h => h) (.inl ⟨rfl, fun W _ => by go_simp⟩) trivial ?_
  simp only [Act.put, List.getElem_toArray, List.getElem_cons_zero, List.getElem_cons_succ, List.setIfInBounds_toArray, List.set_cons_zero, List.set_cons_succ]
  refine wpAnyH_take (i := 3) (v := .string ⟨f.toArray⟩) rfl (by kernel_rfl) (by kernel_rfl) (by kernel_rfl) (fun _ _ _ h => h) (.inl ⟨rfl, fun W _ => by go_simp⟩) trivial ?_
  simp only [Act.put, List.getElem_toArray, List.getElem_cons_zero, List.getElem_cons_succ, List.setIfInBounds_toArray, List.set_cons_zero, List.set_cons_succ]
  refine wpAnyH_take (i := 1) (v := .string ⟨(f.take 4).toArray⟩) rfl (by kernel_rfl) (by kernel_rfl) (by kernel_rfl) (fun _ _ _ h => h) (.inl ⟨rfl, fun W _ => by have e := s1 W; go_simp⟩) trivial ?_
  simp only [Act.put, List.getElem_toArray, List.getElem_cons_zero, List.getElem_cons_succ, List.setIfInBounds_toArray, List.set_cons_zero, List.set_cons_succ]
  refine wpAnyH_take (i := 4) (v := .string ⟨(f.drop 4).toArray⟩) rfl (by kernel_rfl) (by kernel_rfl) (by kernel_rfl) (fun _ _ _ h => h) (.inl ⟨rfl, fun W _ => by have e := s2 W; go_simp⟩) trivial ?_
  simp only [Act.put, List.getElem_toArray, List.getElem_cons_zero, List.getElem_cons_succ, List.setIfInBounds_toArray, List.set_cons_zero, List.set_cons_succ]
  refine relist #[true, true, false, true, true, false, false] (by kernel_rfl) ?_
  refine any_one (i := 2) (by kernel_rfl) ?_
  refine wpOp_call (f := 104) (args := #[.string ⟨(f.take 4).toArray⟩]) rfl rfl (by go_simp) ?_
  refine (number_any (f.take 4) (by rw [List.length_take]; omega) _).mono ?_
  rintro e W ⟨rfl, hW⟩
  subst hW
  refine ⟨_, rfl, trivial, ?_⟩
  simp only [Act.put, List.getElem_toArray, List.getElem_cons_zero, List.getElem_cons_succ, List.setIfInBounds_toArray, List.set_cons_zero, List.set_cons_succ]
  refine wpAnyH_take (i := 5) (v := .int .u64 (numN (f.take 4))) rfl (by kernel_rfl) (by kernel_rfl) (by kernel_rfl) (fun _ _ _ h => h) (.inl ⟨rfl, fun W _ => by go_simp⟩) trivial ?_
  simp only [Act.put, List.getElem_toArray, List.getElem_cons_zero, List.getElem_cons_succ, List.setIfInBounds_toArray, List.set_cons_zero, List.set_cons_succ]
  refine wpAnyH_take (i := 6) (v := .string ⟨(f.drop 4).toArray⟩) rfl (by kernel_rfl) (by kernel_rfl) (by kernel_rfl) (fun _ _ _ h => h) (.inl ⟨rfl, fun W _ => by go_simp⟩) trivial ?_
  simp only [Act.put, List.getElem_toArray, List.getElem_cons_zero, List.getElem_cons_succ, List.setIfInBounds_toArray, List.set_cons_zero, List.set_cons_succ]
  refine wpAnyH_done (by kernel_rfl) ?_ _
  refine NoPanic.normal ?_
  clear s1 s2 d00 hb00
  generalize numN (f.take 4) = NN at *
  have d0d : Dg (w.alloc (.cells Z8x32 25)).drew.drew w.heap.size Z32 := ⟨d0.len, d0.here⟩
  go_wp2_with fail
  refine wp_region_noPanic ?_
  refine wp_region_held (S := fun _ => True) follows ?_
  refine wpAnyH_take (i := 1) (v := .slice none 0 0) rfl (by kernel_rfl) (by kernel_rfl) (by kernel_rfl) (fun _ _ _ h => h) (.inl ⟨rfl, fun W _ => by go_simp⟩) trivial ?_
  simp only [Act.put, List.getElem_toArray, List.getElem_cons_zero, List.getElem_cons_succ, List.setIfInBounds_toArray, List.set_cons_zero, List.set_cons_succ]
  refine relist #[false, true, false, false] (by kernel_rfl) ?_
  refine any_one (i := 0) (by kernel_rfl) ?_
  refine wpOp_load_D rfl rfl (.tmp 5) rfl w.heap.size rfl Z32 d0d ?_
  refine ⟨trivial, ?_⟩
  simp only [Act.put, List.getElem_toArray, List.getElem_cons_zero, List.getElem_cons_succ, List.setIfInBounds_toArray, List.set_cons_zero, List.set_cons_succ]
  refine relist #[true, true, false, false] (by kernel_rfl) ?_
  refine any_one (i := 2) (by kernel_rfl) ?_
  refine wpOp_store_D rfl rfl (.tmp 5) (.tmp 25) rfl w.heap.size Z32 rfl rfl Z32 d0d rfl ?_
  intro U hU
  refine ⟨trivial, ?_⟩
  simp only [Act.put, List.getElem_toArray, List.getElem_cons_zero, List.getElem_cons_succ, List.setIfInBounds_toArray, List.set_cons_zero, List.set_cons_succ]
  refine wpAnyH_take (i := 3) (v := .int .i64 2) rfl (by kernel_rfl) (by kernel_rfl) (by kernel_rfl) (fun _ _ _ h => h) (.inl ⟨rfl, fun W _ => by go_simp⟩) trivial ?_
  simp only [Act.put, List.getElem_toArray, List.getElem_cons_zero, List.getElem_cons_succ, List.setIfInBounds_toArray, List.set_cons_zero, List.set_cons_succ]
  refine wpAnyH_done (by kernel_rfl) ?_ _
  refine NoPanic.normal ?_
  have dU : Hid (Dg U w.heap.size Z32) := hU.dg rfl
  have bU : Hid (Below w.heap.size w U) := hU.below _ _ (Nat.le_refl _) hb0.drew
  clear hU d0 d0d hb0
  go_wp2_with fail
  exact bodyPost_ret (results_TDT rfl _ _ w.heap.size Z32 rfl dU.out) rfl ⟨rfl, bU.out⟩
set_option maxHeartbeats 4000000 in
theorem first_torn (f : List UInt8) (a : Nat) (w : World) (h : 4 ≤ f.length) (hL : numN (f.take 4) ≤ 300) (ha : a < 64) (hS : f.length < 4 + numN (f.take 4) + 32) :
    Calls Tryd.prog 78 #[.string ⟨f.toArray⟩, .int .i64 a] w fun e w' => e = .returned (.tuple #[.slice none 0 0, .agg (A8 Z32), .int .i64 3]) ∧ Below w.heap.size w w' := by
  have hb00 : Below w.heap.size w (w.alloc (.cells Z8x32 25)) := (Below.refl _ _).alloc (Nat.le_refl _) _
  have d00 : Dg (w.alloc (.cells Z8x32 25)) w.heap.size Z32 := Dg.new w _ rfl
  have hsz : (ByteArray.mk f.toArray).size = f.length := by show f.toArray.size = _; simp
  have h' : ¬ (f.length : Int) < 4 := by omega
  have s1 : ∀ W : World, (Instr.sliceAt 9 (.string ⟨f.toArray⟩) none (some (.int .i64 4)) none).run Tryd.prog W = .ok (.string ⟨(f.take 4).toArray⟩) W := fun W => str_front f 4 h W
  have s2 : ∀ W : World, (Instr.sliceAt 9 (.string ⟨f.toArray⟩) (some (.int .i64 4)) none none).run Tryd.prog W = .ok (.string ⟨(f.drop 4).toArray⟩) W := fun W => str_back f 4 h W
  have hdl : (ByteArray.mk (f.drop 4).toArray).size = f.length - 4 := by show (f.drop 4).toArray.size = _; simp
  have hL' : ¬ (300 : Int) < numN (f.take 4) := by omega
  have ha' : ¬ (64 : Int) ≤ a := by omega
  have hS' : ((f.length - 4 : Nat) : Int) < (numN (f.take 4) : Int) + 32 := by omega
  have hcv : IntKind.i64.wrap (numN (f.take 4) : Int) = numN (f.take 4) := i64_wrap _ (by omega) (by omega)
  go_enter Tryd.func78, Tryd.ntmps78
  go_wp2_with fail
  have hb0 : Below w.heap.size w (w.alloc (.cells Z8x32 25)).drew := hb00.drew
  have d0 : Dg (w.alloc (.cells Z8x32 25)).drew w.heap.size Z32 := ⟨d00.len, d00.here⟩
  refine wp_region_noPanic ?_
  refine wp_region_held (S := fun _ => True) follows ?_
  refine wpAnyH_take (i := 0) (v := .string ⟨f.toArray⟩) rfl (by kernel_rfl) (by kernel_rfl) (by kernel_rfl) (fun _ _ _ h => h) (.inl ⟨rfl, fun W _ => by go_simp⟩) trivial ?_
  simp only [Act.put, List.getElem_toArray, List.getElem_cons_zero, List.getElem_cons_succ, List.setIfInBounds_toArray, List.set_cons_zero, List.set_cons_succ]
  refine wpAnyH_take (i := 3) (v := .string ⟨f.toArray⟩) rfl (by kernel_rfl) (by kernel_rfl) (by kernel_rfl) (fun _ _ _ h => h) (.inl ⟨rfl, fun W _ => by go_simp⟩) trivial ?_
  simp only [Act.put, List.getElem_toArray, List.getElem_cons_zero, List.getElem_cons_succ, List.setIfInBounds_toArray, List.set_cons_zero, List.set_cons_succ]
  refine wpAnyH_take (i := 1) (v := .string ⟨(f.take 4).toArray⟩) rfl (by kernel_rfl) (by kernel_rfl) (by kernel_rfl) (fun _ _ _ h => h) (.inl ⟨rfl, fun W _ => by have e := s1 W; go_simp⟩) trivial ?_
  simp only [Act.put, List.getElem_toArray, List.getElem_cons_zero, List.getElem_cons_succ, List.setIfInBounds_toArray, List.set_cons_zero, List.set_cons_succ]
  refine wpAnyH_take (i := 4) (v := .string ⟨(f.drop 4).toArray⟩) rfl (by kernel_rfl) (by kernel_rfl) (by kernel_rfl) (fun _ _ _ h => h) (.inl ⟨rfl, fun W _ => by have e := s2 W; go_simp⟩) trivial ?_
  simp only [Act.put, List.getElem_toArray, List.getElem_cons_zero, List.getElem_cons_succ, List.setIfInBounds_toArray, List.set_cons_zero, List.set_cons_succ]
  refine relist #[true, true, false, true, true, false, false] (by kernel_rfl) ?_
  refine any_one (i := 2) (by kernel_rfl) ?_
  refine wpOp_call (f := 104) (args := #[.string ⟨(f.take 4).toArray⟩]) rfl rfl (by go_simp) ?_
  refine (number_any (f.take 4) (by rw [List.length_take]; omega) _).mono ?_
  rintro e W ⟨rfl, hW⟩
  subst hW
  refine ⟨_, rfl, trivial, ?_⟩
  simp only [Act.put, List.getElem_toArray, List.getElem_cons_zero, List.getElem_cons_succ, List.setIfInBounds_toArray, List.set_cons_zero, List.set_cons_succ]
  refine wpAnyH_take (i := 5) (v := .int .u64 (numN (f.take 4))) rfl (by kernel_rfl) (by kernel_rfl) (by kernel_rfl) (fun _ _ _ h => h) (.inl ⟨rfl, fun W _ => by go_simp⟩) trivial ?_
  simp only [Act.put, List.getElem_toArray, List.getElem_cons_zero, List.getElem_cons_succ, List.setIfInBounds_toArray, List.set_cons_zero, List.set_cons_succ]
  refine wpAnyH_take (i := 6) (v := .string ⟨(f.drop 4).toArray⟩) rfl (by kernel_rfl) (by kernel_rfl) (by kernel_rfl) (fun _ _ _ h => h) (.inl ⟨rfl, fun W _ => by go_simp⟩) trivial ?_
  simp only [Act.put, List.getElem_toArray, List.getElem_cons_zero, List.getElem_cons_succ, List.setIfInBounds_toArray, List.set_cons_zero, List.set_cons_succ]
  refine wpAnyH_done (by kernel_rfl) ?_ _
  refine NoPanic.normal ?_
  clear s1 s2 d00 hb00 hS
  generalize numN (f.take 4) = NN at *
  have d0d : Dg (w.alloc (.cells Z8x32 25)).drew.drew w.heap.size Z32 := ⟨d0.len, d0.here⟩
  go_wp2_with fail
  refine wp_region_noPanic ?_
  refine wp_region_held (S := fun _ => True) follows ?_
  refine wpAnyH_take (i := 1) (v := .slice none 0 0) rfl (by kernel_rfl) (by kernel_rfl) (by kernel_rfl) (fun _ _ _ h => h) (.inl ⟨rfl, fun W _ => by go_simp⟩) trivial ?_
  simp only [Act.put, List.getElem_toArray, List.getElem_cons_zero, List.getElem_cons_succ, List.setIfInBounds_toArray, List.set_cons_zero, List.set_cons_succ]
  refine relist #[false, true, false, false] (by kernel_rfl) ?_
  refine any_one (i := 0) (by kernel_rfl) ?_
  refine wpOp_load_D rfl rfl (.tmp 5) rfl w.heap.size rfl Z32 d0d ?_
  refine ⟨trivial, ?_⟩
  simp only [Act.put, List.getElem_toArray, List.getElem_cons_zero, List.getElem_cons_succ, List.setIfInBounds_toArray, List.set_cons_zero, List.set_cons_succ]
  refine relist #[true, true, false, false] (by kernel_rfl) ?_
  refine any_one (i := 2) (by kernel_rfl) ?_
  refine wpOp_store_D rfl rfl (.tmp 5) (.tmp 33) rfl w.heap.size Z32 rfl rfl Z32 d0d rfl ?_
  intro U hU
  refine ⟨trivial, ?_⟩
  simp only [Act.put, List.getElem_toArray, List.getElem_cons_zero, List.getElem_cons_succ, List.setIfInBounds_toArray, List.set_cons_zero, List.set_cons_succ]
  refine wpAnyH_take (i := 3) (v := .int .i64 3) rfl (by kernel_rfl) (by kernel_rfl) (by kernel_rfl) (fun _ _ _ h => h) (.inl ⟨rfl, fun W _ => by go_simp⟩) trivial ?_
  simp only [Act.put, List.getElem_toArray, List.getElem_cons_zero, List.getElem_cons_succ, List.setIfInBounds_toArray, List.set_cons_zero, List.set_cons_succ]
  refine wpAnyH_done (by kernel_rfl) ?_ _
  refine NoPanic.normal ?_
  have dU : Hid (Dg U w.heap.size Z32) := hU.dg rfl
  have bU : Hid (Below w.heap.size w U) := hU.below _ _ (Nat.le_refl _) hb0.drew
  clear hU d0 d0d hb0
  go_wp2_with fail
  exact bodyPost_ret (results_TDT rfl _ _ w.heap.size Z32 rfl dU.out) rfl ⟨rfl, bU.out⟩
end Go.Proofs.YtcmjlhcpoajbkaaDoor
