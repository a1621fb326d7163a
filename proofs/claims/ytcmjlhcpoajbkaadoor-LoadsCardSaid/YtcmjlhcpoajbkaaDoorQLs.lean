import Derived.Test.YtcmjlhcpoajbkaaDoorQSg
import Derived.Lib.SlBytesConst
import Derived.Test.YtcmjlhcpoajbkaaDoorQLc
import Derived.Test.YtcmjlhcpoajbkaaDoorQRc
namespace Go.Proofs.YtcmjlhcpoajbkaaDoor
set_option maxRecDepth 10000
open Go.RowKit
theorem in8_lit (w : World) (g : Nat) (t : TypeId) (fr : Nat × Nat) (xs : List Int) (hb : Bytes xs) (hs : xs.length ≤ 1000) (h : w.heap[g]? = some (.cells (A8 xs) t fr)) : In8 w (some ⟨g, 0, none⟩) xs.length xs.length xs :=
  ⟨rfl, hb, Nat.le_refl _, by omega, by omega, fun _ => ⟨g, 0, rfl, row_lt h, fun j hj => by rw [cell_of_row _ _ _ _ _ _ h, Nat.zero_add, A8_get _ _ hj]⟩⟩
set_option maxHeartbeats 1000000 in
theorem alive_any (w : World) (hT : Tabs KS HS w) : Calls Tryd.prog 26 #[] w fun e w' => e = .returned (.bool true) ∧ Below w.heap.size w w' := by
  have hb0 : Below w.heap.size w (w.alloc (.cells #[.int .u8 97, .int .u8 98, .int .u8 99] 5 (3, 4))) := (Below.refl _ _).alloc (Nat.le_refl _) _
  have h0 := heapN w (.cells #[.int .u8 97, .int .u8 98, .int .u8 99] 5 (3, 4)) _ rfl
  have hI : In8 (w.alloc (.cells #[.int .u8 97, .int .u8 98, .int .u8 99] 5 (3, 4))) (some ⟨w.heap.size, 0, none⟩) 3 3 [97, 98, 99] :=
    in8_lit _ _ _ _ [97, 98, 99] (.of fun x hx => by simp only [List.mem_cons, List.not_mem_nil, or_false] at hx; omega) (by simp) h0
  have hcv := Lib.run_convert_bytes_const (P := Tryd.prog) w 22 5 #[.int .u8 97, .int .u8 98, .int .u8 99] 3 3 Tryd.underlying22 Tryd.underlying5
  go_enter Tryd.func26, Tryd.ntmps26
  go_wp2_with fail
  refine (annalHash_any KS HS _ (hT.below hb0) _ 3 3 [97, 98, 99] hI).mono ?_
  rintro e w1 ⟨rfl, b1⟩
  have hab : (hashP KS HS [97, 98, 99]).take 2 = [186, 120] := abc_hash
  have hl := hashP_len KS HS [97, 98, 99]
  have B1 : Below w.heap.size w w1 := hb0.trans (b1.mono (by simp))
  have n1 : Hid (Dg (w1.alloc (.cells Z8x32 25)) w1.heap.size Z32) := Dg.new w1 _ rfl
  have hs1 := B1.size
  clear b1 hI h0 hb0 hcv
  generalize hashP KS HS [97, 98, 99] = D at *
  have hD0 : D.getD 0 0 = 186 := by
    have := congrArg (fun l : List Int => l[0]?) hab
    simp only [List.getElem?_take] at this
    rw [List.getD_eq_getElem?_getD]; simp at this; rw [this]; rfl
  have hD1 : D.getD 1 0 = 120 := by
    have := congrArg (fun l : List Int => l[1]?) hab
    simp only [List.getElem?_take] at this
    rw [List.getD_eq_getElem?_getD]; simp at this; rw [this]; rfl
  go_wp2_with (first
    | (with_reducible refine atStore 25 ?_
       refine store_D rfl _ _ rfl w1.heap.size D rfl rfl Z32 n1.out hl ?_
       intro U hU
       refine hideGoal ?_))
  have dU := hU.dg hl
  have BU := hU.below _ _ hs1 (B1.alloc hs1 _)
  clear hU n1 B1 hab
  have lU := dU.lt
  generalize w1.heap.size = g1 at *
  refine openGoal ?_
  go_wp2_with fail
  refine (new_nil U).mono ?_
  rintro e w2 ⟨rfl, hw2⟩
  have h2 := heapN U (.cells #[.slice none 0 0, .slice none 0 0] 116) _ rfl
  have B2 : Below w.heap.size w (U.alloc (.cells #[.slice none 0 0, .slice none 0 0] 116)) := BU.alloc BU.size _
  have d2 := dU.alloc (.cells #[.slice none 0 0, .slice none 0 0] 116)
  rw [← hw2] at h2 B2 d2
  have hg := BU.size
  clear hw2 dU BU
  generalize U.heap.size = g2 at *
  have c0 : w2.cell? ⟨g1, 0, none⟩ = some (.int .u8 186) := by rw [cell_of_row _ _ _ _ _ _ d2.here, A8_get _ _ (by omega), hD0]
  have c1 : w2.cell? ⟨g1, 1, none⟩ = some (.int .u8 120) := by rw [cell_of_row _ _ _ _ _ _ d2.here, A8_get _ _ (by omega), hD1]
  have hcv := Lib.run_convert_bytes_const (P := Tryd.prog) w2 22 5 #[.int .u8 97] 1 1 Tryd.underlying22 Tryd.underlying5
  go_wp2_with fail
  have h3 := heapN w2 (.cells #[.int .u8 97] 5 (1, 2)) _ rfl
  have hI3 : In8 (w2.alloc (.cells #[.int .u8 97] 5 (1, 2))) (some ⟨w2.heap.size, 0, none⟩) 1 1 [97] :=
    in8_lit _ _ _ _ [97] (.of fun x hx => by simp only [List.mem_cons, List.not_mem_nil, or_false] at hx; omega) (by simp) h3
  have hg2 : g2 < w2.heap.size := row_lt h2
  refine (append_first _ g2 _ 1 1 [97] ((heapO w2 _ g2 hg2).trans h2) hI3 (by omega)).mono ?_
  rintro e w4 ⟨rfl, b4⟩
  have B4 : Hid (Below w.heap.size w w4) := b4 _ _ hg (by simp; omega) (B2.alloc (by omega) _)
  clear b4 hI3 h3 hcv B2 d2 c0 c1 h2
  go_wp2_with fail
  go_ret
  exact ⟨rfl, B4.out⟩
end Go.Proofs.YtcmjlhcpoajbkaaDoor
namespace Go.Proofs.YtcmjlhcpoajbkaaDoor
set_option maxRecDepth 10000
set_option linter.unusedSimpArgs false
open Go.RowKit
/-- The cells of a head. -/
def headCells (n : Int) (R T : List Int) : Array Value := (Value.int .i64 n :: ((R ++ T).map (Value.int .u8))).toArray
theorem headCells_size (n : Int) (R T : List Int) (hR : R.length = 32) (hT : T.length = 32) : (headCells n R T).size = 65 := by simp [headCells, hR, hT]
theorem head_cell (n : Int) (R T : List Int) (hR : R.length = 32) (hT : T.length = 32) (j : Nat) (hj : j < 64) : (headCells n R T)[1 + j]? = some (.int .u8 ((R ++ T).getD j 0)) := by
  have h : j < (R ++ T).length := by rw [List.length_append]; omega
  simp only [headCells, List.getElem?_toArray]
  rw [Nat.add_comm 1 j, List.getElem?_cons_succ, List.getElem?_map, List.getElem?_eq_getElem h, List.getD_eq_getElem?_getD, List.getElem?_eq_getElem h]
  rfl
/-- A head in a block of its own. -/
structure Hd (w : World) (g : Nat) (n : Int) (R T : List Int) : Prop where
  size : w.cell? ⟨g, 0, none⟩ = some (.int .i64 n)
  root : At8 w ⟨g, 1, none⟩ R
  tag : At8 w ⟨g, 33, none⟩ T
theorem hd_of {w : World} {g : Nat} {t : TypeId} {fr : Nat × Nat} {n : Int} {R T : List Int} (hR : R.length = 32) (hT : T.length = 32) (h : w.heap[g]? = some (.cells (headCells n R T) t fr)) : Hd w g n R T := by
  refine ⟨by rw [cell_of_row _ _ _ _ _ _ h]; rfl, fun j hj => ?_, fun j hj => ?_⟩
  · rw [addr_add, cell_of_row _ _ _ _ _ _ h, head_cell n R T hR hT j (by omega), List.getD_eq_getElem?_getD, List.getElem?_append_left (by omega), ← List.getD_eq_getElem?_getD]
  · rw [addr_add, cell_of_row _ _ _ _ _ _ h, show 33 + j = 1 + (32 + j) by omega, head_cell n R T hR hT (32 + j) (by omega), List.getD_eq_getElem?_getD, List.getElem?_append_right (by omega), hR, Nat.add_sub_cancel_left, ← List.getD_eq_getElem?_getD]
theorem Hd.below {w w' : World} {g : Nat} {n : Int} {R T : List Int} (h : Hd w g n R T) (hb : Below w.heap.size w w') : Hd w' g n R T :=
  ⟨by rw [hb.cell (block_lt_of_cell h.size)]; exact h.size, h.root.below hb, h.tag.below hb⟩
theorem build_head (n : Int) (R T : List Int) (hR : R.length = 32) (hT : T.length = 32) (w : World) : (Instr.build 42 #[(0, .int .i64 n), (1, .agg (A8 R)), (2, .agg (A8 T))]).run Tryd.prog w = .ok (.agg (headCells n R T)) w := by
  obtain ⟨x0, x1, x2, x3, x4, x5, x6, x7, x8, x9, x10, x11, x12, x13, x14, x15, x16, x17, x18, x19, x20, x21, x22, x23, x24, x25, x26, x27, x28, x29, x30, x31, rfl⟩ := list32 R hR
  obtain ⟨y0, y1, y2, y3, y4, y5, y6, y7, y8, y9, y10, y11, y12, y13, y14, y15, y16, y17, y18, y19, y20, y21, y22, y23, y24, y25, y26, y27, y28, y29, y30, y31, rfl⟩ := list32 T hT
  kernel_rfl
theorem wpList_build_head {ops : Array Oper} {rest : List Oper} {o : Oper} {a : Act} {w : World} {Q : Exit → Act → World → Prop} (hgd : o.guard = none) (x y z : Operand) (ho : o.op = .build 42 #[(0, x), (1, y), (2, z)])
    (n : Int) (R T : List Int) (hx : a.eval x = .int .i64 n) (hy : a.eval y = .agg (A8 R)) (hz : a.eval z = .agg (A8 T)) (hR : R.length = 32) (hT : T.length = 32)
    (h : wpList Tryd.prog ops Q rest (a.put o.dst (.agg (headCells n R T))) w) : wpList Tryd.prog ops Q (o :: rest) a w := by
  have hr := build_head n R T hR hT w
  refine wpList_plain hgd fun _ hK => ?_
  unfold Oper.wp execOp
  simp only [ho, Sem.run_bind, Sem.run_pure, Result.andThen_ok, List.map_toArray, List.map_cons, List.map_nil, hx, hy, hz, hr]
  exact hK _ _ h
def signedP (key : List Int) (n : Int) (R T : List Int) : Bool := if 0 ≤ n then decide (T = signP key n R) else false
theorem wpOp_unwanted {P : Program} {ops : Array Oper} {Q : Exit → Act → World → Prop} {i : Nat} {o : Oper} {K : Act → World → Prop} {a : Act} {w : World} (hi : ops[i]? = some o) (hw : Region.wanted o (yielded ops a.tmps) = false)
    (h : K (a.put o.dst undef) w) : wpOp P ops Q i K a w := by
  unfold wpOp
  simp only [hi, hw]
  exact h
set_option maxHeartbeats 2000000 in
theorem signed_any (w : World) (hT : Tabs KS HS w) (p : Option Addr) (m c : Nat) (key : List Int) (hi : In8 w p m c key) (n : Int) (h2 : n ≤ 9223372036854775807) (R T : List Int) (hl : R.length = 32) (hb : Bytes R) (hl' : T.length = 32) (hb' : Bytes T) :
    Calls Tryd.prog 28 #[.slice p m c, .agg (headCells n R T)] w fun e w' => e = .returned (.bool (signedP key n R T)) ∧ Below w.heap.size w w' := by
  have h0 := heapN w (.cells (headCells n R T) 42) _ rfl
  have hb0 : Below w.heap.size w (w.alloc (.cells (headCells n R T) 42)) := (Below.refl _ _).alloc (Nat.le_refl _) _
  obtain ⟨V, hV⟩ : ∃ V, V = w.alloc (.cells (headCells n R T) 42) := ⟨_, rfl⟩
  rw [← hV] at h0 hb0
  have S0 : Hd V.drew w.heap.size n R T := hd_of (w := V.drew) hl hl' h0
  have SV : Hd V w.heap.size n R T := hd_of hl hl' h0
  have bV : Below V.heap.size V V.drew := (Below.refl _ _).drew
  by_cases hn : 0 ≤ n
  · have HE : Hid (signedP key n R T = decide (T = signP key n R)) := by
      show signedP key n R T = _
      unfold signedP; rw [if_pos hn]
    go_enter Tryd.func28, Tryd.ntmps28
    go_wp2_with fail
    refine wp_region_noPanic ?_
    refine wp_region_held (S := fun W => Hd W w.heap.size n R T) follows ?_
    refine wpAnyH_take (i := 0) (v := .pointer (some ⟨w.heap.size, 0, none⟩)) rfl (by kernel_rfl) (by kernel_rfl) (by kernel_rfl) (fun _ _ _ h => h) (.inl ⟨rfl, fun W _ => by go_simp⟩) (hV ▸ S0) ?_
    simp only [Act.put, List.getElem_toArray, List.getElem_cons_zero, List.getElem_cons_succ, List.setIfInBounds_toArray, List.set_cons_zero, List.set_cons_succ]
    refine wpAnyH_take (i := 1) (v := .int .i64 n) rfl (by kernel_rfl) (by kernel_rfl) (by kernel_rfl) (fun _ _ _ h => h) (.inl ⟨rfl, fun W hW => by have e := hW.size; go_simp⟩) (hV ▸ S0) ?_
    simp only [Act.put, List.getElem_toArray, List.getElem_cons_zero, List.getElem_cons_succ, List.setIfInBounds_toArray, List.set_cons_zero, List.set_cons_succ]
    refine wpAnyH_take (i := 2) (v := .bool true) rfl (by kernel_rfl) (by kernel_rfl) (by kernel_rfl) (fun _ _ _ h => h) (.inl ⟨rfl, fun W _ => by go_simp⟩) (hV ▸ S0) ?_
    simp only [Act.put, List.getElem_toArray, List.getElem_cons_zero, List.getElem_cons_succ, List.setIfInBounds_toArray, List.set_cons_zero, List.set_cons_succ]
    refine wpAnyH_take (i := 3) (v := .bool true) rfl (by kernel_rfl) (by kernel_rfl) (by kernel_rfl) (fun _ _ _ h => h) (.inl ⟨rfl, fun W _ => by go_simp⟩) (hV ▸ S0) ?_
    simp only [Act.put, List.getElem_toArray, List.getElem_cons_zero, List.getElem_cons_succ, List.setIfInBounds_toArray, List.set_cons_zero, List.set_cons_succ]
    refine wpAnyH_take (i := 4) (v := .pointer (some ⟨w.heap.size, 33, none⟩)) rfl (by kernel_rfl) (by kernel_rfl) (by kernel_rfl) (fun _ _ _ h => h) (.inl ⟨rfl, fun W _ => by go_simp⟩) (hV ▸ S0) ?_
    simp only [Act.put, List.getElem_toArray, List.getElem_cons_zero, List.getElem_cons_succ, List.setIfInBounds_toArray, List.set_cons_zero, List.set_cons_succ]
    refine wpAnyH_take (i := 5) (v := .agg (A8 T)) rfl (by kernel_rfl) (by kernel_rfl) (by kernel_rfl) (fun _ _ _ h => h) (yields_at rfl (.tmp 9) rfl ⟨w.heap.size, 33, none⟩ rfl T hl' (fun W hW => hW.tag)) (hV ▸ S0) ?_
    simp only [Act.put, List.getElem_toArray, List.getElem_cons_zero, List.getElem_cons_succ, List.setIfInBounds_toArray, List.set_cons_zero, List.set_cons_succ]
    refine wpAnyH_take (i := 6) (v := .slice p m c) rfl (by kernel_rfl) (by kernel_rfl) (by kernel_rfl) (fun _ _ _ h => h) (.inl ⟨rfl, fun W _ => by go_simp⟩) (hV ▸ S0) ?_
    simp only [Act.put, List.getElem_toArray, List.getElem_cons_zero, List.getElem_cons_succ, List.setIfInBounds_toArray, List.set_cons_zero, List.set_cons_succ]
    refine wpAnyH_take (i := 7) (v := .pointer (some ⟨w.heap.size, 0, none⟩)) rfl (by kernel_rfl) (by kernel_rfl) (by kernel_rfl) (fun _ _ _ h => h) (.inl ⟨rfl, fun W _ => by go_simp⟩) (hV ▸ S0) ?_
    simp only [Act.put, List.getElem_toArray, List.getElem_cons_zero, List.getElem_cons_succ, List.setIfInBounds_toArray, List.set_cons_zero, List.set_cons_succ]
    refine wpAnyH_take (i := 8) (v := .int .i64 n) rfl (by kernel_rfl) (by kernel_rfl) (by kernel_rfl) (fun _ _ _ h => h) (.inl ⟨rfl, fun W hW => by have e := hW.size; go_simp⟩) (hV ▸ S0) ?_
    simp only [Act.put, List.getElem_toArray, List.getElem_cons_zero, List.getElem_cons_succ, List.setIfInBounds_toArray, List.set_cons_zero, List.set_cons_succ]
    refine wpAnyH_take (i := 9) (v := .pointer (some ⟨w.heap.size, 1, none⟩)) rfl (by kernel_rfl) (by kernel_rfl) (by kernel_rfl) (fun _ _ _ h => h) (.inl ⟨rfl, fun W _ => by go_simp⟩) (hV ▸ S0) ?_
    simp only [Act.put, List.getElem_toArray, List.getElem_cons_zero, List.getElem_cons_succ, List.setIfInBounds_toArray, List.set_cons_zero, List.set_cons_succ]
    refine wpAnyH_take (i := 10) (v := .agg (A8 R)) rfl (by kernel_rfl) (by kernel_rfl) (by kernel_rfl) (fun _ _ _ h => h) (yields_at rfl (.tmp 14) rfl ⟨w.heap.size, 1, none⟩ rfl R hl (fun W hW => hW.root)) (hV ▸ S0) ?_
    simp only [Act.put, List.getElem_toArray, List.getElem_cons_zero, List.getElem_cons_succ, List.setIfInBounds_toArray, List.set_cons_zero, List.set_cons_succ]
    refine relist #[true, true, true, true, true, true, true, true, true, true, true, false, false, false, false] (by kernel_rfl) ?_
    refine any_one (i := 11) (by kernel_rfl) ?_
    refine wpOp_callG (f := 66) (args := #[.slice p m c, .int .i64 n, .agg (A8 R)]) rfl rfl (by go_simp) ?_
    have bW : Below w.heap.size w V.drew := hb0.trans (bV.mono hb0.size)
    refine (headTag_any _ (hV ▸ hT.below bW) p m c key (hV ▸ hi.below bW) n hn h2 R hl hb).mono ?_
    rintro e w1 ⟨rfl, b1⟩
    have B1 : Below V.heap.size V w1 := by rw [hV]; exact ((Below.refl _ _).drew).trans b1
    have S1 : Hd w1 w.heap.size n R T := SV.below B1
    have hkl := signP_len key n R
    have hkb := signP_bytes key n R
    obtain ⟨D, hD⟩ : ∃ D, signP key n R = D := ⟨_, rfl⟩
    rw [hD] at hkl hkb HE ⊢
    clear hD
    refine ⟨_, rfl, S1, ?_⟩
    simp only [Act.put, List.getElem_toArray, List.getElem_cons_zero, List.getElem_cons_succ, List.setIfInBounds_toArray, List.set_cons_zero, List.set_cons_succ]
    refine wpAnyH_take (i := 12) (v := .bool (decide (T = D))) rfl (by kernel_rfl) (by kernel_rfl) (by kernel_rfl) (fun _ _ _ h => h) (yields_eql rfl (.tmp 10) (.tmp 16) rfl T D hl' hb' hkl hkb rfl rfl) S1 ?_
    simp only [Act.put, List.getElem_toArray, List.getElem_cons_zero, List.getElem_cons_succ, List.setIfInBounds_toArray, List.set_cons_zero, List.set_cons_succ]
    generalize decide (T = D) = r at *
    refine wpAnyH_take (i := 13) (v := .bool r) rfl (by kernel_rfl) (by kernel_rfl) (by kernel_rfl) (fun _ _ _ h => h) (.inl ⟨rfl, fun W _ => by go_simp⟩) S1 ?_
    simp only [Act.put, List.getElem_toArray, List.getElem_cons_zero, List.getElem_cons_succ, List.setIfInBounds_toArray, List.set_cons_zero, List.set_cons_succ]
    refine wpAnyH_take (i := 14) (v := .bool r) rfl (by kernel_rfl) (by kernel_rfl) (by kernel_rfl) (fun _ _ _ h => h) (.inl ⟨rfl, fun W _ => by go_simp⟩) S1 ?_
    simp only [Act.put, List.getElem_toArray, List.getElem_cons_zero, List.getElem_cons_succ, List.setIfInBounds_toArray, List.set_cons_zero, List.set_cons_succ]
    refine wpAnyH_done (by kernel_rfl) ?_ _
    refine NoPanic.normal ?_
    have bU : Hid (Below w.heap.size w w1) := hb0.trans (B1.mono hb0.size)
    clear B1 b1 S0 S1 h0 hb0 bV bW
    go_wp2_with fail
    go_ret
    exact ⟨by rw [HE.out]; rfl, bU.out⟩
  · have HE : Hid (signedP key n R T = false) := by
      show signedP key n R T = _
      unfold signedP; rw [if_neg hn]
    go_enter Tryd.func28, Tryd.ntmps28
    go_wp2_with fail
    refine wp_region_noPanic ?_
    refine wp_region_held (S := fun W => Hd W w.heap.size n R T) follows ?_
    refine wpAnyH_take (i := 0) (v := .pointer (some ⟨w.heap.size, 0, none⟩)) rfl (by kernel_rfl) (by kernel_rfl) (by kernel_rfl) (fun _ _ _ h => h) (.inl ⟨rfl, fun W _ => by go_simp⟩) (hV ▸ S0) ?_
    simp only [Act.put, List.getElem_toArray, List.getElem_cons_zero, List.getElem_cons_succ, List.setIfInBounds_toArray, List.set_cons_zero, List.set_cons_succ]
    refine wpAnyH_take (i := 1) (v := .int .i64 n) rfl (by kernel_rfl) (by kernel_rfl) (by kernel_rfl) (fun _ _ _ h => h) (.inl ⟨rfl, fun W hW => by have e := hW.size; go_simp⟩) (hV ▸ S0) ?_
    simp only [Act.put, List.getElem_toArray, List.getElem_cons_zero, List.getElem_cons_succ, List.setIfInBounds_toArray, List.set_cons_zero, List.set_cons_succ]
    refine wpAnyH_take (i := 2) (v := .bool false) rfl (by kernel_rfl) (by kernel_rfl) (by kernel_rfl) (fun _ _ _ h => h) (.inl ⟨rfl, fun W _ => by go_simp⟩) (hV ▸ S0) ?_
    simp only [Act.put, List.getElem_toArray, List.getElem_cons_zero, List.getElem_cons_succ, List.setIfInBounds_toArray, List.set_cons_zero, List.set_cons_succ]
    refine wpAnyH_take (i := 3) (v := .bool false) rfl (by kernel_rfl) (by kernel_rfl) (by kernel_rfl) (fun _ _ _ h => h) (.inl ⟨rfl, fun W _ => by go_simp⟩) (hV ▸ S0) ?_
    simp only [Act.put, List.getElem_toArray, List.getElem_cons_zero, List.getElem_cons_succ, List.setIfInBounds_toArray, List.set_cons_zero, List.set_cons_succ]
    refine wpAnyH_take (i := 4) (v := undef) rfl (by kernel_rfl) (by kernel_rfl) (by kernel_rfl) (fun _ _ _ h => h) (.inr ⟨rfl, rfl⟩) (hV ▸ S0) ?_
    simp only [Act.put, List.getElem_toArray, List.getElem_cons_zero, List.getElem_cons_succ, List.setIfInBounds_toArray, List.set_cons_zero, List.set_cons_succ]
    refine wpAnyH_take (i := 5) (v := undef) rfl (by kernel_rfl) (by kernel_rfl) (by kernel_rfl) (fun _ _ _ h => h) (.inr ⟨rfl, rfl⟩) (hV ▸ S0) ?_
    simp only [Act.put, List.getElem_toArray, List.getElem_cons_zero, List.getElem_cons_succ, List.setIfInBounds_toArray, List.set_cons_zero, List.set_cons_succ]
    refine wpAnyH_take (i := 6) (v := undef) rfl (by kernel_rfl) (by kernel_rfl) (by kernel_rfl) (fun _ _ _ h => h) (.inr ⟨rfl, rfl⟩) (hV ▸ S0) ?_
    simp only [Act.put, List.getElem_toArray, List.getElem_cons_zero, List.getElem_cons_succ, List.setIfInBounds_toArray, List.set_cons_zero, List.set_cons_succ]
    refine wpAnyH_take (i := 7) (v := undef) rfl (by kernel_rfl) (by kernel_rfl) (by kernel_rfl) (fun _ _ _ h => h) (.inr ⟨rfl, rfl⟩) (hV ▸ S0) ?_
    simp only [Act.put, List.getElem_toArray, List.getElem_cons_zero, List.getElem_cons_succ, List.setIfInBounds_toArray, List.set_cons_zero, List.set_cons_succ]
    refine wpAnyH_take (i := 8) (v := undef) rfl (by kernel_rfl) (by kernel_rfl) (by kernel_rfl) (fun _ _ _ h => h) (.inr ⟨rfl, rfl⟩) (hV ▸ S0) ?_
    simp only [Act.put, List.getElem_toArray, List.getElem_cons_zero, List.getElem_cons_succ, List.setIfInBounds_toArray, List.set_cons_zero, List.set_cons_succ]
    refine wpAnyH_take (i := 9) (v := undef) rfl (by kernel_rfl) (by kernel_rfl) (by kernel_rfl) (fun _ _ _ h => h) (.inr ⟨rfl, rfl⟩) (hV ▸ S0) ?_
    simp only [Act.put, List.getElem_toArray, List.getElem_cons_zero, List.getElem_cons_succ, List.setIfInBounds_toArray, List.set_cons_zero, List.set_cons_succ]
    refine wpAnyH_take (i := 10) (v := undef) rfl (by kernel_rfl) (by kernel_rfl) (by kernel_rfl) (fun _ _ _ h => h) (.inr ⟨rfl, rfl⟩) (hV ▸ S0) ?_
    simp only [Act.put, List.getElem_toArray, List.getElem_cons_zero, List.getElem_cons_succ, List.setIfInBounds_toArray, List.set_cons_zero, List.set_cons_succ]
    refine relist #[true, true, true, true, true, true, true, true, true, true, true, false, false, false, false] (by kernel_rfl) ?_
    refine any_one (i := 11) (by kernel_rfl) ?_
    refine wpOp_unwanted rfl rfl ⟨(hV ▸ S0), ?_⟩
    simp only [Act.put, List.getElem_toArray, List.getElem_cons_zero, List.getElem_cons_succ, List.setIfInBounds_toArray, List.set_cons_zero, List.set_cons_succ]
    refine wpAnyH_take (i := 12) (v := undef) rfl (by kernel_rfl) (by kernel_rfl) (by kernel_rfl) (fun _ _ _ h => h) (.inr ⟨rfl, rfl⟩) (hV ▸ S0) ?_
    simp only [Act.put, List.getElem_toArray, List.getElem_cons_zero, List.getElem_cons_succ, List.setIfInBounds_toArray, List.set_cons_zero, List.set_cons_succ]
    refine wpAnyH_take (i := 13) (v := .bool false) rfl (by kernel_rfl) (by kernel_rfl) (by kernel_rfl) (fun _ _ _ h => h) (.inl ⟨rfl, fun W _ => by go_simp⟩) (hV ▸ S0) ?_
    simp only [Act.put, List.getElem_toArray, List.getElem_cons_zero, List.getElem_cons_succ, List.setIfInBounds_toArray, List.set_cons_zero, List.set_cons_succ]
    refine wpAnyH_take (i := 14) (v := .bool false) rfl (by kernel_rfl) (by kernel_rfl) (by kernel_rfl) (fun _ _ _ h => h) (.inl ⟨rfl, fun W _ => by go_simp⟩) (hV ▸ S0) ?_
    simp only [Act.put, List.getElem_toArray, List.getElem_cons_zero, List.getElem_cons_succ, List.setIfInBounds_toArray, List.set_cons_zero, List.set_cons_succ]
    refine wpAnyH_done (by kernel_rfl) ?_ _
    refine NoPanic.normal ?_
    have bU : Hid (Below w.heap.size w V.drew) := hb0.trans (bV.mono hb0.size)
    clear S0 h0 hb0 bV
    go_wp2_with fail
    go_ret
    exact ⟨by rw [HE.out]; rfl, by have := bU.out; rw [hV] at this; exact this⟩
end Go.Proofs.YtcmjlhcpoajbkaaDoor
namespace Go.Proofs.YtcmjlhcpoajbkaaDoor
set_option maxRecDepth 10000
open Go.RowKit
theorem und42 : ∃ fs, Tryd.prog.underlying 42 = some (.struct fs) := ⟨_, Tryd.underlying42⟩
theorem info42 : (Tryd.prog.info? 42).map (·.size) = some 65 := by kernel_rfl
set_option maxHeartbeats 4000000 in
theorem signs_any (v0 : Value) (n : Int) (R T xs : List Int) (w : World) (hT : Tabs KS HS w) (h0 : Arg w v0 xs) (hn : n ≤ 9223372036854775807) (hl : R.length = 32) (hb : Bytes R) (hl' : T.length = 32) (hb' : Bytes T) :
    Calls Tryd.prog 5 #[v0, .agg (headCells n R T)] w fun e w' => e = .returned (.bool true) ∧ Below w.heap.size w w' := by
  have hsm := h0.small
  have hxb := h0.bytes
  have H0 : Hid (Arg w v0 xs) := h0
  have HTb : Hid (Tabs KS HS w) := hT
  clear h0 hT
  have hb0 : Below w.heap.size w (w.alloc (.cells (headCells n R T) 42)) := (Below.refl _ _).alloc (Nat.le_refl _) _
  have hg := heapN w (.cells (headCells n R T) 42) _ rfl
  have hHs := headCells_size n R T hl hl'
  go_enter Tryd.func5, Tryd.ntmps5
  go_wp2_with fail
  refine (alive_any _ (HTb.out.below hb0)).mono ?_
  rintro e w1 ⟨rfl, b1⟩
  have B1 : Below w.heap.size w w1 := hb0.trans (b1.mono (by simp))
  have hg1 : w1.heap[w.heap.size]? = some (.cells (headCells n R T) 42) := (b1.block _ (by simp)).trans hg
  have HH1 := hd_of hl hl' hg1
  have c1 := (H0.out.below B1).conv
  have s1 := HH1.size
  have HR1 : Hid (At8 w1 ⟨w.heap.size, 1, none⟩ R) := HH1.root
  have l1 := row_lt hg1
  have Hg1 : Hid (w1.heap[w.heap.size]? = _) := hg1
  clear b1 hg hg1 HH1
  go_wp2_with (first
    | (with_reducible refine atLoad 25 ?_
       refine load_at rfl _ rfl ⟨w.heap.size, 1, none⟩ rfl R hl HR1.out ?_))
  refine (refSign_any w1 (toU xs) xs (toI_toU xs hxb) (by rw [toU_len]; omega) n R hl hb).mono ?_
  rintro e w2 ⟨rfl, b2⟩
  have B2 := B1.trans (b2.mono B1.size)
  have hkl := signP_len xs n R
  have hkb := signP_bytes xs n R
  have Hg2 : Hid (w2.heap[w.heap.size]? = _) := (b2.block _ l1).trans Hg1.out
  have n2 : Hid (Dg (w2.alloc (.cells Z8x32 25)) w2.heap.size Z32) := Dg.new w2 _ rfl
  have l2 := row_lt Hg2.out
  have hs2 := B2.size
  obtain ⟨D, hD⟩ : ∃ D, signP xs n R = D := ⟨_, rfl⟩
  have HD : Hid (signP xs n R = D) := hD
  rw [hD] at hkl hkb ⊢
  clear hD b2 c1 s1 HR1 Hg1
  go_wp2_with (first
    | (with_reducible refine atStore 25 ?_
       refine store_D rfl _ _ rfl w2.heap.size D rfl rfl Z32 n2.out hkl ?_
       intro U hU
       refine hideGoal ?_))
  have BU := hU.below _ _ hs2 (B2.alloc hs2 _)
  have dU : Hid (Dg U w2.heap.size D) := hU.dg hkl
  have HgU : Hid (U.heap[w.heap.size]? = _) := ((hU.other _ (by omega)).trans (heapO w2 _ _ l2)).trans Hg2.out
  clear hU n2 Hg2
  generalize w2.heap.size = g2 at *
  refine openGoal ?_
  go_wp2_with fail
  refine (roomy_any (H0.out.below BU)).mono ?_
  rintro e w3 ⟨p, ne, cap, rfl, b3, hP, hI⟩
  have B3 := BU.trans (b3.mono BU.size)
  have d3 : Hid (Dg w3 g2 D) := dU.out.next b3
  have Hg3 : Hid (w3.heap[w.heap.size]? = _) := (b3.block _ (row_lt HgU.out)).trans HgU.out
  have HP : Hid (Pair w3 v0 p ne cap xs) := hP
  have HI : Hid (In8 w3 p ne cap xs) := hI
  clear hP hI b3 dU HgU BU
  obtain ⟨fs, hfs⟩ := und42
  go_wp2_with (first
    | (with_reducible refine atLoad 42 ?_
       refine wpList_load_row rfl 42 (.tmp 3) rfl w.heap.size rfl 42 (headCells n R T) (0, 0) (.struct fs) Hg3.out hfs rfl (by rw [info42, hHs]) ?_))
  refine (signed_any w3 (HTb.out.below B3) p ne cap xs HI.out n hn R T hl hb hl' hb').mono ?_
  rintro e w4 ⟨rfl, b4⟩
  have B4 := B3.trans (b4.mono B3.size)
  have d4 : Hid (Dg w4 g2 D) := d3.out.next b4
  have hg4 : w4.heap[w.heap.size]? = some (.cells (headCells n R T) 42) := (b4.block _ (row_lt Hg3.out)).trans Hg3.out
  have HP4 : Hid (Pair w4 v0 p ne cap xs) := HP.out.below b4
  have HI4 : Hid (In8 w4 p ne cap xs) := HI.out.below b4
  have HH4 := hd_of hl hl' hg4
  have s4 := HH4.size
  have HR4 : Hid (At8 w4 ⟨w.heap.size, 1, none⟩ R) := HH4.root
  have Hg4 : Hid (w4.heap[w.heap.size]? = _) := hg4
  have HS1 : Hid (signedP xs n R T = if 0 ≤ n then decide (T = D) else false) := by
    show signedP xs n R T = _
    unfold signedP; rw [HD.out]
  have HS2 : Hid (signedP xs n R D = if 0 ≤ n then true else false) := by
    show signedP xs n R D = _
    unfold signedP; rw [HD.out]; simp
  clear b4 HP HI d3 Hg3 hg4 HH4 B3
  generalize signedP xs n R T = sg1 at *
  go_wp2_with (first
    | (with_reducible refine atLoad 25 ?_
       first
         | refine load_at rfl _ rfl ⟨w.heap.size, 1, none⟩ rfl R hl HR4.out ?_
         | refine load_D rfl _ rfl g2 rfl D d4.out ?_)
    | (with_reducible refine atBuild 42 ?_
       refine wpList_build_head rfl _ _ _ rfl n R D rfl rfl rfl hl hkl ?_))
  refine (signed_any w4 (HTb.out.below B4) p ne cap xs HI4.out n hn R D hl hb hkl hkb).mono ?_
  rintro e w5 ⟨rfl, b5⟩
  have B5 := B4.trans (b5.mono B4.size)
  have d5 : Hid (Dg w5 g2 D) := d4.out.next b5
  have hg5 : w5.heap[w.heap.size]? = some (.cells (headCells n R T) 42) := (b5.block _ (row_lt Hg4.out)).trans Hg4.out
  have HP5 : Hid (Pair w5 v0 p ne cap xs) := HP4.out.below b5
  have HH5 := hd_of hl hl' hg5
  have s5 := HH5.size
  have HT5 : Hid (At8 w5 ⟨w.heap.size, 33, none⟩ T) := HH5.tag
  clear b5 HP4 HI4 d4 Hg4 hg5 HH5 B4 s4 HR4
  generalize signedP xs n R D = sg2 at *
  go_wp2_with fail
  refine (kept_any HP5.out).mono ?_
  rintro e w6 ⟨rfl, hw6⟩
  rw [hw6]
  clear hw6 w6
  have hs1 := HS1.out
  have hs2 := HS2.out
  by_cases hz : 0 ≤ n
  · rw [if_pos hz] at hs1 hs2
    subst hs2
    go_wp2_with (first
      | (with_reducible refine atLoad 25 ?_
         first
           | refine load_at rfl _ rfl ⟨w.heap.size, 33, none⟩ rfl T hl' HT5.out ?_
           | refine load_D rfl _ rfl g2 rfl D d5.out ?_)
      | (with_reducible refine atBin .eql 25 25 ?_
         refine wpList_eql rfl _ _ rfl T D hl' hb' hkl hkb rfl rfl ?_))
    go_ret
    exact ⟨by simp, B5⟩
  · rw [if_neg hz] at hs1 hs2
    subst hs1 hs2
    go_wp2_with fail
    go_ret
    exact ⟨rfl, B5⟩
end Go.Proofs.YtcmjlhcpoajbkaaDoor
