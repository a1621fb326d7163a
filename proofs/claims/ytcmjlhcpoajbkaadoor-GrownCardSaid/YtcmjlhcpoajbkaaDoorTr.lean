import Derived.Test.YtcmjlhcpoajbkaaDoorKnot
namespace Go.Proofs.YtcmjlhcpoajbkaaDoor
set_option maxRecDepth 10000
open Go.RowKit
theorem mkf (fn : Fn) (first cap : Array Value) (w : World) : (Instr.makeFunc fn first cap).run Tryd.prog w = .ok (.func fn first cap) w := rfl
theorem In8.cons0 {w : World} {p : Option Addr} {n c : Nat} {b : Int} {xs : List Int} (h : In8 w p n c (b :: xs)) : xs.length + 1 = n := by
  have := h.len; simpa using this
def xf2 (a b : List Int) : Nat → List Int
  | 0 => a
  | _ => b
def pf2 (p q : Option Addr) : Nat → Option Addr
  | 0 => p
  | _ => q
def nf2 (m n : Nat) : Nat → Nat
  | 0 => m
  | _ => n
theorem cat2 (a b : List Int) : catX (xf2 a b) 2 = a ++ b := by simp [catX, xf2]
theorem in8_one (w : World) (b : Int) (hb : 0 ≤ b ∧ b < 256) (g : Nat) (t : TypeId) (h : w.heap[g]? = some (.cells #[.int .u8 b] t)) : In8 w (some ⟨g, 0, none⟩) 1 1 [b] := by
  refine ⟨rfl, .of fun x hx => ?_, by omega, by omega, by omega, fun _ => ⟨g, 0, rfl, row_lt h, fun j hj => ?_⟩⟩
  · simp only [List.mem_singleton] at hx; subst hx; exact hb
  · have e : j = 0 := by simp at hj; omega
    subst e
    rw [cell_of_row _ _ _ _ _ _ h]; rfl
set_option maxHeartbeats 400000 in
theorem leaf_any (w : World) (p : Option Addr) (n c : Nat) (xs : List Int) (hi : In8 w p n c xs) (hn : n < 140737488355328) :
    Calls Tryd.prog 128 #[.agg (leafCells p n c)] w fun e w' => ∃ p' n' c', e = .returned (.slice p' n' c') ∧ Below w.heap.size w w' ∧ In8 w' p' n' c' (0 :: xs) := by
  have hc : ∀ o, ((w.alloc (.cells (leafCells p n c) 184)).alloc o).cell? ⟨w.heap.size, 0, none⟩ = some (.slice p n c) := fun o => by
    rw [cell_of_row _ _ _ _ _ _ (heap2 w _ _).1]; rfl
  have hb2 := fun A B C => below3 w A B C
  go_enter Tryd.func128, Tryd.ntmps128
  go_wp2_with fail
  have V := heap3 w (.cells (leafCells p n c) 184) (.cells #[.int .u8 0] 5) (.cells #[.slice (some ⟨w.heap.size + 1, 0, none⟩) 1 1, .slice p n c] 22)
  have hb := hb2 (.cells (leafCells p n c) 184) (.cells #[.int .u8 0] 5) (.cells #[.slice (some ⟨w.heap.size + 1, 0, none⟩) 1 1, .slice p n c] 22)
  have hl := hi.len
  have e2 := cat2 [0] xs
  refine (concat_any (w.heap.size + 1 + 1) 2 (pf2 (some ⟨w.heap.size + 1, 0, none⟩) p) (nf2 1 n) (nf2 1 c) (xf2 [0] xs) _ (by omega) ?_ ?_ (by rw [e2]; simp) (by rw [e2]; simp; omega)).mono ?_
  · intro i hi'
    rw [cell_of_row _ _ _ _ _ _ V.2.2]
    rcases i with _ | _ | i
    · rfl
    · rfl
    · omega
  · intro i hi'
    rcases i with _ | _ | i
    · exact in8_one _ 0 (by omega) _ _ V.2.1
    · exact hi.below hb
    · omega
  · rintro e w' ⟨p', n', c', rfl, hb', hi'⟩
    rw [e2] at hi'
    have HI : Hid (In8 w' p' n' c' (0 :: xs)) := hi'
    have HB : Hid (Below w.heap.size w w') := hb.trans (hb'.mono (by simp; omega))
    clear hi' hb' V hb hb2 hc
    go_wp2_with fail
    go_ret
    exact ⟨_, _, _, rfl, HB.out, HI.out⟩
theorem knot_cell (L R : List Int) (hL : L.length = 32) (hR : R.length = 32) (j : Nat) (hj : j < 64) : (knotCells L R)[1 + j]? = some (.int .u8 ((L ++ R).getD j 0)) := by
  have h : j < (L ++ R).length := by rw [List.length_append]; omega
  simp only [knotCells, List.getElem?_toArray]
  rw [Nat.add_comm 1 j, List.getElem?_cons_succ, List.getElem?_map, List.getElem?_eq_getElem h, List.getD_eq_getElem?_getD, List.getElem?_eq_getElem h]
  rfl
theorem knot_L {w : World} {g : Nat} {t : TypeId} {L R : List Int} (hL : L.length = 32) (hR : R.length = 32) (bL : Bytes L) (h : w.heap[g]? = some (.cells (knotCells L R) t)) : In8 w (some ⟨g, 1, none⟩) 32 32 L := by
  refine ⟨hL, bL, by omega, by omega, by omega, fun _ => ⟨g, 1, rfl, row_lt h, fun j hj => ?_⟩⟩
  rw [cell_of_row _ _ _ _ _ _ h, knot_cell L R hL hR j (by omega), List.getD_eq_getElem?_getD, List.getElem?_append_left hj, ← List.getD_eq_getElem?_getD]
theorem knot_R {w : World} {g : Nat} {t : TypeId} {L R : List Int} (hL : L.length = 32) (hR : R.length = 32) (bR : Bytes R) (h : w.heap[g]? = some (.cells (knotCells L R) t)) : In8 w (some ⟨g, 33, none⟩) 32 32 R := by
  refine ⟨hR, bR, by omega, by omega, by omega, fun _ => ⟨g, 33, rfl, row_lt h, fun j hj => ?_⟩⟩
  rw [cell_of_row _ _ _ _ _ _ h, show 33 + j = 1 + (32 + j) by omega, knot_cell L R hL hR (32 + j) (by omega), List.getD_eq_getElem?_getD, List.getElem?_append_right (by omega), hL, Nat.add_sub_cancel_left, ← List.getD_eq_getElem?_getD]
def xf3 (a b c : List Int) : Nat → List Int
  | 0 => a
  | 1 => b
  | _ => c
def pf3 (p q r : Option Addr) : Nat → Option Addr
  | 0 => p
  | 1 => q
  | _ => r
def nf3 (m n k : Nat) : Nat → Nat
  | 0 => m
  | 1 => n
  | _ => k
theorem cat3 (a b c : List Int) : catX (xf3 a b c) 3 = a ++ (b ++ c) := by simp [catX, xf3]
set_option maxHeartbeats 1000000 in
theorem knot_any (w : World) (L R : List Int) (hL : L.length = 32) (hR : R.length = 32) (bL : Bytes L) (bR : Bytes R) :
    Calls Tryd.prog 129 #[.agg (knotCells L R)] w fun e w' => ∃ p' n' c', e = .returned (.slice p' n' c') ∧ Below w.heap.size w w' ∧ In8 w' p' n' c' (1 :: (L ++ R)) := by
  go_enter Tryd.func129, Tryd.ntmps129
  go_wp2_with fail
  have hg := heapN w (.cells (knotCells L R) 184) _ rfl
  have hb : Below w.heap.size w (w.alloc (.cells (knotCells L R) 184)) := (Below.refl _ _).alloc (Nat.le_refl _) _
  have hgs : w.heap.size < (w.alloc (.cells (knotCells L R) 184)).heap.size := by simp
  generalize w.alloc (.cells (knotCells L R) 184) = V at *
  generalize hgg : w.heap.size = g at *
  obtain ⟨KC, hKC⟩ : ∃ KC, knotCells L R = KC := ⟨_, rfl⟩
  have HKC : Hid (KC = knotCells L R) := hKC.symm
  rw [hKC] at hg ⊢
  clear hKC
  have bV : Below V.heap.size V V.drew := (Below.refl _ _).drew
  refine wp_region_noPanic ?_
  refine wp_region_held (S := fun W => Below V.heap.size V W) follows ?_
  refine wpAnyH_take (i := 1) (v := .pointer (some ⟨g, 1, none⟩)) rfl (by kernel_rfl) (by kernel_rfl) (by kernel_rfl) (fun _ _ _ h => h) (.inl ⟨rfl, fun W _ => by go_simp⟩) bV ?_
  refine wpAnyH_take (i := 2) (v := .slice (some ⟨g, 1, none⟩) 32 32) rfl (by kernel_rfl) (by kernel_rfl) (by kernel_rfl) (fun _ _ _ h => h) (.inl ⟨rfl, fun W _ => by go_simp⟩) bV ?_
  refine wpAnyH_take (i := 3) (v := .pointer (some ⟨g, 33, none⟩)) rfl (by kernel_rfl) (by kernel_rfl) (by kernel_rfl) (fun _ _ _ h => h) (.inl ⟨rfl, fun W _ => by go_simp⟩) bV ?_
  refine wpAnyH_take (i := 4) (v := .slice (some ⟨g, 33, none⟩) 32 32) rfl (by kernel_rfl) (by kernel_rfl) (by kernel_rfl) (fun _ _ _ h => h) (.inl ⟨rfl, fun W _ => by go_simp⟩) bV ?_
  refine reframe #[false, true, true, true, true, false, false, false] { tmps := #[.agg KC, .pointer (some ⟨g, 0, none⟩), .slice none 0 0, undef, .pointer (some ⟨g, 1, none⟩), .slice (some ⟨g, 1, none⟩) 32 32, .pointer (some ⟨g, 33, none⟩), .slice (some ⟨g, 33, none⟩) 32 32, undef, undef], defers := [] } (by kernel_rfl) (by rfl) ?_
  refine any_one (i := 0) (by kernel_rfl) ?_
  refine wpOp_val (v := .slice (some ⟨V.drew.heap.size, 0, none⟩) 1 1) (w' := V.drew.alloc (.cells #[.int .u8 1] 5)) rfl rfl (by go_simp) ?_
  have b1 : Below V.heap.size V (V.drew.alloc (.cells #[.int .u8 1] 5)) := bV.alloc (Nat.le_refl _) _
  refine ⟨b1, ?_⟩
  have h1 := heapN V.drew (.cells #[.int .u8 1] 5) _ rfl
  have g1 : V.drew.heap.size = V.heap.size := rfl
  rw [g1] at h1
  have s1 : V.heap.size < (V.drew.alloc (.cells #[.int .u8 1] 5)).heap.size := row_lt h1
  rw [g1]
  generalize V.drew.alloc (.cells #[.int .u8 1] 5) = V1 at *
  generalize hg1 : V.heap.size = k1 at *
  refine reframe #[true, true, true, true, true, false, false, false] { tmps := #[.agg KC, .pointer (some ⟨g, 0, none⟩), .slice none 0 0, .slice (some ⟨k1, 0, none⟩) 1 1, .pointer (some ⟨g, 1, none⟩), .slice (some ⟨g, 1, none⟩) 32 32, .pointer (some ⟨g, 33, none⟩), .slice (some ⟨g, 33, none⟩) 32 32, undef, undef], defers := [] } (by kernel_rfl) (by rfl) ?_
  refine any_one (i := 5) (by kernel_rfl) ?_
  refine wpOp_val (v := .slice (some ⟨V1.heap.size, 0, none⟩) 3 3) (w' := V1.alloc (.cells #[.slice (some ⟨k1, 0, none⟩) 1 1, .slice (some ⟨g, 1, none⟩) 32 32, .slice (some ⟨g, 33, none⟩) 32 32] 22)) rfl rfl (by go_simp) ?_
  have b2 : Below k1 V (V1.alloc (.cells #[.slice (some ⟨k1, 0, none⟩) 1 1, .slice (some ⟨g, 1, none⟩) 32 32, .slice (some ⟨g, 33, none⟩) 32 32] 22)) := b1.alloc (by omega) _
  refine ⟨b2, ?_⟩
  have h2 := heapN V1 (.cells #[.slice (some ⟨k1, 0, none⟩) 1 1, .slice (some ⟨g, 1, none⟩) 32 32, .slice (some ⟨g, 33, none⟩) 32 32] 22) _ rfl
  have h12 := (heapO V1 (.cells #[.slice (some ⟨k1, 0, none⟩) 1 1, .slice (some ⟨g, 1, none⟩) 32 32, .slice (some ⟨g, 33, none⟩) 32 32] 22) k1 s1).trans h1
  have hg2 := (b2.block g hgs).trans hg
  generalize V1.alloc (.cells #[.slice (some ⟨k1, 0, none⟩) 1 1, .slice (some ⟨g, 1, none⟩) 32 32, .slice (some ⟨g, 33, none⟩) 32 32] 22) = V2 at *
  generalize V1.heap.size = k2 at *
  clear hg h1 b1
  refine reframe #[true, true, true, true, true, true, false, false] { tmps := #[.agg KC, .pointer (some ⟨g, 0, none⟩), .slice none 0 0, .slice (some ⟨k1, 0, none⟩) 1 1, .pointer (some ⟨g, 1, none⟩), .slice (some ⟨g, 1, none⟩) 32 32, .pointer (some ⟨g, 33, none⟩), .slice (some ⟨g, 33, none⟩) 32 32, .slice (some ⟨k2, 0, none⟩) 3 3, undef], defers := [] } (by kernel_rfl) (by rfl) ?_
  have e3 := cat3 [1] L R
  refine any_one (i := 6) (by kernel_rfl) ?_
  refine wpOp_call (f := 97) (args := #[.slice (some ⟨k2, 0, none⟩) 3 3]) rfl rfl (by go_simp) ?_
  refine (concat_any k2 3 (pf3 (some ⟨k1, 0, none⟩) (some ⟨g, 1, none⟩) (some ⟨g, 33, none⟩)) (nf3 1 32 32) (nf3 1 32 32) (xf3 [1] L R) _ (by omega) ?_ ?_ (by rw [e3]; simp) (by rw [e3]; simp; omega)).mono ?_
  · intro i hi'
    rw [cell_of_row _ _ _ _ _ _ h2]
    rcases i with _ | _ | _ | i
    · rfl
    · rfl
    · rfl
    · omega
  · intro i hi'
    rcases i with _ | _ | _ | i
    · exact in8_one _ 1 (by omega) _ _ h12
    · exact knot_L hL hR bL (HKC.out ▸ hg2)
    · exact knot_R hL hR bR (HKC.out ▸ hg2)
    · omega
  rintro e V3 ⟨p', n', c', rfl, hb3, hi3⟩
  rw [e3] at hi3
  have b3 : Below k1 V V3 := b2.trans (hb3.mono (by have := b2.size; omega))
  refine ⟨_, rfl, b3, ?_⟩
  refine reframe #[true, true, true, true, true, true, true, false] { tmps := #[.agg KC, .pointer (some ⟨g, 0, none⟩), .slice none 0 0, .slice (some ⟨k1, 0, none⟩) 1 1, .pointer (some ⟨g, 1, none⟩), .slice (some ⟨g, 1, none⟩) 32 32, .pointer (some ⟨g, 33, none⟩), .slice (some ⟨g, 33, none⟩) 32 32, .slice (some ⟨k2, 0, none⟩) 3 3, .slice p' n' c'], defers := [] } (by kernel_rfl) (by rfl) ?_
  refine wpAnyH_take (i := 7) (v := .slice p' n' c') rfl (by kernel_rfl) (by kernel_rfl) (by kernel_rfl) (fun _ _ _ h => h) (.inl ⟨rfl, fun W _ => by go_simp⟩) b3 ?_
  refine reframe #[true, true, true, true, true, true, true, true] { tmps := #[.agg KC, .pointer (some ⟨g, 0, none⟩), .slice p' n' c', .slice (some ⟨k1, 0, none⟩) 1 1, .pointer (some ⟨g, 1, none⟩), .slice (some ⟨g, 1, none⟩) 32 32, .pointer (some ⟨g, 33, none⟩), .slice (some ⟨g, 33, none⟩) 32 32, .slice (some ⟨k2, 0, none⟩) 3 3, .slice p' n' c'], defers := [] } (by kernel_rfl) (by rfl) ?_
  refine wpAnyH_done (by kernel_rfl) ?_ _
  refine NoPanic.normal ?_
  have HB : Hid (Below g w V3) := hb.trans (b3.mono (by omega))
  have HI : Hid (In8 V3 p' n' c' (1 :: (L ++ R))) := hi3
  clear b2 b3 hb3 hi3 h2 h12 hg2 hb bV
  go_wp2_with fail
  go_ret
  exact ⟨_, _, _, rfl, by rw [hgg]; exact HB.out, HI.out⟩
set_option maxHeartbeats 400000 in
theorem thash_any (w : World) (f : FuncId) (v : Value) (xs : List Int) (hT : Tabs KS HS w)
    (hen : ∀ W : World, (callFunc f #[v]).run Tryd.prog W = .ok (.enter f #[v]) W)
    (hf : ∀ W : World, Below w.heap.size w W → Calls Tryd.prog f #[v] W fun e w' => ∃ p' n' c', e = .returned (.slice p' n' c') ∧ Below W.heap.size W w' ∧ In8 w' p' n' c' xs) :
    Calls Tryd.prog 93 #[.func (.func f) #[v] #[]] w fun e w' => e = .returned (.agg (A8 (hP xs))) ∧ Below w.heap.size w w' := by
  have hb0 : Below w.heap.size w (w.alloc (.cells Z8x32 25)) := (Below.refl _ _).alloc (Nat.le_refl _) _
  have d0 : Hid (Dg (w.alloc (.cells Z8x32 25)) w.heap.size Z32) := Dg.new w _ rfl
  go_enter Tryd.func93, Tryd.ntmps93
  go_wp2_with fail
  refine (hf _ hb0).mono ?_
  rintro e w1 ⟨p', n', c', rfl, b1, hi1⟩
  have d1 : Hid (Dg w1 w.heap.size Z32) := d0.out.next b1
  have B1 : Below w.heap.size w w1 := hb0.trans (b1.mono (by simp))
  clear b1 d0 hf
  go_wp2_with fail
  refine (hP_any w1 (hT.below B1) p' n' c' xs hi1).mono ?_
  rintro e w2 ⟨rfl, b2⟩
  have d2 : Hid (Dg w2 w.heap.size Z32) := d1.out.next b2
  have B2 : Below w.heap.size w w2 := B1.trans (b2.mono B1.size)
  have hl := hP_len xs
  clear b2 d1 B1 hi1
  obtain ⟨D, hD⟩ : ∃ D, hP xs = D := ⟨_, rfl⟩
  have HD : Hid (hP xs = D) := hD
  rw [hD] at hl ⊢
  clear hD
  go_wp2_with (first
    | (with_reducible refine atStore 25 ?_
       refine store_D rfl (.tmp 2) (.tmp 5) rfl w.heap.size D rfl rfl Z32 d2.out hl ?_
       intro U hU))
  exact bodyPost_ret (v := .agg (A8 D)) (results_cell_row rfl _ _ w.heap.size 25 _ (0, 0) _ rfl hU.here und25 rfl (by rw [info25, A8_size, hl])) rfl ⟨by rw [HD.out], hU.below _ _ (Nat.le_refl _) B2⟩
/-- What a method value of a place is, and the text that it tells. -/
def leafV (p : Option Addr) (n c : Nat) : Value := .func (.func 128) #[.agg (leafCells p n c)] #[]
def knotV (L R : List Int) : Value := .func (.func 129) #[.agg (knotCells L R)] #[]
def TextV (w : World) (v : Value) (xs : List Int) : Prop :=
  ∃ f u, v = .func (.func f) #[u] #[] ∧ (∀ W : World, (callFunc f #[u]).run Tryd.prog W = .ok (.enter f #[u]) W) ∧
    ∀ W : World, Below w.heap.size w W → Calls Tryd.prog f #[u] W fun e w' => ∃ p' n' c', e = .returned (.slice p' n' c') ∧ Below W.heap.size W w' ∧ In8 w' p' n' c' xs
theorem TextV.below {w w' : World} {v : Value} {xs : List Int} (h : TextV w v xs) (hb : Below w.heap.size w w') : TextV w' v xs := by
  obtain ⟨f, u, h1, h2, h3⟩ := h
  exact ⟨f, u, h1, h2, fun W hW => h3 W (hb.trans (hW.mono hb.size))⟩
theorem leafV_text (w : World) (p : Option Addr) (n c : Nat) (xs : List Int) (hi : In8 w p n c xs) (hn : n < 140737488355328) : TextV w (leafV p n c) (0 :: xs) :=
  ⟨_, _, rfl, fun W => by go_simp, fun W hW => leaf_any W p n c xs (hi.below hW) hn⟩
theorem knotV_text (w : World) (L R : List Int) (hL : L.length = 32) (hR : R.length = 32) (bL : Bytes L) (bR : Bytes R) : TextV w (knotV L R) (1 :: (L ++ R)) :=
  ⟨_, _, rfl, fun W => by go_simp, fun W _ => knot_any W L R hL hR bL bR⟩
theorem textHash_any (w : World) (v : Value) (xs : List Int) (hT : Tabs KS HS w) (h : TextV w v xs) :
    Calls Tryd.prog 93 #[v] w fun e w' => e = .returned (.agg (A8 (hP xs))) ∧ Below w.heap.size w w' := by
  obtain ⟨f, u, rfl, h2, h3⟩ := h
  exact thash_any w f u xs hT h2 h3
theorem leafText_any (w : World) (p : Option Addr) (n c : Nat) :
    Calls Tryd.prog 116 #[.slice p n c] w fun e w' => e = .returned (leafV p n c) ∧ w' = w := by
  have hbd := build_leaf p n c
  have hmf := mkf
  go_enter Tryd.func116, Tryd.ntmps116
  go_wp2_with fail
  go_ret
  exact ⟨rfl, rfl⟩
set_option maxHeartbeats 400000 in
theorem leafOf_any (w : World) (hT : Tabs KS HS w) (p : Option Addr) (n c : Nat) (xs : List Int) (hi : In8 w p n c xs) (hn : n < 140737488355328) :
    Calls Tryd.prog 101 #[.slice p n c] w fun e w' => e = .returned (.agg (A8 (leafP xs))) ∧ Below w.heap.size w w' := by
  have hb0 : Below w.heap.size w (w.alloc (.cells Z8x32 25)) := (Below.refl _ _).alloc (Nat.le_refl _) _
  have d0 : Hid (Dg (w.alloc (.cells Z8x32 25)) w.heap.size Z32) := Dg.new w _ rfl
  go_enter Tryd.func101, Tryd.ntmps101
  go_wp2_with fail
  refine (leafText_any _ p n c).mono ?_
  rintro e w1 ⟨rfl, rfl⟩
  go_wp2_with fail
  refine (textHash_any _ _ (0 :: xs) (hT.below hb0) (leafV_text _ p n c xs (hi.below hb0) hn)).mono ?_
  rintro e w2 ⟨rfl, b2⟩
  have d2 : Hid (Dg w2 w.heap.size Z32) := d0.out.next b2
  have B2 : Below w.heap.size w w2 := hb0.trans (b2.mono (by simp))
  have hl := leafP_len xs
  have e1 : hP (0 :: xs) = leafP xs := rfl
  rw [e1]
  clear b2 d0 e1
  obtain ⟨D, hD⟩ : ∃ D, leafP xs = D := ⟨_, rfl⟩
  have HD : Hid (leafP xs = D) := hD
  rw [hD] at hl ⊢
  clear hD
  go_wp2_with (first
    | (with_reducible refine atStore 25 ?_
       refine store_D rfl (.tmp 2) (.tmp 5) rfl w.heap.size D rfl rfl Z32 d2.out hl ?_
       intro U hU))
  exact bodyPost_ret (v := .agg (A8 D)) (results_cell_row rfl _ _ w.heap.size 25 _ (0, 0) _ rfl hU.here und25 rfl (by rw [info25, A8_size, hl])) rfl ⟨by rw [HD.out], hU.below _ _ (Nat.le_refl _) B2⟩
theorem atBuild {P : Program} {ops : Array Oper} {Q : Exit → Act → World → Prop} {rest : List Oper} {a : Act} {w : World} {d ps t p af g} (ty : TypeId)
    (h : wpList P ops Q (⟨d, .build ty ps, t, p, af, g⟩ :: rest) a w) : wpList P ops Q (⟨d, .build ty ps, t, p, af, g⟩ :: rest) a w := h
theorem wpList_build_knot {ops : Array Oper} {rest : List Oper} {o : Oper} {a : Act} {w : World} {Q : Exit → Act → World → Prop} (hgd : o.guard = none) (x y : Operand) (ho : o.op = .build 184 #[(1, x), (2, y)])
    (L R : List Int) (hx : a.eval x = .agg (A8 L)) (hy : a.eval y = .agg (A8 R)) (hL : L.length = 32) (hR : R.length = 32)
    (h : wpList Tryd.prog ops Q rest (a.put o.dst (.agg (knotCells L R))) w) : wpList Tryd.prog ops Q (o :: rest) a w := by
  have hr := build_knot L R hL hR w
  refine wpList_plain hgd fun _ hK => ?_
  unfold Oper.wp execOp
  simp only [ho, Sem.run_bind, Sem.run_pure, Result.andThen_ok, List.map_toArray, List.map_cons, List.map_nil, hx, hy, hr]
  exact hK _ _ h
set_option maxHeartbeats 400000 in
theorem knotText_any (w : World) (L R : List Int) (hL : L.length = 32) (hR : R.length = 32) :
    Calls Tryd.prog 117 #[.agg (A8 L), .agg (A8 R)] w fun e w' => e = .returned (knotV L R) ∧ Below w.heap.size w w' := by
  have hb0 : Below w.heap.size w ((w.alloc (.cells (A8 L) 25)).alloc (.cells (A8 R) 25)) := ((Below.refl _ _).alloc (Nat.le_refl _) _).alloc (by simp) _
  have V := heap2 w (.cells (A8 L) 25) (.cells (A8 R) 25)
  have dL : Hid (Dg ((w.alloc (.cells (A8 L) 25)).alloc (.cells (A8 R) 25)) w.heap.size L) := ⟨hL, V.1⟩
  have dR : Hid (Dg ((w.alloc (.cells (A8 L) 25)).alloc (.cells (A8 R) 25)) (w.heap.size + 1) R) := ⟨hR, V.2⟩
  clear V
  have hmf := mkf
  go_enter Tryd.func117, Tryd.ntmps117
  go_wp2_with (first
    | (with_reducible refine atLoad 25 ?_
       first
         | refine load_D rfl (.tmp 2) rfl w.heap.size rfl L dL.out ?_
         | refine load_D rfl (.tmp 3) rfl (w.heap.size + 1) rfl R dR.out ?_)
    | (with_reducible refine atBuild 184 ?_
       refine wpList_build_knot rfl (.tmp 5) (.tmp 6) rfl L R rfl rfl hL hR ?_))
  go_ret
  exact ⟨rfl, hb0⟩
set_option maxHeartbeats 400000 in
theorem knotOf_any (w : World) (hT : Tabs KS HS w) (L R : List Int) (hL : L.length = 32) (hR : R.length = 32) (bL : Bytes L) (bR : Bytes R) :
    Calls Tryd.prog 103 #[.agg (A8 L), .agg (A8 R)] w fun e w' => e = .returned (.agg (A8 (knotP L R))) ∧ Below w.heap.size w w' := by
  have hb0 := below3 w (.cells (A8 L) 25) (.cells (A8 R) 25) (.cells Z8x32 25)
  have V := heap3 w (.cells (A8 L) 25) (.cells (A8 R) 25) (.cells Z8x32 25)
  have dL : Hid (Dg (((w.alloc (.cells (A8 L) 25)).alloc (.cells (A8 R) 25)).alloc (.cells Z8x32 25)) w.heap.size L) := ⟨hL, V.1⟩
  have dR : Hid (Dg (((w.alloc (.cells (A8 L) 25)).alloc (.cells (A8 R) 25)).alloc (.cells Z8x32 25)) (w.heap.size + 1) R) := ⟨hR, V.2.1⟩
  have d0 : Hid (Dg (((w.alloc (.cells (A8 L) 25)).alloc (.cells (A8 R) 25)).alloc (.cells Z8x32 25)) (w.heap.size + 2) Z32) := ⟨rfl, V.2.2⟩
  clear V
  go_enter Tryd.func103, Tryd.ntmps103
  go_wp2_with (first
    | (with_reducible refine atLoad 25 ?_
       first
         | refine load_D rfl (.tmp 2) rfl w.heap.size rfl L dL.out ?_
         | refine load_D rfl (.tmp 3) rfl (w.heap.size + 1) rfl R dR.out ?_))
  refine (knotText_any _ L R hL hR).mono ?_
  rintro e w1 ⟨rfl, b1⟩
  have d1 : Hid (Dg w1 (w.heap.size + 2) Z32) := d0.out.next b1
  have B1 : Below w.heap.size w w1 := hb0.trans (b1.mono (by simp; omega))
  clear d0 b1 dL dR hb0
  go_wp2_with fail
  refine (textHash_any _ _ (1 :: (L ++ R)) (hT.below B1) (knotV_text _ L R hL hR bL bR)).mono ?_
  rintro e w2 ⟨rfl, b2⟩
  have d2 : Hid (Dg w2 (w.heap.size + 2) Z32) := d1.out.next b2
  have B2 : Below w.heap.size w w2 := B1.trans (b2.mono B1.size)
  have hl := knotP_len L R
  have e1 : hP (1 :: (L ++ R)) = knotP L R := rfl
  rw [e1]
  clear b2 d1 e1 B1
  obtain ⟨D, hD⟩ : ∃ D, knotP L R = D := ⟨_, rfl⟩
  have HD : Hid (knotP L R = D) := hD
  rw [hD] at hl ⊢
  clear hD
  go_wp2_with (first
    | (with_reducible refine atStore 25 ?_
       refine store_D rfl (.tmp 4) (.tmp 8) rfl (w.heap.size + 2) D rfl rfl Z32 d2.out hl ?_
       intro U hU))
  exact bodyPost_ret (v := .agg (A8 D)) (results_cell_row rfl _ _ (w.heap.size + 2) 25 _ (0, 0) _ rfl hU.here und25 rfl (by rw [info25, A8_size, hl])) rfl ⟨by rw [HD.out], hU.below _ _ (by omega) B2⟩
end Go.Proofs.YtcmjlhcpoajbkaaDoor
