import Derived.Test.YtcmjlhcpoajbkaaDoorQKnot
import Derived.Deep.Slices
import Derived.Test.YtcmjlhcpoajbkaaDoorChecked
import Derived.ProofKit
import Derived.Lib.BitFns
import Derived.Lib.Small
import Derived.Lib.Walk
import Derived.Test.YtcmjlhcpoajbkaaDoorQReg
import Derived.Deep.OwnRows
import Derived.Deep.AppendLies
import Derived.Carry
namespace Go.Proofs.YtcmjlhcpoajbkaaDoor
set_option maxRecDepth 10000
open Go.RowKit
theorem mkf (fn : Fn) (first cap : Array Value) (w : World) : (Instr.makeFunc fn first cap).run Tryd.prog w = .ok (.func fn first cap) w := rfl
def xf2 (a b : List Int) : Nat → List Int
  | 0 => a
  | _ => b
def pf2 (p q : Option Addr) : Nat → Option Addr
  | 0 => p
  | _ => q
def nf2 (m n : Nat) : Nat → Nat
  | 0 => m
  | _ => n
theorem cat2 (a b : List Int) : catX (xf2 a b) 2 = a ++ b := by simp [catX, xf2]
theorem in8_one (w : World) (b : Int) (hb : 0 ≤ b ∧ b < 256) (g : Nat) (t : TypeId) (h : w.heap[g]? = some (.cells #[.int .u8 b] t)) : In8 w (some ⟨g, 0, none⟩) 1 1 [b] := by
  refine ⟨rfl, .of fun x hx => ?_, by omega, by omega, by omega, fun _ => ⟨g, 0, rfl, row_lt h, fun j hj => ?_⟩⟩
  · simp only [List.mem_singleton] at hx; subst hx; exact hb
  · have e : j = 0 := by simp at hj; omega
    subst e
    rw [cell_of_row _ _ _ _ _ _ h]; rfl
set_option maxHeartbeats 400000 in
theorem leaf_any (w : World) (p : Option Addr) (n c : Nat) (xs : List Int) (hi : In8 w p n c xs) (hn : n < 140737488355328) :
    Calls Tryd.prog 128 #[.agg (leafCells p n c)] w fun e w' => ∃ p' n' c', e = .returned (.slice p' n' c') ∧ Below w.heap.size w w' ∧ In8 w' p' n' c' (0 :: xs) := by
  have hc : ∀ o, ((w.alloc (.cells (leafCells p n c) 184)).alloc o).cell? ⟨w.heap.size, 0, none⟩ = some (.slice p n c) := fun o => by
    rw [cell_of_row _ _ _ _ _ _ (heap2 w _ _).1]; rfl
  have hb2 := fun A B C => below3 w A B C
  go_enter Tryd.func128, Tryd.ntmps128
  go_wp2_with fail
  have V := heap3 w (.cells (leafCells p n c) 184) (.cells #[.int .u8 0] 5) (.cells #[.slice (some ⟨w.heap.size + 1, 0, none⟩) 1 1, .slice p n c] 22)
  have hb := hb2 (.cells (leafCells p n c) 184) (.cells #[.int .u8 0] 5) (.cells #[.slice (some ⟨w.heap.size + 1, 0, none⟩) 1 1, .slice p n c] 22)
  have hl := hi.len
  have e2 := cat2 [0] xs
  refine (concat_any (w.heap.size + 1 + 1) 2 (pf2 (some ⟨w.heap.size + 1, 0, none⟩) p) (nf2 1 n) (nf2 1 c) (xf2 [0] xs) _ (by omega) ?_ ?_ (by rw [e2]; simp) (by rw [e2]; simp; omega)).mono ?_
  · intro i hi'
    rw [cell_of_row _ _ _ _ _ _ V.2.2]
    rcases i with _ | _ | i
    · rfl
    · rfl
    · omega
  · intro i hi'
    rcases i with _ | _ | i
    · exact in8_one _ 0 (by omega) _ _ V.2.1
    · exact hi.below hb
    · omega
  · rintro e w' ⟨p', n', c', rfl, hb', hi'⟩
    rw [e2] at hi'
    have HI : Hid (In8 w' p' n' c' (0 :: xs)) := hi'
    have HB : Hid (Below w.heap.size w w') := hb.trans (hb'.mono (by simp; omega))
    clear hi' hb' V hb hb2 hc
    go_wp2_with fail
    go_ret
    exact ⟨_, _, _, rfl, HB.out, HI.out⟩
theorem knot_cell (L R : List Int) (hL : L.length = 32) (hR : R.length = 32) (j : Nat) (hj : j < 64) : (knotCells L R)[1 + j]? = some (.int .u8 ((L ++ R).getD j 0)) := by
  have h : j < (L ++ R).length := by rw [List.length_append]; omega
  simp only [knotCells, List.getElem?_toArray]
  rw [Nat.add_comm 1 j, List.getElem?_cons_succ, List.getElem?_map, List.getElem?_eq_getElem h, List.getD_eq_getElem?_getD, List.getElem?_eq_getElem h]
  rfl
theorem knot_L {w : World} {g : Nat} {t : TypeId} {L R : List Int} (hL : L.length = 32) (hR : R.length = 32) (bL : Bytes L) (h : w.heap[g]? = some (.cells (knotCells L R) t)) : In8 w (some ⟨g, 1, none⟩) 32 32 L := by
  refine ⟨hL, bL, by omega, by omega, by omega, fun _ => ⟨g, 1, rfl, row_lt h, fun j hj => ?_⟩⟩
  rw [cell_of_row _ _ _ _ _ _ h, knot_cell L R hL hR j (by omega), List.getD_eq_getElem?_getD, List.getElem?_append_left hj, ← List.getD_eq_getElem?_getD]
theorem knot_R {w : World} {g : Nat} {t : TypeId} {L R : List Int} (hL : L.length = 32) (hR : R.length = 32) (bR : Bytes R) (h : w.heap[g]? = some (.cells (knotCells L R) t)) : In8 w (some ⟨g, 33, none⟩) 32 32 R := by
  refine ⟨hR, bR, by omega, by omega, by omega, fun _ => ⟨g, 33, rfl, row_lt h, fun j hj => ?_⟩⟩
  rw [cell_of_row _ _ _ _ _ _ h, show 33 + j = 1 + (32 + j) by omega, knot_cell L R hL hR (32 + j) (by omega), List.getD_eq_getElem?_getD, List.getElem?_append_right (by omega), hL, Nat.add_sub_cancel_left, ← List.getD_eq_getElem?_getD]
def xf3 (a b c : List Int) : Nat → List Int
  | 0 => a
  | 1 => b
  | _ => c
def pf3 (p q r : Option Addr) : Nat → Option Addr
  | 0 => p
  | 1 => q
  | _ => r
def nf3 (m n k : Nat) : Nat → Nat
  | 0 => m
  | 1 => n
  | _ => k
theorem cat3 (a b c : List Int) : catX (xf3 a b c) 3 = a ++ (b ++ c) := by simp [catX, xf3]
set_option maxHeartbeats 1000000 in
theorem knot_any (w : World) (L R : List Int) (hL : L.length = 32) (hR : R.length = 32) (bL : Bytes L) (bR : Bytes R) :
    Calls Tryd.prog 129 #[.agg (knotCells L R)] w fun e w' => ∃ p' n' c', e = .returned (.slice p' n' c') ∧ Below w.heap.size w w' ∧ In8 w' p' n' c' (1 :: (L ++ R)) := by
  go_enter Tryd.func129, Tryd.ntmps129
  go_wp2_with fail
  have hg := heapN w (.cells (knotCells L R) 184) _ rfl
  have hb : Below w.heap.size w (w.alloc (.cells (knotCells L R) 184)) := (Below.refl _ _).alloc (Nat.le_refl _) _
  have hgs : w.heap.size < (w.alloc (.cells (knotCells L R) 184)).heap.size := by simp
  generalize w.alloc (.cells (knotCells L R) 184) = V at *
  generalize hgg : w.heap.size = g at *
  obtain ⟨KC, hKC⟩ : ∃ KC, knotCells L R = KC := ⟨_, rfl⟩
  have HKC : Hid (KC = knotCells L R) := hKC.symm
  rw [hKC] at hg ⊢
  clear hKC
  have bV : Below V.heap.size V V.drew := (Below.refl _ _).drew
  refine wp_region_noPanic ?_
  refine wp_region_held (S := fun W => Below V.heap.size V W) follows ?_
  refine wpAnyH_take (i := 1) (v := .pointer (some ⟨g, 1, none⟩)) rfl (by kernel_rfl) (by kernel_rfl) (by kernel_rfl) (fun _ _ _ h => h) (.inl ⟨rfl, fun W _ => by go_simp⟩) bV ?_
  refine wpAnyH_take (i := 2) (v := .slice (some ⟨g, 1, none⟩) 32 32) rfl (by kernel_rfl) (by kernel_rfl) (by kernel_rfl) (fun _ _ _ h => h) (.inl ⟨rfl, fun W _ => by go_simp⟩) bV ?_
  refine wpAnyH_take (i := 3) (v := .pointer (some ⟨g, 33, none⟩)) rfl (by kernel_rfl) (by kernel_rfl) (by kernel_rfl) (fun _ _ _ h => h) (.inl ⟨rfl, fun W _ => by go_simp⟩) bV ?_
  refine wpAnyH_take (i := 4) (v := .slice (some ⟨g, 33, none⟩) 32 32) rfl (by kernel_rfl) (by kernel_rfl) (by kernel_rfl) (fun _ _ _ h => h) (.inl ⟨rfl, fun W _ => by go_simp⟩) bV ?_
  refine reframe #[false, true, true, true, true, false, false, false] { tmps := #[.agg KC, .pointer (some ⟨g, 0, none⟩), .slice none 0 0, undef, .pointer (some ⟨g, 1, none⟩), .slice (some ⟨g, 1, none⟩) 32 32, .pointer (some ⟨g, 33, none⟩), .slice (some ⟨g, 33, none⟩) 32 32, undef, undef], defers := [] } (by kernel_rfl) (by rfl) ?_
  refine any_one (i := 0) (by kernel_rfl) ?_
  refine wpOp_val (v := .slice (some ⟨V.drew.heap.size, 0, none⟩) 1 1) (w' := V.drew.alloc (.cells #[.int .u8 1] 5)) rfl rfl (by go_simp) ?_
  have b1 : Below V.heap.size V (V.drew.alloc (.cells #[.int .u8 1] 5)) := bV.alloc (Nat.le_refl _) _
  refine ⟨b1, ?_⟩
  have h1 := heapN V.drew (.cells #[.int .u8 1] 5) _ rfl
  have g1 : V.drew.heap.size = V.heap.size := rfl
  rw [g1] at h1
  have s1 : V.heap.size < (V.drew.alloc (.cells #[.int .u8 1] 5)).heap.size := row_lt h1
  rw [g1]
  generalize V.drew.alloc (.cells #[.int .u8 1] 5) = V1 at *
  generalize hg1 : V.heap.size = k1 at *
  refine reframe #[true, true, true, true, true, false, false, false] { tmps := #[.agg KC, .pointer (some ⟨g, 0, none⟩), .slice none 0 0, .slice (some ⟨k1, 0, none⟩) 1 1, .pointer (some ⟨g, 1, none⟩), .slice (some ⟨g, 1, none⟩) 32 32, .pointer (some ⟨g, 33, none⟩), .slice (some ⟨g, 33, none⟩) 32 32, undef, undef], defers := [] } (by kernel_rfl) (by rfl) ?_
  refine any_one (i := 5) (by kernel_rfl) ?_
  refine wpOp_val (v := .slice (some ⟨V1.heap.size, 0, none⟩) 3 3) (w' := V1.alloc (.cells #[.slice (some ⟨k1, 0, none⟩) 1 1, .slice (some ⟨g, 1, none⟩) 32 32, .slice (some ⟨g, 33, none⟩) 32 32] 22)) rfl rfl (by go_simp) ?_
  have b2 : Below k1 V (V1.alloc (.cells #[.slice (some ⟨k1, 0, none⟩) 1 1, .slice (some ⟨g, 1, none⟩) 32 32, .slice (some ⟨g, 33, none⟩) 32 32] 22)) := b1.alloc (by omega) _
  refine ⟨b2, ?_⟩
  have h2 := heapN V1 (.cells #[.slice (some ⟨k1, 0, none⟩) 1 1, .slice (some ⟨g, 1, none⟩) 32 32, .slice (some ⟨g, 33, none⟩) 32 32] 22) _ rfl
  have h12 := (heapO V1 (.cells #[.slice (some ⟨k1, 0, none⟩) 1 1, .slice (some ⟨g, 1, none⟩) 32 32, .slice (some ⟨g, 33, none⟩) 32 32] 22) k1 s1).trans h1
  have hg2 := (b2.block g hgs).trans hg
  generalize V1.alloc (.cells #[.slice (some ⟨k1, 0, none⟩) 1 1, .slice (some ⟨g, 1, none⟩) 32 32, .slice (some ⟨g, 33, none⟩) 32 32] 22) = V2 at *
  generalize V1.heap.size = k2 at *
  clear hg h1 b1
  refine reframe #[true, true, true, true, true, true, false, false] { tmps := #[.agg KC, .pointer (some ⟨g, 0, none⟩), .slice none 0 0, .slice (some ⟨k1, 0, none⟩) 1 1, .pointer (some ⟨g, 1, none⟩), .slice (some ⟨g, 1, none⟩) 32 32, .pointer (some ⟨g, 33, none⟩), .slice (some ⟨g, 33, none⟩) 32 32, .slice (some ⟨k2, 0, none⟩) 3 3, undef], defers := [] } (by kernel_rfl) (by rfl) ?_
  have e3 := cat3 [1] L R
  refine any_one (i := 6) (by kernel_rfl) ?_
  refine wpOp_call (f := 97) (args := #[.slice (some ⟨k2, 0, none⟩) 3 3]) rfl rfl (by go_simp) ?_
  refine (concat_any k2 3 (pf3 (some ⟨k1, 0, none⟩) (some ⟨g, 1, none⟩) (some ⟨g, 33, none⟩)) (nf3 1 32 32) (nf3 1 32 32) (xf3 [1] L R) _ (by omega) ?_ ?_ (by rw [e3]; simp) (by rw [e3]; simp; omega)).mono ?_
  · intro i hi'
    rw [cell_of_row _ _ _ _ _ _ h2]
    rcases i with _ | _ | _ | i
    · rfl
    · rfl
    · rfl
    · omega
  · intro i hi'
    rcases i with _ | _ | _ | i
    · exact in8_one _ 1 (by omega) _ _ h12
    · exact knot_L hL hR bL (HKC.out ▸ hg2)
    · exact knot_R hL hR bR (HKC.out ▸ hg2)
    · omega
  rintro e V3 ⟨p', n', c', rfl, hb3, hi3⟩
  rw [e3] at hi3
  have b3 : Below k1 V V3 := b2.trans (hb3.mono (by have := b2.size; omega))
  refine ⟨_, rfl, b3, ?_⟩
  refine reframe #[true, true, true, true, true, true, true, false] { tmps := #[.agg KC, .pointer (some ⟨g, 0, none⟩), .slice none 0 0, .slice (some ⟨k1, 0, none⟩) 1 1, .pointer (some ⟨g, 1, none⟩), .slice (some ⟨g, 1, none⟩) 32 32, .pointer (some ⟨g, 33, none⟩), .slice (some ⟨g, 33, none⟩) 32 32, .slice (some ⟨k2, 0, none⟩) 3 3, .slice p' n' c'], defers := [] } (by kernel_rfl) (by rfl) ?_
  refine wpAnyH_take (i := 7) (v := .slice p' n' c') rfl (by kernel_rfl) (by kernel_rfl) (by kernel_rfl) (fun _ _ _ h => h) (.inl ⟨rfl, fun W _ => by go_simp⟩) b3 ?_
  refine reframe #[true, true, true, true, true, true, true, true] { tmps := #[.agg KC, .pointer (some ⟨g, 0, none⟩), .slice p' n' c', .slice (some ⟨k1, 0, none⟩) 1 1, .pointer (some ⟨g, 1, none⟩), .slice (some ⟨g, 1, none⟩) 32 32, .pointer (some ⟨g, 33, none⟩), .slice (some ⟨g, 33, none⟩) 32 32, .slice (some ⟨k2, 0, none⟩) 3 3, .slice p' n' c'], defers := [] } (by kernel_rfl) (by rfl) ?_
  refine wpAnyH_done (by kernel_rfl) ?_ _
  refine NoPanic.normal ?_
  have HB : Hid (Below g w V3) := hb.trans (b3.mono (by omega))
  have HI : Hid (In8 V3 p' n' c' (1 :: (L ++ R))) := hi3
  clear b2 b3 hb3 hi3 h2 h12 hg2 hb bV
  go_wp2_with fail
  go_ret
  exact ⟨_, _, _, rfl, by rw [hgg]; exact HB.out, HI.out⟩
set_option maxHeartbeats 400000 in
theorem thash_any (w : World) (f : FuncId) (v : Value) (xs : List Int) (hT : Tabs KS HS w)
    (hen : ∀ W : World, (callFunc f #[v]).run Tryd.prog W = .ok (.enter f #[v]) W)
    (hf : ∀ W : World, Below w.heap.size w W → Calls Tryd.prog f #[v] W fun e w' => ∃ p' n' c', e = .returned (.slice p' n' c') ∧ Below W.heap.size W w' ∧ In8 w' p' n' c' xs) :
    Calls Tryd.prog 93 #[.func (.func f) #[v] #[]] w fun e w' => e = .returned (.agg (A8 (hP xs))) ∧ Below w.heap.size w w' := by
  have hb0 : Below w.heap.size w (w.alloc (.cells Z8x32 25)) := (Below.refl _ _).alloc (Nat.le_refl _) _
  have d0 : Hid (Dg (w.alloc (.cells Z8x32 25)) w.heap.size Z32) := Dg.new w _ rfl
  go_enter Tryd.func93, Tryd.ntmps93
  go_wp2_with fail
  refine (hf _ hb0).mono ?_
  rintro e w1 ⟨p', n', c', rfl, b1, hi1⟩
  have d1 : Hid (Dg w1 w.heap.size Z32) := d0.out.next b1
  have B1 : Below w.heap.size w w1 := hb0.trans (b1.mono (by simp))
  clear b1 d0 hf
  go_wp2_with fail
  refine (hP_any w1 (hT.below B1) p' n' c' xs hi1).mono ?_
  rintro e w2 ⟨rfl, b2⟩
  have d2 : Hid (Dg w2 w.heap.size Z32) := d1.out.next b2
  have B2 : Below w.heap.size w w2 := B1.trans (b2.mono B1.size)
  have hl := hP_len xs
  clear b2 d1 B1 hi1
  obtain ⟨D, hD⟩ : ∃ D, hP xs = D := ⟨_, rfl⟩
  have HD : Hid (hP xs = D) := hD
  rw [hD] at hl ⊢
  clear hD
  go_wp2_with (first
    | (with_reducible refine atStore 25 ?_
       refine store_D rfl (.tmp 2) (.tmp 5) rfl w.heap.size D rfl rfl Z32 d2.out hl ?_
       intro U hU))
  exact bodyPost_ret (v := .agg (A8 D)) (results_cell_row rfl _ _ w.heap.size 25 _ (0, 0) _ rfl hU.here und25 rfl (by rw [info25, A8_size, hl])) rfl ⟨by rw [HD.out], hU.below _ _ (Nat.le_refl _) B2⟩
/-- What a method value of a place is, and the text that it tells. -/
def leafV (p : Option Addr) (n c : Nat) : Value := .func (.func 128) #[.agg (leafCells p n c)] #[]
def knotV (L R : List Int) : Value := .func (.func 129) #[.agg (knotCells L R)] #[]
def TextV (w : World) (v : Value) (xs : List Int) : Prop :=
  ∃ f u, v = .func (.func f) #[u] #[] ∧ (∀ W : World, (callFunc f #[u]).run Tryd.prog W = .ok (.enter f #[u]) W) ∧
    ∀ W : World, Below w.heap.size w W → Calls Tryd.prog f #[u] W fun e w' => ∃ p' n' c', e = .returned (.slice p' n' c') ∧ Below W.heap.size W w' ∧ In8 w' p' n' c' xs
theorem leafV_text (w : World) (p : Option Addr) (n c : Nat) (xs : List Int) (hi : In8 w p n c xs) (hn : n < 140737488355328) : TextV w (leafV p n c) (0 :: xs) :=
  ⟨_, _, rfl, fun W => by go_simp, fun W hW => leaf_any W p n c xs (hi.below hW) hn⟩
theorem knotV_text (w : World) (L R : List Int) (hL : L.length = 32) (hR : R.length = 32) (bL : Bytes L) (bR : Bytes R) : TextV w (knotV L R) (1 :: (L ++ R)) :=
  ⟨_, _, rfl, fun W => by go_simp, fun W _ => knot_any W L R hL hR bL bR⟩
theorem textHash_any (w : World) (v : Value) (xs : List Int) (hT : Tabs KS HS w) (h : TextV w v xs) :
    Calls Tryd.prog 93 #[v] w fun e w' => e = .returned (.agg (A8 (hP xs))) ∧ Below w.heap.size w w' := by
  obtain ⟨f, u, rfl, h2, h3⟩ := h
  exact thash_any w f u xs hT h2 h3
theorem leafText_any (w : World) (p : Option Addr) (n c : Nat) :
    Calls Tryd.prog 116 #[.slice p n c] w fun e w' => e = .returned (leafV p n c) ∧ w' = w := by
  have hbd := build_leaf p n c
  have hmf := mkf
  go_enter Tryd.func116, Tryd.ntmps116
  go_wp2_with fail
  go_ret
  exact ⟨rfl, rfl⟩
set_option maxHeartbeats 400000 in
theorem leafOf_any (w : World) (hT : Tabs KS HS w) (p : Option Addr) (n c : Nat) (xs : List Int) (hi : In8 w p n c xs) (hn : n < 140737488355328) :
    Calls Tryd.prog 101 #[.slice p n c] w fun e w' => e = .returned (.agg (A8 (leafP xs))) ∧ Below w.heap.size w w' := by
  have hb0 : Below w.heap.size w (w.alloc (.cells Z8x32 25)) := (Below.refl _ _).alloc (Nat.le_refl _) _
  have d0 : Hid (Dg (w.alloc (.cells Z8x32 25)) w.heap.size Z32) := Dg.new w _ rfl
  go_enter Tryd.func101, Tryd.ntmps101
  go_wp2_with fail
  refine (leafText_any _ p n c).mono ?_
  rintro e w1 ⟨rfl, rfl⟩
  go_wp2_with fail
  refine (textHash_any _ _ (0 :: xs) (hT.below hb0) (leafV_text _ p n c xs (hi.below hb0) hn)).mono ?_
  rintro e w2 ⟨rfl, b2⟩
  have d2 : Hid (Dg w2 w.heap.size Z32) := d0.out.next b2
  have B2 : Below w.heap.size w w2 := hb0.trans (b2.mono (by simp))
  have hl := leafP_len xs
  have e1 : hP (0 :: xs) = leafP xs := rfl
  rw [e1]
  clear b2 d0 e1
  obtain ⟨D, hD⟩ : ∃ D, leafP xs = D := ⟨_, rfl⟩
  have HD : Hid (leafP xs = D) := hD
  rw [hD] at hl ⊢
  clear hD
  go_wp2_with (first
    | (with_reducible refine atStore 25 ?_
       refine store_D rfl (.tmp 2) (.tmp 5) rfl w.heap.size D rfl rfl Z32 d2.out hl ?_
       intro U hU))
  exact bodyPost_ret (v := .agg (A8 D)) (results_cell_row rfl _ _ w.heap.size 25 _ (0, 0) _ rfl hU.here und25 rfl (by rw [info25, A8_size, hl])) rfl ⟨by rw [HD.out], hU.below _ _ (Nat.le_refl _) B2⟩
theorem atBuild {P : Program} {ops : Array Oper} {Q : Exit → Act → World → Prop} {rest : List Oper} {a : Act} {w : World} {d ps t p af g} (ty : TypeId)
    (h : wpList P ops Q (⟨d, .build ty ps, t, p, af, g⟩ :: rest) a w) : wpList P ops Q (⟨d, .build ty ps, t, p, af, g⟩ :: rest) a w := h
theorem wpList_build_knot {ops : Array Oper} {rest : List Oper} {o : Oper} {a : Act} {w : World} {Q : Exit → Act → World → Prop} (hgd : o.guard = none) (x y : Operand) (ho : o.op = .build 184 #[(1, x), (2, y)])
    (L R : List Int) (hx : a.eval x = .agg (A8 L)) (hy : a.eval y = .agg (A8 R)) (hL : L.length = 32) (hR : R.length = 32)
    (h : wpList Tryd.prog ops Q rest (a.put o.dst (.agg (knotCells L R))) w) : wpList Tryd.prog ops Q (o :: rest) a w := by
  have hr := build_knot L R hL hR w
  refine wpList_plain hgd fun _ hK => ?_
  unfold Oper.wp execOp
  simp only [ho, Sem.run_bind, Sem.run_pure, Result.andThen_ok, List.map_toArray, List.map_cons, List.map_nil, hx, hy, hr]
  exact hK _ _ h
set_option maxHeartbeats 400000 in
theorem knotText_any (w : World) (L R : List Int) (hL : L.length = 32) (hR : R.length = 32) :
    Calls Tryd.prog 117 #[.agg (A8 L), .agg (A8 R)] w fun e w' => e = .returned (knotV L R) ∧ Below w.heap.size w w' := by
  have hb0 : Below w.heap.size w ((w.alloc (.cells (A8 L) 25)).alloc (.cells (A8 R) 25)) := ((Below.refl _ _).alloc (Nat.le_refl _) _).alloc (by simp) _
  have V := heap2 w (.cells (A8 L) 25) (.cells (A8 R) 25)
  have dL : Hid (Dg ((w.alloc (.cells (A8 L) 25)).alloc (.cells (A8 R) 25)) w.heap.size L) := ⟨hL, V.1⟩
  have dR : Hid (Dg ((w.alloc (.cells (A8 L) 25)).alloc (.cells (A8 R) 25)) (w.heap.size + 1) R) := ⟨hR, V.2⟩
  clear V
  have hmf := mkf
  go_enter Tryd.func117, Tryd.ntmps117
  go_wp2_with (first
    | (with_reducible refine atLoad 25 ?_
       first
         | refine load_D rfl (.tmp 2) rfl w.heap.size rfl L dL.out ?_
         | refine load_D rfl (.tmp 3) rfl (w.heap.size + 1) rfl R dR.out ?_)
    | (with_reducible refine atBuild 184 ?_
       refine wpList_build_knot rfl (.tmp 5) (.tmp 6) rfl L R rfl rfl hL hR ?_))
  go_ret
  exact ⟨rfl, hb0⟩
set_option maxHeartbeats 400000 in
theorem knotOf_any (w : World) (hT : Tabs KS HS w) (L R : List Int) (hL : L.length = 32) (hR : R.length = 32) (bL : Bytes L) (bR : Bytes R) :
    Calls Tryd.prog 103 #[.agg (A8 L), .agg (A8 R)] w fun e w' => e = .returned (.agg (A8 (knotP L R))) ∧ Below w.heap.size w w' := by
  have hb0 := below3 w (.cells (A8 L) 25) (.cells (A8 R) 25) (.cells Z8x32 25)
  have V := heap3 w (.cells (A8 L) 25) (.cells (A8 R) 25) (.cells Z8x32 25)
  have dL : Hid (Dg (((w.alloc (.cells (A8 L) 25)).alloc (.cells (A8 R) 25)).alloc (.cells Z8x32 25)) w.heap.size L) := ⟨hL, V.1⟩
  have dR : Hid (Dg (((w.alloc (.cells (A8 L) 25)).alloc (.cells (A8 R) 25)).alloc (.cells Z8x32 25)) (w.heap.size + 1) R) := ⟨hR, V.2.1⟩
  have d0 : Hid (Dg (((w.alloc (.cells (A8 L) 25)).alloc (.cells (A8 R) 25)).alloc (.cells Z8x32 25)) (w.heap.size + 2) Z32) := ⟨rfl, V.2.2⟩
  clear V
  go_enter Tryd.func103, Tryd.ntmps103
  go_wp2_with (first
    | (with_reducible refine atLoad 25 ?_
       first
         | refine load_D rfl (.tmp 2) rfl w.heap.size rfl L dL.out ?_
         | refine load_D rfl (.tmp 3) rfl (w.heap.size + 1) rfl R dR.out ?_))
  refine (knotText_any _ L R hL hR).mono ?_
  rintro e w1 ⟨rfl, b1⟩
  have d1 : Hid (Dg w1 (w.heap.size + 2) Z32) := d0.out.next b1
  have B1 : Below w.heap.size w w1 := hb0.trans (b1.mono (by simp; omega))
  clear d0 b1 dL dR hb0
  go_wp2_with fail
  refine (textHash_any _ _ (1 :: (L ++ R)) (hT.below B1) (knotV_text _ L R hL hR bL bR)).mono ?_
  rintro e w2 ⟨rfl, b2⟩
  have d2 : Hid (Dg w2 (w.heap.size + 2) Z32) := d1.out.next b2
  have B2 : Below w.heap.size w w2 := B1.trans (b2.mono B1.size)
  have hl := knotP_len L R
  have e1 : hP (1 :: (L ++ R)) = knotP L R := rfl
  rw [e1]
  clear b2 d1 e1 B1
  obtain ⟨D, hD⟩ : ∃ D, knotP L R = D := ⟨_, rfl⟩
  have HD : Hid (knotP L R = D) := hD
  rw [hD] at hl ⊢
  clear hD
  go_wp2_with (first
    | (with_reducible refine atStore 25 ?_
       refine store_D rfl (.tmp 4) (.tmp 8) rfl (w.heap.size + 2) D rfl rfl Z32 d2.out hl ?_
       intro U hU))
  exact bodyPost_ret (v := .agg (A8 D)) (results_cell_row rfl _ _ (w.heap.size + 2) 25 _ (0, 0) _ rfl hU.here und25 rfl (by rw [info25, A8_size, hl])) rfl ⟨by rw [HD.out], hU.below _ _ (by omega) B2⟩
end Go.Proofs.YtcmjlhcpoajbkaaDoor
namespace Go.Proofs.YtcmjlhcpoajbkaaDoor
set_option maxRecDepth 10000
open Go.RowKit
/-- A digest at an address. -/
def At8 (w : World) (ad : Addr) (D : List Int) : Prop := ∀ j, j < 32 → w.cell? (ad.add j) = some (.int .u8 (D.getD j 0))
theorem run_loadVar_at (w : World) (ad : Addr) (D : List Int) (hl : D.length = 32) (hc : At8 w ad D) : (loadVar 25 ad).run Tryd.prog w = .ok (.agg (A8 D)) w := by
  have hL : (loadCells ad 32).run Tryd.prog w = .ok (A8 D) w := by
    have := run_loadCells_list (P := Tryd.prog) w ad (D.map (Value.int .u8)) (fun j v hv => by
      have hj : j < D.length := by
        rcases Nat.lt_or_ge j D.length with h | h
        · exact h
        · rw [List.getElem?_eq_none (by simpa using h)] at hv; cases hv
      rw [hc j (by omega)]
      simp only [List.getElem?_map, List.getElem?_eq_getElem hj, Option.map_some, Option.some.injEq] at hv
      rw [← hv, List.getD_eq_getElem?_getD, List.getElem?_eq_getElem hj]; rfl)
    rw [List.length_map, hl] at this
    exact this
  have hagg : (isAgg 25).run Tryd.prog w = .ok true w := by
    unfold isAgg
    rw [Sem.run_bind, run_underlying und25 w]
    rfl
  cases hq : Tryd.prog.info? 25 with
  | none => have := info25; rw [hq] at this; cases this
  | some i =>
    have hs : i.size = 32 := by have := info25; rw [hq] at this; simpa using this
    simp [loadVar, Sem.run_bind, hagg, sizeOf, typeInfo, hq, hs, hL]
section
variable {ops : Array Oper} {rest : List Oper} {o : Oper} {a : Act} {w : World} {Q : Exit → Act → World → Prop} {S : World → Prop}
theorem yields_at (hw : Region.wanted o (yielded ops a.tmps) = true) (x : Operand) (ho : o.op = .load 25 x) (ad : Addr) (hx : a.eval x = .pointer (some ad)) (D : List Int) (hl : D.length = 32) (hS : ∀ w, S w → At8 w ad D) : YieldsIf Tryd.prog ops S o (.agg (A8 D)) a :=
  .inl ⟨hw, fun w h => by
    unfold execOp
    simp only [ho, hx, Instr.loadAt, Instr.sureAddr, Sem.run_bind, Sem.run_pure, Result.andThen_ok, run_loadVar_at w ad D hl (hS w h)]⟩
end
theorem loadVar_D {w : World} {g : Nat} {D : List Int} (h : Dg w g D) : (loadVar 25 ⟨g, 0, none⟩).run Tryd.prog w = .ok (.agg (A8 D)) w :=
  run_loadVar_row (P := Tryd.prog) w g 25 25 (A8 D) (0, 0) (.array 32 5) h.here und25 rfl (by rw [info25, A8_size, h.len])
theorem results_D {fn : Func} {p : Tmp} (h : fn.results = #[.cell p 25]) (tmps : Array Value) (w : World) (g : Nat) (D : List Int) (hp : tmps.getD p undef = .pointer (some ⟨g, 0, none⟩)) (hd : Dg w g D) :
    (results fn tmps).run Tryd.prog w = .ok (.agg (A8 D)) w := by
  have hp' : tmps[p]?.getD undef = .pointer (some ⟨g, 0, none⟩) := by simpa using hp
  simp [results, h, hp', asAddr, loadVar_D hd]
theorem results_DT {fn : Func} {p u : Tmp} (h : fn.results = #[.cell p 25, .tmp u]) (tmps : Array Value) (w : World) (g : Nat) (D : List Int) (hp : tmps.getD p undef = .pointer (some ⟨g, 0, none⟩)) (hd : Dg w g D) :
    (results fn tmps).run Tryd.prog w = .ok (.tuple #[.agg (A8 D), tmps.getD u undef]) w := by
  have hp' : tmps[p]?.getD undef = .pointer (some ⟨g, 0, none⟩) := by simpa using hp
  simp [results, h, hp', asAddr, loadVar_D hd]
theorem results_TDT {fn : Func} {p u v : Tmp} (h : fn.results = #[.tmp v, .cell p 25, .tmp u]) (tmps : Array Value) (w : World) (g : Nat) (D : List Int) (hp : tmps.getD p undef = .pointer (some ⟨g, 0, none⟩)) (hd : Dg w g D) :
    (results fn tmps).run Tryd.prog w = .ok (.tuple #[tmps.getD v undef, .agg (A8 D), tmps.getD u undef]) w := by
  have hp' : tmps[p]?.getD undef = .pointer (some ⟨g, 0, none⟩) := by simpa using hp
  simp [results, h, hp', asAddr, loadVar_D hd]
theorem addr_block (a : Addr) (n : Nat) : (a.add n).block = a.block := by unfold Addr.add; split <;> rfl
end Go.Proofs.YtcmjlhcpoajbkaaDoor
namespace Go.Proofs.YtcmjlhcpoajbkaaDoor
open Go.RowKit
theorem len_close (x : Int) (K : Int) (k : Nat) (y : Int) (hK : K = k) (h0 : 0 ≤ x) (h1 : x ≤ 18446744073709551615) (hy : y.toNat = x.toNat / 2 ^ k) (y0 : 0 ≤ y) (y1 : y ≤ 255) (hk : k ≤ 56) (hx : k = 0 ∨ 2 ^ k ≤ x.toNat) :
    (K + ((Lib.len8 y + 9223372036854775808) % 18446744073709551616 - 9223372036854775808) + 9223372036854775808) % 18446744073709551616 - 9223372036854775808 = ((Lib.bitLen x.toNat : Nat) : Int) := by
  have l := Lib.bitLen_le8' y y0 y1
  have s : Lib.bitLen x.toNat = k + Lib.bitLen y.toNat := by
    rcases hx with hx | hx
    · subst hx; rw [hy]; simp
    · rw [hy]; exact Lib.bitLen_shift k _ hx (by omega)
  rw [Lib.len8_of y y0 y1, s]
  omega
set_option maxHeartbeats 4000000 in
set_option maxRecDepth 100000 in
theorem len64_any (x : Int) (w : World) (h0 : 0 ≤ x) (h1 : x ≤ 18446744073709551615) :
    Calls Tryd.prog 134 #[.int .u64 x] w fun e w' => e = .returned (.int .i64 (Lib.bitLen x.toNat)) ∧ w' = w := by
  go_enter Tryd.func134, Tryd.ntmps134
  go_wp2
  all_goals (go_ret; refine ⟨congrArg Ending.returned (congrArg (Value.int IntKind.i64) ?_), rfl⟩)
  · exact len_close x 56 56 _ rfl h0 h1 (by omega) (by omega) (by omega) (by omega) (.inr (by omega))
  · exact len_close x 48 48 _ rfl h0 h1 (by omega) (by omega) (by omega) (by omega) (.inr (by omega))
  · exact len_close x 40 40 _ rfl h0 h1 (by omega) (by omega) (by omega) (by omega) (.inr (by omega))
  · exact len_close x 32 32 _ rfl h0 h1 (by omega) (by omega) (by omega) (by omega) (.inr (by omega))
  · exact len_close x 24 24 _ rfl h0 h1 (by omega) (by omega) (by omega) (by omega) (.inr (by omega))
  · exact len_close x 16 16 _ rfl h0 h1 (by omega) (by omega) (by omega) (by omega) (.inr (by omega))
  · exact len_close x 8 8 _ rfl h0 h1 (by omega) (by omega) (by omega) (by omega) (.inr (by omega))
  · have h := len_close x 0 0 (x % 256) rfl h0 h1 (by omega) (by omega) (by omega) (by omega) (.inl rfl)
    have l := Lib.bitLen_le8' (x % 256) (by omega) (by omega)
    rw [Lib.len8_of (x % 256) (by omega) (by omega)] at h ⊢
    omega
end Go.Proofs.YtcmjlhcpoajbkaaDoor
namespace Go.Proofs.YtcmjlhcpoajbkaaDoor
set_option maxRecDepth 10000
open Go.RowKit
theorem wrap_pow (L : Nat) (hL : 2 ^ L ≤ 4611686018427387904) : wrap64 ((2 : Int) ^ L) = ((2 ^ L : Nat) : Int) := by
  have e3 : (2 : Int) ^ L = ((2 ^ L : Nat) : Int) := by norm_cast
  rw [e3]
  generalize 2 ^ L = y at hL
  unfold wrap64
  omega
set_option maxHeartbeats 400000 in
theorem len_any (x : Int) (w : World) (h0 : 0 ≤ x) (h1 : x ≤ 18446744073709551615) :
    Calls Tryd.prog 130 #[.int .u64 x] w fun e w' => e = .returned (.int .i64 (Lib.bitLen x.toNat)) ∧ w' = w := by
  go_enter Tryd.func130, Tryd.ntmps130
  go_wp2_with fail
  refine (len64_any x w h0 h1).mono ?_
  rintro e w' ⟨rfl, rfl⟩
  go_wp2_with fail
  go_ret
  exact ⟨rfl, rfl⟩
/-- The greatest power of two below n. -/
def halfN (n : Nat) : Nat := 2 ^ (Lib.bitLen (n - 1) - 1)
theorem bitLen_pos (x : Nat) (h : 0 < x) (h2 : x < 2 ^ 64) : 1 ≤ Lib.bitLen x := by
  rw [Lib.bitLen_half x (by omega) h2]; omega
theorem bitLen_bounds : ∀ (m x : Nat), x ≤ m → 0 < x → x < 2 ^ 64 → 2 ^ (Lib.bitLen x - 1) ≤ x ∧ x < 2 ^ Lib.bitLen x := by
  intro m
  induction m with
  | zero => intro x h1 h2; omega
  | succ m ih =>
    intro x h1 h2 h3
    rw [Lib.bitLen_half x (by omega) h3]
    by_cases h : x = 1
    · subst h; decide
    · obtain ⟨a, b⟩ := ih (x / 2) (by omega) (by omega) (by omega)
      have hp := bitLen_pos (x / 2) (by omega) (by omega)
      have e1 : 1 + Lib.bitLen (x / 2) - 1 = (Lib.bitLen (x / 2) - 1) + 1 := by omega
      rw [e1, Nat.pow_succ, Nat.add_comm 1, Nat.pow_succ]
      omega
theorem halfN_spec (n : Nat) (h : 2 ≤ n) (h2 : n ≤ 2 ^ 64) : halfN n < n ∧ n ≤ 2 * halfN n ∧ 1 ≤ halfN n := by
  obtain ⟨a, b⟩ := bitLen_bounds (n - 1) (n - 1) (Nat.le_refl _) (by omega) (by omega)
  have hp := bitLen_pos (n - 1) (by omega) (by omega)
  have e1 : Lib.bitLen (n - 1) = (Lib.bitLen (n - 1) - 1) + 1 := by omega
  rw [e1, Nat.pow_succ] at b
  have hq : 0 < 2 ^ (Lib.bitLen (n - 1) - 1) := Nat.pow_pos (by omega)
  unfold halfN
  omega
set_option maxHeartbeats 400000 in
theorem powerBelow_any (n : Nat) (w : World) (h1 : 2 ≤ n) (h2 : n ≤ 9223372036854775807) :
    Calls Tryd.prog 120 #[.int .i64 n] w fun e w' => e = .returned (.int .i64 (halfN n)) ∧ w' = w := by
  have e1 : ((n : Int) - 1).toNat = n - 1 := by omega
  have hp := bitLen_pos (n - 1) (by omega) (by omega)
  obtain ⟨hlo, hhi⟩ := bitLen_bounds (n - 1) (n - 1) (Nat.le_refl _) (by omega) (by omega)
  have hb : Lib.bitLen (n - 1) ≤ 63 := by
    rcases Nat.lt_or_ge 63 (Lib.bitLen (n - 1)) with h | h
    · have := Nat.pow_le_pow_right (show 0 < 2 by omega) (show 63 ≤ Lib.bitLen (n - 1) - 1 by omega)
      omega
    · exact h
  have H : Hid (halfN n = 2 ^ (Lib.bitLen (n - 1) - 1)) := rfl
  go_enter Tryd.func120, Tryd.ntmps120
  go_wp2_with fail
  refine (len_any _ w (by omega) (by omega)).mono ?_
  rintro e w' ⟨rfl, rfl⟩
  rw [e1]
  have hL : 2 ^ (Lib.bitLen (n - 1) - 1) ≤ 4611686018427387904 := Nat.pow_le_pow_right (show 0 < 2 by omega) (show Lib.bitLen (n - 1) - 1 ≤ 62 by omega)
  clear hlo hhi e1
  generalize Lib.bitLen (n - 1) = L at *
  go_wp2_with fail
  go_ret
  exact ⟨ret_int (by rw [H.out]; exact wrap_pow _ hL), rfl⟩
end Go.Proofs.YtcmjlhcpoajbkaaDoor
namespace Go.Proofs.YtcmjlhcpoajbkaaDoor
set_option maxRecDepth 10000
open Go.RowKit
theorem owns_shape {w : World} {B s n : Nat} {t : TypeId} {v : Value} {xs : List Value} (h : w.ownsRow B t s v n xs) : ∃ p cap, v = .slice p n cap ∧ n ≤ cap ∧ cap ≤ 9223372036854775807 := by
  obtain ⟨h1, ⟨rfl, rfl⟩ | ⟨g, cap, cur, hv, hg, hh, hc, hm, r⟩⟩ := h
  · exact ⟨none, 0, rfl, Nat.le_refl _, by omega⟩
  · exact ⟨_, cap, hv, hc, by unfold maxLen at hm; omega⟩
end Go.Proofs.YtcmjlhcpoajbkaaDoor
namespace Go.Proofs.YtcmjlhcpoajbkaaDoor
set_option maxRecDepth 10000
open Go.RowKit
theorem Z32_bytes : Bytes Z32 := .of fun x hx => by
  have := List.eq_of_mem_replicate hx
  omega
end Go.Proofs.YtcmjlhcpoajbkaaDoor
namespace Go.Proofs.YtcmjlhcpoajbkaaDoor
set_option maxRecDepth 10000
set_option linter.unusedSimpArgs false
open Go.RowKit
theorem At8.below {w w' : World} {ad : Addr} {D : List Int} (h : At8 w ad D) (hb : Below w.heap.size w w') : At8 w' ad D := fun j hj => by
  rw [hb.cell (block_lt_of_cell (h j hj))]; exact h j hj
end Go.Proofs.YtcmjlhcpoajbkaaDoor
namespace Go.Proofs.YtcmjlhcpoajbkaaDoor
set_option maxRecDepth 10000
set_option linter.unusedSimpArgs false
open Go.RowKit
open Extern.Stop (cell)
theorem A8_cells (D : List Int) (hb : Bytes D) : A8 D = ((toU D).map cell).toArray := by
  conv => lhs; rw [← toI_toU D hb]
  unfold A8 toI
  rw [List.map_map]
  rfl
theorem toU_inj {D E : List Int} (hD : Bytes D) (hE : Bytes E) : (toU D == toU E) = decide (D = E) := by
  by_cases h : D = E
  · subst h; simp
  · have : ¬ toU D = toU E := fun e => h (by rw [← toI_toU D hD, ← toI_toU E hE, e])
    simp [h, this]
theorem eql_D (D E : List Int) (hl : D.length = 32) (hb : Bytes D) (hl' : E.length = 32) (hb' : Bytes E) (w : World) : (binOp .eql 25 (.agg (A8 D)) (.agg (A8 E))).run Tryd.prog w = .ok (.bool (decide (D = E))) w := by
  have h := run_eql_bytes (P := Tryd.prog) w 25 5 32 und25 Tryd.underlying5 Tryd.sizeOf5 (toU D) (toU E) (by rw [toU_len, hl]) (by rw [toU_len, hl'])
  rw [A8_cells D hb, A8_cells E hb', h, toU_inj hb hb']
theorem neq_D (D E : List Int) (hl : D.length = 32) (hb : Bytes D) (hl' : E.length = 32) (hb' : Bytes E) (w : World) : (binOp .neq 25 (.agg (A8 D)) (.agg (A8 E))).run Tryd.prog w = .ok (.bool (!decide (D = E))) w := by
  have h := run_equalIn_bytes (P := Tryd.prog) w 9998 25 5 32 und25 Tryd.underlying5 Tryd.sizeOf5 (toU D) (toU E) (by rw [toU_len, hl]) (by rw [toU_len, hl'])
  rw [A8_cells D hb, A8_cells E hb', run_neq_struct, h, toU_inj hb hb']
  rfl
section
variable {ops : Array Oper} {rest : List Oper} {o : Oper} {a : Act} {w : World} {Q : Exit → Act → World → Prop} {S : World → Prop}
theorem yields_eql (hw : Region.wanted o (yielded ops a.tmps) = true) (x y : Operand) (ho : o.op = .binOp .eql 25 x y 25) (D E : List Int) (hl : D.length = 32) (hb : Bytes D) (hl' : E.length = 32) (hb' : Bytes E)
    (hx : a.eval x = .agg (A8 D)) (hy : a.eval y = .agg (A8 E)) : YieldsIf Tryd.prog ops S o (.bool (decide (D = E))) a :=
  .inl ⟨hw, fun w _ => by
    have e := eql_D D E hl hb hl' hb' w
    have g := run_eqGuard_agg (P := Tryd.prog) w .eql 25 x y (A8 D) (A8 E) (by kernel_rfl)
    unfold execOp
    simp only [ho, hx, hy, Sem.run_bind, g, e, Result.andThen_ok, Sem.run_pure]⟩
theorem yields_neq (hw : Region.wanted o (yielded ops a.tmps) = true) (x y : Operand) (ho : o.op = .binOp .neq 25 x y 25) (D E : List Int) (hl : D.length = 32) (hb : Bytes D) (hl' : E.length = 32) (hb' : Bytes E)
    (hx : a.eval x = .agg (A8 D)) (hy : a.eval y = .agg (A8 E)) : YieldsIf Tryd.prog ops S o (.bool (!decide (D = E))) a :=
  .inl ⟨hw, fun w _ => by
    have e := neq_D D E hl hb hl' hb' w
    have g := run_eqGuard_agg (P := Tryd.prog) w .neq 25 x y (A8 D) (A8 E) (by kernel_rfl)
    unfold execOp
    simp only [ho, hx, hy, Sem.run_bind, g, e, Result.andThen_ok, Sem.run_pure]⟩
end
theorem atBin {P : Program} {ops : Array Oper} {Q : Exit → Act → World → Prop} {rest : List Oper} {a : Act} {w : World} {d x y t p af g} (op : BinOp) (ty ty' : TypeId)
    (h : wpList P ops Q (⟨d, .binOp op ty x y ty', t, p, af, g⟩ :: rest) a w) : wpList P ops Q (⟨d, .binOp op ty x y ty', t, p, af, g⟩ :: rest) a w := h
end Go.Proofs.YtcmjlhcpoajbkaaDoor
namespace Go.Proofs.YtcmjlhcpoajbkaaDoor
set_option maxRecDepth 100000
open Go.ChangeShapes Go.WideShapes Go.ChangeAt Go.RowKit
theorem cells5 : Tryd.prog.cellsOf 5 = 1 := by kernel_rfl
#print axioms climbs_card
end Go.Proofs.YtcmjlhcpoajbkaaDoor
namespace Go.Proofs.YtcmjlhcpoajbkaaDoor
set_option maxRecDepth 10000
set_option linter.unusedSimpArgs false
open Go.RowKit
/-- The root of entries. -/
def rootF : Nat → List (List Int) → List Int
  | 0, _ => hP []
  | f + 1, es => if es.length = 0 then hP [] else if es.length = 1 then leafP (es.getD 0 []) else knotP (rootF f (es.take (halfN es.length))) (rootF f (es.drop (halfN es.length)))
def rootP (es : List (List Int)) : List Int := rootF es.length es
theorem rootF_ok (f : Nat) (es : List (List Int)) : (rootF f es).length = 32 ∧ Bytes (rootF f es) := by
  cases f with
  | zero => exact ⟨hP_len _, hP_bytes _⟩
  | succ f => unfold rootF; split
              · exact ⟨hP_len _, hP_bytes _⟩
              · split
                · exact ⟨leafP_len _, leafP_bytes _⟩
                · exact ⟨knotP_len _ _, knotP_bytes _ _⟩
theorem rootP_ok (es : List (List Int)) : (rootP es).length = 32 ∧ Bytes (rootP es) := rootF_ok _ _
theorem rootF_fuel : ∀ (f g : Nat) (es : List (List Int)), es.length ≤ f → es.length ≤ g → es.length < 2 ^ 63 → rootF f es = rootF g es := by
  intro f
  induction f with
  | zero =>
    intro g es h1 h2 h3
    have h0 : es.length = 0 := by omega
    cases g with
    | zero => rfl
    | succ g => simp [rootF, h0]
  | succ f ih =>
    intro g es h1 h2 h3
    cases g with
    | zero =>
      have h0 : es.length = 0 := by omega
      simp [rootF, h0]
    | succ g =>
      unfold rootF
      by_cases h0 : es.length = 0
      · rw [if_pos h0, if_pos h0]
      · rw [if_neg h0, if_neg h0]
        by_cases e1 : es.length = 1
        · rw [if_pos e1, if_pos e1]
        · rw [if_neg e1, if_neg e1]
          obtain ⟨a, b, c⟩ := halfN_spec es.length (by omega) (by omega)
          rw [ih g (es.take (halfN es.length)) (by rw [List.length_take]; omega) (by rw [List.length_take]; omega) (by rw [List.length_take]; omega),
            ih g (es.drop (halfN es.length)) (by rw [List.length_drop]; omega) (by rw [List.length_drop]; omega) (by rw [List.length_drop]; omega)]
theorem rootP_more (es : List (List Int)) (h : 2 ≤ es.length) (h3 : es.length < 2 ^ 63) : rootP es = knotP (rootP (es.take (halfN es.length))) (rootP (es.drop (halfN es.length))) := by
  obtain ⟨a, b, c⟩ := halfN_spec es.length h (by omega)
  have h1 : rootP es = rootF (es.length - 1 + 1) es := by unfold rootP; rw [Nat.sub_add_cancel (by omega)]
  rw [h1]
  unfold rootF
  rw [if_neg (by omega), if_neg (by omega)]
  unfold rootP
  rw [rootF_fuel (es.length - 1) (es.take (halfN es.length)).length (es.take (halfN es.length)) (by rw [List.length_take]; omega) (Nat.le_refl _) (by rw [List.length_take]; omega),
    rootF_fuel (es.length - 1) (es.drop (halfN es.length)).length (es.drop (halfN es.length)) (by rw [List.length_drop]; omega) (Nat.le_refl _) (by rw [List.length_drop]; omega)]
/-- A slice of entries. -/
structure E22 (w : World) (p : Option Addr) (n cap : Nat) (es : List (List Int)) : Prop where
  len : es.length = n
  fits : n ≤ cap
  room : cap ≤ 9223372036854775807
  lies : 0 < n → ∃ b o, p = some ⟨b, o, none⟩ ∧ b < w.heap.size ∧ ∀ i, i < n → ∃ p' n' c', w.cell? ⟨b, o + i, none⟩ = some (.slice p' n' c') ∧ In8 w p' n' c' (es.getD i []) ∧ n' ≤ 300
theorem E22.below {w w' : World} {p : Option Addr} {n cap : Nat} {es : List (List Int)} (h : E22 w p n cap es) (hb : Below w.heap.size w w') : E22 w' p n cap es :=
  ⟨h.len, h.fits, h.room, fun h0 => by
    obtain ⟨b, o, hp, hl, hc⟩ := h.lies h0
    refine ⟨b, o, hp, Nat.lt_of_lt_of_le hl hb.size, fun i hi => ?_⟩
    obtain ⟨p', n', c', h1, h2, h3⟩ := hc i hi
    exact ⟨p', n', c', by rw [hb.cell (p := ⟨b, o + i, none⟩) hl]; exact h1, h2.below hb, h3⟩⟩
theorem E22.front {w : World} {p : Option Addr} {n cap : Nat} {es : List (List Int)} (h : E22 w p n cap es) (m : Nat) (hm : m ≤ n) : E22 w p m cap (es.take m) :=
  ⟨by rw [List.length_take, h.len]; omega, by have := h.fits; omega, h.room, fun h0 => by
    obtain ⟨b, o, hp, hl, hc⟩ := h.lies (by omega)
    refine ⟨b, o, hp, hl, fun i hi => ?_⟩
    obtain ⟨p', n', c', h1, h2, h3⟩ := hc i (by omega)
    refine ⟨p', n', c', h1, ?_, h3⟩
    rw [List.getD_eq_getElem?_getD, List.getElem?_take, if_pos hi, ← List.getD_eq_getElem?_getD]
    exact h2⟩
theorem E22.back {w : World} {b o : Nat} {n cap : Nat} {es : List (List Int)} (h : E22 w (some ⟨b, o, none⟩) n cap es) (k : Nat) (hk : k < n) : E22 w (some ⟨b, o + k, none⟩) (n - k) (cap - k) (es.drop k) :=
  ⟨by rw [List.length_drop, h.len], by have := h.fits; omega, by have := h.room; omega, fun h0 => by
    obtain ⟨b', o', hp, hl, hc⟩ := h.lies (by omega)
    cases hp
    refine ⟨b, o + k, rfl, hl, fun i hi => ?_⟩
    obtain ⟨p', n', c', h1, h2, h3⟩ := hc (k + i) (by omega)
    refine ⟨p', n', c', by rw [Nat.add_assoc]; exact h1, ?_, h3⟩
    rw [List.getD_eq_getElem?_getD, List.getElem?_drop, ← List.getD_eq_getElem?_getD]
    exact h2⟩
theorem eslice_front (ad : Addr) (n c m : Nat) (hm : m ≤ n) (hn : n ≤ c) (W : World) :
    (Instr.sliceAt 47 (.slice (some ad) n c) none (some (.int .i64 m)) none).run Tryd.prog W = .ok (.slice (some ad) m c) W := by
  have h1 : (m : Int) ≤ c := by omega
  go_simp
theorem eslice_back (b o n c m : Nat) (hm : m < n) (hn : n ≤ c) (W : World) :
    (Instr.sliceAt 47 (.slice (some ⟨b, o, none⟩) n c) (some (.int .i64 m)) none none).run Tryd.prog W = .ok (.slice (some ⟨b, o + m, none⟩) (n - m) (c - m)) W := by
  have h1 : (m : Int) ≤ n := by omega
  have h2 : ¬ c = m := by omega
  have h3 : (⟨b, o, none⟩ : Addr).add m = ⟨b, o + m, none⟩ := addr_add _ _ _
  go_simp
set_option maxHeartbeats 1000000 in
theorem split_any (b o n c : Nat) (w : World) (h2 : 2 ≤ n) (hc : n ≤ c) (hr : c ≤ 9223372036854775807) :
    Calls Tryd.prog 102 #[.slice (some ⟨b, o, none⟩) n c] w fun e w' => e = .returned (.tuple #[.slice (some ⟨b, o, none⟩) (halfN n) c, .slice (some ⟨b, o + halfN n, none⟩) (n - halfN n) (c - halfN n)]) ∧ Below w.heap.size w w' := by
  obtain ⟨hk1, hk2, hk3⟩ := halfN_spec n h2 (by omega)
  have hpb := fun W => powerBelow_any n W h2 (by omega)
  have hs1 := fun W => eslice_front ⟨b, o, none⟩ n c (halfN n) (by omega) hc W
  have hs2 := fun W => eslice_back b o n c (halfN n) hk1 hc W
  go_enter Tryd.func102, Tryd.ntmps102
  go_wp2_with fail
  refine (hpb w).mono ?_
  rintro ex w1 ⟨rfl, rfl⟩
  clear hpb
  obtain ⟨k, hk⟩ : ∃ k, halfN n = k := ⟨_, rfl⟩
  have HK : Hid (halfN n = k) := hk
  rw [hk] at hk1 hk2 hk3 hs1 hs2 ⊢
  clear hk
  go_wp2_with fail
  refine wp_region_noPanic ?_
  refine wp_region_held (S := fun _ => True) follows ?_
  refine wpAnyH_take (i := 0) (v := .slice (some ⟨b, o, none⟩) n c) rfl (by kernel_rfl) (by kernel_rfl) (by kernel_rfl) (fun _ _ _ h => h) (.inl ⟨rfl, fun W _ => by go_simp⟩) trivial ?_
  simp only [Act.put, List.getElem_toArray, List.getElem_cons_zero, List.getElem_cons_succ, List.setIfInBounds_toArray, List.set_cons_zero, List.set_cons_succ]
  refine wpAnyH_take (i := 1) (v := .int .i64 k) rfl (by kernel_rfl) (by kernel_rfl) (by kernel_rfl) (fun _ _ _ h => h) (.inl ⟨rfl, fun W _ => by go_simp⟩) trivial ?_
  simp only [Act.put, List.getElem_toArray, List.getElem_cons_zero, List.getElem_cons_succ, List.setIfInBounds_toArray, List.set_cons_zero, List.set_cons_succ]
  refine wpAnyH_take (i := 2) (v := .slice (some ⟨b, o, none⟩) k c) rfl (by kernel_rfl) (by kernel_rfl) (by kernel_rfl) (fun _ _ _ h => h) (.inl ⟨rfl, fun W _ => by have e := hs1 W; go_simp⟩) trivial ?_
  simp only [Act.put, List.getElem_toArray, List.getElem_cons_zero, List.getElem_cons_succ, List.setIfInBounds_toArray, List.set_cons_zero, List.set_cons_succ]
  refine wpAnyH_take (i := 3) (v := .slice (some ⟨b, o, none⟩) n c) rfl (by kernel_rfl) (by kernel_rfl) (by kernel_rfl) (fun _ _ _ h => h) (.inl ⟨rfl, fun W _ => by go_simp⟩) trivial ?_
  simp only [Act.put, List.getElem_toArray, List.getElem_cons_zero, List.getElem_cons_succ, List.setIfInBounds_toArray, List.set_cons_zero, List.set_cons_succ]
  refine wpAnyH_take (i := 4) (v := .int .i64 k) rfl (by kernel_rfl) (by kernel_rfl) (by kernel_rfl) (fun _ _ _ h => h) (.inl ⟨rfl, fun W _ => by go_simp⟩) trivial ?_
  simp only [Act.put, List.getElem_toArray, List.getElem_cons_zero, List.getElem_cons_succ, List.setIfInBounds_toArray, List.set_cons_zero, List.set_cons_succ]
  refine wpAnyH_take (i := 5) (v := .slice (some ⟨b, o + k, none⟩) (n - k) (c - k)) rfl (by kernel_rfl) (by kernel_rfl) (by kernel_rfl) (fun _ _ _ h => h) (.inl ⟨rfl, fun W _ => by have e := hs2 W; go_simp⟩) trivial ?_
  simp only [Act.put, List.getElem_toArray, List.getElem_cons_zero, List.getElem_cons_succ, List.setIfInBounds_toArray, List.set_cons_zero, List.set_cons_succ]
  refine wpAnyH_take (i := 6) (v := .slice (some ⟨b, o, none⟩) k c) rfl (by kernel_rfl) (by kernel_rfl) (by kernel_rfl) (fun _ _ _ h => h) (.inl ⟨rfl, fun W _ => by go_simp⟩) trivial ?_
  simp only [Act.put, List.getElem_toArray, List.getElem_cons_zero, List.getElem_cons_succ, List.setIfInBounds_toArray, List.set_cons_zero, List.set_cons_succ]
  refine wpAnyH_take (i := 7) (v := .slice (some ⟨b, o + k, none⟩) (n - k) (c - k)) rfl (by kernel_rfl) (by kernel_rfl) (by kernel_rfl) (fun _ _ _ h => h) (.inl ⟨rfl, fun W _ => by go_simp⟩) trivial ?_
  simp only [Act.put, List.getElem_toArray, List.getElem_cons_zero, List.getElem_cons_succ, List.setIfInBounds_toArray, List.set_cons_zero, List.set_cons_succ]
  refine wpAnyH_done (by kernel_rfl) ?_ _
  refine NoPanic.normal ?_
  clear hs1 hs2
  have hb : Below w1.heap.size w1 w1.drew := (Below.refl _ _).drew
  go_wp2_with fail
  go_ret2
  exact ⟨by rw [HK.out]; rfl, hb⟩
set_option maxHeartbeats 2000000 in
theorem troot_any : ∀ (n : Nat) (p : Option Addr) (cap : Nat) (es : List (List Int)) (w : World), Tabs KS HS w → E22 w p n cap es →
    Calls Tryd.prog 76 #[.slice p n cap] w fun e w' => e = .returned (.agg (A8 (rootP es))) ∧ Below w.heap.size w w' := by
  intro n
  induction n using Nat.strongRecOn with
  | ind n ih =>
    intro p cap es w hT hE
    have hb0 : Below w.heap.size w (w.alloc (.cells Z8x32 25)) := (Below.refl _ _).alloc (Nat.le_refl _) _
    have d0 : Hid (Dg (w.alloc (.cells Z8x32 25)) w.heap.size Z32) := Dg.new w _ rfl
    have hf := hE.fits
    have hr := hE.room
    have hlen := hE.len
    by_cases h0 : n = 0
    · subst h0
      have he : es = [] := List.length_eq_zero_iff.1 hlen
      subst he
      go_enter Tryd.func76, Tryd.ntmps76
      go_wp2_with fail
      refine (hP_any _ (hT.below hb0) none 0 0 [] ⟨rfl, fun j => by simp, by omega, by omega, by omega, fun h => by simp at h⟩).mono ?_
      rintro e w1 ⟨rfl, b1⟩
      have d1 : Hid (Dg w1 w.heap.size Z32) := d0.out.next b1
      have B1 : Below w.heap.size w w1 := hb0.trans (b1.mono (by simp))
      have hl := hP_len []
      clear b1 d0
      have e0 : Hid (rootP [] = hP []) := rfl
      obtain ⟨D, hD⟩ : ∃ D, hP [] = D := ⟨_, rfl⟩
      rw [hD] at hl e0 ⊢
      clear hD
      go_wp2_with (first
        | (with_reducible refine atStore 25 ?_
           refine store_D rfl _ _ rfl w.heap.size D rfl rfl Z32 d1.out hl ?_
           intro U hU))
      exact bodyPost_ret (results_D rfl _ _ w.heap.size D rfl (hU.dg hl)) rfl ⟨by rw [e0.out], hU.below _ _ (Nat.le_refl _) B1⟩
    · obtain ⟨b, o, rfl, hbl, hcs⟩ := hE.lies (by omega)
      by_cases h1 : n = 1
      · subst h1
        obtain ⟨p', n', c', hc1, hi1, hn'⟩ := hcs 0 (by omega)
        rw [Nat.add_zero] at hc1
        have hc0 : ∀ ob, (w.alloc ob).cell? ⟨b, o, none⟩ = some (.slice p' n' c') := fun ob => by
          rw [((Below.refl w.heap.size w).alloc (Nat.le_refl _) ob).cell (p := ⟨b, o, none⟩) hbl]; exact hc1
        have hi0 := hi1.below hb0
        clear hcs hc1 hi1
        have hx : es = [es.getD 0 []] := by
          match es, hlen with
          | [e], _ => rfl
        have HX : Hid (rootP es = leafP (es.getD 0 [])) := by
          show rootP es = _
          rw [hx]; rfl
        generalize es.getD 0 [] = x at *
        go_enter Tryd.func76, Tryd.ntmps76
        go_wp2_with fail
        refine (leafOf_any _ (hT.below hb0) p' n' c' x hi0 (by omega)).mono ?_
        rintro e w1 ⟨rfl, b1⟩
        have d1 : Hid (Dg w1 w.heap.size Z32) := d0.out.next b1
        have B1 : Below w.heap.size w w1 := hb0.trans (b1.mono (by simp))
        have hl := leafP_len x
        clear b1 d0 hc0 hi0
        obtain ⟨D, hD⟩ : ∃ D, leafP x = D := ⟨_, rfl⟩
        rw [hD] at hl HX ⊢
        clear hD
        go_wp2_with (first
          | (with_reducible refine atStore 25 ?_
             refine store_D rfl _ _ rfl w.heap.size D rfl rfl Z32 d1.out hl ?_
             intro U hU))
        exact bodyPost_ret (results_D rfl _ _ w.heap.size D rfl (hU.dg hl)) rfl ⟨by rw [HX.out], hU.below _ _ (Nat.le_refl _) B1⟩
      · have h0' : ¬ (n : Int) = 0 := by omega
        have h1' : ¬ (n : Int) = 1 := by omega
        obtain ⟨hk1, hk2, hk3⟩ := halfN_spec n (by omega) (by omega)
        have HX : Hid (rootP es = knotP (rootP (es.take (halfN n))) (rootP (es.drop (halfN n)))) := by
          show rootP es = _
          have := rootP_more es (by omega) (by omega)
          rw [hlen] at this
          exact this
        clear hcs
        go_enter Tryd.func76, Tryd.ntmps76
        go_wp2_with fail
        refine (split_any b o n cap _ (by omega) hf hr).mono ?_
        rintro e w1 ⟨rfl, b1⟩
        have d1 : Hid (Dg w1 w.heap.size Z32) := d0.out.next b1
        have B1 : Below w.heap.size w w1 := hb0.trans (b1.mono (by simp))
        clear b1 d0
        generalize halfN n = k at *
        go_wp2_with fail
        refine (ih k (by omega) _ cap (es.take k) w1 (hT.below B1) ((hE.front k (by omega)).below B1)).mono ?_
        rintro e w2 ⟨rfl, b2⟩
        have d2 : Hid (Dg w2 w.heap.size Z32) := d1.out.next b2
        have B2 : Below w.heap.size w w2 := B1.trans (b2.mono B1.size)
        obtain ⟨hLl, hLb⟩ := rootP_ok (es.take k)
        clear b2 d1 B1
        generalize rootP (es.take k) = L at *
        go_wp2_with fail
        refine (ih (n - k) (by omega) _ (cap - k) (es.drop k) w2 (hT.below B2) ((hE.back k hk1).below B2)).mono ?_
        rintro e w3 ⟨rfl, b3⟩
        have d3 : Hid (Dg w3 w.heap.size Z32) := d2.out.next b3
        have B3 : Below w.heap.size w w3 := B2.trans (b3.mono B2.size)
        obtain ⟨hRl, hRb⟩ := rootP_ok (es.drop k)
        clear b3 d2 B2
        generalize rootP (es.drop k) = R at *
        go_wp2_with fail
        refine (knotOf_any w3 (hT.below B3) L R hLl hRl hLb hRb).mono ?_
        rintro e w4 ⟨rfl, b4⟩
        have d4 : Hid (Dg w4 w.heap.size Z32) := d3.out.next b4
        have B4 : Below w.heap.size w w4 := B3.trans (b4.mono B3.size)
        have hl := knotP_len L R
        clear b4 d3 B3
        obtain ⟨D, hD⟩ : ∃ D, knotP L R = D := ⟨_, rfl⟩
        rw [hD] at hl HX ⊢
        clear hD
        go_wp2_with (first
          | (with_reducible refine atStore 25 ?_
             refine store_D rfl _ _ rfl w.heap.size D rfl rfl Z32 d4.out hl ?_
             intro U hU))
        exact bodyPost_ret (results_D rfl _ _ w.heap.size D rfl (hU.dg hl)) rfl ⟨by rw [HX.out], hU.below _ _ (Nat.le_refl _) B4⟩
end Go.Proofs.YtcmjlhcpoajbkaaDoor
namespace Go.Proofs.YtcmjlhcpoajbkaaDoor
set_option maxRecDepth 10000
set_option linter.unusedSimpArgs false
open Go.RowKit
theorem In8.none_zero {w : World} {n c : Nat} {xs : List Int} (h : In8 w none n c xs) : n = 0 := by
  rcases Nat.eq_zero_or_pos n with h0 | h0
  · exact h0
  · obtain ⟨b, o, hp, _⟩ := h.lies (by have := h.len; omega)
    cases hp
set_option maxHeartbeats 1000000 in
theorem clone_any (w : World) (p : Option Addr) (n c : Nat) (xs : List Int) (hi : In8 w p n c xs) :
    Calls Tryd.prog 69 #[.slice p n c] w fun e w' => ∃ p' c', e = .returned (.slice p' n c') ∧ Below w.heap.size w w' ∧ In8 w' p' n c' xs ∧ p'.isNone = p.isNone ∧ (∀ ad, p' = some ad → w.heap.size ≤ ad.block) ∧ ∀ ad, p' = some ad → ad.block < w'.heap.size := by
  have hq := eql_nil p n c w
  have hl := hi.len
  cases p with
  | none =>
    have h0 := hi.none_zero
    subst h0
    have hx : xs = [] := List.length_eq_zero_iff.1 hl
    subst hx
    go_enter Tryd.func69, Tryd.ntmps69
    go_wp2
    go_ret
    exact ⟨none, 0, rfl, Below.refl _ _, ⟨rfl, hi.bytes, by omega, by omega, by omega, fun h => by simp at h⟩, rfl, (fun ad h => by cases h), (fun ad h => by cases h)⟩
  | some a =>
    by_cases h0 : n = 0
    · subst h0
      have hx : xs = [] := List.length_eq_zero_iff.1 hl
      subst hx
      go_enter Tryd.func69, Tryd.ntmps69
      go_wp2_with (first
        | (at_builtin
           refine wpList_app_none rfl (.tmp 5) (.tmp 6) rfl (some ⟨w.heap.size, 0, none⟩) (some a) 0 0 c rfl rfl (by omega) ?_))
      go_ret
      exact ⟨_, 0, rfl, (Below.refl _ _).alloc (Nat.le_refl _) _, ⟨rfl, hi.bytes, by omega, by omega, by omega, fun h => by simp at h⟩, rfl, (fun ad h => by cases h; exact Nat.le_refl _), (fun ad h => by cases h; simp)⟩
    · obtain ⟨b, o, hp, hbl, hcs⟩ := hi.lies (by omega)
      cases hp
      have hb0 : Below w.heap.size w (w.alloc (.cells #[] 5)) := (Below.refl _ _).alloc (Nat.le_refl _) _
      have HCS : Hid (∀ j, j < n → (w.alloc (.cells #[] 5)).cell? ((⟨b, o, none⟩ : Addr).add j) = some (.int .u8 (xs.getD j 0))) := fun j hj => by
        have h1 := hcs j (by omega)
        rw [addr_add, hb0.cell (block_lt_of_cell h1)]; exact h1
      have HOW : Hid ((w.alloc (.cells #[] 5)).ownsRow w.heap.size 5 1 (.slice (some ⟨w.heap.size, 0, none⟩) 0 0) 0 (([] : List Int).map (Value.int .u8))) := ⟨rfl, .inr ⟨w.heap.size, 0, #[], rfl, Nat.le_refl _, heapN w _ _ rfl, by omega, by unfold maxLen; omega, rfl, rfl⟩⟩
      have hsm := hi.small
      clear hcs
      go_enter Tryd.func69, Tryd.ntmps69
      go_wp2_with (first
        | (at_builtin
           refine wpList_app8 rfl (.tmp 5) (.tmp 6) rfl w.heap.size (.slice (some ⟨w.heap.size, 0, none⟩) 0 0) [] 0 rfl HOW.out ⟨b, o, none⟩ n c xs rfl hl HCS.out (by omega) (by omega) (by simp) ?_
           intro v2 w2 ho2 hs2 hb2
           refine hideGoal ?_))
      obtain ⟨g, cap', rfl, hg, hgs, hfit, hmost, _, hcells⟩ := owns8 ho2 (by omega)
      have B2 : Hid (Below w.heap.size w w2) := hb2 w hb0
      have HI : Hid (In8 w2 (some ⟨g, 0, none⟩) n cap' xs) := ⟨hl, hi.bytes, by omega, by unfold maxLen at hmost; omega, hsm, fun _ => ⟨g, 0, rfl, hgs, fun j hj => by rw [Nat.zero_add]; exact hcells j (by omega)⟩⟩
      clear ho2 hb2 hcells HOW HCS hq
      rw [Nat.zero_add]
      refine openGoal ?_
      go_wp2_with fail
      go_ret
      exact ⟨_, cap', rfl, B2.out, HI.out, rfl, (fun ad h => by cases h; exact hg), (fun ad h => by cases h; exact hgs)⟩
section
variable {P : Program} {ops : Array Oper} {Q : Exit → Act → World → Prop}
theorem wpOp_app {i : Nat} {o : Oper} {K : Act → World → Prop} {a : Act} {w w' : World} {v : Value} (hi : ops[i]? = some o) (hg : o.guard = none) (s x : Operand) (t t' : TypeId)
    (ho : o.op = .call { callee := .builtin .append, args := #[s, x], argTypes := #[t, t'] }) (vs vx : Value) (hs : a.eval s = vs) (hx : a.eval x = vx)
    (hr : (Builtin.append_ #[t, t'] o.type #[vs, vx]).run P w = .ok v w') (h : K (a.put o.dst v) w') : wpOp P ops Q i K a w := by
  refine wpOp_val (v := v) (w' := w') hi hg ?_ h
  unfold execOp
  simp only [ho, resolve, invoke, builtin, Sem.run_bind, Sem.run_pure, Result.andThen_ok, List.map_toArray, List.map_cons, List.map_nil, hs, hx, hr]
end
theorem wpOp_skip {P : Program} {ops : Array Oper} {Q : Exit → Act → World → Prop} {i : Nat} {o : Oper} {K : Act → World → Prop} {a : Act} {w w' : World} (hi : ops[i]? = some o) (hg : o.guard = none)
    (hrun : (execOp a.eval o).run P w = .ok .skip w') (h : K (a.put o.dst undef) w') : wpOp P ops Q i K a w := by
  unfold wpOp
  simp only [hi, Region.wanted, hg, if_true]
  refine .inl ?_
  unfold Oper.wp
  rw [hrun]
  exact h
theorem info22' : ∃ i, Tryd.prog.info? 22 = some i ∧ i.zero = some (.slice none 0 0) ∧ i.size = 1 ∧ i.bytes = 24 := ⟨_, rfl, by kernel_rfl, by kernel_rfl, by kernel_rfl⟩
end Go.Proofs.YtcmjlhcpoajbkaaDoor
namespace Go.Proofs.YtcmjlhcpoajbkaaDoor
set_option maxRecDepth 10000
set_option linter.unusedSimpArgs false
open Go.RowKit
/-- A log, as it is read. -/
structure LogR (w : World) (g : Nat) (key : List Int) (es : List (List Int)) : Prop where
  keyAt : ∃ kp kn kc, w.cell? ⟨g, 0, none⟩ = some (.slice kp kn kc) ∧ In8 w kp kn kc key
  entAt : ∃ ep ec, w.cell? ⟨g, 1, none⟩ = some (.slice ep es.length ec) ∧ E22 w ep es.length ec es ∧ (ep = none → ec = 0)
  few : es.length ≤ 64
theorem cell_alloc {w : World} {ad : Addr} {v : Value} (h : w.cell? ad = some v) (ob : Obj) : (w.alloc ob).cell? ad = some v := by
  rw [((Below.refl w.heap.size w).alloc (Nat.le_refl _) ob).cell (block_lt_of_cell h)]; exact h
theorem eslice_nil (p : Option Addr) (n c m : Nat) (hm : m ≤ n) (hn : n ≤ c) (hc : p = none → c = 0) (W : World) :
    (Instr.sliceAt 47 (.slice p n c) none (some (.int .i64 m)) none).run Tryd.prog W = .ok (.slice p m c) W := by
  cases p with
  | some ad => exact eslice_front ad n c m hm hn W
  | none =>
    have h0 := hc rfl
    subst h0
    have e1 : m = 0 := by omega
    have e2 : n = 0 := by omega
    subst e1 e2
    go_simp
def rootOut (n : Int) (es : List (List Int)) : List Int × Int := if n < 0 ∨ (es.length : Int) < n then (Z32, 1) else (rootP (es.take n.toNat), 0)
set_option maxHeartbeats 1000000 in
theorem logRoot_any (w : World) (g : Nat) (key : List Int) (es : List (List Int)) (n : Int) (hT : Tabs KS HS w) (hL : LogR w g key es) :
    Calls Tryd.prog 46 #[.pointer (some ⟨g, 0, none⟩), .int .i64 n] w fun e w' => e = .returned (.tuple #[.agg (A8 (rootOut n es).1), .int .i64 (rootOut n es).2]) ∧ Below w.heap.size w w' := by
  obtain ⟨_, ⟨ep, ec, hc1, hE, hnil⟩, hfew⟩ := hL
  have hb0 : Below w.heap.size w (w.alloc (.cells Z8x32 25)) := (Below.refl _ _).alloc (Nat.le_refl _) _
  have d0 : Hid (Dg (w.alloc (.cells Z8x32 25)) w.heap.size Z32) := Dg.new w _ rfl
  have hc := fun ob => cell_alloc hc1 ob
  have hf := hE.fits
  have HE : Hid (E22 w ep es.length ec es) := hE
  clear hE hc1
  by_cases h1 : n < 0
  · have HX : Hid (rootOut n es = (Z32, 1)) := by
      show rootOut n es = _
      unfold rootOut; rw [if_pos (.inl h1)]
    go_enter Tryd.func46, Tryd.ntmps46
    go_wp2_with (first
      | (with_reducible refine atStore 25 ?_
         refine store_D rfl _ _ rfl w.heap.size Z32 rfl rfl Z32 d0.out rfl ?_
         intro X hX
         refine hideGoal ?_))
    have dX : Hid (Dg X w.heap.size Z32) := hX.dg rfl
    have bX : Hid (Below w.heap.size w X) := hX.below _ _ (Nat.le_refl _) hb0
    clear hX d0
    refine openGoal ?_
    go_wp2_with fail
    exact bodyPost_ret (results_DT rfl _ _ w.heap.size Z32 rfl dX.out) rfl ⟨by rw [HX.out]; rfl, bX.out⟩
  · by_cases h2 : (es.length : Int) < n
    · have HX : Hid (rootOut n es = (Z32, 1)) := by
        show rootOut n es = _
        unfold rootOut; rw [if_pos (.inr h2)]
      go_enter Tryd.func46, Tryd.ntmps46
      go_wp2_with (first
        | (with_reducible refine atStore 25 ?_
           refine store_D rfl _ _ rfl w.heap.size Z32 rfl rfl Z32 d0.out rfl ?_
           intro X hX
           refine hideGoal ?_))
      have dX : Hid (Dg X w.heap.size Z32) := hX.dg rfl
      have bX : Hid (Below w.heap.size w X) := hX.below _ _ (Nat.le_refl _) hb0
      clear hX d0
      refine openGoal ?_
      go_wp2_with fail
      exact bodyPost_ret (results_DT rfl _ _ w.heap.size Z32 rfl dX.out) rfl ⟨by rw [HX.out]; rfl, bX.out⟩
    · obtain ⟨m, rfl⟩ : ∃ m : Nat, n = m := ⟨n.toNat, by omega⟩
      have HX : Hid (rootOut m es = (rootP (es.take m), 0)) := by
        show rootOut m es = _
        unfold rootOut; rw [if_neg (by omega), Int.toNat_natCast]
      have hsl := fun W => eslice_nil ep es.length ec m (by omega) hf hnil W
      go_enter Tryd.func46, Tryd.ntmps46
      go_wp2_with fail
      refine (troot_any m ep ec (es.take m) _ (hT.below hb0) ((HE.out.front m (by omega)).below hb0)).mono ?_
      rintro e w1 ⟨rfl, b1⟩
      have d1 : Hid (Dg w1 w.heap.size Z32) := d0.out.next b1
      have B1 : Below w.heap.size w w1 := hb0.trans (b1.mono (by simp))
      obtain ⟨hl, _⟩ := rootP_ok (es.take m)
      clear b1 d0 hsl hc
      obtain ⟨D, hD⟩ : ∃ D, rootP (es.take m) = D := ⟨_, rfl⟩
      rw [hD] at hl HX ⊢
      clear hD
      go_wp2_with (first
        | (with_reducible refine atStore 25 ?_
           refine store_D rfl _ _ rfl w.heap.size D rfl rfl Z32 d1.out hl ?_
           intro X hX
           refine hideGoal ?_))
      have dX : Hid (Dg X w.heap.size D) := hX.dg hl
      have bX : Hid (Below w.heap.size w X) := hX.below _ _ (Nat.le_refl _) B1
      clear hX d1 B1
      refine openGoal ?_
      go_wp2_with fail
      exact bodyPost_ret (results_DT rfl _ _ w.heap.size D rfl dX.out) rfl ⟨by rw [HX.out]; rfl, bX.out⟩
end Go.Proofs.YtcmjlhcpoajbkaaDoor
