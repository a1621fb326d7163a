import Derived.Test.YtcmjlhcpoajbkaaDoorCat
namespace Go.Proofs.YtcmjlhcpoajbkaaDoor
set_option maxRecDepth 10000
open Go.RowKit
/-- A digest in a block of its own. -/
structure Dg (w : World) (g : Nat) (D : List Int) : Prop where
  len : D.length = 32
  here : w.heap[g]? = some (.cells (A8 D) 25)
theorem Dg.lt {w : World} {g : Nat} {D : List Int} (h : Dg w g D) : g < w.heap.size := row_lt h.here
theorem Dg.below {w w' : World} {g n : Nat} {D : List Int} (h : Dg w g D) (hb : Below n w w') (hn : g < n) : Dg w' g D := ⟨h.len, (hb.block g hn).trans h.here⟩
theorem Dg.next {w w' : World} {g : Nat} {D : List Int} (h : Dg w g D) (hb : Below w.heap.size w w') : Dg w' g D := h.below hb h.lt
theorem Dg.alloc {w : World} {g : Nat} {D : List Int} (h : Dg w g D) (o : Obj) : Dg (w.alloc o) g D := ⟨h.len, (heapO w o g h.lt).trans h.here⟩
theorem Dg.other {w W : World} {g g' : Nat} {D : List Int} {c : Array Value} {t : TypeId} (h : Dg w g D) (hS : Stored w W g' c t) (hne : g ≠ g') : Dg W g D := ⟨h.len, (hS.other g hne).trans h.here⟩
theorem Stored.dg {w W : World} {g : Nat} {D : List Int} (hS : Stored w W g (A8 D) 25) (hl : D.length = 32) : Dg W g D := ⟨hl, hS.here⟩
def Z32 : List Int := List.replicate 32 0
theorem Z32_len : Z32.length = 32 := rfl
theorem Dg.new (w : World) (g : Nat) (h : g = w.heap.size) : Dg (w.alloc (.cells Z8x32 25)) g Z32 := ⟨rfl, heapN w _ _ h⟩
theorem Dg.boxed (w : World) (D : List Int) (g : Nat) (h : g = w.heap.size) (hl : D.length = 32) : Dg (w.alloc (.cells (A8 D) 25)) g D := ⟨hl, heapN w _ _ h⟩
theorem wpList_w {P : Program} {ops : Array Oper} {rest : List Oper} {o : Oper} {a : Act} {w : World} {Q : Exit → Act → World → Prop} (hw : Region.wanted o (yielded ops a.tmps) = true)
    (h : ∀ K : Act → World → Prop, (∀ a w, wpList P ops Q rest a w → K a w) → o.wp P a w K Q) : wpList P ops Q (o :: rest) a w := by
  unfold wpList
  simp only [hw, if_true]
  exact .inl (h _ fun _ _ h => h)
section
variable {ops : Array Oper} {rest : List Oper} {o : Oper} {a : Act} {w : World} {Q : Exit → Act → World → Prop} {S : World → Prop}
theorem load_D (hw : Region.wanted o (yielded ops a.tmps) = true) (x : Operand) (ho : o.op = .load 25 x) (g : Nat) (hx : a.eval x = .pointer (some ⟨g, 0, none⟩)) (D : List Int) (h0 : Dg w g D)
    (h : wpList Tryd.prog ops Q rest (a.put o.dst (.agg (A8 D))) w) : wpList Tryd.prog ops Q (o :: rest) a w :=
  wpList_w hw fun _ hK => wp_load_row 25 x ho g hx 25 (A8 D) (0, 0) (.array 32 5) h0.here und25 rfl (by rw [info25, A8_size, h0.len]) (hK _ _ h)
theorem store_D (hgd : o.guard = none) (x y : Operand) (ho : o.op = .store 25 x y) (g : Nat) (D : List Int) (hx : a.eval x = .pointer (some ⟨g, 0, none⟩)) (hy : a.eval y = .agg (A8 D)) (D0 : List Int) (h0 : Dg w g D0) (hl : D.length = 32)
    (h : ∀ W, Stored w W g (A8 D) 25 → wpList Tryd.prog ops Q rest (a.put o.dst undef) W) : wpList Tryd.prog ops Q (o :: rest) a w :=
  wpList_store_W hgd 25 x y ho g (A8 D) hx hy 25 (A8 D0) h0.here (by rw [info25, A8_size, hl]) (by rw [A8_size, A8_size, h0.len, hl]) (A8_one _) h
theorem wpOp_load_D {i : Nat} {K : Act → World → Prop} (hi : ops[i]? = some o) (hgd : o.guard = none) (x : Operand) (ho : o.op = .load 25 x) (g : Nat) (hx : a.eval x = .pointer (some ⟨g, 0, none⟩)) (D : List Int) (h0 : Dg w g D)
    (h : K (a.put o.dst (.agg (A8 D))) w) : wpOp Tryd.prog ops Q i K a w :=
  wpOp_load_row hi hgd 25 x ho g hx 25 (A8 D) (0, 0) (.array 32 5) h0.here und25 rfl (by rw [info25, A8_size, h0.len]) h
theorem wpOp_store_D {i : Nat} {K : Act → World → Prop} (hi : ops[i]? = some o) (hgd : o.guard = none) (x y : Operand) (ho : o.op = .store 25 x y) (g : Nat) (D : List Int) (hx : a.eval x = .pointer (some ⟨g, 0, none⟩)) (hy : a.eval y = .agg (A8 D)) (D0 : List Int) (h0 : Dg w g D0) (hl : D.length = 32)
    (h : ∀ W, Stored w W g (A8 D) 25 → K (a.put o.dst undef) W) : wpOp Tryd.prog ops Q i K a w :=
  wpOp_store_W hi hgd 25 x y ho g (A8 D) hx hy 25 (A8 D0) h0.here (by rw [info25, A8_size, hl]) (by rw [A8_size, A8_size, h0.len, hl]) (A8_one _) h
theorem yields_D (hw : Region.wanted o (yielded ops a.tmps) = true) (x : Operand) (ho : o.op = .load 25 x) (g : Nat) (hx : a.eval x = .pointer (some ⟨g, 0, none⟩)) (D : List Int) (hl : D.length = 32) (hS : ∀ w, S w → Dg w g D) : YieldsIf Tryd.prog ops S o (.agg (A8 D)) a :=
  yieldsIf_rowG hw 25 x ho g hx 25 (A8 D) (0, 0) (.array 32 5) (fun w h => (hS w h).here) und25 rfl (by rw [info25, A8_size, hl])
end
theorem relist {P : Program} {ops : Array Oper} {Q : Exit → Act → World → Prop} {md : Region.Mode} {S : World → Prop} {fuel : Nat} {listed : Array Bool} {a : Act} {w : World} (listed' : Array Bool) (hl : listed = listed')
    (h : wpAnyH P md ops Q S fuel listed' a w) : wpAnyH P md ops Q S fuel listed a w := by subst hl; exact h
/-- The hash of both sides. -/
def hP (xs : List Int) : List Int := hashP KS HS xs
theorem hP_len (xs : List Int) : (hP xs).length = 32 := hashP_len _ _ _
theorem hP_bytes (xs : List Int) : Bytes (hP xs) := hashP_bytes _ _ _
theorem hP_any (w : World) (hT : Tabs KS HS w) (p : Option Addr) (n cap : Nat) (xs : List Int) (hi : In8 w p n cap xs) :
    Calls Tryd.prog 54 #[.slice p n cap] w fun e w' => e = .returned (.agg (A8 (hP xs))) ∧ Below w.heap.size w w' := hash_any KS HS w hT p n cap xs hi
theorem ref_any (t : ByteArray) (l : List UInt8) (xs : List Int) (ht : t = ⟨l.toArray⟩) (hx : toI l = xs) (w : World) (hl : l.length ≤ 140737488355500) :
    Calls Tryd.prog 19 #[.string t] w fun e w' => e = .returned (.agg (A8 (hP xs))) ∧ Below w.heap.size w w' := by
  subst hx
  unfold hP
  rw [hash_same]
  exact refHash_b t l ht w hl
def leafP (xs : List Int) : List Int := hP (0 :: xs)
def knotP (L R : List Int) : List Int := hP (1 :: (L ++ R))
theorem leafP_len (xs : List Int) : (leafP xs).length = 32 := hP_len _
theorem knotP_len (L R : List Int) : (knotP L R).length = 32 := hP_len _
theorem leafP_bytes (xs : List Int) : Bytes (leafP xs) := hP_bytes _
theorem knotP_bytes (L R : List Int) : Bytes (knotP L R) := hP_bytes _
def leafCells (p : Option Addr) (n c : Nat) : Array Value := (Value.slice p n c :: List.replicate 64 (Value.int .u8 0)).toArray
theorem build_leaf (p : Option Addr) (n c : Nat) (w : World) : (Instr.build 184 #[(0, .slice p n c)]).run Tryd.prog w = .ok (.agg (leafCells p n c)) w := by
  kernel_rfl
def knotCells (L R : List Int) : Array Value := (Value.slice none 0 0 :: ((L ++ R).map (Value.int .u8))).toArray
theorem list32 (L : List Int) (h : L.length = 32) : ∃ x0 x1 x2 x3 x4 x5 x6 x7 x8 x9 x10 x11 x12 x13 x14 x15 x16 x17 x18 x19 x20 x21 x22 x23 x24 x25 x26 x27 x28 x29 x30 x31, L = [x0, x1, x2, x3, x4, x5, x6, x7, x8, x9, x10, x11, x12, x13, x14, x15, x16, x17, x18, x19, x20, x21, x22, x23, x24, x25, x26, x27, x28, x29, x30, x31] := by
  match L, h with
  | [x0, x1, x2, x3, x4, x5, x6, x7, x8, x9, x10, x11, x12, x13, x14, x15, x16, x17, x18, x19, x20, x21, x22, x23, x24, x25, x26, x27, x28, x29, x30, x31], _ => exact ⟨_, _, _, _, _, _, _, _, _, _, _, _, _, _, _, _, _, _, _, _, _, _, _, _, _, _, _, _, _, _, _, _, rfl⟩
theorem build_knot (L R : List Int) (hL : L.length = 32) (hR : R.length = 32) (w : World) : (Instr.build 184 #[(1, .agg (A8 L)), (2, .agg (A8 R))]).run Tryd.prog w = .ok (.agg (knotCells L R)) w := by
  obtain ⟨x0, x1, x2, x3, x4, x5, x6, x7, x8, x9, x10, x11, x12, x13, x14, x15, x16, x17, x18, x19, x20, x21, x22, x23, x24, x25, x26, x27, x28, x29, x30, x31, rfl⟩ := list32 L hL
  obtain ⟨y0, y1, y2, y3, y4, y5, y6, y7, y8, y9, y10, y11, y12, y13, y14, y15, y16, y17, y18, y19, y20, y21, y22, y23, y24, y25, y26, y27, y28, y29, y30, y31, rfl⟩ := list32 R hR
  kernel_rfl
end Go.Proofs.YtcmjlhcpoajbkaaDoor
