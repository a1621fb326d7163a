import Derived.Test.YtcmjlhcpoajbkaaDoorRows
import Derived.WalkKit
import Derived.WalkSpells
import Derived.WalkLawsBesides
import Derived.Deep.QuietTactic
import Derived.BigQuiet
import Derived.Deep.WholeRow
import Derived.Laws.CopyRow
import Derived.Laws.CopyOwn
import Derived.StillTailTactics
import Derived.OrdersHeld
import Derived.Deep.RegionHeld3
namespace Go.Proofs.YtcmjlhcpoajbkaaDoor
/-- A word turned right by n bits. -/
def rr (n : Nat) (x : Int) : Int := bits .or .u32 (x / 2 ^ n) (x * 2 ^ (32 - n) % 4294967296)
theorem bits_or_comm (x y : Int) : bits .or .u32 x y = bits .or .u32 y x := by
  simp only [bits]; rw [BitVec.or_comm]
theorem u32_wrap (n : Int) : IntKind.u32.wrap n = n % 4294967296 := by
  simp [IntKind.wrap, IntKind.bits, IntKind.signed]
def bs0 (x : Int) : Int := bits .xor .u32 (bits .xor .u32 (rr 2 x) (rr 13 x)) (rr 22 x)
def bs1 (x : Int) : Int := bits .xor .u32 (bits .xor .u32 (rr 6 x) (rr 11 x)) (rr 25 x)
def ss0 (x : Int) : Int := bits .xor .u32 (bits .xor .u32 (rr 7 x) (rr 18 x)) (x / 8)
def ss1 (x : Int) : Int := bits .xor .u32 (bits .xor .u32 (rr 17 x) (rr 19 x)) (x / 1024)
def chs (x y z : Int) : Int := bits .xor .u32 (bits .and .u32 x y) (bits .and .u32 (bits .xor .u32 4294967295 x) z)
def maj (x y z : Int) : Int := bits .xor .u32 (bits .xor .u32 (bits .and .u32 x y) (bits .and .u32 x z)) (bits .and .u32 y z)
theorem ret_int {k : IntKind} {a b : Int} (h : a = b) : Ending.returned (.int k a) = .returned (.int k b) := by rw [h]
theorem u32_max : IntKind.u32.max = 4294967295 := by decide
end Go.Proofs.YtcmjlhcpoajbkaaDoor
namespace Go.Proofs.YtcmjlhcpoajbkaaDoor
open Go.RowKit
theorem rot2 (x : Int) (w : World) :
    Calls Tryd.prog 132 #[.int .u32 x, .int .i64 (-2)] w fun e w' => e = .returned (.int .u32 (rr 2 x)) ∧ w' = w := by
  have hb : bits BinOp.and IntKind.u64 (IntKind.u64.wrap (-2)) 31 = 30 := by decide
  go_enter Tryd.func132, Tryd.ntmps132
  go_wp2
  go_ret
  exact ⟨ret_int (by rw [rr, bits_or_comm]; rfl), rfl⟩
theorem right2 (x : Int) (w : World) :
    Calls Tryd.prog 59 #[.int .u32 x, .int .i64 2] w fun e w' => e = .returned (.int .u32 (rr 2 x)) ∧ ∃ nq, w' = w.drewN nq := by
  go_enter Tryd.func59, Tryd.ntmps59
  go_wp2
  go_quiet (fail)
  go_wp2
  go_ret
  exact ⟨ret_int (by rw [rr]; rfl), _, rfl⟩
theorem rot6 (x : Int) (w : World) :
    Calls Tryd.prog 132 #[.int .u32 x, .int .i64 (-6)] w fun e w' => e = .returned (.int .u32 (rr 6 x)) ∧ w' = w := by
  have hb : bits BinOp.and IntKind.u64 (IntKind.u64.wrap (-6)) 31 = 26 := by decide
  go_enter Tryd.func132, Tryd.ntmps132
  go_wp2
  go_ret
  exact ⟨ret_int (by rw [rr, bits_or_comm]; rfl), rfl⟩
theorem right6 (x : Int) (w : World) :
    Calls Tryd.prog 59 #[.int .u32 x, .int .i64 6] w fun e w' => e = .returned (.int .u32 (rr 6 x)) ∧ ∃ nq, w' = w.drewN nq := by
  go_enter Tryd.func59, Tryd.ntmps59
  go_wp2
  go_quiet (fail)
  go_wp2
  go_ret
  exact ⟨ret_int (by rw [rr]; rfl), _, rfl⟩
theorem rot7 (x : Int) (w : World) :
    Calls Tryd.prog 132 #[.int .u32 x, .int .i64 (-7)] w fun e w' => e = .returned (.int .u32 (rr 7 x)) ∧ w' = w := by
  have hb : bits BinOp.and IntKind.u64 (IntKind.u64.wrap (-7)) 31 = 25 := by decide
  go_enter Tryd.func132, Tryd.ntmps132
  go_wp2
  go_ret
  exact ⟨ret_int (by rw [rr, bits_or_comm]; rfl), rfl⟩
theorem right7 (x : Int) (w : World) :
    Calls Tryd.prog 59 #[.int .u32 x, .int .i64 7] w fun e w' => e = .returned (.int .u32 (rr 7 x)) ∧ ∃ nq, w' = w.drewN nq := by
  go_enter Tryd.func59, Tryd.ntmps59
  go_wp2
  go_quiet (fail)
  go_wp2
  go_ret
  exact ⟨ret_int (by rw [rr]; rfl), _, rfl⟩
theorem rot11 (x : Int) (w : World) :
    Calls Tryd.prog 132 #[.int .u32 x, .int .i64 (-11)] w fun e w' => e = .returned (.int .u32 (rr 11 x)) ∧ w' = w := by
  have hb : bits BinOp.and IntKind.u64 (IntKind.u64.wrap (-11)) 31 = 21 := by decide
  go_enter Tryd.func132, Tryd.ntmps132
  go_wp2
  go_ret
  exact ⟨ret_int (by rw [rr, bits_or_comm]; rfl), rfl⟩
theorem right11 (x : Int) (w : World) :
    Calls Tryd.prog 59 #[.int .u32 x, .int .i64 11] w fun e w' => e = .returned (.int .u32 (rr 11 x)) ∧ ∃ nq, w' = w.drewN nq := by
  go_enter Tryd.func59, Tryd.ntmps59
  go_wp2
  go_quiet (fail)
  go_wp2
  go_ret
  exact ⟨ret_int (by rw [rr]; rfl), _, rfl⟩
theorem rot13 (x : Int) (w : World) :
    Calls Tryd.prog 132 #[.int .u32 x, .int .i64 (-13)] w fun e w' => e = .returned (.int .u32 (rr 13 x)) ∧ w' = w := by
  have hb : bits BinOp.and IntKind.u64 (IntKind.u64.wrap (-13)) 31 = 19 := by decide
  go_enter Tryd.func132, Tryd.ntmps132
  go_wp2
  go_ret
  exact ⟨ret_int (by rw [rr, bits_or_comm]; rfl), rfl⟩
theorem right13 (x : Int) (w : World) :
    Calls Tryd.prog 59 #[.int .u32 x, .int .i64 13] w fun e w' => e = .returned (.int .u32 (rr 13 x)) ∧ ∃ nq, w' = w.drewN nq := by
  go_enter Tryd.func59, Tryd.ntmps59
  go_wp2
  go_quiet (fail)
  go_wp2
  go_ret
  exact ⟨ret_int (by rw [rr]; rfl), _, rfl⟩
theorem rot17 (x : Int) (w : World) :
    Calls Tryd.prog 132 #[.int .u32 x, .int .i64 (-17)] w fun e w' => e = .returned (.int .u32 (rr 17 x)) ∧ w' = w := by
  have hb : bits BinOp.and IntKind.u64 (IntKind.u64.wrap (-17)) 31 = 15 := by decide
  go_enter Tryd.func132, Tryd.ntmps132
  go_wp2
  go_ret
  exact ⟨ret_int (by rw [rr, bits_or_comm]; rfl), rfl⟩
theorem right17 (x : Int) (w : World) :
    Calls Tryd.prog 59 #[.int .u32 x, .int .i64 17] w fun e w' => e = .returned (.int .u32 (rr 17 x)) ∧ ∃ nq, w' = w.drewN nq := by
  go_enter Tryd.func59, Tryd.ntmps59
  go_wp2
  go_quiet (fail)
  go_wp2
  go_ret
  exact ⟨ret_int (by rw [rr]; rfl), _, rfl⟩
theorem rot18 (x : Int) (w : World) :
    Calls Tryd.prog 132 #[.int .u32 x, .int .i64 (-18)] w fun e w' => e = .returned (.int .u32 (rr 18 x)) ∧ w' = w := by
  have hb : bits BinOp.and IntKind.u64 (IntKind.u64.wrap (-18)) 31 = 14 := by decide
  go_enter Tryd.func132, Tryd.ntmps132
  go_wp2
  go_ret
  exact ⟨ret_int (by rw [rr, bits_or_comm]; rfl), rfl⟩
theorem right18 (x : Int) (w : World) :
    Calls Tryd.prog 59 #[.int .u32 x, .int .i64 18] w fun e w' => e = .returned (.int .u32 (rr 18 x)) ∧ ∃ nq, w' = w.drewN nq := by
  go_enter Tryd.func59, Tryd.ntmps59
  go_wp2
  go_quiet (fail)
  go_wp2
  go_ret
  exact ⟨ret_int (by rw [rr]; rfl), _, rfl⟩
theorem rot19 (x : Int) (w : World) :
    Calls Tryd.prog 132 #[.int .u32 x, .int .i64 (-19)] w fun e w' => e = .returned (.int .u32 (rr 19 x)) ∧ w' = w := by
  have hb : bits BinOp.and IntKind.u64 (IntKind.u64.wrap (-19)) 31 = 13 := by decide
  go_enter Tryd.func132, Tryd.ntmps132
  go_wp2
  go_ret
  exact ⟨ret_int (by rw [rr, bits_or_comm]; rfl), rfl⟩
theorem right19 (x : Int) (w : World) :
    Calls Tryd.prog 59 #[.int .u32 x, .int .i64 19] w fun e w' => e = .returned (.int .u32 (rr 19 x)) ∧ ∃ nq, w' = w.drewN nq := by
  go_enter Tryd.func59, Tryd.ntmps59
  go_wp2
  go_quiet (fail)
  go_wp2
  go_ret
  exact ⟨ret_int (by rw [rr]; rfl), _, rfl⟩
theorem rot22 (x : Int) (w : World) :
    Calls Tryd.prog 132 #[.int .u32 x, .int .i64 (-22)] w fun e w' => e = .returned (.int .u32 (rr 22 x)) ∧ w' = w := by
  have hb : bits BinOp.and IntKind.u64 (IntKind.u64.wrap (-22)) 31 = 10 := by decide
  go_enter Tryd.func132, Tryd.ntmps132
  go_wp2
  go_ret
  exact ⟨ret_int (by rw [rr, bits_or_comm]; rfl), rfl⟩
theorem right22 (x : Int) (w : World) :
    Calls Tryd.prog 59 #[.int .u32 x, .int .i64 22] w fun e w' => e = .returned (.int .u32 (rr 22 x)) ∧ ∃ nq, w' = w.drewN nq := by
  go_enter Tryd.func59, Tryd.ntmps59
  go_wp2
  go_quiet (fail)
  go_wp2
  go_ret
  exact ⟨ret_int (by rw [rr]; rfl), _, rfl⟩
theorem rot25 (x : Int) (w : World) :
    Calls Tryd.prog 132 #[.int .u32 x, .int .i64 (-25)] w fun e w' => e = .returned (.int .u32 (rr 25 x)) ∧ w' = w := by
  have hb : bits BinOp.and IntKind.u64 (IntKind.u64.wrap (-25)) 31 = 7 := by decide
  go_enter Tryd.func132, Tryd.ntmps132
  go_wp2
  go_ret
  exact ⟨ret_int (by rw [rr, bits_or_comm]; rfl), rfl⟩
theorem right25 (x : Int) (w : World) :
    Calls Tryd.prog 59 #[.int .u32 x, .int .i64 25] w fun e w' => e = .returned (.int .u32 (rr 25 x)) ∧ ∃ nq, w' = w.drewN nq := by
  go_enter Tryd.func59, Tryd.ntmps59
  go_wp2
  go_quiet (fail)
  go_wp2
  go_ret
  exact ⟨ret_int (by rw [rr]; rfl), _, rfl⟩
theorem bs1_any (x : Int) (w : World) :
    Calls Tryd.prog 111 #[.int .u32 x] w fun e w' => e = .returned (.int .u32 (bs1 x)) ∧ w' = w := by
  go_enter Tryd.func111, Tryd.ntmps111
  go_wp2_with (first | (go_at_call 127; go_in))
  refine (rot6 x _).mono ?_
  rintro e w' ⟨rfl, rfl⟩
  go_wp2_with (first | (go_at_call 127; go_in))
  refine (rot11 x _).mono ?_
  rintro e w' ⟨rfl, rfl⟩
  go_wp2_with (first | (go_at_call 127; go_in))
  refine (rot25 x _).mono ?_
  rintro e w' ⟨rfl, rfl⟩
  go_wp2_with fail
  go_ret
  exact ⟨ret_int (by rfl), rfl⟩
theorem bs0_any (x : Int) (w : World) :
    Calls Tryd.prog 113 #[.int .u32 x] w fun e w' => e = .returned (.int .u32 (bs0 x)) ∧ w' = w := by
  go_enter Tryd.func113, Tryd.ntmps113
  go_wp2_with (first | (go_at_call 127; go_in))
  refine (rot2 x _).mono ?_
  rintro e w' ⟨rfl, rfl⟩
  go_wp2_with (first | (go_at_call 127; go_in))
  refine (rot13 x _).mono ?_
  rintro e w' ⟨rfl, rfl⟩
  go_wp2_with (first | (go_at_call 127; go_in))
  refine (rot22 x _).mono ?_
  rintro e w' ⟨rfl, rfl⟩
  go_wp2_with fail
  go_ret
  exact ⟨ret_int (by rfl), rfl⟩
theorem ss1_any (x : Int) (w : World) :
    Calls Tryd.prog 125 #[.int .u32 x] w fun e w' => e = .returned (.int .u32 (ss1 x)) ∧ w' = w := by
  go_enter Tryd.func125, Tryd.ntmps125
  go_wp2_with (first | (go_at_call 127; go_in))
  refine (rot17 x _).mono ?_
  rintro e w' ⟨rfl, rfl⟩
  go_wp2_with (first | (go_at_call 127; go_in))
  refine (rot19 x _).mono ?_
  rintro e w' ⟨rfl, rfl⟩
  go_wp2_with fail
  go_ret
  exact ⟨ret_int (by rfl), rfl⟩
theorem ss0_any (x : Int) (w : World) :
    Calls Tryd.prog 126 #[.int .u32 x] w fun e w' => e = .returned (.int .u32 (ss0 x)) ∧ w' = w := by
  go_enter Tryd.func126, Tryd.ntmps126
  go_wp2_with (first | (go_at_call 127; go_in))
  refine (rot7 x _).mono ?_
  rintro e w' ⟨rfl, rfl⟩
  go_wp2_with (first | (go_at_call 127; go_in))
  refine (rot18 x _).mono ?_
  rintro e w' ⟨rfl, rfl⟩
  go_wp2_with fail
  go_ret
  exact ⟨ret_int (by rfl), rfl⟩
theorem chs_any (x y z : Int) (w : World) :
    Calls Tryd.prog 112 #[.int .u32 x, .int .u32 y, .int .u32 z] w fun e w' => e = .returned (.int .u32 (chs x y z)) ∧ w' = w := by
  have hm := u32_max
  go_enter Tryd.func112, Tryd.ntmps112
  go_wp2
  go_ret
  exact ⟨ret_int (by rfl), rfl⟩
theorem maj_any (x y z : Int) (w : World) :
    Calls Tryd.prog 114 #[.int .u32 x, .int .u32 y, .int .u32 z] w fun e w' => e = .returned (.int .u32 (maj x y z)) ∧ w' = w := by
  have hm := u32_max
  go_enter Tryd.func114, Tryd.ntmps114
  go_wp2
  go_ret
  exact ⟨ret_int (by rfl), rfl⟩
end Go.Proofs.YtcmjlhcpoajbkaaDoor
namespace Go.Proofs.YtcmjlhcpoajbkaaDoor
open Go.RowKit
/-- Numbers as cells. -/
def A8 (l : List Int) : Array Value := (l.map (Value.int .u8)).toArray
def A32 (l : List Int) : Array Value := (l.map (Value.int .u32)).toArray
theorem A8_size (l : List Int) : (A8 l).size = l.length := by simp [A8]
theorem A32_size (l : List Int) : (A32 l).size = l.length := by simp [A32]
theorem A8_get (l : List Int) (k : Nat) (h : k < l.length) : (A8 l)[k]? = some (.int .u8 (l.getD k 0)) := by
  simp [A8, h]
theorem A32_get (l : List Int) (k : Nat) (h : k < l.length) : (A32 l)[k]? = some (.int .u32 (l.getD k 0)) := by
  simp [A32, h]
theorem A8_set (l : List Int) (k : Nat) (v : Int) : (A8 l).setIfInBounds k (.int .u8 v) = A8 (l.set k v) := by
  simp [A8, List.map_set]
theorem A32_set (l : List Int) (k : Nat) (v : Int) : (A32 l).setIfInBounds k (.int .u32 v) = A32 (l.set k v) := by
  simp [A32, List.map_set]
theorem A8_one (l : List Int) : (A8 l).all (·.oneCell') = true := by
  simp [A8, Value.oneCell']
theorem A32_one (l : List Int) : (A32 l).all (·.oneCell') = true := by
  simp [A32, Value.oneCell']
theorem info43 : (Tryd.prog.info? 146).map (·.size) = some 64 := by kernel_rfl
theorem info25 : (Tryd.prog.info? 25).map (·.size) = some 32 := by kernel_rfl
theorem info40 : (Tryd.prog.info? 143).map (·.size) = some 8 := by kernel_rfl
theorem info49 : (Tryd.prog.info? 167).map (·.size) = some 64 := by kernel_rfl
theorem und43 : Tryd.prog.underlying 146 = some (.array 64 5) := Tryd.underlying146
theorem und25 : Tryd.prog.underlying 25 = some (.array 32 5) := Tryd.underlying25
theorem und40 : Tryd.prog.underlying 143 = some (.array 8 98) := Tryd.underlying143
theorem und49 : Tryd.prog.underlying 167 = some (.array 64 98) := Tryd.underlying167
theorem Below.setRow {B g : Nat} {w0 w : World} (hb : Below B w0 w) (hBg : B ≤ g) (cs : Array Value) : Below B w0 (w.setRow g cs) := below_setRow hb hBg cs
theorem heapN (w : World) (o : Obj) (k : Nat) (h : k = w.heap.size) : (w.alloc o).heap[k]? = some o := by
  subst h
  show (w.heap.push o)[w.heap.size]? = _
  simp
theorem heapO (w : World) (o : Obj) (k : Nat) (h : k < w.heap.size) : (w.alloc o).heap[k]? = w.heap[k]? := by
  show (w.heap.push o)[k]? = _
  rw [Array.getElem?_push, if_neg (by omega)]
theorem heap2 (w : World) (A B : Obj) : ((w.alloc A).alloc B).heap[w.heap.size]? = some A ∧ ((w.alloc A).alloc B).heap[w.heap.size + 1]? = some B :=
  ⟨(heapO _ _ _ (by simp)).trans (heapN _ _ _ rfl), heapN _ _ _ (by simp)⟩
theorem heap3 (w : World) (A B C : Obj) : (((w.alloc A).alloc B).alloc C).heap[w.heap.size]? = some A ∧ (((w.alloc A).alloc B).alloc C).heap[w.heap.size + 1]? = some B ∧ (((w.alloc A).alloc B).alloc C).heap[w.heap.size + 2]? = some C :=
  ⟨(heapO _ _ _ (by simp; omega)).trans (heap2 w A B).1, (heapO _ _ _ (by simp)).trans (heap2 w A B).2, heapN _ _ _ (by simp)⟩
theorem below2 (w : World) (A B : Obj) : Below w.heap.size w ((w.alloc A).alloc B) :=
  ((Below.refl _ _).alloc (Nat.le_refl _) _).alloc (by simp) _
theorem below3 (w : World) (A B C : Obj) : Below w.heap.size w (((w.alloc A).alloc B).alloc C) := (below2 w A B).alloc (by simp; omega) _
/-- Where the walk stands: at a load, a store of this type. -/
theorem atLoad {P : Program} {ops : Array Oper} {Q : Exit → Act → World → Prop} {rest : List Oper} {a : Act} {w : World} {d x t p af g} (ty : TypeId)
    (h : wpList P ops Q (⟨d, .load ty x, t, p, af, g⟩ :: rest) a w) : wpList P ops Q (⟨d, .load ty x, t, p, af, g⟩ :: rest) a w := h
theorem atStore {P : Program} {ops : Array Oper} {Q : Exit → Act → World → Prop} {rest : List Oper} {a : Act} {w : World} {d x y t p af g} (ty : TypeId)
    (h : wpList P ops Q (⟨d, .store ty x y, t, p, af, g⟩ :: rest) a w) : wpList P ops Q (⟨d, .store ty x y, t, p, af, g⟩ :: rest) a w := h
theorem hideGoal {p : Prop} (h : Hid p) : p := h
theorem openGoal {p : Prop} (h : p) : Hid p := h
/-- 64, 32, 8 cells of nought. -/
def Z8x64 : Array Value := (List.replicate 64 (Value.int .u8 0)).toArray
def Z8x32 : Array Value := (List.replicate 32 (Value.int .u8 0)).toArray
def Z32x64 : Array Value := (List.replicate 64 (Value.int .u32 0)).toArray
def Z32x8 : Array Value := (List.replicate 8 (Value.int .u32 0)).toArray
/-- What a store of a whole row leaves. -/
structure Stored (w W : World) (g : Nat) (cells : Array Value) (t : TypeId) : Prop where
  here : W.heap[g]? = some (.cells cells t)
  other : ∀ k, k ≠ g → W.heap[k]? = w.heap[k]?
  size : W.heap.size = w.heap.size
  below : ∀ B w0, B ≤ g → Below B w0 w → Below B w0 W
theorem wpList_store_W {P : Program} {ops : Array Oper} {rest : List Oper} {o : Oper} {a : Act} {w : World} {Q : Exit → Act → World → Prop} (hgd : o.guard = none) (ty : TypeId) (x y : Operand) (ho : o.op = .store ty x y)
    (g : Nat) (cells : Array Value) (hx : a.eval x = .pointer (some ⟨g, 0, none⟩)) (hy : a.eval y = .agg cells)
    (t : TypeId) (old : Array Value) (hg : w.heap[g]? = some (.cells old t (0, 0))) (hi : (P.info? ty).map (·.size) = some cells.size)
    (hold : old.size = cells.size) (h1 : cells.all (·.oneCell') = true)
    (h : ∀ W, Stored w W g cells t → wpList P ops Q rest (a.put o.dst undef) W) : wpList P ops Q (o :: rest) a w :=
  wpList_store_row hgd ty x y ho g cells hx hy t old hg hi hold h1
    (h _ ⟨setRow_heap _ _ _ _ _ _ hg, fun _ hk => setRow_other _ _ _ _ hk, setRow_size _ _ _, fun _ _ hB hb => below_setRow hb hB _⟩)
/-- The first k bytes masked. -/
def mpart (bs : List Int) (m : Int) (k : Nat) : List Int := ((bs.take k).map fun b => bits .xor .u8 b m) ++ bs.drop k
theorem mpart_len (bs : List Int) (m : Int) (k : Nat) : (mpart bs m k).length = bs.length := by simp [mpart]; omega
theorem mpart_zero (bs : List Int) (m : Int) : mpart bs m 0 = bs := by simp [mpart]
theorem mpart_all (bs : List Int) (m : Int) (k : Nat) (h : bs.length ≤ k) : mpart bs m k = bs.map fun b => bits .xor .u8 b m := by
  simp [mpart, List.take_of_length_le h, List.drop_of_length_le h]
theorem mpart_get (bs : List Int) (m : Int) (k : Nat) (h : k < bs.length) : (mpart bs m k).getD k 0 = bs.getD k 0 := by
  simp only [mpart, List.getD_eq_getElem?_getD]
  rw [List.getElem?_append_right (by simp; omega)]
  simp [Nat.min_eq_left (Nat.le_of_lt h)]
theorem mpart_step (bs : List Int) (m : Int) (k : Nat) (h : k < bs.length) : (mpart bs m k).set k (bits .xor .u8 (bs.getD k 0) m) = mpart bs m (k + 1) := by
  apply List.ext_getElem?
  intro i
  simp only [mpart, List.getElem?_set, List.getD_eq_getElem?_getD]
  by_cases hi : k = i
  · subst hi
    rw [if_pos rfl, List.getElem?_append_left (by simp; omega)]
    have h2 : k < min k bs.length + (bs.length - k) := by omega
    simp [h, h2]
  · simp only [if_neg hi]
    by_cases hl : i < k
    · rw [List.getElem?_append_left (by simp; omega), List.getElem?_append_left (by simp; omega)]
      simp [hl, show i < k + 1 by omega]
    · rw [List.getElem?_append_right (by simp; omega), List.getElem?_append_right (by simp; omega)]
      simp only [List.length_map, List.length_take, List.getElem?_drop]
      congr 1
      omega
set_option maxHeartbeats 400000 in
theorem masked_any (bs : List Int) (m : Int) (w : World) (hb : bs.length = 64) :
    Calls Tryd.prog 91 #[.agg (A8 bs), .int .u8 m] w fun e w' => e = .returned (.agg (A8 (bs.map fun b => bits .xor .u8 b m))) ∧ Below w.heap.size w w' := by
  have Hb := hb
  clear hb
  go_enter Tryd.func91, Tryd.ntmps91
  go_wp2_with fail
  go_loopw [6] (fun i wr => ∃ k : Nat, k ≤ 64 ∧ i = .int .i64 k ∧ wr.heap[w.heap.size]? = some (.cells (A8 (mpart bs m k)) 146) ∧ (∃ Z, wr.heap[w.heap.size+1]? = some (.cells Z 146) ∧ Z.size = 64) ∧ Below w.heap.size w wr) (fun i _ => 64 - (intOf i).toNat)
  case atStart =>
    refine ⟨0, by omega, rfl, ?_, ⟨_, heap_alloc2_new _ _ _, rfl⟩, ((Below.refl _ _).alloc (Nat.le_refl _) _).alloc (by simp) _⟩
    rw [mpart_zero]; exact heap_alloc2_old _ _ _
  case round =>
    obtain ⟨k, hk, rfl, hg, ⟨Z, hz, hzs⟩, hbel⟩ := hrel
    by_cases hlt : k < 64
    · have hc : wr.cell? ⟨w.heap.size, k, none⟩ = some (.int .u8 (bs.getD k 0)) := by
        rw [cell_of_row _ _ _ _ _ _ hg, A8_get _ _ (by rw [mpart_len]; omega), mpart_get _ _ _ (by omega)]
      have hf := frozen_of_row wr w.heap.size k _ _ hg
      have hG := heap_setCell_same wr w.heap.size k _ _ (.int .u8 (bits .xor .u8 (bs.getD k 0) m)) hg
      rw [A8_set, mpart_step _ _ _ (by omega)] at hG
      generalize bs.getD k 0 = x at hc hG
      have HG : Hid _ := hG
      have hZ : Hid (wr.heap[w.heap.size + 1]? = some (.cells Z 146)) := hz
      clear hg hz hG
      go_wp2_with fail
      go_roundw
      case rel =>
        refine ⟨k + 1, by omega, by go_num, HG.out, ⟨Z, ?_, hzs⟩, hbel.setCell (Nat.le_refl _) _⟩
        rw [heap_setCell_other _ _ _ _ (by simp)]; exact hZ.out
      case measure => simp [intOf]; omega
    · have hk' : k = 64 := by omega
      subst hk'
      have hG : Hid _ := hg
      have hZ : Hid (wr.heap[w.heap.size + 1]? = some (.cells Z 146)) := hz
      clear hg hz
      go_wp2_with (first
        | refine wpList_load_row rfl 146 (.tmp 2) rfl _ rfl 146 _ (0, 0) _ hG.out und43 rfl (by rw [info43, A8_size, mpart_len, Hb]) ?_
        | refine wpList_store_row rfl 146 (.tmp 4) (.tmp 16) rfl _ _ rfl rfl 146 _ hZ.out (by rw [info43, A8_size, mpart_len, Hb]) (by rw [hzs, A8_size, mpart_len, Hb]) (A8_one _) ?_)
      refine bodyPost_ret (v := .agg (A8 (mpart bs m 64))) (results_cell_row rfl _ _ (w.heap.size + 1) 146 _ (0, 0) _ rfl (setRow_heap _ _ _ _ _ _ hZ.out) und43 rfl (by rw [info43, A8_size, mpart_len, Hb])) rfl ⟨?_, ?_⟩
      · rw [mpart_all _ _ _ (by omega)]
      · exact Below.setRow hbel (by omega) _
end Go.Proofs.YtcmjlhcpoajbkaaDoor
namespace Go.Proofs.YtcmjlhcpoajbkaaDoor
/-- Bytes gathered into a word, the highest first. -/
def wacc (f : Nat → Int) : Nat → Int
  | 0 => 0
  | j + 1 => bits .or .u32 (wacc f j * 256 % 4294967296) (f j)
def wordOf (bs : List Int) (i : Nat) : Int := wacc (fun j => bs.getD (4 * i + j) 0) 4
def wsum (a b c d : Int) : Int := (a + b + c + d) % 4294967296
def wgrow (l : List Int) : Int := wsum (ss1 (l.getD (l.length - 2) 0)) (l.getD (l.length - 7) 0) (ss0 (l.getD (l.length - 15) 0)) (l.getD (l.length - 16) 0)
def wnext (bs : List Int) (l : List Int) : Int := if l.length < 16 then wordOf bs l.length else wgrow l
/-- The first i words of the rounds. -/
def wlist (bs : List Int) : Nat → List Int
  | 0 => []
  | i + 1 => wlist bs i ++ [wnext bs (wlist bs i)]
theorem wlist_len (bs : List Int) (i : Nat) : (wlist bs i).length = i := by
  induction i with
  | zero => rfl
  | succ i ih => simp [wlist, ih]
def wpad (bs : List Int) (i : Nat) : List Int := wlist bs i ++ List.replicate (64 - i) 0
theorem wpad_len (bs : List Int) (i : Nat) (h : i ≤ 64) : (wpad bs i).length = 64 := by simp [wpad, wlist_len]; omega
theorem wpad_zero (bs : List Int) : wpad bs 0 = List.replicate 64 0 := by simp [wpad, wlist]
theorem wpad_full (bs : List Int) : wpad bs 64 = wlist bs 64 := by simp [wpad]
theorem wpad_get (bs : List Int) (i j : Nat) (h : j < i) : (wpad bs i).getD j 0 = (wlist bs i).getD j 0 := by
  simp only [wpad, List.getD_eq_getElem?_getD]
  rw [List.getElem?_append_left (by rw [wlist_len]; exact h)]
theorem wpad_at (bs : List Int) (i : Nat) : (wpad bs i).getD i 0 = 0 := by
  simp only [wpad, List.getD_eq_getElem?_getD]
  rw [List.getElem?_append_right (by rw [wlist_len]; omega), wlist_len, List.getElem?_replicate]
  split <;> rfl
theorem wpad_set (bs : List Int) (i : Nat) (h : i < 64) : (wpad bs i).set i (wnext bs (wlist bs i)) = wpad bs (i + 1) := by
  have e : List.replicate (64 - i) (0 : Int) = 0 :: List.replicate (64 - (i + 1)) 0 := by
    rw [show 64 - i = (64 - (i + 1)) + 1 by omega, List.replicate_succ]
  simp only [wpad, wlist]
  rw [e, List.set_append, if_neg (by rw [wlist_len]; omega), wlist_len]
  simp
theorem wpad_same (bs : List Int) (i : Nat) (h : i < 64) : (wpad bs i).set i 0 = wpad bs i := by
  have e := wpad_at bs i
  have hl := wpad_len bs i (by omega)
  apply List.ext_getElem?
  intro j
  rw [List.getElem?_set]
  by_cases hj : i = j
  · subst hj
    rw [if_pos rfl, if_pos (by omega)]
    rw [List.getD_eq_getElem?_getD, List.getElem?_eq_getElem (by omega)] at e
    rw [List.getElem?_eq_getElem (by omega)]
    simpa using e.symm
  · rw [if_neg hj]
theorem wnext_word (bs : List Int) (i : Nat) (h : i < 16) : wnext bs (wlist bs i) = wordOf bs i := by
  simp [wnext, wlist_len, h]
theorem wnext_grow (bs : List Int) (i : Nat) (h : 16 ≤ i) : wnext bs (wlist bs i) = wsum (ss1 ((wlist bs i).getD (i - 2) 0)) ((wlist bs i).getD (i - 7) 0) (ss0 ((wlist bs i).getD (i - 15) 0)) ((wlist bs i).getD (i - 16) 0) := by
  simp [wnext, wgrow, wlist_len, Nat.not_lt.2 h]
end Go.Proofs.YtcmjlhcpoajbkaaDoor
namespace Go.Proofs.YtcmjlhcpoajbkaaDoor
set_option maxRecDepth 10000
open Go.RowKit
theorem i64_wrap (n : Int) (h0 : 0 ≤ n) (h1 : n < 9223372036854775808) : IntKind.i64.wrap n = n := by
  simp only [IntKind.wrap, IntKind.bits, IntKind.signed]
  simp
  omega
theorem i64_sub (j d : Nat) (h : d ≤ j) (h1 : j < 64) : IntKind.i64.wrap ((j : Int) - (d : Int)) = ((j - d : Nat) : Int) := by
  rw [i64_wrap _ (by omega) (by omega)]; omega
theorem slice4 (g k : Nat) (w : World) (h : k < 16) :
    (Instr.sliceAt 146 (.pointer (some ⟨g, 0, none⟩)) (some (.int .i64 (4 * (k : Int)))) (some (.int .i64 (4 * ((k : Int) + 1)))) none).run Tryd.prog w = .ok (.slice (some ⟨g, 4 * k, none⟩) 4 (64 - 4 * k)) w := by
  rw [run_sliceAt_array_lh (P := Tryd.prog) w 146 ⟨g, 0, none⟩ und43 .i64 .i64 _ _ (by omega) (by omega) (by show _ ≤ (64 : Int); omega)]
  have e : Tryd.prog.elem 146 = 5 := by kernel_rfl
  have e2 : Tryd.prog.arrayLen 146 = 64 := by kernel_rfl
  rw [e, e2, Tryd.sizeOf5]
  have h1 : (4 * (k : Int)).toNat = 4 * k := by omega
  have h2 : (4 * ((k : Int) + 1)).toNat = 4 * k + 4 := by omega
  simp only [Result.andThen_ok, slicedAt, h1, h2, if_neg (show ¬ (64 = 4 * k) by omega)]
  have h3 : (⟨g, 0, none⟩ : Addr).add (4 * k * 1) = ⟨g, 4 * k, none⟩ := by unfold Addr.add; split <;> simp_all
  rw [h3, show 4 * k + 4 - 4 * k = 4 by omega]
set_option maxHeartbeats 1000000 in
theorem schedule_any (bs : List Int) (w : World) (hb : bs.length = 64) (hr : ∀ j, 0 ≤ bs.getD j 0 ∧ bs.getD j 0 < 256) :
    Calls Tryd.prog 110 #[.agg (A8 bs)] w fun e w' => e = .returned (.agg (A32 (wlist bs 64))) ∧ Below w.heap.size w w' := by
  have Hb : Hid (bs.length = 64) := hb
  have Hr : Hid (∀ j, 0 ≤ bs.getD j 0 ∧ bs.getD j 0 < 256) := hr
  clear hb hr
  go_enter Tryd.func110, Tryd.ntmps110
  go_wp2_with fail
  go_loopw [8] (fun i wr => ∃ k : Nat, k ≤ 16 ∧ i = .int .i64 k ∧ wr.heap[w.heap.size]? = some (.cells (A8 bs) 146) ∧ (∃ Z, wr.heap[w.heap.size+1]? = some (.cells Z 167) ∧ Z.size = 64) ∧ wr.heap[w.heap.size + 2]? = some (.cells (A32 (wpad bs k)) 167) ∧ Below w.heap.size w wr) (fun i _ => 16 - (intOf i).toNat)
  case atStart =>
    refine ⟨0, by omega, rfl, (heap3 _ _ _ _).1, ⟨(List.replicate 64 (Value.int .u32 0)).toArray, (heap3 _ _ _ _).2.1, rfl⟩, ?_, below3 _ _ _ _⟩
    rw [wpad_zero]; exact (heap3 _ _ _ _).2.2
  case round =>
    obtain ⟨k, hk, rfl, hg, ⟨Z, hz, hzs⟩, hd, hbel⟩ := hrel
    have Hg : Hid (wr.heap[w.heap.size]? = _) := hg
    have Hz : Hid (wr.heap[w.heap.size + 1]? = _) := hz
    have Hd : Hid (wr.heap[w.heap.size + 2]? = _) := hd
    clear hg hz hd
    by_cases hlt : k < 16
    · have hsl := slice4 w.heap.size k wr hlt
      go_wp2_with fail
      go_loopw [18] (fun i wq => ∃ j : Nat, j ≤ 4 ∧ i = .int .i64 j ∧ wq.heap[w.heap.size]? = some (.cells (A8 bs) 146) ∧ wq.heap[w.heap.size+1]? = some (.cells Z 167) ∧ wq.heap[w.heap.size + 2]? = some (.cells (A32 ((wpad bs k).set k (wacc (fun j => bs.getD (4 * k + j) 0) j))) 167) ∧ Below w.heap.size w wq) (fun i _ => 4 - (intOf i).toNat)
      case atStart =>
        refine ⟨0, by omega, rfl, Hg.out, Hz.out, ?_, hbel⟩
        simp only [wacc]
        rw [wpad_same _ _ (by omega)]; exact Hd.out
      case round =>
        clear hsl Hg Hz Hd hbel
        obtain ⟨j, hj, rfl, hg, hz, hd, hbel⟩ := hrel
        have Hz : Hid (wr.heap[w.heap.size + 1]? = _) := hz
        by_cases hj4 : j < 4
        · have hc : wr.cell? ⟨w.heap.size, 4 * k + j, none⟩ = some (.int .u8 (bs.getD (4 * k + j) 0)) := by
            rw [cell_of_row _ _ _ _ _ _ hg, A8_get _ _ (by rw [Hb.out]; omega)]
          have hc2 : wr.cell? ⟨w.heap.size + 2, k, none⟩ = some (.int .u32 (wacc (fun j => bs.getD (4 * k + j) 0) j)) := by
            rw [cell_of_row _ _ _ _ _ _ hd, A32_get _ _ (by rw [List.length_set, wpad_len _ _ (by omega)]; omega), List.getD_eq_getElem?_getD, List.getElem?_set, if_pos rfl, if_pos (by rw [wpad_len _ _ (by omega)]; omega)]
            rfl
          have hf := frozen_of_row wr (w.heap.size + 2) k _ _ hd
          have hG := heap_setCell_same wr (w.heap.size + 2) k _ _ (.int .u32 (wacc (fun j => bs.getD (4 * k + j) 0) (j + 1))) hd
          rw [A32_set, List.set_set] at hG
          have HS : Hid (wacc (fun j => bs.getD (4 * k + j) 0) (j + 1) = bits .or .u32 (wacc (fun j => bs.getD (4 * k + j) 0) j * 256 % 4294967296) (bs.getD (4 * k + j) 0)) := rfl
          obtain ⟨hr1, hr2⟩ := Hr.out (4 * k + j)
          rw [HS.out] at hG
          generalize wacc (fun j => bs.getD (4 * k + j) 0) j = y at hc2 HS hG
          generalize bs.getD (4 * k + j) 0 = x at hc HS hr1 hr2 hG
          have Hg : Hid (wr.heap[w.heap.size]? = _) := hg
          have HG : Hid _ := hG
          clear hg hz hd hG
          go_wp2_with fail
          go_roundw
          case rel =>
            refine ⟨j + 1, by omega, by go_num, ?_, ?_, ?_, hbel.setCell (by simp; omega) _⟩
            · rw [heap_setCell_other _ _ _ _ (by simp; omega)]; exact Hg.out
            · rw [heap_setCell_other _ _ _ _ (by simp)]; exact Hz.out
            · rw [HS.out]; exact HG.out
          case measure => simp [intOf]; omega
        · have hj' : j = 4 := by omega
          subst hj'
          have Hg : Hid (wr.heap[w.heap.size]? = _) := hg
          have Hd : Hid (wr.heap[w.heap.size + 2]? = _) := hd
          clear hg hz hd
          go_wp2_with fail
          go_roundw
          case rel =>
            refine ⟨k + 1, by omega, by go_num, Hg.out, ⟨Z, Hz.out, hzs⟩, ?_, hbel⟩
            have := Hd.out
            rw [← wpad_set _ _ (by omega), wnext_word _ _ hlt]
            exact this
          case measure => simp [intOf]; omega
    · have Hd' : Hid (wr.heap[w.heap.size + 2]? = some (.cells (A32 (wpad bs 16)) 167)) := by
        have e : k = 16 := by omega
        rw [← e]; exact Hd
      clear Hd
      go_wp2_with fail
      go_loopw [7] (fun i wq => ∃ j : Nat, 16 ≤ j ∧ j ≤ 64 ∧ i = .int .i64 j ∧ wq.heap[w.heap.size+1]? = some (.cells Z 167) ∧ wq.heap[w.heap.size + 2]? = some (.cells (A32 (wpad bs j)) 167) ∧ Below w.heap.size w wq) (fun i _ => 64 - (intOf i).toNat)
      case atStart => exact ⟨16, by omega, by omega, rfl, Hz.out, Hd'.out, hbel⟩
      case round =>
        clear Hg Hz Hd' hbel hlt hk
        obtain ⟨j, hj0, hj, rfl, hz, hd, hbel⟩ := hrel
        have Hz : Hid (wr.heap[w.heap.size + 1]? = _) := hz
        by_cases hlt : j < 64
        · have hcell : ∀ i, i < 64 → wr.cell? ⟨w.heap.size + 2, i, none⟩ = some (.int .u32 ((wpad bs j).getD i 0)) := fun i hi => by
            rw [cell_of_row _ _ _ _ _ _ hd, A32_get _ _ (by rw [wpad_len _ _ (by omega)]; omega)]
          have c2 := hcell (j - 2) (by omega)
          have c7 := hcell (j - 7) (by omega)
          have c15 := hcell (j - 15) (by omega)
          have c16 := hcell (j - 16) (by omega)
          have c0 := hcell j (by omega)
          rw [wpad_get _ _ _ (by omega)] at c2 c7 c15 c16
          have hf := frozen_of_row wr (w.heap.size + 2) j _ _ hd
          have hG := heap_setCell_same wr (w.heap.size + 2) j _ _ (.int .u32 (wnext bs (wlist bs j))) hd
          have HS : Hid (wnext bs (wlist bs j) = _) := wnext_grow bs j hj0
          rw [A32_set, wpad_set _ _ hlt, HS.out] at hG
          generalize (wpad bs j).getD j 0 = x0 at c0
          generalize (wlist bs j).getD (j - 2) 0 = x2 at c2 HS hG
          generalize (wlist bs j).getD (j - 7) 0 = x7 at c7 HS hG
          generalize (wlist bs j).getD (j - 15) 0 = x15 at c15 HS hG
          generalize (wlist bs j).getD (j - 16) 0 = x16 at c16 HS hG
          have HG : Hid _ := hG
          clear hz hd hG hcell
          have b0 : (16 : Int) ≤ (j : Int) := by omega
          have b1 : (j : Int) < 64 := by omega
          have b2 : IntKind.i64.wrap ((j : Int) - 2) = ((j - 2 : Nat) : Int) := i64_sub j 2 (by omega) hlt
          have b7 : IntKind.i64.wrap ((j : Int) - 7) = ((j - 7 : Nat) : Int) := i64_sub j 7 (by omega) hlt
          have b15 : IntKind.i64.wrap ((j : Int) - 15) = ((j - 15 : Nat) : Int) := i64_sub j 15 (by omega) hlt
          have b16 : IntKind.i64.wrap ((j : Int) - 16) = ((j - 16 : Nat) : Int) := i64_sub j 16 (by omega) hlt
          have l2 : ((j - 2 : Nat) : Int) < 64 := by omega
          have l7 : ((j - 7 : Nat) : Int) < 64 := by omega
          have l15 : ((j - 15 : Nat) : Int) < 64 := by omega
          have l16 : ((j - 16 : Nat) : Int) < 64 := by omega
          generalize j - 2 = j2 at c2 b2 l2
          generalize j - 7 = j7 at c7 b7 l7
          generalize j - 15 = j15 at c15 b15 l15
          generalize j - 16 = j16 at c16 b16 l16
          go_wp2_with fail
          refine wp_region_still_tail 22 (by kernel_rfl) (by kernel_rfl) ?_
          simp only [List.take_succ_cons, List.take_zero, List.drop_succ_cons, List.drop_zero]
          repeat still_step
          still_call (ss1_any _ _)
          repeat still_step
          still_call (ss0_any _ _)
          repeat still_step
          refine wpStill_nil ?_
          go_wp2_with fail
          go_roundw
          case rel =>
            refine ⟨j + 1, by omega, by omega, by go_num, ?_, ?_, (hbel.setCell (by simp; omega) _).drew⟩
            · rw [heap_drew, heap_setCell_other _ _ _ _ (by simp)]; exact Hz.out
            · rw [heap_drew]; exact HG.out
          case measure => simp [intOf]; omega
        · have hj' : j = 64 := by omega
          subst hj'
          have hG : Hid _ := hd
          clear hd hz
          go_wp2_with (first
            | refine wpList_load_row rfl 167 (.tmp 3) rfl _ rfl 167 _ (0, 0) _ hG.out und49 rfl (by rw [info49, A32_size, wpad_len _ _ (Nat.le_refl _)]) ?_
            | refine wpList_store_row rfl 167 (.tmp 2) (.tmp 60) rfl _ _ rfl rfl 167 _ Hz.out (by rw [info49, A32_size, wpad_len _ _ (Nat.le_refl _)]) (by rw [hzs, A32_size, wpad_len _ _ (Nat.le_refl _)]) (A32_one _) ?_)
          refine bodyPost_ret (v := .agg (A32 (wpad bs 64))) (results_cell_row rfl _ _ (w.heap.size + 1) 167 _ (0, 0) _ rfl (setRow_heap _ _ _ _ _ _ Hz.out) und49 rfl (by rw [info49, A32_size, wpad_len _ _ (Nat.le_refl _)])) rfl ⟨?_, ?_⟩
          · rw [wpad_full]
          · exact Below.setRow hbel (by omega) _
end Go.Proofs.YtcmjlhcpoajbkaaDoor
namespace Go.Proofs.YtcmjlhcpoajbkaaDoor
set_option maxRecDepth 10000
open Go.RowKit
structure R8 where
  a : Int
  b : Int
  c : Int
  d : Int
  e : Int
  f : Int
  g : Int
  h : Int
def t1of (r : R8) (k x : Int) : Int := (r.h + bs1 r.e + chs r.e r.f r.g + k + x) % 4294967296
def t2of (r : R8) : Int := (bs0 r.a + maj r.a r.b r.c) % 4294967296
def rstep (r : R8) (k x : Int) : R8 := ⟨(t1of r k x + t2of r) % 4294967296, r.a, r.b, r.c, (r.d + t1of r k x) % 4294967296, r.e, r.f, r.g⟩
def rinit (st : List Int) : R8 := ⟨st.getD 0 0, st.getD 1 0, st.getD 2 0, st.getD 3 0, st.getD 4 0, st.getD 5 0, st.getD 6 0, st.getD 7 0⟩
def rrun (ks ws : List Int) (r : R8) : Nat → R8
  | 0 => r
  | i + 1 => rstep (rrun ks ws r i) (ks.getD i 0) (ws.getD i 0)
/-- The state behind one more block. -/
def tstate (ks : List Int) (st bs : List Int) : List Int :=
  let r := rrun ks (wlist bs 64) (rinit st) 64
  [(st.getD 0 0 + r.a) % 4294967296, (st.getD 1 0 + r.b) % 4294967296, (st.getD 2 0 + r.c) % 4294967296, (st.getD 3 0 + r.d) % 4294967296,
   (st.getD 4 0 + r.e) % 4294967296, (st.getD 5 0 + r.f) % 4294967296, (st.getD 6 0 + r.g) % 4294967296, (st.getD 7 0 + r.h) % 4294967296]
theorem tstate_len (ks st bs : List Int) : (tstate ks st bs).length = 8 := rfl
set_option maxHeartbeats 400000 in
theorem take_any (ks st bs : List Int) (w : World) (hk : ks.length = 64) (hs : st.length = 8) (hb : bs.length = 64) (hr : ∀ j, 0 ≤ bs.getD j 0 ∧ bs.getD j 0 < 256)
    (hK : ∃ t fr, w.heap[1]? = some (.cells (A32 ks) t fr)) :
    Calls Tryd.prog 90 #[.agg (A32 st), .agg (A8 bs)] w fun e w' => e = .returned (.agg (A32 (tstate ks st bs))) ∧ Below w.heap.size w w' := by
  obtain ⟨tK, fr, hK⟩ := hK
  have h1 : 1 < w.heap.size := by
    rcases Nat.lt_or_ge 1 w.heap.size with h | h
    · exact h
    · rw [Array.getElem?_eq_none h] at hK; cases hK
  have HK : Hid (w.heap[1]? = _) := hK
  have Hs : Hid (st.length = 8) := hs
  have Hk : Hid (ks.length = 64) := hk
  have Hr : Hid (∀ j, 0 ≤ bs.getD j 0 ∧ bs.getD j 0 < 256) := hr
  have Hb : Hid (bs.length = 64) := hb
  clear hK hs hk hr hb
  go_enter Tryd.func90, Tryd.ntmps90
  go_wp2_with (first
    | (refine wpList_load_row rfl 146 (.tmp 3) rfl (w.heap.size + 1) rfl 146 (A8 bs) (0, 0) (.array 64 5) ?_ und43 rfl (by rw [info43, A8_size, Hb.out]) ?_
       · exact (heap3 w (.cells (A32 st) 143) (.cells (A8 bs) 146) _).2.1))
  refine (schedule_any bs _ Hb.out Hr.out).mono ?_
  rintro e w1 ⟨rfl, hb1⟩
  have f0 := (hb1.block w.heap.size (by simp; omega)).trans (heap3 w _ _ _).1
  have f2 := (hb1.block (w.heap.size + 2) (by simp)).trans (heap3 w _ _ _).2.2
  have hz1 : w.heap.size + 2 < w1.heap.size := by have := hb1.size; simp at this; omega
  have hB1 : Below w.heap.size w w1 := (below3 w _ _ _).trans (hb1.mono (by simp; omega))
  have F0 : Hid (w1.heap[w.heap.size]? = _) := f0
  have F2 : Hid (w1.heap[w.heap.size + 2]? = _) := f2
  clear f0 f2 hb1
  go_wp2_with (first
    | (with_reducible refine atStore 167 ?_
       refine wpList_store_W rfl 167 (.tmp 5) (.tmp 18) rfl w1.heap.size (A32 (wlist bs 64)) rfl rfl 167 Z32x64 ?_ (by rw [info49, A32_size, wlist_len]) (by rw [A32_size, wlist_len]; rfl) (A32_one _) ?_
       · exact heapN w1 _ _ rfl
       intro W hS
       refine hideGoal ?_))
  have G0 : Hid (W.heap[w.heap.size]? = _) := ((hS.other w.heap.size (by omega)).trans (heapO w1 _ _ (by omega))).trans F0.out
  have G2 : Hid (W.heap[w.heap.size + 2]? = _) := ((hS.other (w.heap.size + 2) (by omega)).trans (heapO w1 _ _ (by omega))).trans F2.out
  have G1 : Hid (W.heap[1]? = _) := ((hS.other 1 (by omega)).trans (heapO w1 _ _ (by omega))).trans ((hB1.block 1 h1).trans HK.out)
  have G5 : Hid (W.heap[w1.heap.size]? = _) := hS.here
  have hB : Below w.heap.size w W := hS.below _ _ (by omega) (hB1.alloc (by omega) _)
  have hg5 : w.heap.size + 2 < w1.heap.size := hz1
  clear hS F0 F2 hB1 hz1
  generalize w1.heap.size = g at *
  clear w1
  have hc : ∀ i, i < 8 → W.cell? ⟨w.heap.size, i, none⟩ = some (.int .u32 (st.getD i 0)) := fun i hi => by
    rw [cell_of_row _ _ _ _ _ _ G0.out, A32_get _ _ (by rw [Hs.out]; omega)]
  have c0 := hc 0 (by omega)
  have c1 := hc 1 (by omega)
  have c2 := hc 2 (by omega)
  have c3 := hc 3 (by omega)
  have c4 := hc 4 (by omega)
  have c5 := hc 5 (by omega)
  have c6 := hc 6 (by omega)
  have c7 := hc 7 (by omega)
  have HR : Hid (rinit st = ⟨st.getD 0 0, st.getD 1 0, st.getD 2 0, st.getD 3 0, st.getD 4 0, st.getD 5 0, st.getD 6 0, st.getD 7 0⟩) := rfl
  have HT : Hid (∀ r, rrun ks (wlist bs 64) (rinit st) 64 = r → tstate ks st bs = [(st.getD 0 0 + r.a) % 4294967296, (st.getD 1 0 + r.b) % 4294967296, (st.getD 2 0 + r.c) % 4294967296, (st.getD 3 0 + r.d) % 4294967296,
      (st.getD 4 0 + r.e) % 4294967296, (st.getD 5 0 + r.f) % 4294967296, (st.getD 6 0 + r.g) % 4294967296, (st.getD 7 0 + r.h) % 4294967296]) := fun r h => by subst h; rfl
  generalize st.getD 0 0 = x0 at c0 HR HT
  generalize st.getD 1 0 = x1 at c1 HR HT
  generalize st.getD 2 0 = x2 at c2 HR HT
  generalize st.getD 3 0 = x3 at c3 HR HT
  generalize st.getD 4 0 = x4 at c4 HR HT
  generalize st.getD 5 0 = x5 at c5 HR HT
  generalize st.getD 6 0 = x6 at c6 HR HT
  generalize st.getD 7 0 = x7 at c7 HR HT
  clear hc
  refine openGoal ?_
  go_wp2_with fail
  go_quiet (fail)
  go_wp2_with fail
  go_loopw [6, 7, 8, 9, 10, 11, 12, 13, 35] (fun va vb vc vd ve vf vg vh i wr => ∃ k : Nat, k ≤ 64 ∧ i = .int .i64 k ∧ ∃ r : R8, rrun ks (wlist bs 64) (rinit st) k = r ∧ va = .int .u32 r.a ∧ vb = .int .u32 r.b ∧ vc = .int .u32 r.c ∧ vd = .int .u32 r.d ∧ ve = .int .u32 r.e ∧ vf = .int .u32 r.f ∧ vg = .int .u32 r.g ∧ vh = .int .u32 r.h ∧ wr.heap = W.heap ∧ Below w.heap.size w wr) (fun _ _ _ _ _ _ _ _ i _ => 64 - (intOf i).toNat)
  case atStart =>
    refine ⟨0, by omega, rfl, _, HR.out, rfl, rfl, rfl, rfl, rfl, rfl, rfl, rfl, rfl, ?_⟩
    exact ⟨hB.os, hB.tape, hB.output, hB.size, hB.block⟩
  case round =>
    obtain ⟨k, hk, rfl, r, hrr, rfl, rfl, rfl, rfl, rfl, rfl, rfl, rfl, hh, hBr⟩ := hrel
    have Hrr : Hid (rrun ks (wlist bs 64) (rinit st) k = r) := hrr
    have k1 : wr.heap[1]? = _ := (congrArg (fun h : Array Obj => h[1]?) hh).trans G1.out
    have k5 : wr.heap[g]? = _ := (congrArg (fun h : Array Obj => h[g]?) hh).trans G5.out
    have Hh : Hid (wr.heap = W.heap) := hh
    have hcell : ∀ p, wr.cell? p = W.cell? p := fun p => World.cell?_of_block (congrArg (fun h : Array Obj => h[p.block]?) hh)
    rw [← hcell] at c0 c1 c2 c3 c4 c5 c6 c7
    clear hrr hh hcell
    by_cases hlt : k < 64
    · have q1 : wr.cell? ⟨1, k, none⟩ = some (.int .u32 (ks.getD k 0)) := by
        rw [cell_of_row _ _ _ _ _ _ k1, A32_get _ _ (by rw [Hk.out]; omega)]
      have q5 : wr.cell? ⟨g, k, none⟩ = some (.int .u32 ((wlist bs 64).getD k 0)) := by
        rw [cell_of_row _ _ _ _ _ _ k5, A32_get _ _ (by rw [wlist_len]; omega)]
      have HS : Hid (rrun ks (wlist bs 64) (rinit st) (k + 1) = rstep r (ks.getD k 0) ((wlist bs 64).getD k 0)) := by
        show rstep (rrun ks (wlist bs 64) (rinit st) k) _ _ = _
        rw [Hrr.out]
      generalize ks.getD k 0 = kk at q1 HS
      generalize (wlist bs 64).getD k 0 = ww at q5 HS
      clear k1 k5 c0 c1 c2 c3 c4 c5 c6 c7
      go_wp2_with fail
      go_quiet ((first | (go_at_call 111; exact Calls.quiet_of_same (bs1_any _ _)) | (go_at_call 112; exact Calls.quiet_of_same (chs_any _ _ _ _))))
      go_wp2_with (first
        | (go_at_call 113; refine (bs0_any _ _).mono ?_; rintro e w' ⟨rfl, rfl⟩)
        | (go_at_call 114; refine (maj_any _ _ _ _).mono ?_; rintro e w' ⟨rfl, rfl⟩))
      go_roundw
      case rel =>
        refine ⟨k + 1, by omega, by go_num, _, HS.out, rfl, rfl, rfl, rfl, rfl, rfl, rfl, rfl, Hh.out, ?_⟩
        exact ⟨hBr.os, hBr.tape, hBr.output, hBr.size, hBr.block⟩
      case measure => simp [intOf]; omega
    · have k2 : wr.heap[w.heap.size + 2]? = _ := (congrArg (fun h : Array Obj => h[w.heap.size + 2]?) Hh.out).trans G2.out
      have K2 : Hid (wr.heap[w.heap.size + 2]? = _) := k2
      have e : k = 64 := by omega
      have h64 := Hrr.out
      rw [e] at h64
      have HTr := HT.out r h64
      have HTR : Hid _ := HTr
      obtain ⟨T, hT⟩ : ∃ T, T = [(x0 + r.a) % 4294967296, (x1 + r.b) % 4294967296, (x2 + r.c) % 4294967296, (x3 + r.d) % 4294967296,
        (x4 + r.e) % 4294967296, (x5 + r.f) % 4294967296, (x6 + r.g) % 4294967296, (x7 + r.h) % 4294967296] := ⟨_, rfl⟩
      have HT2 : Hid (T = _) := hT
      have HTl : Hid (T.length = 8) := by rw [hT]; rfl
      clear k1 k2 k5 e HTr h64 hT
      go_wp2_with (first
        | (with_reducible refine atStore 143 ?_
           refine wpList_store_W rfl 143 (.tmp 4) (.tmp 107) rfl (w.heap.size + 2) (A32 T) rfl ?_ 143 Z32x8 K2.out (by rw [info40, A32_size, HTl.out]) (by rw [A32_size, HTl.out]; rfl) (A32_one _) ?_
           · rw [HT2.out]; rfl
           intro V hS))
      refine bodyPost_ret (v := .agg (A32 T)) (results_cell_row rfl _ _ (w.heap.size + 2) 143 _ (0, 0) _ rfl hS.here und40 rfl (by rw [info40, A32_size, HTl.out])) rfl ⟨?_, ?_⟩
      · rw [HTR.out, HT2.out]
      · exact hS.below _ _ (by omega) hBr
end Go.Proofs.YtcmjlhcpoajbkaaDoor
namespace Go.Proofs.YtcmjlhcpoajbkaaDoor
open Go.RowKit
/-- Where a slice of bytes lies: with no byte, anywhere. -/
def Lies (w : World) (p : Option Addr) (xs : List Int) : Prop :=
  0 < xs.length → ∃ b o, p = some ⟨b, o, none⟩ ∧ b < w.heap.size ∧ ∀ j, j < xs.length → w.cell? ⟨b, o + j, none⟩ = some (.int .u8 (xs.getD j 0))
theorem Lies.below {w w' : World} {p : Option Addr} {xs : List Int} (h : Lies w p xs) (hb : Below w.heap.size w w') : Lies w' p xs := fun h0 => by
  obtain ⟨b, o, rfl, hl, hc⟩ := h h0
  exact ⟨b, o, rfl, Nat.lt_of_lt_of_le hl hb.size, fun j hj => by rw [hb.cell (p := ⟨b, o + j, none⟩) hl]; exact hc j hj⟩
/-- As many bytes as a block holds; noughts behind them. -/
def fblock (xs : List Int) : List Int := xs.take 64 ++ List.replicate (64 - xs.length) 0
theorem fblock_len (xs : List Int) : (fblock xs).length = 64 := by simp [fblock]; omega
theorem addr_add (b o j : Nat) : (⟨b, o, none⟩ : Addr).add j = ⟨b, o + j, none⟩ := by unfold Addr.add; split <;> simp_all
/-- 64 noughts, as cells; the first bytes, as cells. -/
def Z64 : List Value := List.replicate 64 (Value.int .u8 0)
def F64 (xs : List Int) : List Value := (xs.take 64).map (Value.int .u8)
theorem F64_len (xs : List Int) (n : Nat) (h : xs.length = n) : (F64 xs).length = n.min 64 := by
  subst h; simp only [F64, List.length_map, List.length_take]; exact Nat.min_comm _ _
theorem F64_fit (xs : List Int) : 0 + (F64 xs).length ≤ Z64.length := by simp [F64, Z64]; omega
theorem F64_one (xs : List Int) : ∀ v ∈ F64 xs, v.oneCell' = true := by
  intro v hv; simp only [F64, List.mem_map] at hv; obtain ⟨x, _, rfl⟩ := hv; rfl
theorem F64_src {w W : World} {p : Option Addr} {xs : List Int} (h : Lies w p xs) (hb : Below w.heap.size w W) (h0 : 0 < (F64 xs).length) :
    ∃ ad, p = some ad ∧ ∀ j v, (F64 xs)[j]? = some v → W.cell? (ad.add j) = some v := by
  obtain ⟨b, o, rfl, hl, hc⟩ := h (by simp [F64] at h0; omega)
  refine ⟨_, rfl, fun j v hv => ?_⟩
  rw [addr_add, hb.cell (p := ⟨b, o + j, none⟩) hl]
  simp only [F64, List.map_take, List.getElem?_take] at hv
  split at hv
  · rename_i hj
    simp only [List.getElem?_map, Option.map_eq_some_iff] at hv
    obtain ⟨x, hx, rfl⟩ := hv
    have hlt : j < xs.length := by
      rcases Nat.lt_or_ge j xs.length with h | h
      · exact h
      · rw [List.getElem?_eq_none h] at hx; cases hx
    rw [hc j hlt, List.getD_eq_getElem?_getD, hx]; rfl
  · cases hv
theorem splice_fblock (xs : List Int) : (splice Z64 0 (F64 xs)).toArray = A8 (fblock xs) := by
  simp only [Z64, F64, splice, A8, fblock, List.map_append, List.map_replicate, List.take_zero, List.nil_append, List.drop_replicate, List.length_map, List.length_take, Nat.zero_add]
  congr 3
  omega
theorem info5 : (Tryd.prog.info? 5).map (·.size) = some 1 := by kernel_rfl
set_option maxHeartbeats 400000 in
theorem firstBlock_any (p : Option Addr) (n cap : Nat) (xs : List Int) (w : World) (hn : xs.length = n) (hsrc : Lies w p xs) :
    Calls Tryd.prog 108 #[.slice p n cap] w fun e w' => e = .returned (.agg (A8 (fblock xs))) ∧ Below w.heap.size w w' := by
  have Hn : Hid (xs.length = n) := hn
  clear hn
  go_enter Tryd.func108, Tryd.ntmps108
  go_wp2_with (first
    | (refine wpList_copy_splice rfl (.tmp 4) (.tmp 5) 22 22 rfl 5 Tryd.underlying22 info5 _ _ _ _ _ _ rfl rfl (w.heap.size + 1) 0 Z64 146 (heap_alloc2_new _ _ _) (F64 xs) (F64_len _ _ Hn.out)
        (fun h0 => ⟨rfl, F64_src hsrc (((Below.refl _ _).alloc (Nat.le_refl _) _).alloc (by simp) _) h0⟩) (F64_fit xs) (F64_one xs) (w.heap.size + 1) _ (Below.refl _ _) (Nat.le_refl _) (fun w' hg' hb' => ?_)
       have hr := hb'.block w.heap.size (by omega)
       have hB : Below w.heap.size w w' := (((Below.refl _ _).alloc (Nat.le_refl _) _).alloc (by simp) _).trans (hb'.mono (by omega))
       rw [heap_alloc2_old] at hr
       rw [splice_fblock] at hg'
       have HR : Hid _ := hr
       clear hr hb')
    | refine wpList_load_row rfl 146 (.tmp 3) rfl _ rfl 146 _ (0, 0) _ hg'.out und43 rfl (by rw [info43, A8_size, fblock_len]) ?_
    | refine wpList_store_row rfl 146 (.tmp 2) (.tmp 7) rfl _ _ rfl rfl 146 _ HR.out (by rw [info43, A8_size, fblock_len]) (by rw [A8_size, fblock_len]; rfl) (A8_one _) ?_)
  refine bodyPost_ret (v := .agg (A8 (fblock xs))) (results_cell_row rfl _ _ w.heap.size 146 _ (0, 0) _ rfl (setRow_heap _ _ _ _ _ _ HR.out) und43 rfl (by rw [info43, A8_size, fblock_len])) rfl ⟨rfl, ?_⟩
  exact Below.setRow hB (Nat.le_refl _) _
end Go.Proofs.YtcmjlhcpoajbkaaDoor
namespace Go.Proofs.YtcmjlhcpoajbkaaDoor
open Go.RowKit
/-- The byte number i of the words. -/
def dbyte (st : List Int) (i : Nat) : Int := st.getD (i / 4) 0 / 2 ^ (8 * (3 - i % 4)) % 256
def dbytes (st : List Int) : List Int := (List.range 32).map (dbyte st)
def dpart (st : List Int) (k : Nat) : List Int := (List.range 32).map fun i => if i < k then dbyte st i else 0
theorem dpart_len (st : List Int) (k : Nat) : (dpart st k).length = 32 := by simp [dpart]
theorem dpart_all (st : List Int) : dpart st 32 = dbytes st := by
  simp only [dpart, dbytes]
  apply List.map_congr_left
  intro i hi
  rw [if_pos (by simpa using hi)]
theorem dpart_zero (st : List Int) : dpart st 0 = List.replicate 32 0 := by simp [dpart, List.map_const']
theorem dpart_step (st : List Int) (k : Nat) (h : k < 32) : (dpart st k).set k (dbyte st k) = dpart st (k + 1) := by
  apply List.ext_getElem?
  intro i
  simp only [dpart, List.getElem?_set, List.length_map, List.length_range, List.getElem?_map]
  by_cases hi : k = i
  · subst hi; simp [h]
  · rw [if_neg hi]
    by_cases h2 : i < 32
    · simp only [List.getElem?_range h2, Option.map_some]
      congr 1
      by_cases h3 : i < k
      · rw [if_pos h3, if_pos (by omega)]
      · rw [if_neg h3, if_neg (by omega)]
    · rw [List.getElem?_eq_none (by simp; omega)]; rfl
set_option maxHeartbeats 400000 in
theorem digest_any (st : List Int) (w : World) (hb : st.length = 8) :
    Calls Tryd.prog 109 #[.agg (A32 st)] w fun e w' => e = .returned (.agg (A8 (dbytes st))) ∧ Below w.heap.size w w' := by
  have Hb : Hid (st.length = 8) := hb
  clear hb
  go_enter Tryd.func109, Tryd.ntmps109
  go_wp2_with fail
  go_loopw [5] (fun i wr => ∃ k : Nat, k ≤ 32 ∧ i = .int .i64 k ∧ wr.heap[w.heap.size]? = some (.cells (A32 st) 143) ∧ (∃ Z, wr.heap[w.heap.size+1]? = some (.cells Z 25) ∧ Z.size = 32) ∧ wr.heap[w.heap.size + 2]? = some (.cells (A8 (dpart st k)) 25) ∧ Below w.heap.size w wr) (fun i _ => 32 - (intOf i).toNat)
  case atStart =>
    refine ⟨0, by omega, rfl, ?_, ⟨(List.replicate 32 (Value.int .u8 0)).toArray, ?_, rfl⟩, ?_, below3 _ _ _ _⟩
    · exact (heap3 _ _ _ _).1
    · exact (heap3 _ _ _ _).2.1
    · rw [dpart_zero]; exact (heap3 _ _ _ _).2.2
  case round =>
    obtain ⟨k, hk, rfl, hg, ⟨Z, hz, hzs⟩, hd, hbel⟩ := hrel
    by_cases hlt : k < 32
    · have hc : wr.cell? ⟨w.heap.size, k / 4, none⟩ = some (.int .u32 (st.getD (k / 4) 0)) := by
        rw [cell_of_row _ _ _ _ _ _ hg, A32_get _ _ (by rw [Hb.out]; omega)]
      have hc2 : wr.cell? ⟨w.heap.size + 2, k, none⟩ = some (.int .u8 ((dpart st k).getD k 0)) := by
        rw [cell_of_row _ _ _ _ _ _ hd, A8_get _ _ (by rw [dpart_len]; omega)]
      have hf := frozen_of_row wr (w.heap.size + 2) k _ _ hd
      have hG := heap_setCell_same wr (w.heap.size + 2) k _ _ (.int .u8 (dbyte st k)) hd
      rw [A8_set, dpart_step _ _ hlt] at hG
      generalize (dpart st k).getD k 0 = y at hc2
      have HG : Hid _ := hG
      have hZ : Hid (wr.heap[w.heap.size + 1]? = some (.cells Z 25)) := hz
      have hg1 : Hid (wr.heap[w.heap.size]? = _) := hg
      have hsh : Hid (dbyte st k = st.getD (k / 4) 0 / 2 ^ (8 * (3 - k % 4)) % 256) := rfl
      generalize st.getD (k / 4) 0 = x at hc hsh
      clear hg hz hG hd
      go_wp2_with fail
      go_roundw
      case rel =>
        refine ⟨k + 1, by omega, by go_num, ?_, ⟨Z, ?_, hzs⟩, ?_, hbel.setCell (by simp; omega) _⟩
        · rw [heap_setCell_other _ _ _ _ (by simp; omega)]; exact hg1.out
        · rw [heap_setCell_other _ _ _ _ (by simp)]; exact hZ.out
        · have := HG.out
          rw [hsh.out] at this
          exact this
      case measure => simp [intOf]; omega
    · have hk' : k = 32 := by omega
      subst hk'
      have hG : Hid _ := hd
      have hZ : Hid (wr.heap[w.heap.size + 1]? = some (.cells Z 25)) := hz
      clear hg hz hd
      go_wp2_with (first
        | refine wpList_load_row rfl 25 (.tmp 3) rfl _ rfl 25 _ (0, 0) _ hG.out und25 rfl (by rw [info25, A8_size, dpart_len]) ?_
        | refine wpList_store_row rfl 25 (.tmp 2) (.tmp 21) rfl _ _ rfl rfl 25 _ hZ.out (by rw [info25, A8_size, dpart_len]) (by rw [hzs, A8_size, dpart_len]) (A8_one _) ?_)
      refine bodyPost_ret (v := .agg (A8 (dpart st 32))) (results_cell_row rfl _ _ (w.heap.size + 1) 25 _ (0, 0) _ rfl (setRow_heap _ _ _ _ _ _ hZ.out) und25 rfl (by rw [info25, A8_size, dpart_len])) rfl ⟨?_, ?_⟩
      · rw [dpart_all]
      · exact Below.setRow hbel (by omega) _
end Go.Proofs.YtcmjlhcpoajbkaaDoor
namespace Go.Proofs.YtcmjlhcpoajbkaaDoor
set_option maxRecDepth 10000
/-- The state behind q whole blocks. -/
def hst (ks st xs : List Int) : Nat → List Int
  | 0 => st
  | q + 1 => tstate ks (hst ks st xs q) ((xs.drop (64 * q)).take 64)
theorem hst_len (ks st xs : List Int) (h : st.length = 8) (q : Nat) : (hst ks st xs q).length = 8 := by
  cases q with
  | zero => exact h
  | succ q => exact tstate_len _ _ _
def setlen (l : List Int) (t : Nat) : Nat → List Int
  | 0 => l
  | i + 1 => (setlen l t i).set (63 - i) (8 * (t : Int) / 2 ^ (8 * i) % 256)
theorem setlen_len (l : List Int) (t i : Nat) : (setlen l t i).length = l.length := by
  induction i with
  | zero => rfl
  | succ i ih => simp [setlen, ih]
/-- What finish tells. -/
def finP (ks st : List Int) (t : Nat) (xs : List Int) : List Int :=
  if 56 ≤ xs.length % 64 then
    dbytes (tstate ks (tstate ks (hst ks st xs (xs.length / 64)) ((fblock (xs.drop (64 * (xs.length / 64)))).set (xs.length % 64) 128)) (setlen (List.replicate 64 0) t 8))
  else dbytes (tstate ks (hst ks st xs (xs.length / 64)) (setlen ((fblock (xs.drop (64 * (xs.length / 64)))).set (xs.length % 64) 128) t 8))
theorem fblock_full (ys : List Int) (h : 64 ≤ ys.length) : fblock ys = ys.take 64 := by
  simp [fblock, Nat.sub_eq_zero_of_le h]
/-- Bytes. -/
def Bytes (l : List Int) : Prop := ∀ j, 0 ≤ l.getD j 0 ∧ l.getD j 0 < 256
theorem Bytes.of {l : List Int} (h : ∀ x ∈ l, 0 ≤ x ∧ x < 256) : Bytes l := fun j => by
  rw [List.getD_eq_getElem?_getD]
  cases e : l[j]? with
  | none => simp
  | some v => exact h v (List.mem_of_getElem? e)
theorem Bytes.mem {l : List Int} (h : Bytes l) : ∀ x ∈ l, 0 ≤ x ∧ x < 256 := fun x hx => by
  obtain ⟨j, hj, rfl⟩ := List.mem_iff_getElem.1 hx
  have := h j
  rwa [List.getD_eq_getElem?_getD, List.getElem?_eq_getElem hj] at this
theorem Bytes.drop {l : List Int} (h : Bytes l) (n : Nat) : Bytes (l.drop n) := .of fun x hx => h.mem x (List.mem_of_mem_drop hx)
theorem Bytes.fblock {l : List Int} (h : Bytes l) : Bytes (fblock l) := .of fun x hx => by
  simp only [Go.Proofs.YtcmjlhcpoajbkaaDoor.fblock, List.mem_append, List.mem_replicate] at hx
  rcases hx with hx | ⟨_, rfl⟩
  · exact h.mem x (List.mem_of_mem_take hx)
  · omega
theorem Bytes.set {l : List Int} (h : Bytes l) (i : Nat) (v : Int) (hv : 0 ≤ v ∧ v < 256) : Bytes (l.set i v) := .of fun x hx => by
  rcases List.mem_or_eq_of_mem_set hx with hx | rfl
  · exact h.mem x hx
  · exact hv
theorem Bytes.setlen {l : List Int} (h : Bytes l) (t i : Nat) : Bytes (setlen l t i) := by
  induction i with
  | zero => exact h
  | succ i ih => exact ih.set _ _ (by omega)
theorem Bytes.zeros (n : Nat) : Bytes (List.replicate n 0) := .of fun x hx => by
  have := List.eq_of_mem_replicate hx
  omega
end Go.Proofs.YtcmjlhcpoajbkaaDoor
namespace Go.Proofs.YtcmjlhcpoajbkaaDoor
set_option maxRecDepth 10000
open Go.RowKit
section
variable {P : Program} {ops : Array Oper} {Q : Exit → Act → World → Prop} {md : Region.Mode} {S : World → Prop}
theorem wpOp_val {i : Nat} {o : Oper} {K : Act → World → Prop} {a : Act} {w w' : World} {v : Value} (hi : ops[i]? = some o) (hg : o.guard = none)
    (hrun : (execOp a.eval o).run P w = .ok (.value v) w') (h : K (a.put o.dst v) w') : wpOp P ops Q i K a w := by
  unfold wpOp
  simp only [hi, Region.wanted, hg, if_true]
  refine .inl ?_
  unfold Oper.wp
  rw [hrun]
  exact h
theorem wpOp_call {i : Nat} {o : Oper} {K : Act → World → Prop} {a : Act} {w : World} {f : FuncId} {args : Array Value} (hi : ops[i]? = some o) (hg : o.guard = none)
    (hrun : (execOp a.eval o).run P w = .ok (.enter f args) w) (h : Calls P f args w fun e w'' => ∃ v, e = .returned v ∧ K (a.put o.dst v) w'') : wpOp P ops Q i K a w := by
  unfold wpOp
  simp only [hi, Region.wanted, hg, if_true]
  refine .inl ?_
  unfold Oper.wp
  rw [hrun]
  exact h.mono fun e w'' ⟨v, he, hk⟩ => by subst he; exact hk
theorem wpOp_store_W {i : Nat} {o : Oper} {K : Act → World → Prop} {a : Act} {w : World} (hi : ops[i]? = some o) (hgd : o.guard = none) (ty : TypeId) (x y : Operand) (ho : o.op = .store ty x y)
    (g : Nat) (cells : Array Value) (hx : a.eval x = .pointer (some ⟨g, 0, none⟩)) (hy : a.eval y = .agg cells)
    (t : TypeId) (old : Array Value) (hg : w.heap[g]? = some (.cells old t (0, 0))) (hinf : (P.info? ty).map (·.size) = some cells.size)
    (hold : old.size = cells.size) (h1 : cells.all (·.oneCell') = true)
    (h : ∀ W, Stored w W g cells t → K (a.put o.dst undef) W) : wpOp P ops Q i K a w := by
  unfold wpOp
  simp only [hi, Region.wanted, hgd, if_true]
  refine .inl ?_
  exact wp_store_row ty x y ho g cells hx hy t old hg hinf hold h1
    (h _ ⟨setRow_heap _ _ _ _ _ _ hg, fun _ hk => setRow_other _ _ _ _ hk, setRow_size _ _ _, fun _ _ hB hb => below_setRow hb hB _⟩)
theorem wpOp_load_row {i : Nat} {o : Oper} {K : Act → World → Prop} {a : Act} {w : World} (hi : ops[i]? = some o) (hgd : o.guard = none) (ty : TypeId) (x : Operand) (ho : o.op = .load ty x)
    (g : Nat) (hx : a.eval x = .pointer (some ⟨g, 0, none⟩)) (t : TypeId) (cs : Array Value) (fr : Nat × Nat) (d : TypeDesc) (hg : w.heap[g]? = some (.cells cs t fr))
    (hu : P.underlying ty = some d) (hd : (match d with | .struct _ | .array _ _ => true | _ => false) = true) (hinf : (P.info? ty).map (·.size) = some cs.size)
    (h : K (a.put o.dst (.agg cs)) w) : wpOp P ops Q i K a w := by
  unfold wpOp
  simp only [hi, Region.wanted, hgd, if_true]
  exact .inl (wp_load_row ty x ho g hx t cs fr d hg hu hd hinf h)
theorem yieldsIf_load_row {o : Oper} {a : Act} (hgd : o.guard = none) (ty : TypeId) (x : Operand) (ho : o.op = .load ty x)
    (g : Nat) (hx : a.eval x = .pointer (some ⟨g, 0, none⟩)) (t : TypeId) (cs : Array Value) (fr : Nat × Nat) (d : TypeDesc) (hS : ∀ w, S w → w.heap[g]? = some (.cells cs t fr))
    (hu : P.underlying ty = some d) (hd : (match d with | .struct _ | .array _ _ => true | _ => false) = true) (hi : (P.info? ty).map (·.size) = some cs.size) : YieldsIf P ops S o (.agg cs) a :=
  .inl ⟨by simp only [Region.wanted, hgd], fun w hw => by
    unfold execOp
    simp only [ho, hx, Instr.loadAt, Instr.sureAddr, Sem.run_bind, Sem.run_pure, Result.andThen_ok, run_loadVar_row w g t ty cs fr d (hS w hw) hu hd hi]⟩
theorem yieldsIf_move {o : Oper} {a : Act} (hgd : o.guard = none) (x : Operand) (ho : o.op = .move x) : YieldsIf P ops S o (a.eval x) a :=
  .inl ⟨by simp only [Region.wanted, hgd], fun w _ => by
    unfold execOp
    simp only [ho]
    rfl⟩
theorem reframe {fuel : Nat} {listed : Array Bool} {a : Act} {w : World} (listed' : Array Bool) (a' : Act) (hl : listed = listed') (ha : a = a')
    (h : wpAnyH P md ops Q S fuel listed' a' w) : wpAnyH P md ops Q S fuel listed a w := by subst hl; subst ha; exact h
theorem any_one {i fuel : Nat} {listed : Array Bool} {a : Act} {w : World} (hr : Region.ready md ops listed = [i])
    (h : wpOp P ops Q i (fun a' w' => S w' ∧ wpAnyH P md ops Q S fuel (listed.setIfInBounds i true) a' w') a w) : wpAnyH P md ops Q S (fuel + 1) listed a w :=
  wpAnyH_all hr (by simp) (fun j hj => by
    have e : j = i := by simpa using hj
    subst e; exact h)
theorem any_two {i j fuel : Nat} {listed : Array Bool} {a : Act} {w : World} (hr : Region.ready md ops listed = [i, j])
    (h : wpOp P ops Q i (fun a' w' => S w' ∧ wpAnyH P md ops Q S fuel (listed.setIfInBounds i true) a' w') a w)
    (h' : wpOp P ops Q j (fun a' w' => S w' ∧ wpAnyH P md ops Q S fuel (listed.setIfInBounds j true) a' w') a w) : wpAnyH P md ops Q S (fuel + 1) listed a w :=
  wpAnyH_all hr (by simp) (fun k hk => by
    have e : k = i ∨ k = j := by simpa using hk
    rcases e with e | e
    · subst e; exact h
    · subst e; exact h')
end
end Go.Proofs.YtcmjlhcpoajbkaaDoor
namespace Go.Proofs.YtcmjlhcpoajbkaaDoor
set_option maxRecDepth 10000
open Go.RowKit
theorem lies_next {w : World} {xs : List Int} {b o c q m : Nat} (hbl : b < w.heap.size) (hl : (xs.drop (64 * q)).length = m) (hmc : m ≤ c)
    (hc : ∀ j, j < (xs.drop (64 * q)).length → w.cell? ⟨b, o + j, none⟩ = some (.int .u8 ((xs.drop (64 * q)).getD j 0))) :
    Lies w (if c = 64 then some ⟨b, o, none⟩ else some ⟨b, o + 64, none⟩) (xs.drop (64 * (q + 1))) := fun h0 => by
  have e : xs.drop (64 * (q + 1)) = (xs.drop (64 * q)).drop 64 := by rw [List.drop_drop]; congr 1
  rw [e] at h0 ⊢
  rw [List.length_drop] at h0
  refine ⟨b, o + 64, by rw [if_neg (by omega)], hbl, fun j hj => ?_⟩
  rw [List.length_drop] at hj
  rw [Nat.add_assoc, hc (64 + j) (by omega)]
  simp only [List.getD_eq_getElem?_getD, List.getElem?_drop]
theorem finP_long (ks st xs : List Int) (t q m : Nat) (B0 : List Int) (hx : xs.length = 64 * q + m) (hm : m < 64) (h : 56 ≤ m) (hB : fblock (xs.drop (64 * q)) = B0) :
    dbytes (tstate ks (tstate ks (hst ks st xs q) (B0.set m 128)) (setlen (List.replicate 64 0) t 8)) = finP ks st t xs := by
  have e1 : xs.length / 64 = q := by omega
  have e2 : xs.length % 64 = m := by omega
  rw [finP, e1, e2, if_pos h, hB]
theorem finP_short (ks st xs : List Int) (t q m : Nat) (B0 : List Int) (hx : xs.length = 64 * q + m) (hm : m < 64) (h : ¬ 56 ≤ m) (hB : fblock (xs.drop (64 * q)) = B0) :
    dbytes (tstate ks (hst ks st xs q) (setlen (B0.set m 128) t 8)) = finP ks st t xs := by
  have e1 : xs.length / 64 = q := by omega
  have e2 : xs.length % 64 = m := by omega
  rw [finP, e1, e2, if_neg h, hB]
theorem follows : Tryd.prog.follows .mixedOrders = true := by kernel_rfl
set_option maxHeartbeats 400000 in
theorem finish_any (ks st : List Int) (ahead n cap : Nat) (p : Option Addr) (xs : List Int) (w : World) (hk : ks.length = 64) (hs : st.length = 8) (hx : xs.length = n) (hr : Bytes xs)
    (hn : n ≤ 140737488355328) (hcap : n ≤ cap) (hc2 : cap ≤ 9223372036854775807) (ha : ahead ≤ 64) (hL : Lies w p xs) (hK : ∃ t fr, w.heap[1]? = some (.cells (A32 ks) t fr)) :
    Calls Tryd.prog 88 #[.agg (A32 st), .int .i64 ahead, .slice p n cap] w fun e w' => e = .returned (.agg (A8 (finP ks st (ahead + n) xs))) ∧ Below w.heap.size w w' := by
  have h1 : 1 < w.heap.size := by
    obtain ⟨tK, fr, hK⟩ := hK
    rcases Nat.lt_or_ge 1 w.heap.size with h | h
    · exact h
    · rw [Array.getElem?_eq_none h] at hK; cases hK
  have HK : Hid (∃ t fr, w.heap[1]? = some (.cells (A32 ks) t fr)) := hK
  have Hs : Hid (st.length = 8) := hs
  have Hk : Hid (ks.length = 64) := hk
  have Hx : Hid (xs.length = n) := hx
  clear hK hs hk hx
  go_enter Tryd.func88, Tryd.ntmps88
  go_wp2_with fail
  go_loopw [2] (fun v wr => ∃ (q m c : Nat) (pp : Option Addr), 64 * q + m = n ∧ m ≤ c ∧ c ≤ 9223372036854775807 ∧ v = .slice pp m c ∧ Lies w pp (xs.drop (64 * q)) ∧ wr.heap[w.heap.size]? = some (.cells (A32 (hst ks st xs q)) 143) ∧ wr.heap[w.heap.size + 1]? = some (.cells Z8x32 25) ∧ Below w.heap.size w wr ∧ w.heap.size + 1 < wr.heap.size) (fun v _ => match v with | .slice _ m _ => m | _ => 0)
  case atStart =>
    exact ⟨0, n, cap, p, by omega, hcap, hc2, rfl, hL, (heap2 _ _ _).1, (heap2 _ _ _).2, below2 _ _ _, by simp⟩
  case round =>
    obtain ⟨q, m, c, pp, hqm, hmc, hcc, rfl, hLp, h0, hz, hbel, hsz⟩ := hrel
    have H0 : Hid (wr.heap[w.heap.size]? = _) := h0
    have Hz : Hid (wr.heap[w.heap.size + 1]? = _) := hz
    have HL : Hid (Lies w pp (xs.drop (64 * q))) := hLp
    clear h0 hz hLp hL
    by_cases h64 : 64 ≤ m
    · obtain ⟨b, o, rfl, hbl, hcells⟩ := HL.out (by rw [List.length_drop, Hx.out]; omega)
      have hcells' : Hid _ := hcells
      clear hcells
      go_wp2_with fail
      refine wp_region_noPanic ?_
      refine wp_region_held (S := fun _ => True) follows ?_
      refine wpAnyH_take (i := 1) rfl (by kernel_rfl) (by kernel_rfl) (by kernel_rfl) (fun _ _ _ h => h) (yieldsIf_move rfl (.tmp 2) rfl) trivial ?_
      have hl2 : (xs.drop (64 * q)).length = m := by rw [List.length_drop, Hx.out]; omega
      have hcl := hst_len ks st xs Hs.out q
      have hbd : Below w.heap.size w wr.drew := hbel.drew
      have hyb : Bytes (fblock (xs.drop (64 * q))) := (hr.drop _).fblock
      have hstep : hst ks st xs (q + 1) = tstate ks (hst ks st xs q) (fblock (xs.drop (64 * q))) := by
        rw [fblock_full _ (by omega)]; rfl
      have hLn := lies_next (w := w) (xs := xs) (b := b) (o := o) (c := c) (q := q) hbl hl2 hmc hcells'.out
      refine any_two (i := 0) (j := 2) (by kernel_rfl) ?_ ?_
      · refine wpOp_load_row rfl rfl 143 (.tmp 3) rfl w.heap.size rfl 143 (A32 (hst ks st xs q)) (0, 0) (.array 8 98) H0.out und40 rfl (by rw [info40, A32_size, hcl]) ⟨trivial, ?_⟩
        refine any_one (i := 2) (by kernel_rfl) ?_
        refine wpOp_call (f := 108) (args := #[.slice (some ⟨b, o, none⟩) m c]) rfl rfl (by go_simp) ?_
        refine (firstBlock_any (some ⟨b, o, none⟩) m c (xs.drop (64 * q)) _ hl2 (HL.out.below hbd)).mono ?_
        rintro e w1 ⟨rfl, hb1⟩
        refine ⟨_, rfl, trivial, ?_⟩
        have k1 : ∃ t fr, w1.heap[1]? = some (.cells (A32 ks) t fr) := by
          obtain ⟨tK, fr, h⟩ := HK.out
          exact ⟨tK, fr, (hb1.block 1 (by show 1 < wr.heap.size; omega)).trans ((hbel.block 1 h1).trans h)⟩
        have k0 := (hb1.block w.heap.size (by show _ < wr.heap.size; omega)).trans H0.out
        have kz := (hb1.block (w.heap.size + 1) hsz).trans Hz.out
        have kb := hbd.trans (hb1.mono (by show _ ≤ wr.heap.size; omega))
        refine any_one (i := 3) (by kernel_rfl) ?_
        refine wpOp_call (f := 90) (args := #[.agg (A32 (hst ks st xs q)), .agg (A8 (fblock (xs.drop (64 * q))))]) rfl rfl (by go_simp) ?_
        refine (take_any ks _ _ w1 Hk.out hcl (fblock_len _) hyb k1).mono ?_
        rintro e w2 ⟨rfl, hb2⟩
        refine ⟨_, rfl, trivial, ?_⟩
        have hs1 : wr.heap.size ≤ w1.heap.size := hb1.size
        have l0 := (hb2.block w.heap.size (by omega)).trans k0
        have lz := (hb2.block (w.heap.size + 1) (by omega)).trans kz
        have lb := kb.trans (hb2.mono (by omega))
        have hs2 : w1.heap.size ≤ w2.heap.size := hb2.size
        refine any_one (i := 4) (by kernel_rfl) ?_
        refine wpOp_store_W rfl rfl 143 (.tmp 3) (.tmp 23) rfl w.heap.size (A32 (tstate ks (hst ks st xs q) (fblock (xs.drop (64 * q))))) rfl rfl 143 (A32 (hst ks st xs q)) l0 (by rw [info40, A32_size, tstate_len]) (by rw [A32_size, A32_size, tstate_len, hcl]) (A32_one _) ?_
        intro V hV
        refine ⟨trivial, wpAnyH_done (by kernel_rfl) ?_ _⟩
        refine NoPanic.normal ?_
        have v0 := hV.here
        have vz := (hV.other (w.heap.size + 1) (by omega)).trans lz
        have vb := hV.below _ _ (Nat.le_refl _) lb
        have vs : w.heap.size + 1 < V.heap.size := by rw [hV.size]; omega
        rw [← hstep] at v0
        clear hV l0 lz lb k0 kz kb k1 hb1 hb2 hs1 hs2
        go_wp2_with fail
        refine ⟨⟨q + 1, m - 64, c - 64, _, by omega, by omega, by omega, rfl, hLn, v0, vz, vb, vs⟩, ?_⟩
        show m - 64 < m
        omega
      · refine wpOp_call (f := 108) (args := #[.slice (some ⟨b, o, none⟩) m c]) rfl rfl (by go_simp) ?_
        refine (firstBlock_any (some ⟨b, o, none⟩) m c (xs.drop (64 * q)) _ hl2 (HL.out.below hbd)).mono ?_
        rintro e w1 ⟨rfl, hb1⟩
        refine ⟨_, rfl, trivial, ?_⟩
        have k1 : ∃ t fr, w1.heap[1]? = some (.cells (A32 ks) t fr) := by
          obtain ⟨tK, fr, h⟩ := HK.out
          exact ⟨tK, fr, (hb1.block 1 (by show 1 < wr.heap.size; omega)).trans ((hbel.block 1 h1).trans h)⟩
        have k0 := (hb1.block w.heap.size (by show _ < wr.heap.size; omega)).trans H0.out
        have kz := (hb1.block (w.heap.size + 1) hsz).trans Hz.out
        have kb := hbd.trans (hb1.mono (by show _ ≤ wr.heap.size; omega))
        refine any_one (i := 0) (by kernel_rfl) ?_
        refine wpOp_load_row rfl rfl 143 (.tmp 3) rfl w.heap.size rfl 143 (A32 (hst ks st xs q)) (0, 0) (.array 8 98) k0 und40 rfl (by rw [info40, A32_size, hcl]) ⟨trivial, ?_⟩
        refine any_one (i := 3) (by kernel_rfl) ?_
        refine wpOp_call (f := 90) (args := #[.agg (A32 (hst ks st xs q)), .agg (A8 (fblock (xs.drop (64 * q))))]) rfl rfl (by go_simp) ?_
        refine (take_any ks _ _ w1 Hk.out hcl (fblock_len _) hyb k1).mono ?_
        rintro e w2 ⟨rfl, hb2⟩
        refine ⟨_, rfl, trivial, ?_⟩
        have hs1 : wr.heap.size ≤ w1.heap.size := hb1.size
        have l0 := (hb2.block w.heap.size (by omega)).trans k0
        have lz := (hb2.block (w.heap.size + 1) (by omega)).trans kz
        have lb := kb.trans (hb2.mono (by omega))
        have hs2 : w1.heap.size ≤ w2.heap.size := hb2.size
        refine any_one (i := 4) (by kernel_rfl) ?_
        refine wpOp_store_W rfl rfl 143 (.tmp 3) (.tmp 23) rfl w.heap.size (A32 (tstate ks (hst ks st xs q) (fblock (xs.drop (64 * q))))) rfl rfl 143 (A32 (hst ks st xs q)) l0 (by rw [info40, A32_size, tstate_len]) (by rw [A32_size, A32_size, tstate_len, hcl]) (A32_one _) ?_
        intro V hV
        refine ⟨trivial, wpAnyH_done (by kernel_rfl) ?_ _⟩
        refine NoPanic.normal ?_
        have v0 := hV.here
        have vz := (hV.other (w.heap.size + 1) (by omega)).trans lz
        have vb := hV.below _ _ (Nat.le_refl _) lb
        have vs : w.heap.size + 1 < V.heap.size := by rw [hV.size]; omega
        rw [← hstep] at v0
        clear hV l0 lz lb k0 kz kb k1 hb1 hb2 hs1 hs2
        go_wp2_with fail
        refine ⟨⟨q + 1, m - 64, c - 64, _, by omega, by omega, by omega, rfl, hLn, v0, vz, vb, vs⟩, ?_⟩
        show m - 64 < m
        omega
    · have hl2 : (xs.drop (64 * q)).length = m := by rw [List.length_drop, Hx.out]; omega
      have hcl := hst_len ks st xs Hs.out q
      have hyb : Bytes (fblock (xs.drop (64 * q))) := (hr.drop _).fblock
      go_wp2_with fail
      refine (firstBlock_any pp m c (xs.drop (64 * q)) _ hl2 (HL.out.below hbel)).mono ?_
      rintro e w1 ⟨rfl, hb1⟩
      have k0 := (hb1.block w.heap.size (by omega)).trans H0.out
      have kz := (hb1.block (w.heap.size + 1) hsz).trans Hz.out
      have kb := hbel.trans (hb1.mono (by omega))
      have hs1 : wr.heap.size ≤ w1.heap.size := hb1.size
      generalize hB0 : fblock (xs.drop (64 * q)) = B0 at *
      have hBl : B0.length = 64 := by rw [← hB0]; exact fblock_len _
      have HB0 : Hid (fblock (xs.drop (64 * q)) = B0) := hB0
      clear hB0 hb1
      have K0 : Hid (w1.heap[w.heap.size]? = _) := k0
      have KZ : Hid (w1.heap[w.heap.size + 1]? = _) := kz
      clear k0 kz
      go_wp2_with (first
        | (with_reducible refine atStore 146 ?_
           refine wpList_store_W rfl 146 (.tmp 8) (.tmp 27) rfl w1.heap.size (A8 B0) rfl rfl 146 Z8x64 ?_ (by rw [info43, A8_size, hBl]) (by rw [A8_size, hBl]; rfl) (A8_one _) ?_
           · exact heapN w1 _ _ rfl
           intro V hV
           refine hideGoal ?_))
      have v0 : V.heap[w.heap.size]? = _ := ((hV.other w.heap.size (by omega)).trans (heapO w1 _ _ (by omega))).trans K0.out
      have vz : V.heap[w.heap.size + 1]? = _ := ((hV.other (w.heap.size + 1) (by omega)).trans (heapO w1 _ _ (by omega))).trans KZ.out
      have vg := hV.here
      have vb := hV.below _ _ (by omega) (kb.alloc (by omega) _)
      have vs : w1.heap.size < V.heap.size := by rw [hV.size]; simp
      have hg1 : w.heap.size + 1 < w1.heap.size := by omega
      generalize w1.heap.size = g at *
      have hc0 : V.cell? ⟨g, m, none⟩ = some (.int .u8 (B0.getD m 0)) := by
        rw [cell_of_row _ _ _ _ _ _ vg, A8_get _ _ (by omega)]
      have hf0 := frozen_of_row V g m _ _ vg
      have vg2 := heap_setCell_same V g m _ _ (.int .u8 128) vg
      rw [A8_set] at vg2
      have v02 := (heap_setCell_other V ⟨g, m, none⟩ w.heap.size (.int .u8 128) (by simp; omega)).trans v0
      have vz2 := (heap_setCell_other V ⟨g, m, none⟩ (w.heap.size + 1) (.int .u8 128) (by simp; omega)).trans vz
      have vb2 : Below w.heap.size w (V.setCell ⟨g, m, none⟩ (.int .u8 128)) := vb.setCell (by simp; omega) _
      have vs2 : g < (V.setCell ⟨g, m, none⟩ (.int .u8 128)).heap.size := by simpa using vs
      have V02 : Hid _ := v02
      have VZ2 : Hid _ := vz2
      have VG2 : Hid _ := vg2
      have VB2 : Hid _ := vb2
      have VS2 : Hid _ := vs2
      generalize B0.getD m 0 = y0 at hc0
      clear hV K0 KZ HL H0 Hz kb hs1 v0 vz vg vb vs v02 vz2 vg2 vb2 vs2
      refine openGoal ?_
      by_cases h56 : 56 ≤ m
      · go_wp2_with (first
          | (with_reducible refine atLoad 143 ?_
             refine hideGoal ?_))
        generalize V.setCell ⟨g, m, none⟩ (.int .u8 128) = X at *
        clear hc0 hf0
        have hB2 : Bytes (B0.set m 128) := hyb.set _ _ (by omega)
        have hB2l : (B0.set m 128).length = 64 := by rw [List.length_set, hBl]
        refine openGoal ?_
        go_wp2_with (first
          | (with_reducible refine atLoad 143 ?_
             refine wpList_load_row rfl 143 (.tmp 3) rfl w.heap.size rfl 143 (A32 (hst ks st xs q)) (0, 0) (.array 8 98) V02.out und40 rfl (by rw [info40, A32_size, hcl]) ?_)
          | (with_reducible refine atLoad 146 ?_
             refine wpList_load_row rfl 146 (.tmp 8) rfl g rfl 146 (A8 (B0.set m 128)) (0, 0) (.array 64 5) VG2.out und43 rfl (by rw [info43, A8_size, hB2l]) ?_))
        have k1 : ∃ t fr, X.heap[1]? = some (.cells (A32 ks) t fr) := by
          obtain ⟨tK, fr, h⟩ := HK.out
          exact ⟨tK, fr, (VB2.out.block 1 h1).trans h⟩
        refine (take_any ks _ _ X Hk.out hcl hB2l hB2 k1).mono ?_
        rintro e w2 ⟨rfl, hb2⟩
        have vs3 := VS2.out
        have hs2 : X.heap.size ≤ w2.heap.size := hb2.size
        have x0 : Hid (w2.heap[w.heap.size]? = _) := (hb2.block w.heap.size (by omega)).trans V02.out
        have xz : Hid (w2.heap[w.heap.size + 1]? = _) := (hb2.block (w.heap.size + 1) (by omega)).trans VZ2.out
        have xg : Hid (w2.heap[g]? = _) := (hb2.block g vs3).trans VG2.out
        have xb := VB2.out.trans (hb2.mono (by omega))
        have hE : dbytes (tstate ks (tstate ks (hst ks st xs q) (B0.set m 128)) (setlen (List.replicate 64 0) (ahead + n) 8)) = finP ks st (ahead + n) xs :=
          finP_long ks st xs (ahead + n) q m B0 (by rw [Hx.out]; omega) (by omega) h56 HB0.out
        have HEE : Hid _ := hE
        have hTl := tstate_len ks (hst ks st xs q) (B0.set m 128)
        generalize tstate ks (hst ks st xs q) (B0.set m 128) = S2 at *
        clear hE hb2 k1
        go_wp2_with (first
          | (with_reducible refine atStore 143 ?_
             refine wpList_store_W rfl 143 (.tmp 3) (.tmp 36) rfl w.heap.size (A32 S2) rfl rfl 143 (A32 (hst ks st xs q)) x0.out (by rw [info40, A32_size, hTl]) (by rw [A32_size, A32_size, hTl, hcl]) (A32_one _) ?_
             intro Y hY
             refine hideGoal ?_))
        have y0 : Hid (Y.heap[w.heap.size]? = _) := hY.here
        have yz : Hid (Y.heap[w.heap.size + 1]? = _) := (hY.other (w.heap.size + 1) (by omega)).trans xz.out
        have yg : Hid (Y.heap[g]? = _) := (hY.other g (by omega)).trans xg.out
        have yb := hY.below _ _ (Nat.le_refl _) xb
        have ys : g < Y.heap.size := by rw [hY.size]; omega
        clear hY x0 xz xg xb hs2 VS2 V02 VZ2 VG2 VB2
        refine openGoal ?_
        go_wp2_with (first
          | (with_reducible refine atStore 146 ?_
             refine wpList_store_W rfl 146 (.tmp 8) (.tmp 37) rfl g (A8 (List.replicate 64 0)) rfl ?_ 146 (A8 (B0.set m 128)) yg.out (by rw [info43, A8_size, List.length_replicate]) (by rw [A8_size, A8_size, List.length_replicate, hB2l]) (A8_one _) ?_
             · rfl
             intro U hU
             refine hideGoal ?_))
        have u0 : U.heap[w.heap.size]? = _ := (hU.other w.heap.size (by omega)).trans y0.out
        have uz : U.heap[w.heap.size + 1]? = _ := (hU.other (w.heap.size + 1) (by omega)).trans yz.out
        have ug := hU.here
        have ub := hU.below _ _ (by omega) yb
        have us : g < U.heap.size := by rw [hU.size]; omega
        obtain ⟨L1, hL1⟩ : ∃ L1 : List Int, L1 = List.replicate 64 0 := ⟨_, rfl⟩
        have hL1l : L1.length = 64 := by rw [hL1, List.length_replicate]
        have hL1b : Bytes L1 := by rw [hL1]; exact Bytes.zeros _
        have HE2 : Hid (dbytes (tstate ks S2 (setlen L1 (ahead + n) 8)) = finP ks st (ahead + n) xs) := by rw [hL1]; exact HEE.out
        rw [← hL1] at ug
        have U0 : Hid _ := u0
        have UZ : Hid _ := uz
        have UG : Hid _ := ug
        clear hL1 u0 uz ug hU HEE
        refine openGoal ?_
        go_wp2_with fail
        go_loopw [38] (fun v wq => ∃ i : Nat, i ≤ 8 ∧ v = .int .i64 i ∧ wq.heap[w.heap.size]? = some (.cells (A32 S2) 143) ∧ wq.heap[w.heap.size + 1]? = some (.cells Z8x32 25) ∧ wq.heap[g]? = some (.cells (A8 (setlen L1 (ahead + n) i)) 146) ∧ Below w.heap.size w wq ∧ g < wq.heap.size) (fun v _ => 8 - (intOf v).toNat)
        case atStart => exact ⟨0, by omega, rfl, U0.out, UZ.out, UG.out, ub, us⟩
        case round =>
          obtain ⟨i, hi, rfl, d0, dz, dg, db, ds⟩ := hrel
          have D0 : Hid (wr.heap[w.heap.size]? = _) := d0
          have DZ : Hid (wr.heap[w.heap.size + 1]? = _) := dz
          have DG : Hid (wr.heap[g]? = _) := dg
          clear d0 dz
          by_cases hi8 : i < 8
          · have hc : wr.cell? ⟨g, 63 - i, none⟩ = some (.int .u8 ((setlen L1 (ahead + n) i).getD (63 - i) 0)) := by
              rw [cell_of_row _ _ _ _ _ _ dg, A8_get _ _ (by rw [setlen_len, hL1l]; omega)]
            have hf := frozen_of_row wr g (63 - i) _ _ dg
            have hG := heap_setCell_same wr g (63 - i) _ _ (.int .u8 (8 * ((ahead + n : Nat) : Int) / 2 ^ (8 * i) % 256)) dg
            rw [A8_set] at hG
            rw [Int.natCast_add] at hG
            have HG : Hid _ := hG
            generalize (setlen L1 (ahead + n) i).getD (63 - i) 0 = y1 at hc
            have hb1 : (i : Int) < 8 := by omega
            clear dg hG
            go_wp2_with fail
            go_roundw
            case rel =>
              refine ⟨i + 1, by omega, by go_num, ?_, ?_, ?_, db.setCell (by simp; omega) _, by simpa using ds⟩
              · rw [heap_setCell_other _ _ _ _ (by simp; omega)]; exact D0.out
              · rw [heap_setCell_other _ _ _ _ (by simp; omega)]; exact DZ.out
              · have := HG.out
                simp only [setlen, Int.natCast_add]
                exact this
            case measure => simp [intOf]; omega
          · have e8 : i = 8 := by omega
            have DG8 : Hid (wr.heap[g]? = some (.cells (A8 (setlen L1 (ahead + n) 8)) 146)) := by rw [← e8]; exact dg
            have hbt : Bytes (setlen L1 (ahead + n) 8) := (hL1b).setlen _ _
            have hlt8 : (setlen L1 (ahead + n) 8).length = 64 := by rw [setlen_len, hL1l]
            have HE : Hid (_ = _) := HE2.out
            generalize setlen L1 (ahead + n) 8 = L8 at DG8 hbt hlt8 HE
            clear dg e8 DG
            go_wp2_with (first
              | (with_reducible refine atLoad 143 ?_
                 refine wpList_load_row rfl 143 (.tmp 3) rfl w.heap.size rfl 143 (A32 S2) (0, 0) (.array 8 98) D0.out und40 rfl (by rw [info40, A32_size, hTl]) ?_)
              | (with_reducible refine atLoad 146 ?_
                 refine wpList_load_row rfl 146 (.tmp 8) rfl g rfl 146 (A8 L8) (0, 0) (.array 64 5) DG8.out und43 rfl (by rw [info43, A8_size, hlt8]) ?_))
            have k1 : ∃ t fr, wr.heap[1]? = some (.cells (A32 ks) t fr) := by
              obtain ⟨tK, fr, h⟩ := HK.out
              exact ⟨tK, fr, (db.block 1 h1).trans h⟩
            refine (take_any ks _ _ wr Hk.out hTl hlt8 hbt k1).mono ?_
            rintro e w2 ⟨rfl, hb2⟩
            go_wp2_with fail
            refine (digest_any _ w2 (tstate_len _ _ _)).mono ?_
            rintro e w3 ⟨rfl, hb3⟩
            have hs2 : wr.heap.size ≤ w2.heap.size := hb2.size
            have zz : Hid (w3.heap[w.heap.size + 1]? = _) := (hb3.block (w.heap.size + 1) (by omega)).trans ((hb2.block (w.heap.size + 1) (by omega)).trans DZ.out)
            have zb := (db.trans (hb2.mono (by omega))).trans (hb3.mono (by omega))
            rw [HE.out]
            have hfl : (finP ks st (ahead + n) xs).length = 32 := by rw [← HE.out]; simp [dbytes]
            generalize hF : finP ks st (ahead + n) xs = F at hfl
            have HF : Hid (finP ks st (ahead + n) xs = F) := hF
            clear hF
            go_wp2_with (first
              | (with_reducible refine atStore 25 ?_
                 refine wpList_store_W rfl 25 (.tmp 6) (.tmp 53) rfl (w.heap.size + 1) (A8 F) rfl rfl 25 Z8x32 zz.out (by rw [info25, A8_size, hfl]) (by rw [A8_size, hfl]; rfl) (A8_one _) ?_
                 intro U hU))
            refine bodyPost_ret (v := .agg (A8 F)) (results_cell_row rfl _ _ (w.heap.size + 1) 25 _ (0, 0) _ rfl hU.here und25 rfl (by rw [info25, A8_size, hfl])) rfl ⟨by rw [HF.out], ?_⟩
            exact hU.below _ _ (by omega) zb
      · generalize hL1 : B0.set m 128 = L1 at *
        have hL1l : L1.length = 64 := by rw [← hL1, List.length_set, hBl]
        have hL1b : Bytes L1 := by rw [← hL1]; exact hyb.set _ _ (by omega)
        have HE2 : Hid (dbytes (tstate ks (hst ks st xs q) (setlen L1 (ahead + n) 8)) = finP ks st (ahead + n) xs) := by
          rw [← hL1]; exact finP_short ks st xs (ahead + n) q m B0 (by rw [Hx.out]; omega) (by omega) h56 HB0.out
        clear hL1
        go_wp2_with fail
        go_loopw [38] (fun v wq => ∃ i : Nat, i ≤ 8 ∧ v = .int .i64 i ∧ wq.heap[w.heap.size]? = some (.cells (A32 (hst ks st xs q)) 143) ∧ wq.heap[w.heap.size + 1]? = some (.cells Z8x32 25) ∧ wq.heap[g]? = some (.cells (A8 (setlen L1 (ahead + n) i)) 146) ∧ Below w.heap.size w wq ∧ g < wq.heap.size) (fun v _ => 8 - (intOf v).toNat)
        case atStart => exact ⟨0, by omega, rfl, V02.out, VZ2.out, VG2.out, VB2.out, VS2.out⟩
        case round =>
          obtain ⟨i, hi, rfl, d0, dz, dg, db, ds⟩ := hrel
          have D0 : Hid (wr.heap[w.heap.size]? = _) := d0
          have DZ : Hid (wr.heap[w.heap.size + 1]? = _) := dz
          have DG : Hid (wr.heap[g]? = _) := dg
          clear d0 dz
          by_cases hi8 : i < 8
          · have hc : wr.cell? ⟨g, 63 - i, none⟩ = some (.int .u8 ((setlen L1 (ahead + n) i).getD (63 - i) 0)) := by
              rw [cell_of_row _ _ _ _ _ _ dg, A8_get _ _ (by rw [setlen_len, hL1l]; omega)]
            have hf := frozen_of_row wr g (63 - i) _ _ dg
            have hG := heap_setCell_same wr g (63 - i) _ _ (.int .u8 (8 * ((ahead + n : Nat) : Int) / 2 ^ (8 * i) % 256)) dg
            rw [A8_set] at hG
            rw [Int.natCast_add] at hG
            have HG : Hid _ := hG
            generalize (setlen L1 (ahead + n) i).getD (63 - i) 0 = y1 at hc
            have hb1 : (i : Int) < 8 := by omega
            clear dg hG
            go_wp2_with fail
            go_roundw
            case rel =>
              refine ⟨i + 1, by omega, by go_num, ?_, ?_, ?_, db.setCell (by simp; omega) _, by simpa using ds⟩
              · rw [heap_setCell_other _ _ _ _ (by simp; omega)]; exact D0.out
              · rw [heap_setCell_other _ _ _ _ (by simp; omega)]; exact DZ.out
              · have := HG.out
                simp only [setlen, Int.natCast_add]
                exact this
            case measure => simp [intOf]; omega
          · have e8 : i = 8 := by omega
            have DG8 : Hid (wr.heap[g]? = some (.cells (A8 (setlen L1 (ahead + n) 8)) 146)) := by rw [← e8]; exact dg
            have hbt : Bytes (setlen L1 (ahead + n) 8) := (hL1b).setlen _ _
            have hlt8 : (setlen L1 (ahead + n) 8).length = 64 := by rw [setlen_len, hL1l]
            have HE : Hid (_ = _) := HE2.out
            generalize setlen L1 (ahead + n) 8 = L8 at DG8 hbt hlt8 HE
            clear dg e8 DG
            go_wp2_with (first
              | (with_reducible refine atLoad 143 ?_
                 refine wpList_load_row rfl 143 (.tmp 3) rfl w.heap.size rfl 143 (A32 (hst ks st xs q)) (0, 0) (.array 8 98) D0.out und40 rfl (by rw [info40, A32_size, hcl]) ?_)
              | (with_reducible refine atLoad 146 ?_
                 refine wpList_load_row rfl 146 (.tmp 8) rfl g rfl 146 (A8 L8) (0, 0) (.array 64 5) DG8.out und43 rfl (by rw [info43, A8_size, hlt8]) ?_))
            have k1 : ∃ t fr, wr.heap[1]? = some (.cells (A32 ks) t fr) := by
              obtain ⟨tK, fr, h⟩ := HK.out
              exact ⟨tK, fr, (db.block 1 h1).trans h⟩
            refine (take_any ks _ _ wr Hk.out hcl hlt8 hbt k1).mono ?_
            rintro e w2 ⟨rfl, hb2⟩
            go_wp2_with fail
            refine (digest_any _ w2 (tstate_len _ _ _)).mono ?_
            rintro e w3 ⟨rfl, hb3⟩
            have hs2 : wr.heap.size ≤ w2.heap.size := hb2.size
            have zz : Hid (w3.heap[w.heap.size + 1]? = _) := (hb3.block (w.heap.size + 1) (by omega)).trans ((hb2.block (w.heap.size + 1) (by omega)).trans DZ.out)
            have zb := (db.trans (hb2.mono (by omega))).trans (hb3.mono (by omega))
            rw [HE.out]
            have hfl : (finP ks st (ahead + n) xs).length = 32 := by rw [← HE.out]; simp [dbytes]
            generalize hF : finP ks st (ahead + n) xs = F at hfl
            have HF : Hid (finP ks st (ahead + n) xs = F) := hF
            clear hF
            go_wp2_with (first
              | (with_reducible refine atStore 25 ?_
                 refine wpList_store_W rfl 25 (.tmp 6) (.tmp 53) rfl (w.heap.size + 1) (A8 F) rfl rfl 25 Z8x32 zz.out (by rw [info25, A8_size, hfl]) (by rw [A8_size, hfl]; rfl) (A8_one _) ?_
                 intro U hU))
            refine bodyPost_ret (v := .agg (A8 F)) (results_cell_row rfl _ _ (w.heap.size + 1) 25 _ (0, 0) _ rfl hU.here und25 rfl (by rw [info25, A8_size, hfl])) rfl ⟨by rw [HF.out], ?_⟩
            exact hU.below _ _ (by omega) zb
end Go.Proofs.YtcmjlhcpoajbkaaDoor
namespace Go.Proofs.YtcmjlhcpoajbkaaDoor
set_option maxRecDepth 10000
open Go.RowKit
/-- The two tables lie where they were laid. -/
structure Tabs (ks hs : List Int) (w : World) : Prop where
  klen : ks.length = 64
  hlen : hs.length = 8
  start : ∃ t fr, w.heap[0]? = some (.cells (A32 hs) t fr)
  rounds : ∃ t fr, w.heap[1]? = some (.cells (A32 ks) t fr)
theorem Tabs.size {ks hs : List Int} {w : World} (h : Tabs ks hs w) : 1 < w.heap.size := by
  obtain ⟨tK, fr, hK⟩ := h.rounds
  rcases Nat.lt_or_ge 1 w.heap.size with h | h
  · exact h
  · rw [Array.getElem?_eq_none h] at hK; cases hK
theorem Tabs.below {ks hs : List Int} {w w' : World} (h : Tabs ks hs w) (hb : Below w.heap.size w w') : Tabs ks hs w' :=
  ⟨h.klen, h.hlen, by obtain ⟨tK, fr, e⟩ := h.start; exact ⟨tK, fr, (hb.block 0 (by have := h.size; omega)).trans e⟩,
   by obtain ⟨tK, fr, e⟩ := h.rounds; exact ⟨tK, fr, (hb.block 1 h.size).trans e⟩⟩
def hashP (ks hs xs : List Int) : List Int := finP ks hs (0 + xs.length) xs
theorem dbytes_len (st : List Int) : (dbytes st).length = 32 := by simp [dbytes]
theorem finP_len (ks st : List Int) (t : Nat) (xs : List Int) : (finP ks st t xs).length = 32 := by
  unfold finP; split <;> exact dbytes_len _
theorem dbytes_bytes (st : List Int) : Bytes (dbytes st) := .of fun x hx => by
  simp only [dbytes, List.mem_map] at hx
  obtain ⟨i, _, rfl⟩ := hx
  unfold dbyte; omega
theorem finP_bytes (ks st : List Int) (t : Nat) (xs : List Int) : Bytes (finP ks st t xs) := by
  unfold finP; split <;> exact dbytes_bytes _
/-- A slice of bytes that came in. -/
structure In8 (w : World) (p : Option Addr) (n cap : Nat) (xs : List Int) : Prop where
  len : xs.length = n
  bytes : Bytes xs
  fits : n ≤ cap
  room : cap ≤ 9223372036854775807
  small : n ≤ 140737488355328
  lies : Lies w p xs
theorem In8.below {w w' : World} {p : Option Addr} {n cap : Nat} {xs : List Int} (h : In8 w p n cap xs) (hb : Below w.heap.size w w') : In8 w' p n cap xs :=
  ⟨h.len, h.bytes, h.fits, h.room, h.small, h.lies.below hb⟩
theorem fin_in {ks hs st : List Int} {w : World} (hT : Tabs ks hs w) (hs : st.length = 8) (ahead : Nat) (ha : ahead ≤ 64) {p : Option Addr} {n cap : Nat} {xs : List Int} (hi : In8 w p n cap xs) :
    Calls Tryd.prog 88 #[.agg (A32 st), .int .i64 ahead, .slice p n cap] w fun e w' => e = .returned (.agg (A8 (finP ks st (ahead + n) xs))) ∧ Below w.heap.size w w' :=
  finish_any ks st ahead n cap p xs w hT.klen hs hi.len hi.bytes hi.small hi.fits hi.room ha hi.lies hT.rounds
set_option maxHeartbeats 400000 in
theorem hash_any (ks hs : List Int) (w : World) (hT : Tabs ks hs w) (p : Option Addr) (n cap : Nat) (xs : List Int) (hi : In8 w p n cap xs) :
    Calls Tryd.prog 54 #[.slice p n cap] w fun e w' => e = .returned (.agg (A8 (hashP ks hs xs))) ∧ Below w.heap.size w w' := by
  obtain ⟨tS, fr, hst⟩ := hT.start
  have h1 := hT.size
  have H0 : Hid ((w.alloc (.cells Z8x32 25)).heap[0]? = _) := (heapO w (.cells Z8x32 25) 0 (by omega)).trans hst
  have hb0 : Below w.heap.size w (w.alloc (.cells Z8x32 25)) := (Below.refl _ _).alloc (Nat.le_refl _) _
  clear hst
  go_enter Tryd.func54, Tryd.ntmps54
  go_wp2_with (first
    | (with_reducible refine atLoad 143 ?_
       refine wpList_load_row rfl 143 (.global 0) rfl 0 rfl tS (A32 hs) fr (.array 8 98) H0.out und40 rfl (by rw [info40, A32_size, hT.hlen]) ?_))
  refine (fin_in (hT.below hb0) hT.hlen 0 (by omega) (hi.below hb0)).mono ?_
  rintro e w1 ⟨rfl, hb1⟩
  have hz : Hid (w1.heap[w.heap.size]? = _) := (hb1.block w.heap.size (by simp)).trans (heapN w _ _ rfl)
  have hB := hb0.trans (hb1.mono (by simp))
  have hl := finP_len ks hs (0 + n) xs
  have hF : hashP ks hs xs = finP ks hs (0 + n) xs := by rw [hashP, hi.len]
  generalize finP ks hs (0 + n) xs = F at *
  have HF : Hid (hashP ks hs xs = F) := hF
  clear hF
  go_wp2_with (first
    | (with_reducible refine atStore 25 ?_
       refine wpList_store_W rfl 25 (.tmp 2) (.tmp 5) rfl w.heap.size (A8 F) rfl rfl 25 Z8x32 hz.out (by rw [info25, A8_size, hl]) (by rw [A8_size, hl]; rfl) (A8_one _) ?_
       intro U hU))
  refine bodyPost_ret (v := .agg (A8 F)) (results_cell_row rfl _ _ w.heap.size 25 _ (0, 0) _ rfl hU.here und25 rfl (by rw [info25, A8_size, hl])) rfl ⟨?_, ?_⟩
  · rw [HF.out]
  · exact hU.below _ _ (by omega) hB
def kblock (ks hs key : List Int) : List Int := if 64 < key.length then fblock (hashP ks hs key) else fblock key
theorem kblock_len (ks hs key : List Int) : (kblock ks hs key).length = 64 := by unfold kblock; split <;> exact fblock_len _
theorem hashP_len (ks hs xs : List Int) : (hashP ks hs xs).length = 32 := finP_len _ _ _ _
theorem hashP_bytes (ks hs xs : List Int) : Bytes (hashP ks hs xs) := finP_bytes _ _ _ _
theorem row_lt {w : World} {g : Nat} {o : Obj} (h : w.heap[g]? = some o) : g < w.heap.size := by
  rcases Nat.lt_or_ge g w.heap.size with h' | h'
  · exact h'
  · rw [Array.getElem?_eq_none h'] at h; cases h
/-- A digest in a block of its own, as a slice. -/
theorem in8_row {w : World} {g : Nat} {F : List Int} {t : TypeId} {fr : Nat × Nat} (h : w.heap[g]? = some (.cells (A8 F) t fr)) (hl : F.length = 32) (hb : Bytes F) : In8 w (some ⟨g, 0, none⟩) 32 32 F :=
  ⟨hl, hb, Nat.le_refl _, by omega, by omega, fun _ => ⟨g, 0, rfl, row_lt h, fun j hj => (cell_of_row w g (0 + j) _ _ _ h).trans (by rw [Nat.zero_add, A8_get _ _ hj])⟩⟩
set_option maxHeartbeats 400000 in
theorem keyBlock_any (ks hs : List Int) (w : World) (hT : Tabs ks hs w) (p : Option Addr) (n cap : Nat) (xs : List Int) (hi : In8 w p n cap xs) :
    Calls Tryd.prog 89 #[.slice p n cap] w fun e w' => e = .returned (.agg (A8 (kblock ks hs xs))) ∧ Below w.heap.size w w' := by
  have hb0 : Below w.heap.size w (w.alloc (.cells Z8x64 146)) := (Below.refl _ _).alloc (Nat.le_refl _) _
  have hn : n ≤ 140737488355328 := hi.small
  by_cases h64 : 64 < n
  · have hF : kblock ks hs xs = fblock (hashP ks hs xs) := by rw [kblock, if_pos (by rw [hi.len]; exact h64)]
    have hl := hashP_len ks hs xs
    have hby := hashP_bytes ks hs xs
    go_enter Tryd.func89, Tryd.ntmps89
    go_wp2_with fail
    refine (hash_any ks hs _ (hT.below hb0) p n cap xs (hi.below hb0)).mono ?_
    rintro e w1 ⟨rfl, hb1⟩
    generalize hashP ks hs xs = D at *
    have HF : Hid (kblock ks hs xs = fblock D) := hF
    have hz : Hid (w1.heap[w.heap.size]? = _) := (hb1.block w.heap.size (by simp)).trans (heapN w _ _ rfl)
    have hB := hb0.trans (hb1.mono (by simp))
    have hz1 : w.heap.size < w1.heap.size := by have := hb1.size; simp at this; omega
    clear hF hb1
    go_wp2_with (first
      | (with_reducible refine atStore 25 ?_
         refine wpList_store_W rfl 25 (.tmp 3) (.tmp 8) rfl w1.heap.size (A8 D) rfl rfl 25 Z8x32 ?_ (by rw [info25, A8_size, hl]) (by rw [A8_size, hl]; rfl) (A8_one _) ?_
         · exact heapN w1 _ _ rfl
         intro U hU
         refine hideGoal ?_))
    have uz : Hid (U.heap[w.heap.size]? = _) := ((hU.other w.heap.size (by omega)).trans (heapO w1 _ _ (by omega))).trans hz.out
    have ub := hU.below _ _ (by omega) (hB.alloc (by omega) _)
    have hin := in8_row hU.here hl hby
    have us : w.heap.size < U.heap.size := by rw [hU.size]; simp; omega
    clear hU hz hB
    generalize w1.heap.size = g at *
    refine openGoal ?_
    go_wp2_with fail
    refine (firstBlock_any (some ⟨g, 0, none⟩) 32 32 D _ hin.len hin.lies).mono ?_
    rintro e w2 ⟨rfl, hb2⟩
    have yz : Hid (w2.heap[w.heap.size]? = _) := (hb2.block w.heap.size us).trans uz.out
    have yb := ub.trans (hb2.mono (by omega))
    have hfl := fblock_len D
    generalize fblock D = F at *
    go_wp2_with (first
      | (with_reducible refine atStore 146 ?_
         refine wpList_store_W rfl 146 (.tmp 2) (.tmp 10) rfl w.heap.size (A8 F) rfl rfl 146 Z8x64 yz.out (by rw [info43, A8_size, hfl]) (by rw [A8_size, hfl]; rfl) (A8_one _) ?_
         intro V hV))
    refine bodyPost_ret (v := .agg (A8 F)) (results_cell_row rfl _ _ w.heap.size 146 _ (0, 0) _ rfl hV.here und43 rfl (by rw [info43, A8_size, hfl])) rfl ⟨by rw [HF.out], ?_⟩
    exact hV.below _ _ (by omega) yb
  · have hF : kblock ks hs xs = fblock xs := by rw [kblock, if_neg (by rw [hi.len]; exact h64)]
    go_enter Tryd.func89, Tryd.ntmps89
    go_wp2_with fail
    refine (firstBlock_any p n cap xs _ hi.len (hi.below hb0).lies).mono ?_
    rintro e w2 ⟨rfl, hb2⟩
    have yz : Hid (w2.heap[w.heap.size]? = _) := (hb2.block w.heap.size (by simp)).trans (heapN w _ _ rfl)
    have yb := hb0.trans (hb2.mono (by simp))
    have hfl := fblock_len xs
    generalize fblock xs = F at *
    have HF : Hid (kblock ks hs xs = F) := hF
    clear hF
    go_wp2_with (first
      | (with_reducible refine atStore 146 ?_
         refine wpList_store_W rfl 146 (.tmp 2) (.tmp 12) rfl w.heap.size (A8 F) rfl rfl 146 Z8x64 yz.out (by rw [info43, A8_size, hfl]) (by rw [A8_size, hfl]; rfl) (A8_one _) ?_
         intro V hV))
    refine bodyPost_ret (v := .agg (A8 F)) (results_cell_row rfl _ _ w.heap.size 146 _ (0, 0) _ rfl hV.here und43 rfl (by rw [info43, A8_size, hfl])) rfl ⟨by rw [HF.out], ?_⟩
    exact hV.below _ _ (by omega) yb
end Go.Proofs.YtcmjlhcpoajbkaaDoor
