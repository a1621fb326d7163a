import Derived.Test.YtcmjlhcpoajbkaaDoorQBl
namespace Go.Proofs.YtcmjlhcpoajbkaaDoor
set_option maxRecDepth 10000
set_option linter.unusedSimpArgs false
open Go.RowKit
theorem F8_at (l : List (List Int)) (h : ∀ d ∈ l, d.length = 32) (p : Nat) (hp : p < l.length * 32) : (F8 l)[p]? = some (.int .u8 ((l.getD (p / 32) []).getD (p % 32) 0)) := by
  have e : p = p / 32 * 32 + p % 32 := by omega
  rw [F8, List.getElem?_map]
  conv => lhs; rw [e]
  rw [flat_get l h (p / 32) (p % 32) (by omega) (by omega)]
  rfl
/-- A row into which a list of cells is written. -/
theorem setCells_row (b : Nat) (t : TypeId) : ∀ (vs : List Value) (o : Nat) (w : World) (cur : Array Value), w.heap[b]? = some (.cells cur t (0, 0)) → o + vs.length ≤ cur.size →
    Kp (fun k => k = b) w (w.setCells b o vs) ∧ ∃ cur' : Array Value, (w.setCells b o vs).heap[b]? = some (.cells cur' t (0, 0)) ∧ cur'.size = cur.size ∧ ∀ j, cur'[j]? = if o ≤ j ∧ j < o + vs.length then vs[j - o]? else cur[j]? := by
  intro vs
  induction vs with
  | nil => intro o w cur h _; exact ⟨⟨rfl, rfl, rfl, Nat.le_refl _, fun _ _ _ => rfl⟩, cur, h, rfl, fun j => by rw [if_neg (by simp)]⟩
  | cons v r ih =>
    intro o w cur h hs
    rw [List.length_cons] at hs
    have h1 := heap_setCell_same w b o _ _ v h
    obtain ⟨hk, cur', h2, h3, h4⟩ := ih (o + 1) (w.setCell ⟨b, o, none⟩ v) (cur.setIfInBounds o v) h1 (by simp; omega)
    have k1 : Kp (fun k => k = b) w (w.setCell ⟨b, o, none⟩ v) := ⟨rfl, rfl, rfl, by simp [World.setCell], fun k _ hx => Below.heap_setCell _ _ _ _ hx⟩
    refine ⟨⟨hk.os.trans k1.os, hk.tape.trans k1.tape, hk.output.trans k1.output, Nat.le_trans k1.size hk.size, fun k hk' hx => (hk.block k (Nat.lt_of_lt_of_le hk' k1.size) hx).trans (k1.block k hk' hx)⟩, cur', h2, by rw [h3]; simp, fun j => ?_⟩
    rw [h4 j, List.length_cons]
    by_cases e : j = o
    · subst e
      rw [if_neg (by omega), if_pos (by omega), Nat.sub_self, Array.getElem?_setIfInBounds_self_of_lt (by omega)]
      rfl
    · rw [Array.getElem?_setIfInBounds_ne (fun h => e h.symm)]
      by_cases c : o + 1 ≤ j ∧ j < o + 1 + r.length
      · rw [if_pos c, if_pos (by omega), show j - o = (j - (o + 1)) + 1 by omega, List.getElem?_cons_succ]
      · rw [if_neg c, if_neg (by omega)]
/-- A list that its owner is writing full. -/
def LvI (w : World) (B : Nat) (M : List Int) (lv : Value) (m i : Nat) : Prop :=
  (lv = .slice none 0 0 ∧ m = 0) ∨ ∃ (q cap : Nat) (cur : Array Value), lv = .slice (some ⟨q, 0, none⟩) m cap ∧ B ≤ q ∧ w.heap[q]? = some (.cells cur 25 (0, 0)) ∧ m ≤ cap ∧ cap ≤ maxLen ∧ cur.size = cap * 32 ∧ ∀ j, j < i * 32 → cur[j]? = some (.int .u8 (M.getD (j % 32) 0))
theorem lvI_of {w : World} {B : Nat} {M : List Int} {lv : Value} {ds : List (List Int)} (h : Own w B lv ds) : LvI w B M lv ds.length 0 := by
  obtain ⟨_, ⟨h1, h2⟩ | ⟨q, cap, cur, h1, h2, h3, h4, h5, h6, _⟩⟩ := h
  · exact .inl ⟨h1, h2⟩
  · exact .inr ⟨q, cap, cur, h1, h2, h3, h4, h5, h6, fun j hj => by omega⟩
theorem LvI.full {w : World} {B : Nat} {M : List Int} (hM : M.length = 32) {lv : Value} {m : Nat} (h : LvI w B M lv m m) : LvM w B M lv m := by
  rcases h with ⟨rfl, rfl⟩ | ⟨q, cap, cur, h1, h2, h3, h4, h5, h6, h7⟩
  · exact World.ownsRow_nil _ _ _ _
  · have hall := rep_all (n := m) hM
    refine ⟨by rw [F8_len _ hall, List.length_replicate], .inr ⟨q, cap, cur, h1, h2, h3, h4, h5, h6, ?_⟩⟩
    apply List.ext_getElem?
    intro j
    rw [List.getElem?_take]
    by_cases hj : j < m * 32
    · rw [if_pos hj, Array.getElem?_toList, h7 j hj, F8_at _ hall j (by rw [List.length_replicate]; exact hj), rep_get (by omega)]
    · rw [if_neg hj, List.getElem?_eq_none (by rw [F8_len _ hall, List.length_replicate]; omega)]
theorem LvI.frame {X : Nat → Prop} {w w' : World} {B : Nat} {M : List Int} {lv : Value} {m i : Nat} (h : LvI w B M lv m i) (hk : Kp X w w') (hX : ∀ k, lv.ownBlock = some k → ¬ X k) : LvI w' B M lv m i := by
  rcases h with h | ⟨q, cap, cur, h1, h2, h3, h4⟩
  · exact .inl h
  · exact .inr ⟨q, cap, cur, h1, h2, (hk.block q (row_lt h3) (hX q (by rw [h1]; rfl))).trans h3, h4⟩
/-- The block of some marks. -/
def repM (k : Nat) (M : List Int) : List Int := (List.replicate k M).flatten
theorem bsl1 (M : List Int) (hM : M.length = 32) (w : World) : (Instr.buildSlice 31 1 #[(0, .agg (A8 M))]).run Tryd.prog w = .ok (.slice (some ⟨w.heap.size, 0, none⟩) 1 1) (w.alloc (.cells (A8 (repM 1 M)) 25)) := by
  obtain ⟨x0, x1, x2, x3, x4, x5, x6, x7, x8, x9, x10, x11, x12, x13, x14, x15, x16, x17, x18, x19, x20, x21, x22, x23, x24, x25, x26, x27, x28, x29, x30, x31, rfl⟩ := list32 M hM
  kernel_rfl
theorem bsl2 (M : List Int) (hM : M.length = 32) (w : World) : (Instr.buildSlice 31 2 #[(0, .agg (A8 M)), (1, .agg (A8 M))]).run Tryd.prog w = .ok (.slice (some ⟨w.heap.size, 0, none⟩) 2 2) (w.alloc (.cells (A8 (repM 2 M)) 25)) := by
  obtain ⟨x0, x1, x2, x3, x4, x5, x6, x7, x8, x9, x10, x11, x12, x13, x14, x15, x16, x17, x18, x19, x20, x21, x22, x23, x24, x25, x26, x27, x28, x29, x30, x31, rfl⟩ := list32 M hM
  kernel_rfl
theorem bsl6 (M : List Int) (hM : M.length = 32) (w : World) : (Instr.buildSlice 31 6 #[(0, .agg (A8 M)), (1, .agg (A8 M)), (2, .agg (A8 M)), (3, .agg (A8 M)), (4, .agg (A8 M)), (5, .agg (A8 M))]).run Tryd.prog w = .ok (.slice (some ⟨w.heap.size, 0, none⟩) 6 6) (w.alloc (.cells (A8 (repM 6 M)) 25)) := by
  obtain ⟨x0, x1, x2, x3, x4, x5, x6, x7, x8, x9, x10, x11, x12, x13, x14, x15, x16, x17, x18, x19, x20, x21, x22, x23, x24, x25, x26, x27, x28, x29, x30, x31, rfl⟩ := list32 M hM
  kernel_rfl
def GkAt (U y : World) (gk k : Nat) (M : List Int) : Prop := U.heap.size ≤ gk ∧ gk < y.heap.size ∧ ∀ j, j < k * 32 → y.cell? ⟨gk, j, none⟩ = some (.int .u8 (M.getD (j % 32) 0))
theorem GkAt.kp {X : Nat → Prop} {U y y' : World} {gk k : Nat} {M : List Int} (h : GkAt U y gk k M) (hk : Kp X y y') (hX : ¬ X gk) : GkAt U y' gk k M :=
  ⟨h.1, Nat.lt_of_lt_of_le h.2.1 hk.size, fun j hj => by rw [World.cell?_of_block (w := y) (a := ⟨gk, j, none⟩) (hk.block gk h.2.1 hX)]; exact h.2.2 j hj⟩
/-- What stands while the book takes a list in. -/
structure Kst (U : World) (F : Nat → Prop) (B gb n : Nat) (blv : Value) (M : List Int) (lv : Value) (m gm : Nat) (y : World) : Prop where
  lvm : LvM y B M lv m
  dg : Dg y gm M
  bk : BookAt y F gb blv n
  kp : Kp (fun k => lv.ownBlock = some k) U y
  lt : ∀ r, lv.ownBlock = some r → B ≤ r ∧ r < U.heap.size
  gm : lv.ownBlock ≠ some gm
  hB : B ≤ U.heap.size
  hF : ∀ k, F k → k < B
theorem Kst.below {U y y' : World} {F : Nat → Prop} {B gb n m gm : Nat} {blv lv : Value} {M : List Int} (h : Kst U F B gb n blv M lv m gm y) (hb : Below y.heap.size y y') : Kst U F B gb n blv M lv m gm y' :=
  ⟨owns_below h.lvm hb, h.dg.next hb, h.bk.below hb, ⟨hb.os.trans h.kp.os, hb.tape.trans h.kp.tape, hb.output.trans h.kp.output, Nat.le_trans h.kp.size hb.size, fun k hk hx => (hb.block k (Nat.lt_of_lt_of_le hk h.kp.size)).trans (h.kp.block k hk hx)⟩, h.lt, h.gm, h.hB, h.hF⟩
theorem Kst.build {U y : World} {F : Nat → Prop} {B gb n m gm : Nat} {blv lv : Value} {M : List Int} (hM : M.length = 32) (h : Kst U F B gb n blv M lv m gm y) (k : Nat) :
    Kst U F B gb n blv M lv m gm (y.alloc (.cells (A8 (repM k M)) 25)) ∧ GkAt U (y.alloc (.cells (A8 (repM k M)) 25)) y.heap.size k M := by
  have hb : Below y.heap.size y (y.alloc (.cells (A8 (repM k M)) 25)) := (Below.refl _ _).alloc (Nat.le_refl _) _
  have hN := heapN y (.cells (A8 (repM k M)) 25) _ rfl
  refine ⟨h.below hb, h.kp.size, row_lt hN, fun j hj => ?_⟩
  have hl : (repM k M).length = k * 32 := by have := F8_len (List.replicate k M) (rep_all hM); rw [F8, List.length_map, List.length_replicate] at this; exact this
  rw [cell_of_row _ _ _ _ _ _ hN, A8_get _ _ (by omega)]
  have e := F8_at (List.replicate k M) (rep_all hM) j (by rw [List.length_replicate]; exact hj)
  rw [rep_get (by omega), F8, List.getElem?_map] at e
  rw [List.getD_eq_getElem?_getD]
  cases hx : (List.replicate k M).flatten[j]? with
  | none => rw [hx] at e; cases e
  | some z => rw [hx] at e; show some (Value.int .u8 ((repM k M)[j]?.getD 0)) = _; unfold repM; rw [hx]; simpa using e
theorem Kst.app {U y : World} {F : Nat → Prop} {B gb n m gm : Nat} {blv lv : Value} {M : List Int} (hM : M.length = 32) (h : Kst U F B gb n blv M lv m gm y) (hm : m ≤ 1000) (gk k : Nat) (hk0 : 0 < k) (hk6 : k ≤ 6) (hg : GkAt U y gk k M) :
    ∃ p c y', (Builtin.append_ #[31, 31] 31 #[lv, .slice (some ⟨gk, 0, none⟩) k k]).run Tryd.prog y = .ok (.slice p (m + k) c) y' ∧ Kst U F B gb n blv M lv m gm y' ∧ MkV y' M (.slice p (m + k) c) (m + k) ∧ (∀ r, (Value.slice p (m + k) c).ownBlock = some r → B ≤ r) ∧
      (∀ gk' k', GkAt U y gk' k' M → GkAt U y' gk' k' M) ∧ (∀ v0 n0, n0 ≤ m + k → MkV y M v0 n0 → MkV y' M v0 n0) := by
  obtain ⟨v', y', hr, h1, h2, h3, h4, h5⟩ := appM y B M hM lv m h.lvm hm (Nat.le_trans h.hB h.kp.size) gk k hk0 hk6 hg.2.2 31
  obtain ⟨p, c, rfl, hp⟩ := h2
  refine ⟨p, c, y', hr, ⟨h1, ⟨h.dg.len, (h4.block gm h.dg.lt h.gm).trans h.dg.here⟩, h.bk.frame h4 (fun r hr' e => by have := (h.lt r e).1; have := h.hF r hr'; omega), ⟨h4.os.trans h.kp.os, h4.tape.trans h.kp.tape, h4.output.trans h.kp.output, Nat.le_trans h.kp.size h4.size, fun r hr' hx => (h4.block r (Nat.lt_of_lt_of_le hr' h.kp.size) hx).trans (h.kp.block r hr' hx)⟩, h.lt, h.gm, h.hB, h.hF⟩, ⟨p, c, rfl, hp⟩, h3, fun gk' k' hg' => hg'.kp h4 (fun e => by have := (h.lt gk' e).2; have := hg'.1; omega), h5⟩
theorem info124' : ∃ i, Tryd.prog.info? 124 = some i ∧ i.zero = some (.slice none 0 0) ∧ i.size = 1 ∧ i.bytes = 24 := ⟨_, rfl, by kernel_rfl, by kernel_rfl, by kernel_rfl⟩
theorem one_setCell {w : World} {b : Nat} {v u : Value} {t : TypeId} (h : w.heap[b]? = some (.cells #[v] t (0, 0))) : (w.setCell ⟨b, 0, none⟩ u).heap[b]? = some (.cells #[u] t (0, 0)) := by
  have := heap_setCell_same w b 0 _ _ u h
  exact this
/-- The end: the four slices, their row, the book's row. -/
theorem keep_end {U y : World} {F : Nat → Prop} {B gb n m gm : Nat} {blv lv : Value} (h : Kst U F B gb n blv (markP n) lv m gm y) (hn : n ≤ 4398046511104) (lp : Option Addr) (lc : Nat) (hlv : lv = .slice lp m lc) (p1 p2 p6 : Option Addr) (c1 c2 c6 : Nat)
    (h1 : MkV y (markP n) (.slice p1 (m + 1) c1) (m + 1)) (h2 : MkV y (markP n) (.slice p2 (m + 2) c2) (m + 2)) (h6 : MkV y (markP n) (.slice p6 (m + 6) c6) (m + 6))
    (q1 : ∀ r, (Value.slice p1 (m + 1) c1).ownBlock = some r → B ≤ r) (q2 : ∀ r, (Value.slice p2 (m + 2) c2).ownBlock = some r → B ≤ r) (q6 : ∀ r, (Value.slice p6 (m + 6) c6).ownBlock = some r → B ≤ r) :
    ∃ ga cap y3, (Builtin.append_ #[51, 51] 51 #[blv, .slice (some ⟨(y.alloc (.cells #[.slice lp m lc, .slice p1 (m + 1) c1, .slice p2 (m + 2) c2, .slice p6 (m + 6) c6] 31)).heap.size, 0, none⟩) 1 1]).run Tryd.prog
        ((y.alloc (.cells #[.slice lp m lc, .slice p1 (m + 1) c1, .slice p2 (m + 2) c2, .slice p6 (m + 6) c6] 31)).alloc (.cells #[.slice (some ⟨y.heap.size, 0, none⟩) 4 4] 124)) = .ok (.slice (some ⟨ga, 0, none⟩) (n + 1) cap) y3 ∧
      Dg y3 gm (markP n) ∧ y3.cell? ⟨gb, 0, none⟩ = some blv ∧ y3.frozen? ⟨gb, 0, none⟩ = false ∧
      BookAt (y3.setCell ⟨gb, 0, none⟩ (.slice (some ⟨ga, 0, none⟩) (n + 1) cap)) (fun k => F k ∨ B ≤ k) gb (.slice (some ⟨ga, 0, none⟩) (n + 1) cap) (n + 1) ∧ Kp (fun k => F k ∨ B ≤ k) U (y3.setCell ⟨gb, 0, none⟩ (.slice (some ⟨ga, 0, none⟩) (n + 1) cap)) := by
  obtain ⟨i124, hi124, hz, hsz, hby⟩ := info124'
  have b1 : Below y.heap.size y (y.alloc (.cells #[.slice lp m lc, .slice p1 (m + 1) c1, .slice p2 (m + 2) c2, .slice p6 (m + 6) c6] 31)) := (Below.refl _ _).alloc (Nat.le_refl _) _
  have hE0 := heapN y (.cells #[.slice lp m lc, .slice p1 (m + 1) c1, .slice p2 (m + 2) c2, .slice p6 (m + 6) c6] 31) _ rfl
  have hK1 := h.below b1
  generalize y.alloc (.cells #[.slice lp m lc, .slice p1 (m + 1) c1, .slice p2 (m + 2) c2, .slice p6 (m + 6) c6] 31) = y1 at *
  have b2 : Below y1.heap.size y1 (y1.alloc (.cells #[.slice (some ⟨y.heap.size, 0, none⟩) 4 4] 124)) := (Below.refl _ _).alloc (Nat.le_refl _) _
  have hS0 := heapN y1 (.cells #[.slice (some ⟨y.heap.size, 0, none⟩) 4 4] 124) _ rfl
  have hK2 := hK1.below b2
  have hE2 := (b2.block _ (row_lt hE0)).trans hE0
  generalize y1.alloc (.cells #[.slice (some ⟨y.heap.size, 0, none⟩) 4 4] 124) = y2 at *
  have b12 : Below y.heap.size y y2 := b1.trans (b2.mono b1.size)
  have hUy : U.heap.size ≤ y.heap.size := h.kp.size
  have hBU := h.hB
  obtain ⟨hblk, hfgb, ⟨ss, hown, hent⟩, hfrow⟩ := hK2.bk
  obtain ⟨ga, cap, y3, hr, ho3, hgr, hwh, hga⟩ := run_append_lies (P := Tryd.prog) y2 51 51 0 124 i124 (.slice none 0 0) 1 24 Tryd.underlying51 hi124 hz hsz hby rfl (by omega) blv n ss hown
    ⟨y1.heap.size, 0, none⟩ 1 1 [.slice (some ⟨y.heap.size, 0, none⟩) 4 4] rfl (fun j u hu => by
      have e : j = 0 := by
        have := (List.getElem?_eq_some_iff.1 hu).1
        simp at this; omega
      subst e
      rw [addr_add, cell_of_row _ _ _ _ _ _ hS0]
      simpa using hu) (fun u hu => by simp only [List.mem_singleton] at hu; subst hu; rfl) (by omega) (by unfold maxLen; omega) (by omega) (Nat.zero_le _) _ rfl
  have hgl := row_lt hblk
  have hap : blv.ownBlock ≠ some gb := by
    intro he
    obtain ⟨_, ⟨e1, _⟩ | ⟨r, cap', cur, e1, _, hh, _⟩⟩ := hown
    · rw [e1] at he; cases he
    · rw [e1] at he
      simp only [Value.ownBlock, Option.some.injEq] at he
      subst he
      rw [hblk] at hh
      simp only [Option.some.injEq, Obj.cells.injEq] at hh
      exact absurd hh.2.1 (by decide)
  have hne : ga ≠ gb := by
    rcases hwh with e | e
    · exact fun e' => hap (by rw [e, e'])
    · omega
  have e3 : y3.heap[gb]? = y2.heap[gb]? := hgr.block gb hgl (fun e => hap e.symm)
  have hsize : y2.heap.size ≤ (y3.setCell ⟨gb, 0, none⟩ (.slice (some ⟨ga, 0, none⟩) (n + 1) cap)).heap.size := by simpa [World.setCell] using hgr.size
  have k2 : Kp (fun k => k = gb ∨ blv.ownBlock = some k) y2 (y3.setCell ⟨gb, 0, none⟩ (.slice (some ⟨ga, 0, none⟩) (n + 1) cap)) :=
    ⟨hgr.os, hgr.tape, hgr.output, hsize, fun k hk hx => by
      rw [Below.heap_setCell _ _ _ _ (fun e => hx (.inl e))]
      exact hgr.block k hk (fun e => hx (.inr e.symm))⟩
  have hXF : ∀ k, (k = gb ∨ blv.ownBlock = some k) → F k := fun k hk => by
    rcases hk with rfl | hk
    · exact hfgb
    · exact hfrow k hk
  have hXB : ∀ k, (k = gb ∨ blv.ownBlock = some k) → k < B := fun k hk => h.hF k (hXF k hk)
  have hmk : ∀ v0 n0, MkV y (markP n) v0 n0 → (∀ r, v0.ownBlock = some r → B ≤ r) → MkV (y3.setCell ⟨gb, 0, none⟩ (.slice (some ⟨ga, 0, none⟩) (n + 1) cap)) (markP n) v0 n0 := fun v0 n0 h0 hq =>
    (h0.kp (kp_of b12 rfl) (fun _ _ x => x)).kp k2 (fun r hr' hx => by have := hq r hr'; have := hXB r hx; omega)
  have hl0 : MkV y (markP n) lv m := mkV_of (markP_len n) h.lvm
  have hrE : (y3.setCell ⟨gb, 0, none⟩ (.slice (some ⟨ga, 0, none⟩) (n + 1) cap)).heap[y.heap.size]? = some (.cells #[.slice lp m lc, .slice p1 (m + 1) c1, .slice p2 (m + 2) c2, .slice p6 (m + 6) c6] 31) :=
    (k2.block _ (row_lt hE2) (fun hx => by have := hXB _ hx; omega)).trans hE2
  have hdg : Dg y3 gm (markP n) := ⟨hK2.dg.len, (hgr.block gm hK2.dg.lt (fun e => by
    obtain ⟨_, ⟨e1, _⟩ | ⟨r, cap', cur, e1, _, hh, _⟩⟩ := hown
    · rw [e1] at e; cases e
    · rw [e1] at e
      simp only [Value.ownBlock, Option.some.injEq] at e
      subst e
      rw [hK2.dg.here] at hh
      simp only [Option.some.injEq, Obj.cells.injEq] at hh
      exact absurd hh.2.1 (by decide))).trans hK2.dg.here⟩
  refine ⟨ga, cap, y3, hr, hdg, ?_, ?_, ⟨one_setCell (e3.trans hblk), .inl hfgb, ⟨ss ++ [.slice (some ⟨y.heap.size, 0, none⟩) 4 4], ownsRow_setCell_other ho3 (by simpa [Value.ownBlock] using hne) _, fun i hi => ?_⟩, fun k hk => ?_⟩, ?_⟩
  · rw [World.cell?_of_block (w := y2) e3, cell_of_row _ _ _ _ _ _ hblk]; rfl
  · rw [World.frozen?_of_block (w := y2) e3]; exact frozen_of_row y2 gb 0 _ _ hblk
  · have hsl : ss.length = n := by have := hown.1; simpa using this
    rcases Nat.lt_or_ge i n with hlt | hge
    · obtain ⟨s, hs, he⟩ := hent i hlt
      refine ⟨s, by rw [List.getElem?_append_left (by omega)]; exact hs, (he.other k2 (fun k hk => ?_)).mono (fun k hk => .inl hk)⟩
      rcases hk with rfl | hk
      · obtain ⟨bp, bc, hbv, _⟩ := owns_shape hown
        exact ⟨_, _, _, hblk, by decide, fun z hz => by rw [hbv] at hz; simp at hz⟩
      · obtain ⟨_, ⟨e1, _⟩ | ⟨r, cap', cur, e1, _, hh, _, _, _, ht⟩⟩ := hown
        · rw [e1] at hk; cases hk
        · rw [e1] at hk
          simp only [Value.ownBlock, Option.some.injEq] at hk
          subst hk
          refine ⟨_, _, _, hh, by decide, fun z hz => ?_⟩
          obtain ⟨s0, hs0, r0, _, _, hv0, _⟩ := hent 0 (by omega)
          rw [← ht, List.getElem?_take, if_pos (by omega), Array.getElem?_toList, hz] at hs0
          rw [hv0] at hs0
          cases hs0
    · have e0 : i = n := by omega
      subst e0
      refine ⟨_, by rw [← hsl]; simp, y.heap.size, fun k => (#[Value.slice lp m lc, .slice p1 (m + 1) c1, .slice p2 (m + 2) c2, .slice p6 (m + 6) c6] : Array Value).getD k undef, fun k => ([m, m + 1, m + 2, m + 6] : List Nat).getD k 0, rfl, ⟨_, hrE⟩, .inr (by omega), fun k hk => ?_⟩
      rw [cell_of_row _ _ _ _ _ _ hrE]
      rcases k with _ | _ | _ | _ | k
      · exact ⟨rfl, by rw [← hlv]; exact hmk lv m hl0 (fun r hr' => (h.lt r hr').1), fun _ q hq => .inr (h.lt q (by rw [hlv]; exact hq)).1⟩
      · exact ⟨rfl, hmk _ _ h1 q1, fun _ q hq => .inr (q1 q hq)⟩
      · exact ⟨rfl, hmk _ _ h2 q2, fun _ q hq => .inr (q2 q hq)⟩
      · exact ⟨rfl, hmk _ _ h6 q6, fun _ q hq => .inr (q6 q hq)⟩
      · omega
  · simp only [Value.ownBlock, Option.some.injEq] at hk
    subst hk
    rcases hwh with e | e
    · exact .inl (hfrow _ e)
    · exact .inr (by have := b12.size; omega)
  · refine ⟨k2.os.trans hK2.kp.os, k2.tape.trans hK2.kp.tape, k2.output.trans hK2.kp.output, Nat.le_trans hK2.kp.size k2.size, fun k hk hx => ?_⟩
    rw [k2.block k (Nat.lt_of_lt_of_le hk hK2.kp.size) (fun hx' => hx (.inl (hXF k hx')))]
    exact hK2.kp.block k hk (fun e => hx (.inr (h.lt k e).1))
end Go.Proofs.YtcmjlhcpoajbkaaDoor
