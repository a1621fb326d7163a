import Derived.Test.YtcmjlhcpoajbkaaDoorKnot
import Derived.Deep.Slices
namespace Go.Proofs.YtcmjlhcpoajbkaaDoor
set_option maxRecDepth 10000
open Go.RowKit
/-- A slice of digests. -/
structure D32 (w : World) (p : Option Addr) (n cap : Nat) (ds : List (List Int)) : Prop where
  len : ds.length = n
  all : ∀ d ∈ ds, d.length = 32 ∧ Bytes d
  fits : n ≤ cap
  room : cap ≤ 9223372036854775807
  lies : 0 < n → ∃ ad, p = some ad ∧ ad.block < w.heap.size ∧ ∀ k, k < n → ∀ j, j < 32 → w.cell? (ad.add (k * 32 + j)) = some (.int .u8 ((ds.getD k []).getD j 0))
theorem D32.below {w w' : World} {p : Option Addr} {n cap : Nat} {ds : List (List Int)} (h : D32 w p n cap ds) (hb : Below w.heap.size w w') : D32 w' p n cap ds :=
  ⟨h.len, h.all, h.fits, h.room, fun h0 => by
    obtain ⟨ad, hp, hl, hc⟩ := h.lies h0
    exact ⟨ad, hp, Nat.lt_of_lt_of_le hl hb.size, fun k hk j hj => by rw [hb.cell (block_lt_of_cell (hc k hk j hj))]; exact hc k hk j hj⟩⟩
theorem D32.front {w : World} {p : Option Addr} {n cap : Nat} {ds : List (List Int)} (h : D32 w p n cap ds) (m : Nat) (hm : m ≤ n) : D32 w p m cap (ds.take m) :=
  ⟨by rw [List.length_take, h.len]; omega, fun d hd => h.all d (List.mem_of_mem_take hd), by have := h.fits; omega, h.room, fun h0 => by
    obtain ⟨ad, hp, hl, hc⟩ := h.lies (by omega)
    exact ⟨ad, hp, hl, fun k hk j hj => by
      rw [hc k (by omega) j hj, List.getD_eq_getElem?_getD (l := ds.take m), List.getElem?_take, if_pos hk, ← List.getD_eq_getElem?_getD]⟩⟩
theorem D32.get {w : World} {p : Option Addr} {n cap : Nat} {ds : List (List Int)} (h : D32 w p n cap ds) (k : Nat) (hk : k < n) : (ds.getD k []).length = 32 ∧ Bytes (ds.getD k []) := by
  have hl := h.len
  rw [List.getD_eq_getElem?_getD, List.getElem?_eq_getElem (by omega)]
  exact h.all _ (List.getElem_mem _)
/-- A digest at an address. -/
def At8 (w : World) (ad : Addr) (D : List Int) : Prop := ∀ j, j < 32 → w.cell? (ad.add j) = some (.int .u8 (D.getD j 0))
theorem D32.at {w : World} {ad : Addr} {n cap : Nat} {ds : List (List Int)} (h : D32 w (some ad) n cap ds) (k : Nat) (hk : k < n) : At8 w (ad.add (k * 32)) (ds.getD k []) := fun j hj => by
  obtain ⟨ad', hp, hl, hc⟩ := h.lies (by omega)
  cases hp
  have := hc k hk j hj
  rw [Deep.add_add]
  exact this
theorem run_loadVar_at (w : World) (ad : Addr) (D : List Int) (hl : D.length = 32) (hc : At8 w ad D) : (loadVar 25 ad).run Tryd.prog w = .ok (.agg (A8 D)) w := by
  have hL : (loadCells ad 32).run Tryd.prog w = .ok (A8 D) w := by
    have := run_loadCells_list (P := Tryd.prog) w ad (D.map (Value.int .u8)) (fun j v hv => by
      have hj : j < D.length := by
        rcases Nat.lt_or_ge j D.length with h | h
        · exact h
        · rw [List.getElem?_eq_none (by simpa using h)] at hv; cases hv
      rw [hc j (by omega)]
      simp only [List.getElem?_map, List.getElem?_eq_getElem hj, Option.map_some, Option.some.injEq] at hv
      rw [← hv, List.getD_eq_getElem?_getD, List.getElem?_eq_getElem hj]; rfl)
    rw [List.length_map, hl] at this
    exact this
  have hagg : (isAgg 25).run Tryd.prog w = .ok true w := by
    unfold isAgg
    rw [Sem.run_bind, run_underlying und25 w]
    rfl
  cases hq : Tryd.prog.info? 25 with
  | none => have := info25; rw [hq] at this; cases this
  | some i =>
    have hs : i.size = 32 := by have := info25; rw [hq] at this; simpa using this
    simp [loadVar, Sem.run_bind, hagg, sizeOf, typeInfo, hq, hs, hL]
section
variable {ops : Array Oper} {rest : List Oper} {o : Oper} {a : Act} {w : World} {Q : Exit → Act → World → Prop} {S : World → Prop}
theorem load_at (hw : Region.wanted o (yielded ops a.tmps) = true) (x : Operand) (ho : o.op = .load 25 x) (ad : Addr) (hx : a.eval x = .pointer (some ad)) (D : List Int) (hl : D.length = 32) (hc : At8 w ad D)
    (h : wpList Tryd.prog ops Q rest (a.put o.dst (.agg (A8 D))) w) : wpList Tryd.prog ops Q (o :: rest) a w := by
  refine wpList_w hw fun _ hK => ?_
  unfold Oper.wp execOp
  simp only [ho, hx, Instr.loadAt, Instr.sureAddr, Sem.run_bind, Sem.run_pure, Result.andThen_ok, run_loadVar_at w ad D hl hc]
  exact hK _ _ h
theorem yields_at (hw : Region.wanted o (yielded ops a.tmps) = true) (x : Operand) (ho : o.op = .load 25 x) (ad : Addr) (hx : a.eval x = .pointer (some ad)) (D : List Int) (hl : D.length = 32) (hS : ∀ w, S w → At8 w ad D) : YieldsIf Tryd.prog ops S o (.agg (A8 D)) a :=
  .inl ⟨hw, fun w h => by
    unfold execOp
    simp only [ho, hx, Instr.loadAt, Instr.sureAddr, Sem.run_bind, Sem.run_pure, Result.andThen_ok, run_loadVar_at w ad D hl (hS w h)]⟩
end
theorem loadVar_D {w : World} {g : Nat} {D : List Int} (h : Dg w g D) : (loadVar 25 ⟨g, 0, none⟩).run Tryd.prog w = .ok (.agg (A8 D)) w :=
  run_loadVar_row (P := Tryd.prog) w g 25 25 (A8 D) (0, 0) (.array 32 5) h.here und25 rfl (by rw [info25, A8_size, h.len])
theorem results_D {fn : Func} {p : Tmp} (h : fn.results = #[.cell p 25]) (tmps : Array Value) (w : World) (g : Nat) (D : List Int) (hp : tmps.getD p undef = .pointer (some ⟨g, 0, none⟩)) (hd : Dg w g D) :
    (results fn tmps).run Tryd.prog w = .ok (.agg (A8 D)) w := by
  have hp' : tmps[p]?.getD undef = .pointer (some ⟨g, 0, none⟩) := by simpa using hp
  simp [results, h, hp', asAddr, loadVar_D hd]
theorem results_DT {fn : Func} {p u : Tmp} (h : fn.results = #[.cell p 25, .tmp u]) (tmps : Array Value) (w : World) (g : Nat) (D : List Int) (hp : tmps.getD p undef = .pointer (some ⟨g, 0, none⟩)) (hd : Dg w g D) :
    (results fn tmps).run Tryd.prog w = .ok (.tuple #[.agg (A8 D), tmps.getD u undef]) w := by
  have hp' : tmps[p]?.getD undef = .pointer (some ⟨g, 0, none⟩) := by simpa using hp
  simp [results, h, hp', asAddr, loadVar_D hd]
theorem results_TDT {fn : Func} {p u v : Tmp} (h : fn.results = #[.tmp v, .cell p 25, .tmp u]) (tmps : Array Value) (w : World) (g : Nat) (D : List Int) (hp : tmps.getD p undef = .pointer (some ⟨g, 0, none⟩)) (hd : Dg w g D) :
    (results fn tmps).run Tryd.prog w = .ok (.tuple #[tmps.getD v undef, .agg (A8 D), tmps.getD u undef]) w := by
  have hp' : tmps[p]?.getD undef = .pointer (some ⟨g, 0, none⟩) := by simpa using hp
  simp [results, h, hp', asAddr, loadVar_D hd]
theorem results_DDT {fn : Func} {p q u : Tmp} (h : fn.results = #[.cell p 25, .cell q 25, .tmp u]) (tmps : Array Value) (w : World) (g g' : Nat) (D E : List Int) (hp : tmps.getD p undef = .pointer (some ⟨g, 0, none⟩)) (hd : Dg w g D)
    (hq : tmps.getD q undef = .pointer (some ⟨g', 0, none⟩)) (he : Dg w g' E) :
    (results fn tmps).run Tryd.prog w = .ok (.tuple #[.agg (A8 D), .agg (A8 E), tmps.getD u undef]) w := by
  have hp' : tmps[p]?.getD undef = .pointer (some ⟨g, 0, none⟩) := by simpa using hp
  have hq' : tmps[q]?.getD undef = .pointer (some ⟨g', 0, none⟩) := by simpa using hq
  simp [results, h, hp', hq', asAddr, loadVar_D hd, loadVar_D he]
set_option maxHeartbeats 400000 in
theorem cut_none (w : World) (p : Option Addr) (c : Nat) : Calls Tryd.prog 119 #[.slice p 0 c] w fun e w' => e = .returned (.tuple #[.slice none 0 0, .agg (A8 Z32), .bool false]) ∧ Below w.heap.size w w' := by
  have hb0 : Below w.heap.size w (w.alloc (.cells Z8x32 25)) := (Below.refl _ _).alloc (Nat.le_refl _) _
  have d0 : Hid (Dg (w.alloc (.cells Z8x32 25)) w.heap.size Z32) := Dg.new w _ rfl
  go_enter Tryd.func119, Tryd.ntmps119
  go_wp2_with (first
    | (with_reducible refine atStore 25 ?_
       refine store_D rfl (.tmp 3) (.tmp 11) rfl w.heap.size Z32 rfl rfl Z32 d0.out rfl ?_
       intro U hU
       refine hideGoal ?_))
  have dU := hU.dg rfl
  have bU := hU.below _ _ (Nat.le_refl _) hb0
  clear hU
  refine openGoal ?_
  go_wp2_with fail
  exact bodyPost_ret (results_TDT rfl _ _ w.heap.size Z32 rfl dU) rfl ⟨rfl, bU⟩
theorem addr_block (a : Addr) (n : Nat) : (a.add n).block = a.block := by unfold Addr.add; split <;> rfl
theorem size25 : Tryd.prog.cellsOf 25 = 32 := by kernel_rfl
theorem slice_front (ad : Addr) (n c m : Nat) (hm : m ≤ n) (hn : n ≤ c) (W : World) :
    (Instr.sliceAt 31 (.slice (some ad) n c) none (some (.int .i64 m)) none).run Tryd.prog W = .ok (.slice (some ad) m c) W := by
  have h1 : (m : Int) ≤ c := by omega
  go_simp
theorem index_at (ad : Addr) (n c m : Nat) (hm : m < n) (W : World) :
    (Instr.indexAt 31 (.slice (some ad) n c) (.int .i64 m)).run Tryd.prog W = .ok (.pointer (some (ad.add (m * 32)))) W := by
  have h1 : (m : Int) < n := by omega
  go_simp
set_option maxHeartbeats 1000000 in
theorem cut_some (w : World) (ad : Addr) (n c : Nat) (ds : List (List Int)) (h : D32 w (some ad) (n + 1) c ds) :
    Calls Tryd.prog 119 #[.slice (some ad) (n + 1) c] w fun e w' => e = .returned (.tuple #[.slice (some ad) n c, .agg (A8 (ds.getD n [])), .bool true]) ∧ Below w.heap.size w w' := by
  have hb0 : Below w.heap.size w (w.alloc (.cells Z8x32 25)) := (Below.refl _ _).alloc (Nat.le_refl _) _
  have d0 : Hid (Dg (w.alloc (.cells Z8x32 25)) w.heap.size Z32) := Dg.new w _ rfl
  have hA : Hid (At8 (w.alloc (.cells Z8x32 25)) (ad.add (n * 32)) (ds.getD n [])) := (h.below hb0).at n (by omega)
  have hl := (h.get n (by omega)).1
  have hf := h.fits
  have hr := h.room
  have hlt : ad.block < w.heap.size := by
    obtain ⟨ad', hp, hlt, _⟩ := h.lies (by omega)
    cases hp
    exact hlt
  clear h
  obtain ⟨D, hD⟩ : ∃ D, ds.getD n [] = D := ⟨_, rfl⟩
  rw [hD] at hA hl ⊢
  clear hD
  have hsl : ∀ W : World, (Instr.sliceAt 31 (.slice (some ad) (n + 1) c) none (some (.int .i64 n)) none).run Tryd.prog W = .ok (.slice (some ad) n c) W := fun W => slice_front ad (n + 1) c n (by omega) hf W
  have hia : ∀ W : World, (Instr.indexAt 31 (.slice (some ad) (n + 1) c) (.int .i64 n)).run Tryd.prog W = .ok (.pointer (some (ad.add (n * 32)))) W := fun W => index_at ad (n + 1) c n (by omega) W
  go_enter Tryd.func119, Tryd.ntmps119
  go_wp2_with fail
  have S0 : Hid (At8 (w.alloc (.cells Z8x32 25)).drew (ad.add (n * 32)) D) := hA
  refine wp_region_noPanic ?_
  refine wp_region_held (S := fun W => At8 W (ad.add (n * 32)) D) follows ?_
  refine wpAnyH_take (i := 0) (v := .slice (some ad) (n + 1) c) rfl (by kernel_rfl) (by kernel_rfl) (by kernel_rfl) (fun _ _ _ h => h) (.inl ⟨rfl, fun W _ => by go_simp⟩) S0.out ?_
  refine wpAnyH_take (i := 1) (v := .int .i64 n) rfl (by kernel_rfl) (by kernel_rfl) (by kernel_rfl) (fun _ _ _ h => h) (.inl ⟨rfl, fun W _ => by go_simp⟩) S0.out ?_
  refine wpAnyH_take (i := 2) (v := .slice (some ad) n c) rfl (by kernel_rfl) (by kernel_rfl) (by kernel_rfl) (fun _ _ _ h => h) (.inl ⟨rfl, fun W _ => by have e := hsl W; go_simp⟩) S0.out ?_
  refine wpAnyH_take (i := 3) (v := .slice (some ad) (n + 1) c) rfl (by kernel_rfl) (by kernel_rfl) (by kernel_rfl) (fun _ _ _ h => h) (.inl ⟨rfl, fun W _ => by go_simp⟩) S0.out ?_
  refine wpAnyH_take (i := 4) (v := .int .i64 n) rfl (by kernel_rfl) (by kernel_rfl) (by kernel_rfl) (fun _ _ _ h => h) (.inl ⟨rfl, fun W _ => by go_simp⟩) S0.out ?_
  refine wpAnyH_take (i := 5) (v := .pointer (some (ad.add (n * 32)))) rfl (by kernel_rfl) (by kernel_rfl) (by kernel_rfl) (fun _ _ _ h => h) (.inl ⟨rfl, fun W _ => by have e := hia W; go_simp⟩) S0.out ?_
  refine wpAnyH_take (i := 6) (v := .agg (A8 D)) rfl (by kernel_rfl) (by kernel_rfl) (by kernel_rfl) (fun _ _ _ h => h) (yields_at rfl (.tmp 17) rfl (ad.add (n * 32)) rfl D hl (fun W hW => hW)) S0.out ?_
  refine reframe #[true, true, true, true, true, true, true, false, false, false] { tmps := #[.slice (some ad) (n + 1) c, undef, .slice none 0 0, .pointer (some ⟨w.heap.size, 0, none⟩), .bool false, .int .i64 n, .slice (some ad) (n + 1) c, .int .i64 (n + 1), .int .i64 n, .int .i64 n, .bool (decide ((n : Int) < 0)), undef, .slice (some ad) (n + 1) c, .int .i64 n, .slice (some ad) n c, .slice (some ad) (n + 1) c, .int .i64 n, .pointer (some (ad.add (n * 32))), .agg (A8 D)], defers := [] } (by kernel_rfl) (by rfl) ?_
  refine wpAnyH_take (i := 7) (v := .slice (some ad) n c) rfl (by kernel_rfl) (by kernel_rfl) (by kernel_rfl) (fun _ _ _ h => h) (.inl ⟨rfl, fun W _ => by go_simp⟩) S0.out ?_
  refine reframe #[true, true, true, true, true, true, true, true, false, false] { tmps := #[.slice (some ad) (n + 1) c, undef, .slice (some ad) n c, .pointer (some ⟨w.heap.size, 0, none⟩), .bool false, .int .i64 n, .slice (some ad) (n + 1) c, .int .i64 (n + 1), .int .i64 n, .int .i64 n, .bool (decide ((n : Int) < 0)), undef, .slice (some ad) (n + 1) c, .int .i64 n, .slice (some ad) n c, .slice (some ad) (n + 1) c, .int .i64 n, .pointer (some (ad.add (n * 32))), .agg (A8 D)], defers := [] } (by kernel_rfl) (by rfl) ?_
  have d1 : Dg (w.alloc (.cells Z8x32 25)).drew w.heap.size Z32 := ⟨d0.out.len, d0.out.here⟩
  refine any_one (i := 8) (by kernel_rfl) ?_
  refine wpOp_store_D rfl rfl (.tmp 3) (.tmp 18) rfl w.heap.size D rfl rfl Z32 d1 hl ?_
  intro U hU
  have hb1 : Below w.heap.size w (w.alloc (.cells Z8x32 25)).drew := hb0.drew
  have bU := hU.below _ _ (Nat.le_refl _) hb1
  have dU := hU.dg hl
  have S1 : At8 U (ad.add (n * 32)) D := fun j hj => by
    have h1 := S0.out j hj
    have e : ((ad.add (n * 32)).add j).block = ad.block := by rw [addr_block, addr_block]
    rw [World.cell?_of_block (w := (w.alloc (.cells Z8x32 25)).drew) (hU.other _ (by rw [e]; omega))]
    exact h1
  refine ⟨S1, ?_⟩
  refine reframe #[true, true, true, true, true, true, true, true, true, false] { tmps := #[.slice (some ad) (n + 1) c, undef, .slice (some ad) n c, .pointer (some ⟨w.heap.size, 0, none⟩), .bool false, .int .i64 n, .slice (some ad) (n + 1) c, .int .i64 (n + 1), .int .i64 n, .int .i64 n, .bool (decide ((n : Int) < 0)), undef, .slice (some ad) (n + 1) c, .int .i64 n, .slice (some ad) n c, .slice (some ad) (n + 1) c, .int .i64 n, .pointer (some (ad.add (n * 32))), .agg (A8 D)], defers := [] } (by kernel_rfl) (by rfl) ?_
  refine wpAnyH_take (i := 9) (v := .bool true) rfl (by kernel_rfl) (by kernel_rfl) (by kernel_rfl) (fun _ _ _ h => h) (.inl ⟨rfl, fun W _ => by go_simp⟩) S1 ?_
  refine reframe #[true, true, true, true, true, true, true, true, true, true] { tmps := #[.slice (some ad) (n + 1) c, undef, .slice (some ad) n c, .pointer (some ⟨w.heap.size, 0, none⟩), .bool true, .int .i64 n, .slice (some ad) (n + 1) c, .int .i64 (n + 1), .int .i64 n, .int .i64 n, .bool (decide ((n : Int) < 0)), undef, .slice (some ad) (n + 1) c, .int .i64 n, .slice (some ad) n c, .slice (some ad) (n + 1) c, .int .i64 n, .pointer (some (ad.add (n * 32))), .agg (A8 D)], defers := [] } (by kernel_rfl) (by rfl) ?_
  refine wpAnyH_done (by kernel_rfl) ?_ _
  refine NoPanic.normal ?_
  have DU : Hid _ := dU
  have BU : Hid _ := bU
  clear hU S1 S0 hA d0 d1 hsl hia hb0 hb1 dU bU
  go_wp2_with fail
  exact bodyPost_ret (results_TDT rfl _ _ w.heap.size D rfl DU.out) rfl ⟨rfl, BU.out⟩
end Go.Proofs.YtcmjlhcpoajbkaaDoor
