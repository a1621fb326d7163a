import Derived.Test.YtcmjlhcpoajbkaaDoorDs
import Derived.Test.YtcmjlhcpoajbkaaDoorCat
namespace Go.Proofs.YtcmjlhcpoajbkaaDoor
set_option maxRecDepth 10000
open Go.RowKit
theorem info25' : ∃ i, Tryd.prog.info? 25 = some i ∧ i.zero = some (.agg Z8x32) ∧ i.size = 32 ∧ i.bytes = 32 := ⟨_, rfl, by kernel_rfl, by kernel_rfl, by kernel_rfl⟩
/-- The cells of a row of digests. -/
def F8 (ds : List (List Int)) : List Value := ds.flatten.map (Value.int .u8)
theorem flat_len (ds : List (List Int)) (h : ∀ d ∈ ds, d.length = 32) : ds.flatten.length = ds.length * 32 := by
  induction ds with
  | nil => rfl
  | cons d r ih =>
    rw [List.flatten_cons, List.length_append, ih (fun x hx => h x (List.mem_cons_of_mem _ hx)), h d List.mem_cons_self, List.length_cons]
    omega
theorem flat_get (ds : List (List Int)) (h : ∀ d ∈ ds, d.length = 32) : ∀ (k j : Nat), k < ds.length → j < 32 → ds.flatten[k * 32 + j]? = some ((ds.getD k []).getD j 0) := by
  induction ds with
  | nil => intro k j hk; simp at hk
  | cons d r ih =>
    intro k j hk hj
    have hd := h d List.mem_cons_self
    rw [List.flatten_cons]
    cases k with
    | zero =>
      rw [List.getElem?_append_left (by omega), Nat.zero_mul, Nat.zero_add, List.getElem?_eq_getElem (by omega)]
      simp [List.getD_eq_getElem?_getD, hd, hj]
    | succ k =>
      rw [List.getElem?_append_right (by omega), hd, show (k + 1) * 32 + j - 32 = k * 32 + j by omega, ih (fun x hx => h x (List.mem_cons_of_mem _ hx)) k j (by simpa using hk) hj]
      simp [List.getD_eq_getElem?_getD]
theorem F8_len (ds : List (List Int)) (h : ∀ d ∈ ds, d.length = 32) : (F8 ds).length = ds.length * 32 := by
  rw [F8, List.length_map, flat_len ds h]
theorem F8_get (ds : List (List Int)) (h : ∀ d ∈ ds, d.length = 32) (j : Nat) (u : Value) (hu : (F8 ds)[j]? = some u) : j < ds.length * 32 ∧ u = .int .u8 ((ds.getD (j / 32) []).getD (j % 32) 0) := by
  have hj : j < (F8 ds).length := by
    rcases Nat.lt_or_ge j (F8 ds).length with h' | h'
    · exact h'
    · rw [List.getElem?_eq_none h'] at hu; cases hu
  rw [F8_len ds h] at hj
  refine ⟨hj, ?_⟩
  have e : j = j / 32 * 32 + j % 32 := by omega
  rw [F8, List.getElem?_map, e, flat_get ds h (j / 32) (j % 32) (by omega) (by omega)] at hu
  simp only [Option.map_some, Option.some.injEq] at hu
  rw [← hu]
theorem F8_append (a b : List (List Int)) : F8 (a ++ b) = F8 a ++ F8 b := by simp [F8]
theorem wpList_app25 {ops : Array Oper} {rest : List Oper} {o : Oper} {a : Act} {Q : Exit → Act → World → Prop} {w : World} (hgd : o.guard = none) (s x : Operand)
    (ho : o.op = .call { callee := .builtin .append, args := #[s, x], argTypes := #[31, 31] }) (B : Nat) (v : Value) (l : List (List Int)) (n : Nat) (hs : a.eval s = v)
    (hown : Hid (w.ownsRow B 25 32 v n (F8 l))) (ad : Addr) (m c : Nat) (ys : List (List Int)) (hx : a.eval x = .slice (some ad) m c) (hl : ys.length = m) (h32 : ∀ d ∈ ys, d.length = 32)
    (hnews : ∀ k, k < m → ∀ j, j < 32 → w.cell? (ad.add (k * 32 + j)) = some (.int .u8 ((ys.getD k []).getD j 0))) (hm : 0 < m) (hn : n + m ≤ 4398046511104) (hB : B ≤ w.heap.size)
    (h : ∀ v' w', Hid (w'.ownsRow B 25 32 v' (n + m) (F8 (l ++ ys))) → w.heap.size ≤ w'.heap.size → (∀ w0, Below B w0 w → Below B w0 w') → wpList Tryd.prog ops Q rest (a.put o.dst v') w') : wpList Tryd.prog ops Q (o :: rest) a w := by
  obtain ⟨i, hi, hz, hsz, hby⟩ := info25'
  refine wpList_append_lies w hgd s x 31 ho B 25 i (.agg Z8x32) 32 32 Tryd.underlying31 hi hz hsz hby rfl (by omega) v n _ hs hown.out ad m c (F8 ys) hx (by rw [F8_len ys h32, hl]) (fun j u hu => ?_) (fun u hu => ?_) hm (by unfold maxLen; omega) (by omega) hB _ rfl ?_
  · obtain ⟨hj, rfl⟩ := F8_get ys h32 j u hu
    have := hnews (j / 32) (by omega) (j % 32) (by omega)
    rwa [show j / 32 * 32 + j % 32 = j by omega] at this
  · simp only [F8, List.mem_map] at hu; obtain ⟨y, _, rfl⟩ := hu; rfl
  · intro g cap w' h1 h2 h3 h4
    refine h _ w' (by rw [F8_append]; exact h1) h2.size (fun w0 hb => hb.grown h2 hB (fun k hk => ?_))
    rcases hown.out.2 with ⟨rfl, _⟩ | ⟨g', c', cur, rfl, hg', _⟩
    · cases hk
    · simp only [Value.ownBlock, Option.some.injEq] at hk; omega
def TILDE : List Int := 126 :: List.replicate 31 0
theorem owns25 {w : World} {B : Nat} {v : Value} {l : List (List Int)} {n : Nat} (h : w.ownsRow B 25 32 v n (F8 l)) (h32 : ∀ d ∈ l, d.length = 32) (hn : 0 < n) :
    ∃ g cap, v = .slice (some ⟨g, 0, none⟩) n cap ∧ B ≤ g ∧ g < w.heap.size ∧ n ≤ cap ∧ cap ≤ maxLen ∧ l.length = n ∧ ∀ k, k < n → ∀ j, j < 32 → w.cell? ⟨g, k * 32 + j, none⟩ = some (.int .u8 ((l.getD k []).getD j 0)) := by
  obtain ⟨hl, ⟨_, h0⟩ | ⟨g, cap, cur, rfl, hg, hh, hc, hm, hs, ht⟩⟩ := h
  · omega
  · have hl' : l.length = n := by rw [F8_len l h32] at hl; omega
    refine ⟨g, cap, rfl, hg, row_lt hh, hc, hm, hl', fun k hk j hj => ?_⟩
    rw [cell_of_row _ _ _ _ _ _ hh]
    have e := congrArg (fun z : List Value => z[k * 32 + j]?) ht
    simp only [List.getElem?_take, F8, List.getElem?_map] at e
    rw [if_pos (by omega), flat_get l h32 k j (by omega) hj] at e
    rw [← Array.getElem?_toList, e]
    rfl
/-- What roomyDigests makes. -/
structure RoomyD (w w' : World) (g n cap : Nat) (ds : List (List Int)) : Prop where
  new : w.heap.size ≤ g
  fits : n + 1 ≤ cap
  most : cap ≤ 9223372036854775807
  here : g < w'.heap.size
  cells : ∀ k, k < n → ∀ j, j < 32 → w'.cell? ⟨g, k * 32 + j, none⟩ = some (.int .u8 ((ds.getD k []).getD j 0))
  mark : ∀ j, j < 32 → w'.cell? ⟨g, n * 32 + j, none⟩ = some (.int .u8 (TILDE.getD j 0))
  below : Below w.heap.size w w'
theorem eql_nilD (a : Option Addr) (l c : Nat) (w : World) : (binOp .eql 31 (.slice a l c) (.slice none 0 0)).run Tryd.prog w = .ok (.bool a.isNone) w := by
  simp only [binOp]
  simp [run_equal_slice_nil w 31 25 a l c Tryd.underlying31]
theorem roomyD_nil (w : World) : Calls Tryd.prog 21 #[.slice none 0 0] w fun e w' => e = .returned (.slice none 0 0) ∧ w' = w := by
  have hq := eql_nilD none 0 0 w
  go_enter Tryd.func21, Tryd.ntmps21
  go_wp2
  go_ret
  exact ⟨rfl, rfl⟩
theorem tilde_cells (w : World) (W : World) (h : W.heap[w.heap.size]? = some (.cells (A8 TILDE) 25)) : ∀ k, k < 1 → ∀ j, j < 32 → W.cell? ((⟨w.heap.size, 0, none⟩ : Addr).add (k * 32 + j)) = some (.int .u8 (([TILDE].getD k []).getD j 0)) := fun k hk j hj => by
  have e : k = 0 := by omega
  subst e
  rw [addr_add, cell_of_row _ _ _ _ _ _ h, Nat.zero_mul, Nat.zero_add, Nat.zero_add, A8_get _ _ (by show j < 32; omega)]
  rfl
set_option maxHeartbeats 1000000 in
theorem roomyD_some (ad : Addr) (n cap : Nat) (ds : List (List Int)) (w : World) (hD : D32 w (some ad) n cap ds) (hn : n ≤ 4398046510976) :
    Calls Tryd.prog 21 #[.slice (some ad) n cap] w fun e w' => ∃ g cap', e = .returned (.slice (some ⟨g, 0, none⟩) n cap') ∧ RoomyD w w' g n cap' ds := by
  have hq := eql_nilD (some ad) n cap w
  have h32 : ∀ d ∈ ds, d.length = 32 := fun d hd => (hD.all d hd).1
  have hl := hD.len
  have hT : ∀ d ∈ [TILDE], d.length = 32 := fun d hd => by simp only [List.mem_singleton] at hd; subst hd; rfl
  have h32' : ∀ d ∈ ds ++ [TILDE], d.length = 32 := fun d hd => by
    rcases List.mem_append.1 hd with h | h
    · exact h32 d h
    · exact hT d h
  by_cases h0 : 0 < n
  · obtain ⟨ad', hp, _, hc⟩ := hD.lies h0
    cases hp
    have HC : Hid _ := hc
    clear hc
    go_enter Tryd.func21, Tryd.ntmps21
    go_wp2_with (first
      | (at_builtin
         refine wpList_app25 rfl (.const (.slice none 0 0)) (.tmp 5) rfl w.heap.size (.slice none 0 0) [] 0 rfl ⟨rfl, .inl ⟨rfl, rfl⟩⟩ ad n cap ds rfl hl h32 HC.out h0 (by omega) (Nat.le_refl _) ?_
         intro v1 w1 ho1 hs1 hb1
         refine hideGoal ?_))
    clear hq
    have hbw := hb1 w (Below.refl _ _)
    have HO1 : Hid (w1.ownsRow w.heap.size 25 32 v1 n (F8 ds)) := by
      have h := ho1.out
      rw [Nat.zero_add, List.nil_append] at h
      exact h
    clear ho1 hb1
    refine openGoal ?_
    go_wp2_with (first
      | (at_builtin
         refine wpList_app25 rfl (.tmp 6) (.tmp 8) rfl w.heap.size v1 ds n rfl (owns_alloc8 HO1.out _) ⟨w1.heap.size, 0, none⟩ 1 1 [TILDE] rfl rfl hT (tilde_cells w1 _ (heapN w1 _ _ rfl)) (by omega) (by omega) (by simp; omega) ?_
         intro v2 w2 ho2 hs2 hb2
         refine hideGoal ?_))
    obtain ⟨g, cap', rfl, hg, hgs, hfit, hmost, _, hcells⟩ := owns25 ho2.out h32' (by omega)
    unfold maxLen at hmost
    have hR : RoomyD w w2 g n cap' ds := by
      refine ⟨hg, hfit, by omega, hgs, fun k hk j hj => ?_, fun j hj => ?_, hb2 w (hbw.alloc hs1 _)⟩
      · rw [hcells k (by omega) j hj]
        rw [List.getD_eq_getElem?_getD (l := ds ++ [TILDE]), List.getElem?_append_left (by omega), ← List.getD_eq_getElem?_getD]
      · rw [hcells n (by omega) j hj]
        rw [List.getD_eq_getElem?_getD (l := ds ++ [TILDE]), List.getElem?_append_right (by omega), hl, Nat.sub_self]
        rfl
    clear ho2 hb2 hcells HO1 hbw HC
    refine openGoal ?_
    go_wp2_with fail
    go_ret
    exact ⟨g, cap', rfl, hR⟩
  · have hn0 : n = 0 := by omega
    subst hn0
    have hds : ds = [] := List.length_eq_zero_iff.1 hl
    subst hds
    go_enter Tryd.func21, Tryd.ntmps21
    go_wp2_with (first
      | (at_builtin
         refine wpList_app25 rfl (.tmp 6) (.tmp 8) rfl w.heap.size (.slice none 0 0) [] 0 rfl ⟨rfl, .inl ⟨rfl, rfl⟩⟩ ⟨w.heap.size, 0, none⟩ 1 1 [TILDE] rfl rfl hT (tilde_cells w _ (heapN w _ _ rfl)) (by omega) (by omega) (by simp) ?_
         intro v2 w2 ho2 hs2 hb2
         refine hideGoal ?_))
    obtain ⟨g, cap', rfl, hg, hgs, hfit, hmost, _, hcells⟩ := owns25 ho2.out h32' (by omega)
    unfold maxLen at hmost
    have hR : RoomyD w w2 g 0 cap' [] := by
      refine ⟨hg, hfit, by omega, hgs, fun k hk j hj => ?_, fun j hj => ?_, hb2 w ((Below.refl _ _).alloc (Nat.le_refl _) _)⟩
      · rw [hcells k (by omega) j hj]
        rw [List.getD_eq_getElem?_getD (l := [] ++ [TILDE]), List.getElem?_append_left (by omega), ← List.getD_eq_getElem?_getD]
      · rw [hcells 0 (by omega) j hj]
        rw [List.getD_eq_getElem?_getD (l := [] ++ [TILDE]), List.getElem?_append_right (by omega), hl, Nat.sub_self]
        rfl
    clear ho2 hb2 hcells hq
    refine openGoal ?_
    go_wp2_with fail
    go_ret
    exact ⟨g, cap', rfl, hR⟩
end Go.Proofs.YtcmjlhcpoajbkaaDoor
