import Derived.Test.YtcmjlhcpoajbkaaDoorEs
import Derived.Test.YtcmjlhcpoajbkaaDoorRd
namespace Go.Proofs.YtcmjlhcpoajbkaaDoor
set_option maxRecDepth 10000
set_option linter.unusedSimpArgs false
open Go.RowKit
/-- The part of a link that lies in these entries. -/
def subF : Nat → Nat → List (List Int) → Bool → List (List Int)
  | 0, _, _, _ => []
  | f + 1, m, es, whole => if m = es.length then (if whole then [] else [rootP es]) else
      if m ≤ halfN es.length then subF f m (es.take (halfN es.length)) whole ++ [rootP (es.drop (halfN es.length))]
      else subF f (m - halfN es.length) (es.drop (halfN es.length)) false ++ [rootP (es.take (halfN es.length))]
def subP (m : Nat) (es : List (List Int)) (whole : Bool) : List (List Int) := subF es.length m es whole
theorem subF_ok : ∀ (f m : Nat) (es : List (List Int)) (whole : Bool), ∀ d ∈ subF f m es whole, d.length = 32 ∧ Bytes d := by
  intro f
  induction f with
  | zero => intro m es whole d hd; simp [subF] at hd
  | succ f ih =>
    intro m es whole d hd
    unfold subF at hd
    split at hd
    · split at hd
      · simp at hd
      · simp only [List.mem_singleton] at hd; subst hd; exact rootP_ok _
    · split at hd
      · rcases List.mem_append.1 hd with h | h
        · exact ih _ _ _ d h
        · simp only [List.mem_singleton] at h; subst h; exact rootP_ok _
      · rcases List.mem_append.1 hd with h | h
        · exact ih _ _ _ d h
        · simp only [List.mem_singleton] at h; subst h; exact rootP_ok _
theorem subF_len : ∀ (f m : Nat) (es : List (List Int)) (whole : Bool), (subF f m es whole).length ≤ f := by
  intro f
  induction f with
  | zero => intro m es whole; simp [subF]
  | succ f ih =>
    intro m es whole
    unfold subF
    split
    · split
      · simp
      · simp
    · split
      · rw [List.length_append]; have := ih m (es.take (halfN es.length)) whole; simp; omega
      · rw [List.length_append]; have := ih (m - halfN es.length) (es.drop (halfN es.length)) false; simp; omega
theorem subF_fuel : ∀ (f g m : Nat) (es : List (List Int)) (whole : Bool), es.length ≤ f → es.length ≤ g → 1 ≤ m → m ≤ es.length → es.length < 2 ^ 63 → subF f m es whole = subF g m es whole := by
  intro f
  induction f with
  | zero => intro g m es whole h1 h2 h3 h4; omega
  | succ f ih =>
    intro g m es whole h1 h2 h3 h4 h5
    cases g with
    | zero => omega
    | succ g =>
      unfold subF
      by_cases e : m = es.length
      · rw [if_pos e, if_pos e]
      · rw [if_neg e, if_neg e]
        obtain ⟨a, b, c⟩ := halfN_spec es.length (by omega) (by omega)
        by_cases hk : m ≤ halfN es.length
        · rw [if_pos hk, if_pos hk, ih g m (es.take (halfN es.length)) whole (by rw [List.length_take]; omega) (by rw [List.length_take]; omega) h3 (by rw [List.length_take]; omega) (by rw [List.length_take]; omega)]
        · rw [if_neg hk, if_neg hk, ih g (m - halfN es.length) (es.drop (halfN es.length)) false (by rw [List.length_drop]; omega) (by rw [List.length_drop]; omega) (by omega) (by rw [List.length_drop]; omega) (by rw [List.length_drop]; omega)]
theorem eqNat (m n : Nat) : ((m : Int) == (n : Int)) = decide (m = n) := by
  by_cases h : m = n
  · subst h; simp
  · have : ¬ ((m : Int) = (n : Int)) := by omega
    simp [h, this]
theorem subP_all (es : List (List Int)) (whole : Bool) (h : 1 ≤ es.length) : subP es.length es whole = if whole then [] else [rootP es] := by
  have h1 : subP es.length es whole = subF (es.length - 1 + 1) es.length es whole := by unfold subP; rw [Nat.sub_add_cancel h]
  rw [h1]
  unfold subF
  rw [if_pos rfl]
theorem subP_left (m : Nat) (es : List (List Int)) (whole : Bool) (h1 : 1 ≤ m) (h2 : m < es.length) (h3 : es.length < 2 ^ 63) (hk : m ≤ halfN es.length) :
    subP m es whole = subP m (es.take (halfN es.length)) whole ++ [rootP (es.drop (halfN es.length))] := by
  obtain ⟨a, b, c⟩ := halfN_spec es.length (by omega) (by omega)
  have e1 : subP m es whole = subF (es.length - 1 + 1) m es whole := by unfold subP; rw [Nat.sub_add_cancel (by omega)]
  rw [e1]
  unfold subF
  rw [if_neg (by omega), if_pos hk]
  unfold subP
  rw [subF_fuel (es.length - 1) (es.take (halfN es.length)).length m (es.take (halfN es.length)) whole (by rw [List.length_take]; omega) (Nat.le_refl _) h1 (by rw [List.length_take]; omega) (by rw [List.length_take]; omega)]
theorem subP_right (m : Nat) (es : List (List Int)) (whole : Bool) (h2 : m < es.length) (h3 : es.length < 2 ^ 63) (hk : ¬ m ≤ halfN es.length) :
    subP m es whole = subP (m - halfN es.length) (es.drop (halfN es.length)) false ++ [rootP (es.take (halfN es.length))] := by
  obtain ⟨a, b, c⟩ := halfN_spec es.length (by omega) (by omega)
  have e1 : subP m es whole = subF (es.length - 1 + 1) m es whole := by unfold subP; rw [Nat.sub_add_cancel (by omega)]
  rw [e1]
  unfold subF
  rw [if_neg (by omega), if_neg hk]
  unfold subP
  rw [subF_fuel (es.length - 1) (es.drop (halfN es.length)).length (m - halfN es.length) (es.drop (halfN es.length)) false (by rw [List.length_drop]; omega) (Nat.le_refl _) (by omega) (by rw [List.length_drop]; omega) (by rw [List.length_drop]; omega)]
theorem subP_ok (m : Nat) (es : List (List Int)) (whole : Bool) : ∀ d ∈ subP m es whole, d.length = 32 ∧ Bytes d := subF_ok _ _ _ _
theorem subP_len (m : Nat) (es : List (List Int)) (whole : Bool) : (subP m es whole).length ≤ es.length := subF_len _ _ _ _
def linkP (m : Nat) (es : List (List Int)) : List (List Int) := if m = 0 then [] else subP m es true
/-- A row of digests of one's own. -/
def Own (w : World) (B : Nat) (v : Value) (ds : List (List Int)) : Prop := w.ownsRow B 25 32 v ds.length (F8 ds)
theorem Own.mono {w : World} {B B' : Nat} {v : Value} {ds : List (List Int)} (h : Own w B v ds) (hb : B' ≤ B) : Own w B' v ds := by
  obtain ⟨h1, h2 | ⟨g, cap, cur, hv, hg, r⟩⟩ := h
  · exact ⟨h1, .inl h2⟩
  · exact ⟨h1, .inr ⟨g, cap, cur, hv, by omega, r⟩⟩
theorem Own.below {w w' : World} {B : Nat} {v : Value} {ds : List (List Int)} (h : Own w B v ds) (hb : Below w.heap.size w w') : Own w' B v ds := by
  obtain ⟨h1, h2 | ⟨g, cap, cur, hv, hg, hh, r⟩⟩ := h
  · exact ⟨h1, .inl h2⟩
  · exact ⟨h1, .inr ⟨g, cap, cur, hv, hg, (hb.block g (row_lt hh)).trans hh, r⟩⟩
theorem bslice1 (R : List Int) (hR : R.length = 32) (w : World) : (Instr.buildSlice 31 1 #[(0, .agg (A8 R))]).run Tryd.prog w = .ok (.slice (some ⟨w.heap.size, 0, none⟩) 1 1) (w.alloc (.cells (A8 R) 25)) := by
  obtain ⟨x0, x1, x2, x3, x4, x5, x6, x7, x8, x9, x10, x11, x12, x13, x14, x15, x16, x17, x18, x19, x20, x21, x22, x23, x24, x25, x26, x27, x28, x29, x30, x31, rfl⟩ := list32 R hR
  kernel_rfl
theorem atBuildSlice {P : Program} {ops : Array Oper} {Q : Exit → Act → World → Prop} {rest : List Oper} {a : Act} {w : World} {d l ps t p af g} (ty : TypeId)
    (h : wpList P ops Q (⟨d, .buildSlice ty l ps, t, p, af, g⟩ :: rest) a w) : wpList P ops Q (⟨d, .buildSlice ty l ps, t, p, af, g⟩ :: rest) a w := h
theorem wpList_bs1 {ops : Array Oper} {rest : List Oper} {o : Oper} {a : Act} {w : World} {Q : Exit → Act → World → Prop} (hgd : o.guard = none) (x : Operand) (ho : o.op = .buildSlice 31 1 #[(0, x)])
    (R : List Int) (hx : a.eval x = .agg (A8 R)) (hR : R.length = 32)
    (h : wpList Tryd.prog ops Q rest (a.put o.dst (.slice (some ⟨w.heap.size, 0, none⟩) 1 1)) (w.alloc (.cells (A8 R) 25))) : wpList Tryd.prog ops Q (o :: rest) a w := by
  have hr := bslice1 R hR w
  refine wpList_plain hgd fun _ hK => ?_
  unfold Oper.wp execOp
  simp only [ho, Sem.run_bind, Sem.run_pure, Result.andThen_ok, List.map_toArray, List.map_cons, List.map_nil, hx, hr]
  exact hK _ _ h
theorem one_cells (w : World) (R : List Int) (hR : R.length = 32) (W : World) (h : W.heap[w.heap.size]? = some (.cells (A8 R) 25)) : ∀ k, k < 1 → ∀ j, j < 32 → W.cell? ((⟨w.heap.size, 0, none⟩ : Addr).add (k * 32 + j)) = some (.int .u8 (([R].getD k []).getD j 0)) := fun k hk j hj => by
  have e : k = 0 := by omega
  subst e
  rw [addr_add, cell_of_row _ _ _ _ _ _ h, Nat.zero_mul, Nat.zero_add, Nat.zero_add, A8_get _ _ (by omega)]
  rfl
theorem own_one (w : World) (R : List Int) (hR : R.length = 32) (B : Nat) (hB : B ≤ w.heap.size) : Own (w.alloc (.cells (A8 R) 25)) B (.slice (some ⟨w.heap.size, 0, none⟩) 1 1) [R] := by
  have e : F8 [R] = R.map (Value.int .u8) := by simp [F8]
  show (w.alloc (.cells (A8 R) 25)).ownsRow B 25 32 _ 1 (F8 [R])
  refine ⟨by rw [e, List.length_map, hR], .inr ⟨w.heap.size, 1, A8 R, rfl, hB, heapN w _ _ rfl, Nat.le_refl _, by unfold maxLen; omega, by rw [A8_size, hR], ?_⟩⟩
  rw [e]
  exact List.take_of_length_le (by simp [A8, hR])
set_option maxHeartbeats 4000000 in
theorem sub_any : ∀ (n m : Nat) (whole : Bool) (p : Option Addr) (cap : Nat) (es : List (List Int)) (w : World), Tabs KS HS w → E22 w p n cap es → n ≤ 1000 → 1 ≤ m → m ≤ n →
    Calls Tryd.prog 107 #[.int .i64 m, .slice p n cap, .bool whole] w fun e w' => ∃ v, e = .returned v ∧ Own w' w.heap.size v (subP m es whole) ∧ Below w.heap.size w w' := by
  intro n
  induction n using Nat.strongRecOn with
  | ind n ih =>
    intro m whole p cap es w hT hE hn hm1 hmn
    have hf := hE.fits
    have hr := hE.room
    have hlen := hE.len
    have hq := eqNat m n
    by_cases h0 : m = n
    · subst h0
      have hq : ((m : Int) == (m : Int)) = true := by simp
      have HX := subP_all es whole (by omega)
      rw [hlen] at HX
      cases whole with
      | true =>
        have HZ : Hid (subP m es true = []) := HX
        clear HX
        go_enter Tryd.func107, Tryd.ntmps107
        go_wp2_with fail
        go_ret
        exact ⟨_, rfl, by rw [HZ.out]; exact ⟨rfl, .inl ⟨rfl, rfl⟩⟩, Below.refl _ _⟩
      | false =>
        have HZ : Hid (subP m es false = [rootP es]) := HX
        clear HX
        go_enter Tryd.func107, Tryd.ntmps107
        go_wp2_with fail
        refine (troot_any m p cap es w hT hE).mono ?_
        rintro e w1 ⟨rfl, b1⟩
        obtain ⟨hRl, hRb⟩ := rootP_ok es
        have hs1 := b1.size
        obtain ⟨R, hR⟩ : ∃ R, rootP es = R := ⟨_, rfl⟩
        rw [hR] at hRl HZ ⊢
        clear hR hRb
        go_wp2_with (first
          | (with_reducible refine atBuildSlice 31 ?_
             refine wpList_bs1 rfl _ rfl R rfl hRl ?_))
        go_ret
        refine ⟨_, rfl, ?_, b1.alloc hs1 _⟩
        rw [HZ.out]
        exact own_one w1 R hRl w.heap.size hs1
    · rw [decide_eq_false h0] at hq
      obtain ⟨hk1, hk2, hk3⟩ := halfN_spec n (by omega) (by omega)
      obtain ⟨b, o, rfl, hbl, hcs⟩ := hE.lies (by omega)
      clear hcs
      have HL : Hid (m ≤ halfN n → subP m es whole = subP m (es.take (halfN n)) whole ++ [rootP (es.drop (halfN n))]) := fun hk => by
        have := subP_left m es whole hm1 (by omega) (by omega) (by rw [hlen]; exact hk)
        rw [hlen] at this; exact this
      have HR : Hid (¬ m ≤ halfN n → subP m es whole = subP (m - halfN n) (es.drop (halfN n)) false ++ [rootP (es.take (halfN n))]) := fun hk => by
        have := subP_right m es whole (by omega) (by omega) (by rw [hlen]; exact hk)
        rw [hlen] at this; exact this
      go_enter Tryd.func107, Tryd.ntmps107
      go_wp2_with fail
      refine (split_any b o n cap w (by omega) hf hr).mono ?_
      rintro e w1 ⟨rfl, b1⟩
      have hT1 := hT.below b1
      have eF := (hE.front (halfN n) (by omega)).below b1
      have eB := (hE.back (halfN n) hk1).below b1
      generalize halfN n = k at *
      by_cases hik : m ≤ k
      · have hik' : (m : Int) ≤ k := by omega
        have HX := HL.out hik
        have HX' : Hid (subP m es whole = _) := HX
        clear HL HR HX
        go_wp2_with fail
        refine (ih k (by omega) m whole _ cap (es.take k) w1 hT1 eF (by omega) hm1 hik).mono ?_
        rintro e w2 ⟨v, rfl, hO, b2⟩
        have hd := subP_ok m (es.take k) whole
        have hdl := subP_len m (es.take k) whole
        rw [eF.len] at hdl
        have hT2 := hT1.below b2
        have eB2 := eB.below b2
        have B2 : Below w.heap.size w w2 := b1.trans (b2.mono b1.size)
        have hO2 : Hid (Own w2 w.heap.size v (subP m (es.take k) whole)) := hO.mono b1.size
        clear hO b1 b2 eF eB
        generalize subP m (es.take k) whole = A at *
        go_wp2_with fail
        refine (troot_any (n - k) _ (cap - k) (es.drop k) w2 hT2 eB2).mono ?_
        rintro e w3 ⟨rfl, b3⟩
        obtain ⟨hRl, hRb⟩ := rootP_ok (es.drop k)
        have B3 : Below w.heap.size w w3 := B2.trans (b3.mono B2.size)
        have hO3 : Hid (Own w3 w.heap.size v A) := hO2.out.below b3
        have hs3 := B3.size
        clear b3 hO2 eB2 B2 hRb
        generalize rootP (es.drop k) = R at *
        have hT' : ∀ d ∈ [R], d.length = 32 := fun d hd => by simp only [List.mem_singleton] at hd; subst hd; exact hRl
        go_wp2_with (first
          | (with_reducible refine atBuildSlice 31 ?_
             refine wpList_bs1 rfl _ rfl R rfl hRl ?_)
          | (at_builtin
             refine wpList_app25 rfl (.tmp 29) (.tmp 32) rfl w.heap.size v A A.length rfl (owns_alloc8 hO3.out _) ⟨w3.heap.size, 0, none⟩ 1 1 [R] rfl rfl hT' (one_cells w3 R hRl _ (heapN w3 _ _ rfl)) (by omega) (by omega) (by simp; omega) ?_
             intro v2 w4 ho4 hs4 hb4
             refine hideGoal ?_))
        have B4 : Hid (Below w.heap.size w w4) := hb4 w (B3.alloc hs3 _)
        clear hb4 hO3 B3
        refine openGoal ?_
        go_wp2_with fail
        go_ret
        refine ⟨_, rfl, ?_, B4.out⟩
        rw [HX'.out]
        unfold Own
        rw [List.length_append]
        exact ho4.out
      · have hik' : ¬ (m : Int) ≤ k := by omega
        have ei : ((m : Int) - k) = ((m - k : Nat) : Int) := by omega
        have HX := HR.out hik
        have HX' : Hid (subP m es whole = _) := HX
        clear HL HR HX
        go_wp2_with fail
        refine (ih (n - k) (by omega) (m - k) false _ (cap - k) (es.drop k) w1 hT1 eB (by omega) (by omega) (by omega)).mono ?_
        rintro e w2 ⟨v, rfl, hO, b2⟩
        have hd := subP_ok (m - k) (es.drop k) false
        have hdl := subP_len (m - k) (es.drop k) false
        rw [eB.len] at hdl
        have hT2 := hT1.below b2
        have eF2 := eF.below b2
        have B2 : Below w.heap.size w w2 := b1.trans (b2.mono b1.size)
        have hO2 : Hid (Own w2 w.heap.size v (subP (m - k) (es.drop k) false)) := hO.mono b1.size
        clear hO b1 b2 eF eB
        generalize subP (m - k) (es.drop k) false = A at *
        go_wp2_with fail
        refine (troot_any k _ cap (es.take k) w2 hT2 eF2).mono ?_
        rintro e w3 ⟨rfl, b3⟩
        obtain ⟨hRl, hRb⟩ := rootP_ok (es.take k)
        have B3 : Below w.heap.size w w3 := B2.trans (b3.mono B2.size)
        have hO3 : Hid (Own w3 w.heap.size v A) := hO2.out.below b3
        have hs3 := B3.size
        clear b3 hO2 eF2 B2 hRb
        generalize rootP (es.take k) = R at *
        have hT' : ∀ d ∈ [R], d.length = 32 := fun d hd => by simp only [List.mem_singleton] at hd; subst hd; exact hRl
        go_wp2_with (first
          | (with_reducible refine atBuildSlice 31 ?_
             refine wpList_bs1 rfl _ rfl R rfl hRl ?_)
          | (at_builtin
             refine wpList_app25 rfl (.tmp 39) (.tmp 42) rfl w.heap.size v A A.length rfl (owns_alloc8 hO3.out _) ⟨w3.heap.size, 0, none⟩ 1 1 [R] rfl rfl hT' (one_cells w3 R hRl _ (heapN w3 _ _ rfl)) (by omega) (by omega) (by simp; omega) ?_
             intro v2 w4 ho4 hs4 hb4
             refine hideGoal ?_))
        have B4 : Hid (Below w.heap.size w w4) := hb4 w (B3.alloc hs3 _)
        clear hb4 hO3 B3
        refine openGoal ?_
        go_wp2_with fail
        go_ret
        refine ⟨_, rfl, ?_, B4.out⟩
        rw [HX'.out]
        unfold Own
        rw [List.length_append]
        exact ho4.out
end Go.Proofs.YtcmjlhcpoajbkaaDoor
