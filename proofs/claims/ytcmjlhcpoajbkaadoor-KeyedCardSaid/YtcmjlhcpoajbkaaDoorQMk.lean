import Derived.Test.YtcmjlhcpoajbkaaDoorQAp
import Derived.Test.YtcmjlhcpoajbkaaDoorQHh
namespace Go.Proofs.YtcmjlhcpoajbkaaDoor
set_option maxRecDepth 10000
set_option linter.unusedSimpArgs false
open Go.RowKit
theorem bslice_more (ad : Addr) (n c k : Nat) (hn : n ≤ c) (hk : k ≤ n) (W : World) :
    (Instr.sliceAt 22 (.slice (some ad) n c) none (some (.int .i64 (k : Int))) none).run Tryd.prog W = .ok (.slice (some ad) k c) W := by
  have h1 : (k : Int) ≤ c := by omega
  have h2 : ¬ (k : Int) < 0 := by omega
  go_simp
theorem Bytes.take {xs : List Int} (h : Bytes xs) (k : Nat) : Bytes (xs.take k) := fun j => by
  by_cases hj : j < k
  · have e : (xs.take k).getD j 0 = xs.getD j 0 := by simp only [List.getD, List.getElem?_take, if_pos hj]
    rw [e]; exact h j
  · have e : (xs.take k).getD j 0 = 0 := by simp only [List.getD, List.getElem?_take, if_neg hj, Option.getD_none]
    rw [e]; omega
theorem In8.take {w : World} {p : Option Addr} {n c : Nat} {xs : List Int} (h : In8 w p n c xs) (k : Nat) (hk : k ≤ n) : In8 w p k c (xs.take k) :=
  ⟨by rw [List.length_take, h.len]; omega, Bytes.take h.bytes k, Nat.le_trans hk h.fits, h.room, Nat.le_trans hk h.small, fun h0 => by
    have hl := h.len
    rw [List.length_take] at h0
    obtain ⟨b, o, hp, hb, hc⟩ := h.lies (by omega)
    refine ⟨b, o, hp, hb, fun j hj => ?_⟩
    rw [List.length_take] at hj
    have e : (xs.take k).getD j 0 = xs.getD j 0 := by simp only [List.getD, List.getElem?_take, if_pos (show j < k by omega)]
    rw [e]; exact hc j (by omega)⟩
set_option maxHeartbeats 1000000 in
theorem short_any (w : World) (p : Option Addr) (n c k : Nat) (xs : List Int) (hi : In8 w p n c xs) (hk : k ≤ 1000) :
    Calls Tryd.prog 52 #[.slice p n c, .int .i64 (k : Int)] w fun e w' => ∃ m, e = .returned (.slice p m c) ∧ m ≤ k ∧ In8 w p m c (xs.take k) ∧ w' = w := by
  have hl := hi.len
  have hf := hi.fits
  have hr := hi.room
  by_cases h : k < n
  · obtain ⟨b, o, hp, _, _⟩ := hi.lies (by omega)
    have HI := hi.take k (by omega)
    have HK : Hid (In8 w p k c (xs.take k)) := HI
    subst hp
    have hs : ∀ W : World, (Instr.sliceAt 22 (.slice (some ⟨b, o, none⟩) n c) none (some (.int .i64 (k : Int))) none).run Tryd.prog W = .ok (.slice (some ⟨b, o, none⟩) k c) W := fun W => bslice_more _ n c k hf (by omega) W
    clear hi HI
    go_enter Tryd.func52, Tryd.ntmps52
    go_wp2_with fail
    go_ret
    exact ⟨k, rfl, by omega, HK.out, rfl⟩
  · have HK : Hid (In8 w p n c (xs.take k)) := by
      show In8 w p n c (xs.take k)
      rw [List.take_of_length_le (by omega)]; exact hi
    clear hi
    go_enter Tryd.func52, Tryd.ntmps52
    go_wp2_with fail
    go_ret
    exact ⟨n, rfl, by omega, HK.out, rfl⟩
/-- Entries as they are handed in: of any length. -/
structure EN (w : World) (p : Option Addr) (n cap : Nat) (es : List (List Int)) : Prop where
  len : es.length = n
  fits : n ≤ cap
  room : cap ≤ 9223372036854775807
  lies : 0 < n → ∃ b o, p = some ⟨b, o, none⟩ ∧ b < w.heap.size ∧ ∀ i, i < n → ∃ p' n' c', w.cell? ⟨b, o + i, none⟩ = some (.slice p' n' c') ∧ In8 w p' n' c' (es.getD i [])
theorem EN.below {w w' : World} {p : Option Addr} {n cap : Nat} {es : List (List Int)} (h : EN w p n cap es) (hb : Below w.heap.size w w') : EN w' p n cap es :=
  ⟨h.len, h.fits, h.room, fun h0 => by
    obtain ⟨b, o, hp, hl, hc⟩ := h.lies h0
    refine ⟨b, o, hp, Nat.lt_of_lt_of_le hl hb.size, fun i hi => ?_⟩
    obtain ⟨p', n', c', h1, h2⟩ := hc i hi
    exact ⟨p', n', c', by rw [hb.cell (block_lt_of_cell h1)]; exact h1, h2.below hb⟩⟩
def END : List Int := [101, 110, 100]
theorem END_bytes : Bytes END := .of fun x hx => by simp only [END, List.mem_cons, List.not_mem_nil, or_false] at hx; omega
/-- The entries of a log that was made, but the last one. -/
def cutP (es : List (List Int)) : List (List Int) := (es.take 40).map (·.take 300)
def madeP (es : List (List Int)) : List (List Int) := cutP es ++ [END]
theorem cutP_len (es : List (List Int)) : (cutP es).length = min 40 es.length := by simp [cutP]
theorem madeP_len (es : List (List Int)) : (madeP es).length = min 40 es.length + 1 := by simp [madeP, cutP]
theorem cut_step (es : List (List Int)) (k : Nat) (hk : k < es.length) : (es.take (k + 1)).map (·.take 300) = (es.take k).map (·.take 300) ++ [(es.getD k []).take 300] := by
  rw [List.take_add_one, List.map_append]
  congr 1
  simp [List.getD, List.getElem?_eq_getElem hk]
section
variable {ops : Array Oper} {rest : List Oper} {o : Oper} {a : Act} {w : World} {Q : Exit → Act → World → Prop} {S : World → Prop}
theorem store_H (hgd : o.guard = none) (x y : Operand) (ho : o.op = .store 42 x y) (g : Nat) (C C0 : Array Value) (hx : a.eval x = .pointer (some ⟨g, 0, none⟩)) (hy : a.eval y = .agg C) (h0 : w.heap[g]? = some (.cells C0 42))
    (hC : C.size = 65) (hC0 : C0.size = 65) (h1 : C.all (·.oneCell') = true) (h : ∀ W, Stored w W g C 42 → wpList Tryd.prog ops Q rest (a.put o.dst undef) W) : wpList Tryd.prog ops Q (o :: rest) a w :=
  wpList_store_W hgd 42 x y ho g C hx hy 42 C0 h0 (by rw [info42, hC]) (by rw [hC0, hC]) h1 h
theorem yields_H (hw : Region.wanted o (yielded ops a.tmps) = true) (x : Operand) (ho : o.op = .load 42 x) (g : Nat) (hx : a.eval x = .pointer (some ⟨g, 0, none⟩)) (C : Array Value) (hC : C.size = 65) (hS : ∀ w, S w → w.heap[g]? = some (.cells C 42)) : YieldsIf Tryd.prog ops S o (.agg C) a := by
  obtain ⟨fs, hfs⟩ := und42
  exact yieldsIf_rowG hw 42 x ho g hx 42 C (0, 0) (.struct fs) hS hfs rfl (by rw [info42, hC])
end
theorem eindex_at (b o n c k : Nat) (hk : k < n) (W : World) : (Instr.indexAt 47 (.slice (some ⟨b, o, none⟩) n c) (.int .i64 k)).run Tryd.prog W = .ok (.pointer (some ⟨b, o + k, none⟩)) W := by
  have h1 : (k : Int) < n := by omega
  go_simp
set_option maxHeartbeats 4000000 in
theorem made_any (w : World) (hT : Tabs KS HS w) (kp : Option Addr) (kn kc : Nat) (key : List Int) (hk : In8 w kp kn kc key) (p : Option Addr) (n c : Nat) (es : List (List Int)) (he : EN w p n c es) :
    Calls Tryd.prog 43 #[.slice kp kn kc, .slice p n c] w fun e w' => ∃ g ev, e = .returned (.tuple #[.pointer (some ⟨g, 0, none⟩), .int .i64 ((madeP es).length : Int)]) ∧ LogAt w' w.heap.size g ev (key.take 100) (madeP es) ∧ Below w.heap.size w w' := by
  have hn := he.len
  have hf := he.fits
  have hr := he.room
  have HE : Hid (EN w p n c es) := he
  clear he
  go_enter Tryd.func43, Tryd.ntmps43
  go_wp2_with fail
  refine (short_any w kp kn kc 100 key hk (by omega)).mono ?_
  rintro e w' ⟨m, rfl, hm, hk1, rfl⟩
  go_wp2_with fail
  refine (new_any w' kp m kc (key.take 100) hk1 hm).mono ?_
  rintro e w1 ⟨g, rfl, hL1, b1⟩
  have HL1 : Hid (LogAt w1 w'.heap.size g (.slice none 0 0) (key.take 100) []) := hL1
  clear hL1
  go_wp2_with fail
  go_loopw [8, 9] (fun v i wr => ∃ k : Nat, k ≤ n ∧ k ≤ 40 ∧ i = .int .i64 k ∧ v = .int .i64 k ∧ Below w'.heap.size w' wr ∧ ∃ ev, LogAt wr w'.heap.size g ev (key.take 100) ((es.take k).map (·.take 300))) (fun _ i _ => 40 - (intOf i).toNat)
  case atStart => exact ⟨0, by omega, by omega, rfl, rfl, b1, _, HL1.out⟩
  case round =>
    obtain ⟨k, hkn, hk40, rfl, rfl, hb, ev, hL⟩ := hrel
    have HL : Hid _ := hL
    clear hL HL1 b1
    by_cases hlt : k < n ∧ k < 40
    · obtain ⟨h1, h2⟩ := hlt
      obtain ⟨b, o, rfl, hbl, hc⟩ := (HE.out.below hb).lies (by omega)
      obtain ⟨q, qn, qc, hcell, hq⟩ := hc k h1
      have HQ : Hid (In8 wr q qn qc (es.getD k [])) := hq
      have hix : ∀ W : World, (Instr.indexAt 47 (.slice (some ⟨b, o, none⟩) n c) (.int .i64 k)).run Tryd.prog W = .ok (.pointer (some ⟨b, o + k, none⟩)) W := fun W => eindex_at b o n c k h1 W
      clear hc hq
      go_wp2_with fail
      refine (short_any wr q qn qc 300 _ HQ.out (by omega)).mono ?_
      rintro e w2 ⟨r, rfl, hr3, hq1, rfl⟩
      have HQ1 : Hid (In8 w2 q r qc ((es.getD k []).take 300)) := hq1
      have el : ((es.take k).map (·.take 300)).length = k := by simp; omega
      clear hq1
      go_wp2_with fail
      refine (append_any w2 w'.heap.size g ev (key.take 100) _ q r qc _ HL.out HQ1.out hr3 (by rw [el]; omega)).mono ?_
      rintro e w3 ⟨ev', rfl, hL3, hk3⟩
      rw [el]
      have B3 : Below w'.heap.size w' w3 := hk3.below (fun j hj => by
        rcases hj with hj | hj
        · rw [hj]; exact HL.out.base
        · exact (HL.out.rowlt j hj).1) hb.size hb
      have HL3 : Hid (LogAt w3 w'.heap.size g ev' (key.take 100) ((es.take (k + 1)).map (·.take 300))) := by
        show LogAt _ _ _ _ _ _
        rw [cut_step es k (by omega)]; exact hL3
      clear hL3 hk3 hb hcell hix
      go_wp2_with fail
      go_roundw
      case rel => exact ⟨k + 1, by omega, by omega, by go_num, by go_num, B3, ev', HL3.out⟩
      case measure => simp [intOf]; omega
    · have hcv := Lib.run_convert_bytes_const (P := Tryd.prog) wr 22 5 #[.int .u8 101, .int .u8 110, .int .u8 100] 3 3 Tryd.underlying22 Tryd.underlying5
      have el : (cutP es).length = k := by rw [cutP_len]; omega
      have ec : (es.take k).map (·.take 300) = cutP es := by
        unfold cutP
        rcases Nat.lt_or_ge k 40 with h | h
        · rw [List.take_of_length_le (i := k) (by omega), List.take_of_length_le (i := 40) (by omega)]
        · have : k = 40 := by omega
          rw [this]
      rw [ec] at HL
      clear ec
      by_cases hkn1 : k < n
      · have hk1 : ¬ k < 40 := by omega
        go_wp2_with fail
        have h3 := heapN wr (.cells #[.int .u8 101, .int .u8 110, .int .u8 100] 5 (3, 4)) _ rfl
        have hI3 : In8 (wr.alloc (.cells #[.int .u8 101, .int .u8 110, .int .u8 100] 5 (3, 4))) (some ⟨wr.heap.size, 0, none⟩) 3 3 END := in8_lit _ _ _ _ END END_bytes (by simp [END]) h3
        have b3 : Below wr.heap.size wr (wr.alloc (.cells #[.int .u8 101, .int .u8 110, .int .u8 100] 5 (3, 4))) := (Below.refl _ _).alloc (Nat.le_refl _) _
        have hL3 := HL.out.below b3
        refine (append_any _ w'.heap.size g ev (key.take 100) _ _ 3 3 END hL3 hI3 (by omega) (by rw [el]; omega)).mono ?_
        rintro e w3 ⟨ev', rfl, hL4, hk4⟩
        rw [el]
        have B3 : Below w'.heap.size w' w3 := hk4.below (fun j hj => by
          rcases hj with hj | hj
          · rw [hj]; exact hL3.base
          · exact (hL3.rowlt j hj).1) (Nat.le_trans hb.size b3.size) (hb.trans (b3.mono hb.size))
        have HL4 : Hid (LogAt w3 w'.heap.size g ev' (key.take 100) (madeP es)) := hL4
        have hML : (madeP es).length = k + 1 := by rw [madeP, List.length_append, el]; rfl
        clear hL4 hk4 hL3 hI3 h3 b3 hcv HL hb
        go_wp2_with fail
        refine (logHead_any w3 g (key.take 100) (madeP es) (hT.below B3) HL4.out.read).mono ?_
        rintro e w4 ⟨rfl, b4⟩
        have B4 : Below w'.heap.size w' w4 := B3.trans (b4.mono B3.size)
        have HL5 : Hid (LogAt w4 w'.heap.size g ev' (key.take 100) (madeP es)) := HL4.out.below b4
        obtain ⟨hRl, hRb⟩ := rootP_ok (madeP es)
        have hTl := signP_len (key.take 100) (madeP es).length (rootP (madeP es))
        have hTb := signP_bytes (key.take 100) (madeP es).length (rootP (madeP es))
        have HS1 : Hid (signedP (key.take 100) (madeP es).length (rootP (madeP es)) (signP (key.take 100) (madeP es).length (rootP (madeP es))) = true) := by
          show _ = _
          unfold signedP; rw [if_pos (by omega)]; simp
        unfold headP
        generalize rootP (madeP es) = R at *
        rw [hML] at hTl hTb HS1 ⊢
        generalize signP (key.take 100) ((k + 1 : Nat) : Int) R = T at *
        have hC := headCells_size ((k + 1 : Nat) : Int) R T hRl hTl
        have h1 := head_one ((k + 1 : Nat) : Int) R T
        have h5 := heapN w4 (.cells (headCells 0 Z32 Z32) 42) _ rfl
        have hs4 := B4.size
        clear b4 HL4 B3
        go_wp2_with (first
          | (with_reducible refine atStore 42 ?_
             refine store_H rfl _ _ rfl w4.heap.size (headCells ((k + 1 : Nat) : Int) R T) (headCells 0 Z32 Z32) rfl rfl h5 hC zeroHead h1 ?_
             intro U hU
             refine hideGoal ?_))
        have hU0 := hU.here
        have BU : Below w'.heap.size w' U := hU.below _ _ hs4 (B4.alloc hs4 _)
        have bU : Below w4.heap.size w4 U := hU.below _ _ (Nat.le_refl _) ((Below.refl _ _).alloc (Nat.le_refl _) _)
        have HL6 : Hid (LogAt U w'.heap.size g ev' (key.take 100) (madeP es)) := HL5.out.below bU
        clear hU h5 HL5 bU B4 h1
        generalize w4.heap.size = gh at *
        refine openGoal ?_
        go_wp2_with fail
        refine wp_region_noPanic ?_
        refine wp_region_held (S := fun W => W.heap[gh]? = some (.cells (headCells ((k + 1 : Nat) : Int) R T) 42)) follows ?_
        have hUd : U.drew.heap[gh]? = some (.cells (headCells ((k + 1 : Nat) : Int) R T) 42) := hU0
        refine wpAnyH_take (i := 0) (v := .slice kp kn kc) rfl (by kernel_rfl) (by kernel_rfl) (by kernel_rfl) (fun _ _ _ h => h) (.inl ⟨rfl, fun W _ => by go_simp⟩) hUd ?_
        simp only [Act.put, List.getElem_toArray, List.getElem_cons_zero, List.getElem_cons_succ, List.setIfInBounds_toArray, List.set_cons_zero, List.set_cons_succ]
        refine wpAnyH_take (i := 2) (v := .agg (headCells ((k + 1 : Nat) : Int) R T)) rfl (by kernel_rfl) (by kernel_rfl) (by kernel_rfl) (fun _ _ _ h => h) (yields_H rfl (.tmp 14) rfl gh rfl _ hC (fun W hW => hW)) hUd ?_
        simp only [Act.put, List.getElem_toArray, List.getElem_cons_zero, List.getElem_cons_succ, List.setIfInBounds_toArray, List.set_cons_zero, List.set_cons_succ]
        refine relist #[true, false, true, false, false] (by kernel_rfl) ?_
        refine any_one (i := 1) (by kernel_rfl) ?_
        refine wpOp_call (f := 52) (args := #[.slice kp kn kc, .int .i64 100]) rfl rfl (by go_simp) ?_
        have BD : Below w'.heap.size w' U.drew := BU.drew
        refine (short_any _ kp kn kc 100 key (hk.below BD) (by omega)).mono ?_
        rintro e V ⟨r, rfl, hr5, hI5, rfl⟩
        refine ⟨_, rfl, hUd, ?_⟩
        simp only [Act.put, List.getElem_toArray, List.getElem_cons_zero, List.getElem_cons_succ, List.setIfInBounds_toArray, List.set_cons_zero, List.set_cons_succ]
        refine relist #[true, true, true, false, false] (by kernel_rfl) ?_
        refine any_one (i := 3) (by kernel_rfl) ?_
        refine wpOp_call (f := 28) (args := #[.slice kp r kc, .agg (headCells ((k + 1 : Nat) : Int) R T)]) rfl rfl (by go_simp) ?_
        refine (signed_any _ (hT.below BD) kp r kc (key.take 100) hI5 ((k + 1 : Nat) : Int) (by omega) R T hRl hRb hTl hTb).mono ?_
        rintro e V ⟨rfl, b7⟩
        have hL0 : LogAt U.drew w'.heap.size g ev' (key.take 100) (madeP es) := HL6.out.below (Below.refl _ _).drew
        have HL7 : Hid (LogAt V w'.heap.size g ev' (key.take 100) (madeP es)) := hL0.below b7
        have hV0 : V.heap[gh]? = some (.cells (headCells ((k + 1 : Nat) : Int) R T) 42) := (b7.block gh (row_lt hUd)).trans hUd
        have BV : Hid (Below w'.heap.size w' V) := BD.trans (b7.mono BD.size)
        rw [HS1.out]
        refine ⟨_, rfl, hV0, ?_⟩
        simp only [Act.put, List.getElem_toArray, List.getElem_cons_zero, List.getElem_cons_succ, List.setIfInBounds_toArray, List.set_cons_zero, List.set_cons_succ]
        refine wpAnyH_take (i := 4) (v := .bool true) rfl (by kernel_rfl) (by kernel_rfl) (by kernel_rfl) (fun _ _ _ h => h) (.inl ⟨rfl, fun W _ => by go_simp⟩) hV0 ?_
        simp only [Act.put, List.getElem_toArray, List.getElem_cons_zero, List.getElem_cons_succ, List.setIfInBounds_toArray, List.set_cons_zero, List.set_cons_succ]
        refine wpAnyH_done (by kernel_rfl) ?_ _
        refine NoPanic.normal ?_
        have hc0 : V.cell? ⟨gh, 0, none⟩ = some (.int .i64 ((k + 1 : Nat) : Int)) := by rw [cell_of_row _ _ _ _ _ _ hV0]; rfl
        clear hV0 hUd hU0 BD BU HL6 hL0 b7 hI5 HS1 hC hTb
        go_wp2_with fail
        go_ret2
        exact ⟨g, ev', by rw [hML]; rfl, HL7.out, BV.out⟩
      · have hk1 : ¬ k < n := hkn1
        go_wp2_with fail
        have h3 := heapN wr (.cells #[.int .u8 101, .int .u8 110, .int .u8 100] 5 (3, 4)) _ rfl
        have hI3 : In8 (wr.alloc (.cells #[.int .u8 101, .int .u8 110, .int .u8 100] 5 (3, 4))) (some ⟨wr.heap.size, 0, none⟩) 3 3 END := in8_lit _ _ _ _ END END_bytes (by simp [END]) h3
        have b3 : Below wr.heap.size wr (wr.alloc (.cells #[.int .u8 101, .int .u8 110, .int .u8 100] 5 (3, 4))) := (Below.refl _ _).alloc (Nat.le_refl _) _
        have hL3 := HL.out.below b3
        refine (append_any _ w'.heap.size g ev (key.take 100) _ _ 3 3 END hL3 hI3 (by omega) (by rw [el]; omega)).mono ?_
        rintro e w3 ⟨ev', rfl, hL4, hk4⟩
        rw [el]
        have B3 : Below w'.heap.size w' w3 := hk4.below (fun j hj => by
          rcases hj with hj | hj
          · rw [hj]; exact hL3.base
          · exact (hL3.rowlt j hj).1) (Nat.le_trans hb.size b3.size) (hb.trans (b3.mono hb.size))
        have HL4 : Hid (LogAt w3 w'.heap.size g ev' (key.take 100) (madeP es)) := hL4
        have hML : (madeP es).length = k + 1 := by rw [madeP, List.length_append, el]; rfl
        clear hL4 hk4 hL3 hI3 h3 b3 hcv HL hb
        go_wp2_with fail
        refine (logHead_any w3 g (key.take 100) (madeP es) (hT.below B3) HL4.out.read).mono ?_
        rintro e w4 ⟨rfl, b4⟩
        have B4 : Below w'.heap.size w' w4 := B3.trans (b4.mono B3.size)
        have HL5 : Hid (LogAt w4 w'.heap.size g ev' (key.take 100) (madeP es)) := HL4.out.below b4
        obtain ⟨hRl, hRb⟩ := rootP_ok (madeP es)
        have hTl := signP_len (key.take 100) (madeP es).length (rootP (madeP es))
        have hTb := signP_bytes (key.take 100) (madeP es).length (rootP (madeP es))
        have HS1 : Hid (signedP (key.take 100) (madeP es).length (rootP (madeP es)) (signP (key.take 100) (madeP es).length (rootP (madeP es))) = true) := by
          show _ = _
          unfold signedP; rw [if_pos (by omega)]; simp
        unfold headP
        generalize rootP (madeP es) = R at *
        rw [hML] at hTl hTb HS1 ⊢
        generalize signP (key.take 100) ((k + 1 : Nat) : Int) R = T at *
        have hC := headCells_size ((k + 1 : Nat) : Int) R T hRl hTl
        have h1 := head_one ((k + 1 : Nat) : Int) R T
        have h5 := heapN w4 (.cells (headCells 0 Z32 Z32) 42) _ rfl
        have hs4 := B4.size
        clear b4 HL4 B3
        go_wp2_with (first
          | (with_reducible refine atStore 42 ?_
             refine store_H rfl _ _ rfl w4.heap.size (headCells ((k + 1 : Nat) : Int) R T) (headCells 0 Z32 Z32) rfl rfl h5 hC zeroHead h1 ?_
             intro U hU
             refine hideGoal ?_))
        have hU0 := hU.here
        have BU : Below w'.heap.size w' U := hU.below _ _ hs4 (B4.alloc hs4 _)
        have bU : Below w4.heap.size w4 U := hU.below _ _ (Nat.le_refl _) ((Below.refl _ _).alloc (Nat.le_refl _) _)
        have HL6 : Hid (LogAt U w'.heap.size g ev' (key.take 100) (madeP es)) := HL5.out.below bU
        clear hU h5 HL5 bU B4 h1
        generalize w4.heap.size = gh at *
        refine openGoal ?_
        go_wp2_with fail
        refine wp_region_noPanic ?_
        refine wp_region_held (S := fun W => W.heap[gh]? = some (.cells (headCells ((k + 1 : Nat) : Int) R T) 42)) follows ?_
        have hUd : U.drew.heap[gh]? = some (.cells (headCells ((k + 1 : Nat) : Int) R T) 42) := hU0
        refine wpAnyH_take (i := 0) (v := .slice kp kn kc) rfl (by kernel_rfl) (by kernel_rfl) (by kernel_rfl) (fun _ _ _ h => h) (.inl ⟨rfl, fun W _ => by go_simp⟩) hUd ?_
        simp only [Act.put, List.getElem_toArray, List.getElem_cons_zero, List.getElem_cons_succ, List.setIfInBounds_toArray, List.set_cons_zero, List.set_cons_succ]
        refine wpAnyH_take (i := 2) (v := .agg (headCells ((k + 1 : Nat) : Int) R T)) rfl (by kernel_rfl) (by kernel_rfl) (by kernel_rfl) (fun _ _ _ h => h) (yields_H rfl (.tmp 14) rfl gh rfl _ hC (fun W hW => hW)) hUd ?_
        simp only [Act.put, List.getElem_toArray, List.getElem_cons_zero, List.getElem_cons_succ, List.setIfInBounds_toArray, List.set_cons_zero, List.set_cons_succ]
        refine relist #[true, false, true, false, false] (by kernel_rfl) ?_
        refine any_one (i := 1) (by kernel_rfl) ?_
        refine wpOp_call (f := 52) (args := #[.slice kp kn kc, .int .i64 100]) rfl rfl (by go_simp) ?_
        have BD : Below w'.heap.size w' U.drew := BU.drew
        refine (short_any _ kp kn kc 100 key (hk.below BD) (by omega)).mono ?_
        rintro e V ⟨r, rfl, hr5, hI5, rfl⟩
        refine ⟨_, rfl, hUd, ?_⟩
        simp only [Act.put, List.getElem_toArray, List.getElem_cons_zero, List.getElem_cons_succ, List.setIfInBounds_toArray, List.set_cons_zero, List.set_cons_succ]
        refine relist #[true, true, true, false, false] (by kernel_rfl) ?_
        refine any_one (i := 3) (by kernel_rfl) ?_
        refine wpOp_call (f := 28) (args := #[.slice kp r kc, .agg (headCells ((k + 1 : Nat) : Int) R T)]) rfl rfl (by go_simp) ?_
        refine (signed_any _ (hT.below BD) kp r kc (key.take 100) hI5 ((k + 1 : Nat) : Int) (by omega) R T hRl hRb hTl hTb).mono ?_
        rintro e V ⟨rfl, b7⟩
        have hL0 : LogAt U.drew w'.heap.size g ev' (key.take 100) (madeP es) := HL6.out.below (Below.refl _ _).drew
        have HL7 : Hid (LogAt V w'.heap.size g ev' (key.take 100) (madeP es)) := hL0.below b7
        have hV0 : V.heap[gh]? = some (.cells (headCells ((k + 1 : Nat) : Int) R T) 42) := (b7.block gh (row_lt hUd)).trans hUd
        have BV : Hid (Below w'.heap.size w' V) := BD.trans (b7.mono BD.size)
        rw [HS1.out]
        refine ⟨_, rfl, hV0, ?_⟩
        simp only [Act.put, List.getElem_toArray, List.getElem_cons_zero, List.getElem_cons_succ, List.setIfInBounds_toArray, List.set_cons_zero, List.set_cons_succ]
        refine wpAnyH_take (i := 4) (v := .bool true) rfl (by kernel_rfl) (by kernel_rfl) (by kernel_rfl) (fun _ _ _ h => h) (.inl ⟨rfl, fun W _ => by go_simp⟩) hV0 ?_
        simp only [Act.put, List.getElem_toArray, List.getElem_cons_zero, List.getElem_cons_succ, List.setIfInBounds_toArray, List.set_cons_zero, List.set_cons_succ]
        refine wpAnyH_done (by kernel_rfl) ?_ _
        refine NoPanic.normal ?_
        have hc0 : V.cell? ⟨gh, 0, none⟩ = some (.int .i64 ((k + 1 : Nat) : Int)) := by rw [cell_of_row _ _ _ _ _ _ hV0]; rfl
        clear hV0 hUd hU0 BD BU HL6 hL0 b7 hI5 HS1 hC hTb
        go_wp2_with fail
        go_ret2
        exact ⟨g, ev', by rw [hML]; rfl, HL7.out, BV.out⟩
end Go.Proofs.YtcmjlhcpoajbkaaDoor
