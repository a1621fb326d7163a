import Derived.Test.YtcmjlhcpoajbkaaDoorQAv
import Derived.Test.YtcmjlhcpoajbkaaDoorQHh
import Derived.Test.YtcmjlhcpoajbkaaDoorQEs
import Derived.Test.YtcmjlhcpoajbkaaDoorQCat
import Derived.Shelf.Strings.Builder1
namespace Go.Proofs.YtcmjlhcpoajbkaaDoor
set_option maxRecDepth 10000
set_option linter.unusedSimpArgs false
open Go.RowKit
theorem bslice_more (ad : Addr) (n c k : Nat) (hn : n ≤ c) (hk : k ≤ n) (W : World) :
    (Instr.sliceAt 22 (.slice (some ad) n c) none (some (.int .i64 (k : Int))) none).run Tryd.prog W = .ok (.slice (some ad) k c) W := by
  have h1 : (k : Int) ≤ c := by omega
  have h2 : ¬ (k : Int) < 0 := by omega
  go_simp
theorem Bytes.take {xs : List Int} (h : Bytes xs) (k : Nat) : Bytes (xs.take k) := fun j => by
  by_cases hj : j < k
  · have e : (xs.take k).getD j 0 = xs.getD j 0 := by simp only [List.getD, List.getElem?_take, if_pos hj]
    rw [e]; exact h j
  · have e : (xs.take k).getD j 0 = 0 := by simp only [List.getD, List.getElem?_take, if_neg hj, Option.getD_none]
    rw [e]; omega
theorem In8.take {w : World} {p : Option Addr} {n c : Nat} {xs : List Int} (h : In8 w p n c xs) (k : Nat) (hk : k ≤ n) : In8 w p k c (xs.take k) :=
  ⟨by rw [List.length_take, h.len]; omega, Bytes.take h.bytes k, Nat.le_trans hk h.fits, h.room, Nat.le_trans hk h.small, fun h0 => by
    have hl := h.len
    rw [List.length_take] at h0
    obtain ⟨b, o, hp, hb, hc⟩ := h.lies (by omega)
    refine ⟨b, o, hp, hb, fun j hj => ?_⟩
    rw [List.length_take] at hj
    have e : (xs.take k).getD j 0 = xs.getD j 0 := by simp only [List.getD, List.getElem?_take, if_pos (show j < k by omega)]
    rw [e]; exact hc j (by omega)⟩
set_option maxHeartbeats 1000000 in
theorem short_any (w : World) (p : Option Addr) (n c k : Nat) (xs : List Int) (hi : In8 w p n c xs) (hk : k ≤ 1000) :
    Calls Tryd.prog 52 #[.slice p n c, .int .i64 (k : Int)] w fun e w' => ∃ m, e = .returned (.slice p m c) ∧ m ≤ k ∧ In8 w p m c (xs.take k) ∧ w' = w := by
  have hl := hi.len
  have hf := hi.fits
  have hr := hi.room
  by_cases h : k < n
  · obtain ⟨b, o, hp, _, _⟩ := hi.lies (by omega)
    have HI := hi.take k (by omega)
    have HK : Hid (In8 w p k c (xs.take k)) := HI
    subst hp
    have hs : ∀ W : World, (Instr.sliceAt 22 (.slice (some ⟨b, o, none⟩) n c) none (some (.int .i64 (k : Int))) none).run Tryd.prog W = .ok (.slice (some ⟨b, o, none⟩) k c) W := fun W => bslice_more _ n c k hf (by omega) W
    clear hi HI
    go_enter Tryd.func52, Tryd.ntmps52
    go_wp2_with fail
    go_ret
    exact ⟨k, rfl, by omega, HK.out, rfl⟩
  · have HK : Hid (In8 w p n c (xs.take k)) := by
      show In8 w p n c (xs.take k)
      rw [List.take_of_length_le (by omega)]; exact hi
    clear hi
    go_enter Tryd.func52, Tryd.ntmps52
    go_wp2_with fail
    go_ret
    exact ⟨n, rfl, by omega, HK.out, rfl⟩
set_option maxHeartbeats 1000000 in
theorem pick_any (w : World) (c n : Int) (h1 : -9223372036854775808 ≤ c) (h2 : c ≤ 9223372036854775807) (h3 : 0 < n) (h4 : n ≤ 9223372036854775807) :
    Calls Tryd.prog 44 #[.int .i64 c, .int .i64 n] w fun e w' => e = .returned (.int .i64 (pickP c n)) ∧ w' = w := by
  have hz : ¬ n = 0 := by omega
  by_cases h : c < 0
  · have e : pickP c n = -(c + 1).tmod n := by
      unfold pickP; rw [if_pos h, ← Int.neg_tmod, Int.tmod_eq_emod_of_nonneg (by omega)]
    have hlo := pickP_lo c n h3
    have hhi := pickP_hi c n h3
    rw [e] at hlo hhi ⊢
    go_enter Tryd.func44, Tryd.ntmps44
    go_wp2_with fail
    go_ret
    exact ⟨rfl, rfl⟩
  · have e : pickP c n = c % n := by
      unfold pickP; rw [if_neg h]
    have hlo := pickP_lo c n h3
    have hhi := pickP_hi c n h3
    rw [e] at hlo hhi ⊢
    go_enter Tryd.func44, Tryd.ntmps44
    go_wp2_with fail
    go_ret
    exact ⟨rfl, rfl⟩
/-- Entries as they are handed in: of any length. -/
structure EN (w : World) (p : Option Addr) (n cap : Nat) (es : List (List Int)) : Prop where
  len : es.length = n
  fits : n ≤ cap
  room : cap ≤ 9223372036854775807
  lies : 0 < n → ∃ b o, p = some ⟨b, o, none⟩ ∧ b < w.heap.size ∧ ∀ i, i < n → ∃ p' n' c', w.cell? ⟨b, o + i, none⟩ = some (.slice p' n' c') ∧ In8 w p' n' c' (es.getD i [])
theorem EN.below {w w' : World} {p : Option Addr} {n cap : Nat} {es : List (List Int)} (h : EN w p n cap es) (hb : Below w.heap.size w w') : EN w' p n cap es :=
  ⟨h.len, h.fits, h.room, fun h0 => by
    obtain ⟨b, o, hp, hl, hc⟩ := h.lies h0
    refine ⟨b, o, hp, Nat.lt_of_lt_of_le hl hb.size, fun i hi => ?_⟩
    obtain ⟨p', n', c', h1, h2⟩ := hc i hi
    exact ⟨p', n', c', by rw [hb.cell (block_lt_of_cell h1)]; exact h1, h2.below hb⟩⟩
def END : List Int := [101, 110, 100]
theorem END_bytes : Bytes END := .of fun x hx => by simp only [END, List.mem_cons, List.not_mem_nil, or_false] at hx; omega
/-- The entries of a log that was made, but the last one. -/
def cutP (es : List (List Int)) : List (List Int) := (es.take 40).map (·.take 300)
def madeP (es : List (List Int)) : List (List Int) := cutP es ++ [END]
theorem cutP_len (es : List (List Int)) : (cutP es).length = min 40 es.length := by simp [cutP]
theorem madeP_len (es : List (List Int)) : (madeP es).length = min 40 es.length + 1 := by simp [madeP, cutP]
theorem cut_step (es : List (List Int)) (k : Nat) (hk : k < es.length) : (es.take (k + 1)).map (·.take 300) = (es.take k).map (·.take 300) ++ [(es.getD k []).take 300] := by
  rw [List.take_add_one, List.map_append]
  congr 1
  simp [List.getD, List.getElem?_eq_getElem hk]
section
variable {ops : Array Oper} {rest : List Oper} {o : Oper} {a : Act} {w : World} {Q : Exit → Act → World → Prop} {S : World → Prop}
theorem store_H (hgd : o.guard = none) (x y : Operand) (ho : o.op = .store 42 x y) (g : Nat) (C C0 : Array Value) (hx : a.eval x = .pointer (some ⟨g, 0, none⟩)) (hy : a.eval y = .agg C) (h0 : w.heap[g]? = some (.cells C0 42))
    (hC : C.size = 65) (hC0 : C0.size = 65) (h1 : C.all (·.oneCell') = true) (h : ∀ W, Stored w W g C 42 → wpList Tryd.prog ops Q rest (a.put o.dst undef) W) : wpList Tryd.prog ops Q (o :: rest) a w :=
  wpList_store_W hgd 42 x y ho g C hx hy 42 C0 h0 (by rw [info42, hC]) (by rw [hC0, hC]) h1 h
theorem yields_H (hw : Region.wanted o (yielded ops a.tmps) = true) (x : Operand) (ho : o.op = .load 42 x) (g : Nat) (hx : a.eval x = .pointer (some ⟨g, 0, none⟩)) (C : Array Value) (hC : C.size = 65) (hS : ∀ w, S w → w.heap[g]? = some (.cells C 42)) : YieldsIf Tryd.prog ops S o (.agg C) a := by
  obtain ⟨fs, hfs⟩ := und42
  exact yieldsIf_rowG hw 42 x ho g hx 42 C (0, 0) (.struct fs) hS hfs rfl (by rw [info42, hC])
end
theorem eindex_at (b o n c k : Nat) (hk : k < n) (W : World) : (Instr.indexAt 47 (.slice (some ⟨b, o, none⟩) n c) (.int .i64 k)).run Tryd.prog W = .ok (.pointer (some ⟨b, o + k, none⟩)) W := by
  have h1 : (k : Int) < n := by omega
  go_simp
set_option maxHeartbeats 4000000 in
theorem made_any (w : World) (hT : Tabs KS HS w) (kp : Option Addr) (kn kc : Nat) (key : List Int) (hk : In8 w kp kn kc key) (p : Option Addr) (n c : Nat) (es : List (List Int)) (he : EN w p n c es) :
    Calls Tryd.prog 43 #[.slice kp kn kc, .slice p n c] w fun e w' => ∃ g ev, e = .returned (.tuple #[.pointer (some ⟨g, 0, none⟩), .int .i64 ((madeP es).length : Int)]) ∧ LogAt w' w.heap.size g ev (key.take 100) (madeP es) ∧ Below w.heap.size w w' := by
  have hn := he.len
  have hf := he.fits
  have hr := he.room
  have HE : Hid (EN w p n c es) := he
  clear he
  go_enter Tryd.func43, Tryd.ntmps43
  go_wp2_with fail
  refine (short_any w kp kn kc 100 key hk (by omega)).mono ?_
  rintro e w' ⟨m, rfl, hm, hk1, rfl⟩
  go_wp2_with fail
  refine (new_any w' kp m kc (key.take 100) hk1 hm).mono ?_
  rintro e w1 ⟨g, rfl, hL1, b1⟩
  have HL1 : Hid (LogAt w1 w'.heap.size g (.slice none 0 0) (key.take 100) []) := hL1
  clear hL1
  go_wp2_with fail
  go_loopw [8, 9] (fun v i wr => ∃ k : Nat, k ≤ n ∧ k ≤ 40 ∧ i = .int .i64 k ∧ v = .int .i64 k ∧ Below w'.heap.size w' wr ∧ ∃ ev, LogAt wr w'.heap.size g ev (key.take 100) ((es.take k).map (·.take 300))) (fun _ i _ => 40 - (intOf i).toNat)
  case atStart => exact ⟨0, by omega, by omega, rfl, rfl, b1, _, HL1.out⟩
  case round =>
    obtain ⟨k, hkn, hk40, rfl, rfl, hb, ev, hL⟩ := hrel
    have HL : Hid _ := hL
    clear hL HL1 b1
    by_cases hlt : k < n ∧ k < 40
    · obtain ⟨h1, h2⟩ := hlt
      obtain ⟨b, o, rfl, hbl, hc⟩ := (HE.out.below hb).lies (by omega)
      obtain ⟨q, qn, qc, hcell, hq⟩ := hc k h1
      have HQ : Hid (In8 wr q qn qc (es.getD k [])) := hq
      have hix : ∀ W : World, (Instr.indexAt 47 (.slice (some ⟨b, o, none⟩) n c) (.int .i64 k)).run Tryd.prog W = .ok (.pointer (some ⟨b, o + k, none⟩)) W := fun W => eindex_at b o n c k h1 W
      clear hc hq
      go_wp2_with fail
      refine (short_any wr q qn qc 300 _ HQ.out (by omega)).mono ?_
      rintro e w2 ⟨r, rfl, hr3, hq1, rfl⟩
      have HQ1 : Hid (In8 w2 q r qc ((es.getD k []).take 300)) := hq1
      have el : ((es.take k).map (·.take 300)).length = k := by simp; omega
      clear hq1
      go_wp2_with fail
      refine (append_any w2 w'.heap.size g ev (key.take 100) _ q r qc _ HL.out HQ1.out hr3 (by rw [el]; omega)).mono ?_
      rintro e w3 ⟨ev', rfl, hL3, hk3⟩
      rw [el]
      have B3 : Below w'.heap.size w' w3 := hk3.below (fun j hj => by
        rcases hj with hj | hj
        · rw [hj]; exact HL.out.base
        · exact (HL.out.rowlt j hj).1) hb.size hb
      have HL3 : Hid (LogAt w3 w'.heap.size g ev' (key.take 100) ((es.take (k + 1)).map (·.take 300))) := by
        show LogAt _ _ _ _ _ _
        rw [cut_step es k (by omega)]; exact hL3
      clear hL3 hk3 hb hcell hix
      go_wp2_with fail
      go_roundw
      case rel => exact ⟨k + 1, by omega, by omega, by go_num, by go_num, B3, ev', HL3.out⟩
      case measure => simp [intOf]; omega
    · have hcv := Lib.run_convert_bytes_const (P := Tryd.prog) wr 22 5 #[.int .u8 101, .int .u8 110, .int .u8 100] 3 3 Tryd.underlying22 Tryd.underlying5
      have el : (cutP es).length = k := by rw [cutP_len]; omega
      have ec : (es.take k).map (·.take 300) = cutP es := by
        unfold cutP
        rcases Nat.lt_or_ge k 40 with h | h
        · rw [List.take_of_length_le (i := k) (by omega), List.take_of_length_le (i := 40) (by omega)]
        · have : k = 40 := by omega
          rw [this]
      rw [ec] at HL
      clear ec
      by_cases hkn1 : k < n
      · have hk1 : ¬ k < 40 := by omega
        go_wp2_with fail
        have h3 := heapN wr (.cells #[.int .u8 101, .int .u8 110, .int .u8 100] 5 (3, 4)) _ rfl
        have hI3 : In8 (wr.alloc (.cells #[.int .u8 101, .int .u8 110, .int .u8 100] 5 (3, 4))) (some ⟨wr.heap.size, 0, none⟩) 3 3 END := in8_lit _ _ _ _ END END_bytes (by simp [END]) h3
        have b3 : Below wr.heap.size wr (wr.alloc (.cells #[.int .u8 101, .int .u8 110, .int .u8 100] 5 (3, 4))) := (Below.refl _ _).alloc (Nat.le_refl _) _
        have hL3 := HL.out.below b3
        refine (append_any _ w'.heap.size g ev (key.take 100) _ _ 3 3 END hL3 hI3 (by omega) (by rw [el]; omega)).mono ?_
        rintro e w3 ⟨ev', rfl, hL4, hk4⟩
        rw [el]
        have B3 : Below w'.heap.size w' w3 := hk4.below (fun j hj => by
          rcases hj with hj | hj
          · rw [hj]; exact hL3.base
          · exact (hL3.rowlt j hj).1) (Nat.le_trans hb.size b3.size) (hb.trans (b3.mono hb.size))
        have HL4 : Hid (LogAt w3 w'.heap.size g ev' (key.take 100) (madeP es)) := hL4
        have hML : (madeP es).length = k + 1 := by rw [madeP, List.length_append, el]; rfl
        clear hL4 hk4 hL3 hI3 h3 b3 hcv HL hb
        go_wp2_with fail
        refine (logHead_any w3 g (key.take 100) (madeP es) (hT.below B3) HL4.out.read).mono ?_
        rintro e w4 ⟨rfl, b4⟩
        have B4 : Below w'.heap.size w' w4 := B3.trans (b4.mono B3.size)
        have HL5 : Hid (LogAt w4 w'.heap.size g ev' (key.take 100) (madeP es)) := HL4.out.below b4
        obtain ⟨hRl, hRb⟩ := rootP_ok (madeP es)
        have hTl := signP_len (key.take 100) (madeP es).length (rootP (madeP es))
        have hTb := signP_bytes (key.take 100) (madeP es).length (rootP (madeP es))
        have HS1 : Hid (signedP (key.take 100) (madeP es).length (rootP (madeP es)) (signP (key.take 100) (madeP es).length (rootP (madeP es))) = true) := by
          show _ = _
          unfold signedP; rw [if_pos (by omega)]; simp
        unfold headP
        generalize rootP (madeP es) = R at *
        rw [hML] at hTl hTb HS1 ⊢
        generalize signP (key.take 100) ((k + 1 : Nat) : Int) R = T at *
        have hC := headCells_size ((k + 1 : Nat) : Int) R T hRl hTl
        have h1 := head_one ((k + 1 : Nat) : Int) R T
        have h5 := heapN w4 (.cells (headCells 0 Z32 Z32) 42) _ rfl
        have hs4 := B4.size
        clear b4 HL4 B3
        go_wp2_with (first
          | (with_reducible refine atStore 42 ?_
             refine store_H rfl _ _ rfl w4.heap.size (headCells ((k + 1 : Nat) : Int) R T) (headCells 0 Z32 Z32) rfl rfl h5 hC zeroHead h1 ?_
             intro U hU
             refine hideGoal ?_))
        have hU0 := hU.here
        have BU : Below w'.heap.size w' U := hU.below _ _ hs4 (B4.alloc hs4 _)
        have bU : Below w4.heap.size w4 U := hU.below _ _ (Nat.le_refl _) ((Below.refl _ _).alloc (Nat.le_refl _) _)
        have HL6 : Hid (LogAt U w'.heap.size g ev' (key.take 100) (madeP es)) := HL5.out.below bU
        clear hU h5 HL5 bU B4 h1
        generalize w4.heap.size = gh at *
        refine openGoal ?_
        go_wp2_with fail
        refine wp_region_noPanic ?_
        refine wp_region_held (S := fun W => W.heap[gh]? = some (.cells (headCells ((k + 1 : Nat) : Int) R T) 42)) follows ?_
        have hUd : U.drew.heap[gh]? = some (.cells (headCells ((k + 1 : Nat) : Int) R T) 42) := hU0
        refine wpAnyH_take (i := 0) (v := .slice kp kn kc) rfl (by kernel_rfl) (by kernel_rfl) (by kernel_rfl) (fun _ _ _ h => h) (.inl ⟨rfl, fun W _ => by go_simp⟩) hUd ?_
        simp only [Act.put, List.getElem_toArray, List.getElem_cons_zero, List.getElem_cons_succ, List.setIfInBounds_toArray, List.set_cons_zero, List.set_cons_succ]
        refine wpAnyH_take (i := 2) (v := .agg (headCells ((k + 1 : Nat) : Int) R T)) rfl (by kernel_rfl) (by kernel_rfl) (by kernel_rfl) (fun _ _ _ h => h) (yields_H rfl (.tmp 14) rfl gh rfl _ hC (fun W hW => hW)) hUd ?_
        simp only [Act.put, List.getElem_toArray, List.getElem_cons_zero, List.getElem_cons_succ, List.setIfInBounds_toArray, List.set_cons_zero, List.set_cons_succ]
        refine relist #[true, false, true, false, false] (by kernel_rfl) ?_
        refine any_one (i := 1) (by kernel_rfl) ?_
        refine wpOp_call (f := 52) (args := #[.slice kp kn kc, .int .i64 100]) rfl rfl (by go_simp) ?_
        have BD : Below w'.heap.size w' U.drew := BU.drew
        refine (short_any _ kp kn kc 100 key (hk.below BD) (by omega)).mono ?_
        rintro e V ⟨r, rfl, hr5, hI5, rfl⟩
        refine ⟨_, rfl, hUd, ?_⟩
        simp only [Act.put, List.getElem_toArray, List.getElem_cons_zero, List.getElem_cons_succ, List.setIfInBounds_toArray, List.set_cons_zero, List.set_cons_succ]
        refine relist #[true, true, true, false, false] (by kernel_rfl) ?_
        refine any_one (i := 3) (by kernel_rfl) ?_
        refine wpOp_call (f := 28) (args := #[.slice kp r kc, .agg (headCells ((k + 1 : Nat) : Int) R T)]) rfl rfl (by go_simp) ?_
        refine (signed_any _ (hT.below BD) kp r kc (key.take 100) hI5 ((k + 1 : Nat) : Int) (by omega) R T hRl hRb hTl hTb).mono ?_
        rintro e V ⟨rfl, b7⟩
        have hL0 : LogAt U.drew w'.heap.size g ev' (key.take 100) (madeP es) := HL6.out.below (Below.refl _ _).drew
        have HL7 : Hid (LogAt V w'.heap.size g ev' (key.take 100) (madeP es)) := hL0.below b7
        have hV0 : V.heap[gh]? = some (.cells (headCells ((k + 1 : Nat) : Int) R T) 42) := (b7.block gh (row_lt hUd)).trans hUd
        have BV : Hid (Below w'.heap.size w' V) := BD.trans (b7.mono BD.size)
        rw [HS1.out]
        refine ⟨_, rfl, hV0, ?_⟩
        simp only [Act.put, List.getElem_toArray, List.getElem_cons_zero, List.getElem_cons_succ, List.setIfInBounds_toArray, List.set_cons_zero, List.set_cons_succ]
        refine wpAnyH_take (i := 4) (v := .bool true) rfl (by kernel_rfl) (by kernel_rfl) (by kernel_rfl) (fun _ _ _ h => h) (.inl ⟨rfl, fun W _ => by go_simp⟩) hV0 ?_
        simp only [Act.put, List.getElem_toArray, List.getElem_cons_zero, List.getElem_cons_succ, List.setIfInBounds_toArray, List.set_cons_zero, List.set_cons_succ]
        refine wpAnyH_done (by kernel_rfl) ?_ _
        refine NoPanic.normal ?_
        have hc0 : V.cell? ⟨gh, 0, none⟩ = some (.int .i64 ((k + 1 : Nat) : Int)) := by rw [cell_of_row _ _ _ _ _ _ hV0]; rfl
        clear hV0 hUd hU0 BD BU HL6 hL0 b7 hI5 HS1 hC hTb
        go_wp2_with fail
        go_ret2
        exact ⟨g, ev', by rw [hML]; rfl, HL7.out, BV.out⟩
      · have hk1 : ¬ k < n := hkn1
        go_wp2_with fail
        have h3 := heapN wr (.cells #[.int .u8 101, .int .u8 110, .int .u8 100] 5 (3, 4)) _ rfl
        have hI3 : In8 (wr.alloc (.cells #[.int .u8 101, .int .u8 110, .int .u8 100] 5 (3, 4))) (some ⟨wr.heap.size, 0, none⟩) 3 3 END := in8_lit _ _ _ _ END END_bytes (by simp [END]) h3
        have b3 : Below wr.heap.size wr (wr.alloc (.cells #[.int .u8 101, .int .u8 110, .int .u8 100] 5 (3, 4))) := (Below.refl _ _).alloc (Nat.le_refl _) _
        have hL3 := HL.out.below b3
        refine (append_any _ w'.heap.size g ev (key.take 100) _ _ 3 3 END hL3 hI3 (by omega) (by rw [el]; omega)).mono ?_
        rintro e w3 ⟨ev', rfl, hL4, hk4⟩
        rw [el]
        have B3 : Below w'.heap.size w' w3 := hk4.below (fun j hj => by
          rcases hj with hj | hj
          · rw [hj]; exact hL3.base
          · exact (hL3.rowlt j hj).1) (Nat.le_trans hb.size b3.size) (hb.trans (b3.mono hb.size))
        have HL4 : Hid (LogAt w3 w'.heap.size g ev' (key.take 100) (madeP es)) := hL4
        have hML : (madeP es).length = k + 1 := by rw [madeP, List.length_append, el]; rfl
        clear hL4 hk4 hL3 hI3 h3 b3 hcv HL hb
        go_wp2_with fail
        refine (logHead_any w3 g (key.take 100) (madeP es) (hT.below B3) HL4.out.read).mono ?_
        rintro e w4 ⟨rfl, b4⟩
        have B4 : Below w'.heap.size w' w4 := B3.trans (b4.mono B3.size)
        have HL5 : Hid (LogAt w4 w'.heap.size g ev' (key.take 100) (madeP es)) := HL4.out.below b4
        obtain ⟨hRl, hRb⟩ := rootP_ok (madeP es)
        have hTl := signP_len (key.take 100) (madeP es).length (rootP (madeP es))
        have hTb := signP_bytes (key.take 100) (madeP es).length (rootP (madeP es))
        have HS1 : Hid (signedP (key.take 100) (madeP es).length (rootP (madeP es)) (signP (key.take 100) (madeP es).length (rootP (madeP es))) = true) := by
          show _ = _
          unfold signedP; rw [if_pos (by omega)]; simp
        unfold headP
        generalize rootP (madeP es) = R at *
        rw [hML] at hTl hTb HS1 ⊢
        generalize signP (key.take 100) ((k + 1 : Nat) : Int) R = T at *
        have hC := headCells_size ((k + 1 : Nat) : Int) R T hRl hTl
        have h1 := head_one ((k + 1 : Nat) : Int) R T
        have h5 := heapN w4 (.cells (headCells 0 Z32 Z32) 42) _ rfl
        have hs4 := B4.size
        clear b4 HL4 B3
        go_wp2_with (first
          | (with_reducible refine atStore 42 ?_
             refine store_H rfl _ _ rfl w4.heap.size (headCells ((k + 1 : Nat) : Int) R T) (headCells 0 Z32 Z32) rfl rfl h5 hC zeroHead h1 ?_
             intro U hU
             refine hideGoal ?_))
        have hU0 := hU.here
        have BU : Below w'.heap.size w' U := hU.below _ _ hs4 (B4.alloc hs4 _)
        have bU : Below w4.heap.size w4 U := hU.below _ _ (Nat.le_refl _) ((Below.refl _ _).alloc (Nat.le_refl _) _)
        have HL6 : Hid (LogAt U w'.heap.size g ev' (key.take 100) (madeP es)) := HL5.out.below bU
        clear hU h5 HL5 bU B4 h1
        generalize w4.heap.size = gh at *
        refine openGoal ?_
        go_wp2_with fail
        refine wp_region_noPanic ?_
        refine wp_region_held (S := fun W => W.heap[gh]? = some (.cells (headCells ((k + 1 : Nat) : Int) R T) 42)) follows ?_
        have hUd : U.drew.heap[gh]? = some (.cells (headCells ((k + 1 : Nat) : Int) R T) 42) := hU0
        refine wpAnyH_take (i := 0) (v := .slice kp kn kc) rfl (by kernel_rfl) (by kernel_rfl) (by kernel_rfl) (fun _ _ _ h => h) (.inl ⟨rfl, fun W _ => by go_simp⟩) hUd ?_
        simp only [Act.put, List.getElem_toArray, List.getElem_cons_zero, List.getElem_cons_succ, List.setIfInBounds_toArray, List.set_cons_zero, List.set_cons_succ]
        refine wpAnyH_take (i := 2) (v := .agg (headCells ((k + 1 : Nat) : Int) R T)) rfl (by kernel_rfl) (by kernel_rfl) (by kernel_rfl) (fun _ _ _ h => h) (yields_H rfl (.tmp 14) rfl gh rfl _ hC (fun W hW => hW)) hUd ?_
        simp only [Act.put, List.getElem_toArray, List.getElem_cons_zero, List.getElem_cons_succ, List.setIfInBounds_toArray, List.set_cons_zero, List.set_cons_succ]
        refine relist #[true, false, true, false, false] (by kernel_rfl) ?_
        refine any_one (i := 1) (by kernel_rfl) ?_
        refine wpOp_call (f := 52) (args := #[.slice kp kn kc, .int .i64 100]) rfl rfl (by go_simp) ?_
        have BD : Below w'.heap.size w' U.drew := BU.drew
        refine (short_any _ kp kn kc 100 key (hk.below BD) (by omega)).mono ?_
        rintro e V ⟨r, rfl, hr5, hI5, rfl⟩
        refine ⟨_, rfl, hUd, ?_⟩
        simp only [Act.put, List.getElem_toArray, List.getElem_cons_zero, List.getElem_cons_succ, List.setIfInBounds_toArray, List.set_cons_zero, List.set_cons_succ]
        refine relist #[true, true, true, false, false] (by kernel_rfl) ?_
        refine any_one (i := 3) (by kernel_rfl) ?_
        refine wpOp_call (f := 28) (args := #[.slice kp r kc, .agg (headCells ((k + 1 : Nat) : Int) R T)]) rfl rfl (by go_simp) ?_
        refine (signed_any _ (hT.below BD) kp r kc (key.take 100) hI5 ((k + 1 : Nat) : Int) (by omega) R T hRl hRb hTl hTb).mono ?_
        rintro e V ⟨rfl, b7⟩
        have hL0 : LogAt U.drew w'.heap.size g ev' (key.take 100) (madeP es) := HL6.out.below (Below.refl _ _).drew
        have HL7 : Hid (LogAt V w'.heap.size g ev' (key.take 100) (madeP es)) := hL0.below b7
        have hV0 : V.heap[gh]? = some (.cells (headCells ((k + 1 : Nat) : Int) R T) 42) := (b7.block gh (row_lt hUd)).trans hUd
        have BV : Hid (Below w'.heap.size w' V) := BD.trans (b7.mono BD.size)
        rw [HS1.out]
        refine ⟨_, rfl, hV0, ?_⟩
        simp only [Act.put, List.getElem_toArray, List.getElem_cons_zero, List.getElem_cons_succ, List.setIfInBounds_toArray, List.set_cons_zero, List.set_cons_succ]
        refine wpAnyH_take (i := 4) (v := .bool true) rfl (by kernel_rfl) (by kernel_rfl) (by kernel_rfl) (fun _ _ _ h => h) (.inl ⟨rfl, fun W _ => by go_simp⟩) hV0 ?_
        simp only [Act.put, List.getElem_toArray, List.getElem_cons_zero, List.getElem_cons_succ, List.setIfInBounds_toArray, List.set_cons_zero, List.set_cons_succ]
        refine wpAnyH_done (by kernel_rfl) ?_ _
        refine NoPanic.normal ?_
        have hc0 : V.cell? ⟨gh, 0, none⟩ = some (.int .i64 ((k + 1 : Nat) : Int)) := by rw [cell_of_row _ _ _ _ _ _ hV0]; rfl
        clear hV0 hUd hU0 BD BU HL6 hL0 b7 hI5 HS1 hC hTb
        go_wp2_with fail
        go_ret2
        exact ⟨g, ev', by rw [hML]; rfl, HL7.out, BV.out⟩
end Go.Proofs.YtcmjlhcpoajbkaaDoor
namespace Go.Proofs.YtcmjlhcpoajbkaaDoor
set_option maxRecDepth 10000
set_option linter.unusedSimpArgs false
open Go.RowKit
theorem in8_nil (w : World) : In8 w none 0 0 [] := ⟨rfl, fun j => by simp, by omega, by omega, by omega, fun h => by simp at h⟩
end Go.Proofs.YtcmjlhcpoajbkaaDoor
namespace Go.Proofs.YtcmjlhcpoajbkaaDoor
set_option maxRecDepth 100000
open Go.ChangeShapes Go.WideShapes Go.ChangeAt Go.RowKit
theorem cells22 : Tryd.prog.cellsOf 22 = 1 := by kernel_rfl
theorem spot_of {w : World} {a : Addr} {v : Value} (h : w.cell? (a.add 0) = some v) : a = ⟨a.block, a.off, none⟩ := by
  cases a with
  | mk b o s =>
    cases s with
    | none => rfl
    | some s =>
      unfold Addr.add World.cell? at h
      split at h <;> simp at h
/-- Bytes that were read, as the walk takes them. -/
theorem in8_of {H : Type} {enc : TypeId × Value → H} {W : World} {fuel : Nat} {v : Value} {d : DataW H} {pl : List MemPlace}
    (hf : DataW.trod enc Tryd.prog W 0 (fun _ => true) true fuel 22 [v] = some (d, pl)) (hsz : ∀ n ∈ d.weights Tryd.prog 22, n ≤ reachBytes) : ∃ p n c xs, v = .slice p n c ∧ In8 W p n c xs := by
  rcases open_ints Tryd.underlying22 Tryd.underlying5 (by kernel_rfl) hf with ⟨hcs, _⟩ | ⟨x, l, c, zs, hcs, _, hl, hm, hz, hx, hcell, hwz⟩
  · simp at hcs
    exact ⟨none, 0, 0, [], hcs, in8_nil W⟩
  · simp at hcs
    have hz' : zs.length = c := by simpa using hz
    simp only [Prod.mk.injEq] at hx
    have hs : (l + (c - l)) * Tryd.prog.bytesOf 5 ≤ reachBytes := by
      refine hsz _ ?_
      rw [hx.1]
      simp only [DataW.weights, Tryd.underlying22, lits, List.length_map, List.length_take, List.length_drop, hz', Nat.min_eq_left hl]
      exact List.mem_cons_self
    rw [bytes5] at hs
    simp only [reachBytes] at hs
    refine ⟨some x, l, c, zs.take l, hcs, ⟨by rw [List.length_take]; omega, Bytes.of fun y hy => ?_, hl, by unfold maxLen at hm; omega, by omega, fun h0 => ?_⟩⟩
    · have := bounds_u8 (hwz y (List.mem_of_mem_take hy))
      omega
    · rw [List.length_take] at h0
      have e0 := spot_of (hcell 0 (by omega))
      refine ⟨x.block, x.off, by rw [← e0], ?_, fun j hj => ?_⟩
      · have := block_lt_of_cell (hcell 0 (by omega))
        rwa [addr_block] at this
      · rw [List.length_take] at hj
        have e1 := hcell j (by omega)
        rw [e0, addr_add] at e1
        rw [e1, List.getD_eq_getElem?_getD, List.getD_eq_getElem?_getD, List.getElem?_take, if_pos (by omega)]
theorem weights_all {H : Type} {P : Program} {e : TypeId} : ∀ {l : List (DataW H)} {d : DataW H}, d ∈ l → ∀ n ∈ d.weights P e, n ∈ DataW.weightsAll P e l
  | x :: r, d, hd, n, hn => by
    rw [DataW.weightsAll, List.mem_append]
    rcases List.mem_cons.1 hd with h | h
    · subst h; exact .inl hn
    · exact .inr (weights_all h n hn)
/-- Entries that were read, as the walk takes them. -/
theorem earg_of {H : Type} {enc : TypeId × Value → H} {W : World} {v : Value} {d : DataW H} {p : List MemPlace} {ts : List TypeId} {ds : List (DataW H)} {base j : Nat}
    (hv : Value.okWide Tryd.prog W .any base 47 v) (h : DataW.Trod enc Tryd.prog W 0 (fun _ => true) true 47 v d p) (hsz : (DataW.weightsEach Tryd.prog ts ds).all (· ≤ reachBytes) = true)
    (ht : ts[j]? = some 47) (hd : ds[j]? = some d) : ∃ q n c es, v = .slice q n c ∧ EN W q n c es := by
  obtain ⟨a0, len0, cap0, rfl⟩ := okWide_slice Tryd.underlying47 hv
  obtain ⟨fuel, hf⟩ := h
  rcases Deep.open_slice Tryd.underlying47 hf with ⟨hcs, _⟩ | ⟨a, l, c, m, n, Df, Pl, hcs, _, hl, hm, hmm, hx, hcell⟩
  · simp [Value.cells] at hcs
    obtain ⟨rfl, rfl, rfl⟩ := hcs
    exact ⟨none, 0, 0, [], rfl, ⟨rfl, by omega, by omega, fun h => by omega⟩⟩
  · simp [Value.cells] at hcs
    obtain ⟨rfl, rfl, rfl⟩ := hcs
    simp only [Prod.mk.injEq] at hx
    simp only [if_true] at hmm
    subst hmm
    have key : ∀ i, i < len0 → ∃ z : (Option Addr × Nat × Nat) × List Int, W.cell? (a.add i) = some (.slice z.1.1 z.1.2.1 z.1.2.2) ∧ In8 W z.1.1 z.1.2.1 z.1.2.2 z.2 := fun i hi => by
      obtain ⟨cs', hc, ht'⟩ := hcell i (by omega)
      rw [cells22, Nat.mul_one] at hc
      have hc2 := World.cells?_some hc
      have e := hc2.2.2 0 (by omega)
      rw [Deep.add_add, Nat.add_zero] at e
      have hl1 : cs'.length = 1 := hc2.2.1
      match cs', hl1 with
      | [u], _ =>
        obtain ⟨q, n', c', xs, rfl, hI⟩ := in8_of ht' (fun k hk => by
          have hmem : k ∈ DataW.weightsEach Tryd.prog ts ds := DataW.weights_mem_each ht hd k (by
            rw [hx.1]
            simp only [DataW.weights, Tryd.underlying47]
            refine List.mem_cons_of_mem _ (List.mem_append.2 (.inl (weights_all (d := Df i) (List.mem_map.2 ⟨i, List.mem_range.2 hi, rfl⟩) k hk))))
          simpa using List.all_eq_true.1 hsz k hmem)
        exact ⟨((q, n', c'), xs), by rw [e]; rfl, hI⟩
    obtain ⟨f, hf⟩ := Deep.choose_lt (α := (Option Addr × Nat × Nat) × List Int) (p := fun i z => W.cell? (a.add i) = some (.slice z.1.1 z.1.2.1 z.1.2.2) ∧ In8 W z.1.1 z.1.2.1 z.1.2.2 z.2) key
    refine ⟨some a, len0, _, (List.range len0).map fun i => (f i).2, rfl, ⟨by simp, hl, by unfold maxLen at hm; omega, fun h0 => ?_⟩⟩
    have e0 := spot_of (hf 0 h0).1
    refine ⟨a.block, a.off, by rw [← e0], ?_, fun i hi => ?_⟩
    · have := block_lt_of_cell (hf 0 h0).1
      rwa [addr_block] at this
    · have e1 := (hf i hi).1
      rw [e0, addr_add] at e1
      refine ⟨_, _, _, e1, ?_⟩
      have e2 : ((List.range len0).map fun i => (f i).2).getD i [] = (f i).2 := by simp [List.getD_eq_getElem?_getD, hi]
      rw [e2]; exact (hf i hi).2
end Go.Proofs.YtcmjlhcpoajbkaaDoor
namespace Go.Proofs.YtcmjlhcpoajbkaaDoor
set_option maxRecDepth 100000
open Go.ChangeShapes Go.WideShapes Go.ChangeAt Go.RowKit
/-- Bytes that were read, as the walk takes them. -/
theorem in8_small {H : Type} {enc : TypeId × Value → H} {W : World} {fuel : Nat} {v : Value} {d : DataW H} {pl : List MemPlace}
    (hf : DataW.trod enc Tryd.prog W 0 (fun _ => true) true fuel 22 [v] = some (d, pl)) (hsz : ∀ n ∈ d.weights Tryd.prog 22, n ≤ reachBytes) : ∃ p n c xs, v = .slice p n c ∧ In8 W p n c xs ∧ n ≤ 140737488351232 := by
  rcases open_ints Tryd.underlying22 Tryd.underlying5 (by kernel_rfl) hf with ⟨hcs, _⟩ | ⟨x, l, c, zs, hcs, _, hl, hm, hz, hx, hcell, hwz⟩
  · simp at hcs
    exact ⟨none, 0, 0, [], hcs, in8_nil W, by omega⟩
  · simp at hcs
    have hz' : zs.length = c := by simpa using hz
    simp only [Prod.mk.injEq] at hx
    have hs : (l + (c - l)) * Tryd.prog.bytesOf 5 ≤ reachBytes := by
      refine hsz _ ?_
      rw [hx.1]
      simp only [DataW.weights, Tryd.underlying22, lits, List.length_map, List.length_take, List.length_drop, hz', Nat.min_eq_left hl]
      exact List.mem_cons_self
    rw [bytes5] at hs
    simp only [reachBytes] at hs
    refine ⟨some x, l, c, zs.take l, hcs, ⟨by rw [List.length_take]; omega, Bytes.of fun y hy => ?_, hl, by unfold maxLen at hm; omega, by omega, fun h0 => ?_⟩, by omega⟩
    · have := bounds_u8 (hwz y (List.mem_of_mem_take hy))
      omega
    · rw [List.length_take] at h0
      have e0 := spot_of (hcell 0 (by omega))
      refine ⟨x.block, x.off, by rw [← e0], ?_, fun j hj => ?_⟩
      · have := block_lt_of_cell (hcell 0 (by omega))
        rwa [addr_block] at this
      · rw [List.length_take] at hj
        have e1 := hcell j (by omega)
        rw [e0, addr_add] at e1
        rw [e1, List.getD_eq_getElem?_getD, List.getD_eq_getElem?_getD, List.getElem?_take, if_pos (by omega)]
theorem key_small {H : Type} {enc : TypeId × Value → H} {W : World} {v : Value} {d : DataW H} {p : List MemPlace} {ts : List TypeId} {ds : List (DataW H)} {base j : Nat}
    (hv : Value.okWide Tryd.prog W .any base 22 v) (h : DataW.Trod enc Tryd.prog W 0 (fun _ => true) true 22 v d p) (hsz : (DataW.weightsEach Tryd.prog ts ds).all (· ≤ reachBytes) = true)
    (ht : ts[j]? = some 22) (hd : ds[j]? = some d) : ∃ q n c xs, v = .slice q n c ∧ In8 W q n c xs ∧ n ≤ 140737488351232 := by
  obtain ⟨a0, len0, cap0, rfl⟩ := okWide_slice Tryd.underlying22 hv
  obtain ⟨fuel, hf⟩ := h
  exact in8_small hf (fun k hk => by simpa using List.all_eq_true.1 hsz k (DataW.weights_mem_each ht hd k hk))
end Go.Proofs.YtcmjlhcpoajbkaaDoor
namespace Go.Proofs.YtcmjlhcpoajbkaaDoor
set_option maxRecDepth 100000
set_option linter.unusedSimpArgs false
open Go.RowKit
/-- A builder: its own address (or none yet), its bytes in a row of one's own, beyond B. -/
structure Bld (w : World) (B g : Nat) (xs : List Int) : Prop where
  base : g < B
  size : B ≤ w.heap.size
  bytes : Bytes xs
  at_ : ∃ ad v, w.heap[g]? = some (.cells #[ad, v] 132) ∧ (ad = .pointer none ∨ ad = .pointer (some ⟨g, 0, none⟩)) ∧ w.ownsRow B 5 1 v xs.length (xs.map (Value.int .u8))
theorem sizeBld : ∃ j, Tryd.prog.info? 132 = some j ∧ j.size = 2 := ⟨_, rfl, by kernel_rfl⟩
theorem copyCheck_fresh (w : World) (g : Nat) (v : Value) (h : w.heap[g]? = some (.cells #[.pointer none, v] 132)) :
    Calls Tryd.prog 105 #[.pointer (some ⟨g, 0, none⟩)] w fun e w' => e = .returned (.tuple #[]) ∧ w' = w.setCell ⟨g, 0, none⟩ (.pointer (some ⟨g, 0, none⟩)) := by
  have hc : w.cell? ⟨g, 0, none⟩ = some (.pointer none) := by rw [cell_of_row _ _ _ _ _ _ h]; rfl
  have hf := frozen_of_row w g 0 _ _ h
  obtain ⟨j, hj, hjs⟩ := sizeBld
  have hsh : w.shape? g = some (132, 2) := by simp [World.shape?, h]
  have c1 : (convert 130 178 (.pointer (some ⟨g, 0, none⟩))).run Tryd.prog w = .ok (.pointer (some ⟨g, 0, none⟩)) w := Lib.run_to_unsafe w ⟨g, 0, none⟩ Tryd.underlying130 Tryd.underlying178 hj (by rw [hjs]; decide) hsh (Nat.zero_lt_succ 1)
  have c2 : (convert 178 130 (.pointer (some ⟨g, 0, none⟩))).run Tryd.prog w = .ok (.pointer (some ⟨g, 0, none⟩)) w := Lib.run_from_unsafe w ⟨g, 0, none⟩ Tryd.underlying178 Tryd.underlying130 hj hsh (by kernel_rfl)
  go_enter Tryd.func105, Tryd.ntmps105
  go_wp2_with fail
  rw [run_callFunc_extern Tryd.func122 (by kernel_rfl) (by kernel_rfl) (by kernel_rfl) (e := Extern.AbiNoEscape.same) (by kernel_rfl)]
  rw [Lib.run_noEscape]
  simp only [Result.andThen]
  rw [Oper.upon_value]
  go_wp2_with fail
  go_end0
  exact ⟨rfl, rfl⟩
theorem copyCheck_used (w : World) (g : Nat) (v : Value) (h : w.heap[g]? = some (.cells #[.pointer (some ⟨g, 0, none⟩), v] 132)) :
    Calls Tryd.prog 105 #[.pointer (some ⟨g, 0, none⟩)] w fun e w' => e = .returned (.tuple #[]) ∧ w' = w := by
  have hc : w.cell? ⟨g, 0, none⟩ = some (.pointer (some ⟨g, 0, none⟩)) := by rw [cell_of_row _ _ _ _ _ _ h]; rfl
  obtain ⟨j, hj, hjs⟩ := sizeBld
  go_enter Tryd.func105, Tryd.ntmps105
  go_wp2_with fail
  rw [Lib.run_neq_ptr_same w _ Tryd.underlying130 hj]
  go_wp2_with fail
  go_end0
  exact ⟨rfl, rfl⟩
/-- Nothing below B has changed but the block g. -/
def KpG (B g : Nat) (w w' : World) : Prop := Kp (fun k => k = g ∨ B ≤ k) w w'
theorem Bld.below {w w' : World} {B g : Nat} {xs : List Int} (h : Bld w B g xs) (hb : Below w.heap.size w w') : Bld w' B g xs := by
  obtain ⟨h1, h2, h3, ad, v, h4, h5, h6⟩ := h
  refine ⟨h1, Nat.le_trans h2 hb.size, h3, ad, v, (hb.block g (row_lt h4)).trans h4, h5, ?_⟩
  obtain ⟨e1, e2 | ⟨q, cap, cur, hv, hg, hh, r⟩⟩ := h6
  · exact ⟨e1, .inl e2⟩
  · exact ⟨e1, .inr ⟨q, cap, cur, hv, hg, (hb.block q (row_lt hh)).trans hh, r⟩⟩
theorem Bld.used {w : World} {B g : Nat} {xs : List Int} (h : Bld w B g xs) :
    Calls Tryd.prog 105 #[.pointer (some ⟨g, 0, none⟩)] w fun e w' => e = .returned (.tuple #[]) ∧ Kp (fun k => k = g) w w' ∧ B ≤ w'.heap.size ∧ ∃ v, w'.heap[g]? = some (.cells #[.pointer (some ⟨g, 0, none⟩), v] 132) ∧ w'.ownsRow B 5 1 v xs.length (xs.map (Value.int .u8)) := by
  obtain ⟨h1, h2, h3, ad, v, h4, h5 | h5, h6⟩ := h
  · subst h5
    refine (copyCheck_fresh w g v h4).mono ?_
    rintro e w' ⟨rfl, rfl⟩
    refine ⟨rfl, ⟨rfl, rfl, rfl, by simp [World.setCell], fun k hk hx => Below.heap_setCell _ _ _ _ (fun e => hx e)⟩, by simpa [World.setCell] using h2, v, ?_, ?_⟩
    · have := heap_setCell_same w g 0 _ _ (.pointer (some ⟨g, 0, none⟩)) h4
      simpa using this
    · obtain ⟨e1, e2 | ⟨q, cap, cur, hv, hg, hh, r⟩⟩ := h6
      · exact ⟨e1, .inl e2⟩
      · exact ⟨e1, .inr ⟨q, cap, cur, hv, hg, (Below.heap_setCell _ _ _ _ (by show q ≠ g; omega)).trans hh, r⟩⟩
  · subst h5
    refine (copyCheck_used w g v h4).mono ?_
    rintro e w' ⟨rfl, rfl⟩
    exact ⟨rfl, ⟨rfl, rfl, rfl, Nat.le_refl _, fun _ _ _ => rfl⟩, h2, v, h4, h6⟩
end Go.Proofs.YtcmjlhcpoajbkaaDoor
namespace Go.Proofs.YtcmjlhcpoajbkaaDoor
set_option maxRecDepth 100000
set_option linter.unusedSimpArgs false
open Go.RowKit
theorem two_cell1 {w : World} {g : Nat} {a v : Value} {t : TypeId} (h : w.heap[g]? = some (.cells #[a, v] t)) : w.cell? ⟨g, 1, none⟩ = some v := by rw [cell_of_row _ _ _ _ _ _ h]; rfl
/-- What append does to a row, of this many bytes more. -/
theorem app8_world (w : World) (B : Nat) (v : Value) (xs : List Int) (hown : w.ownsRow B 5 1 v xs.length (xs.map (Value.int .u8))) (hB : B ≤ w.heap.size) (p : Option Addr) (n c : Nat) (ys : List Int) (hi : In8 w p n c ys) (hlen : xs.length + n ≤ 1000000) :
    ∃ v' w', (Builtin.append_ #[22, 22] 22 #[v, .slice p n c]).run Tryd.prog w = .ok v' w' ∧ w'.ownsRow B 5 1 v' (xs ++ ys).length ((xs ++ ys).map (Value.int .u8)) ∧ w.heap.size ≤ w'.heap.size ∧ (∀ k, k < B → w'.heap[k]? = w.heap[k]?) ∧ w'.os = w.os ∧ w'.tape = w.tape ∧ w'.output = w.output ∧ (∃ q m d, v' = .slice q m d) := by
  have hl := hi.len
  obtain ⟨i5, hi5, hz, hsz, hby⟩ := info5'
  rcases Nat.eq_zero_or_pos n with h0 | h0
  · subst h0
    have : ys = [] := List.length_eq_zero_iff.1 hl
    subst this
    rw [List.append_nil]
    obtain ⟨q, cap, rfl, hf, _⟩ := owns_shape hown
    refine ⟨.slice q xs.length cap, w, ?_, hown, Nat.le_refl _, fun _ _ => rfl, rfl, rfl, rfl, _, _, _, rfl⟩
    rcases hown.2 with ⟨h, h'⟩ | ⟨g, cap', cur, h, _, _, hcc, _⟩
    · rw [h'] at h ⊢
      simp only [Value.slice.injEq] at h
      obtain ⟨rfl, _, rfl⟩ := h
      cases p <;> simp [Builtin.append_, run_underlying Tryd.underlying22, sizeOf, typeInfo, hi5, Builtin.lenOf, Builtin.firstCells, storeCells, loadCells, loadCellsFrom]
    · cases h
      cases p <;> simp [Builtin.append_, run_underlying Tryd.underlying22, sizeOf, typeInfo, hi5, Builtin.lenOf, Builtin.firstCells, storeCells, loadCells, loadCellsFrom, hf]
  · obtain ⟨gs, off, rfl, hgs, hcs⟩ := hi.lies (by omega)
    obtain ⟨ga, cap, w3, hr, ho3, hgr, hwh, hga⟩ := run_append_lies (P := Tryd.prog) w 22 22 B 5 i5 (.int .u8 0) 1 1 Tryd.underlying22 hi5 hz hsz hby rfl (by omega) v xs.length (xs.map (Value.int .u8)) hown
      ⟨gs, off, none⟩ n c (ys.map (Value.int .u8)) (by simp [hl]) (fun j u hu => by
        have hj : j < ys.length := by
          have := (List.getElem?_eq_some_iff.1 hu).1
          simpa using this
        rw [addr_add, hcs j hj]
        rw [List.getElem?_map, List.getElem?_eq_getElem hj] at hu
        simp only [Option.map_some, Option.some.injEq] at hu
        rw [← hu, List.getD_eq_getElem?_getD, List.getElem?_eq_getElem hj]; rfl) (fun u hu => by simp only [List.mem_map] at hu; obtain ⟨y, _, rfl⟩ := hu; rfl) h0 (by unfold maxLen; omega) (by omega) hB _ rfl
    refine ⟨_, w3, hr, ?_, hgr.size, fun k hk => hgr.block k (by omega) (fun e => ?_), hgr.os, hgr.tape, hgr.output, _, _, _, rfl⟩
    · rw [List.length_append, List.map_append, hl]; exact ho3
    · rcases hown.2 with ⟨rfl, _⟩ | ⟨g', c', cur, rfl, hg', _⟩
      · cases e
      · simp only [Value.ownBlock, Option.some.injEq] at e; omega
theorem wpList_appRun {P : Program} {ops : Array Oper} {rest : List Oper} {o : Oper} {a : Act} {Q : Exit → Act → World → Prop} {w w' : World} {v : Value} (hgd : o.guard = none) (s x : Operand) (t t' : TypeId)
    (ho : o.op = .call { callee := .builtin .append, args := #[s, x], argTypes := #[t, t'] }) (vs vx : Value) (hs : a.eval s = vs) (hx : a.eval x = vx)
    (hr : (Builtin.append_ #[t, t'] o.type #[vs, vx]).run P w = .ok v w') (h : wpList P ops Q rest (a.put o.dst v) w') : wpList P ops Q (o :: rest) a w := by
  refine wpList_plain hgd fun _ hK => ?_
  unfold Oper.wp execOp
  simp only [ho, resolve, invoke, builtin, Sem.run_bind, Sem.run_pure, Result.andThen_ok, List.map_toArray, List.map_cons, List.map_nil, hs, hx, hr]
  exact hK _ _ h
set_option maxHeartbeats 2000000 in
theorem write_any (w : World) (B g : Nat) (xs : List Int) (h : Bld w B g xs) (p : Option Addr) (n c : Nat) (ys : List Int) (hi : In8 w p n c ys) (hp : 0 < n → ∀ ad, p = some ad → ad.block ≠ g) (hlen : xs.length + n ≤ 1000000) :
    Calls Tryd.prog 80 #[.pointer (some ⟨g, 0, none⟩), .slice p n c] w fun e w' => (∃ v, e = .returned v) ∧ Bld w' B g (xs ++ ys) ∧ KpG B g w w' := by
  have hbase := h.base
  have hxb := h.bytes
  have HB : Hid (Bld w B g xs) := h
  clear h
  go_enter Tryd.func80, Tryd.ntmps80
  go_wp2_with fail
  refine Calls.mono HB.out.used ?_
  rintro e w1 ⟨rfl, k1, hs1, v, hg, ho⟩
  have hi1 : In8 w1 p n c ys := by
    rcases Nat.eq_zero_or_pos n with hz | hz
    · exact ⟨hi.len, hi.bytes, hi.fits, hi.room, hi.small, fun h0 => by have := hi.len; omega⟩
    · exact hi.same k1.size (fun ad ha hl => k1.block _ hl (fun hx => hp hz ad ha hx))
  obtain ⟨v', w2, hr, ho2, hs2, hblk, hos, htp, hou, q', m', d', rfl⟩ := app8_world w1 B v xs ho hs1 p n c ys hi1 hlen
  obtain ⟨q0, cap0, rfl, _, _⟩ := owns_shape ho
  have hg2 : w2.heap[g]? = some (.cells #[.pointer (some ⟨g, 0, none⟩), .slice q0 xs.length cap0] 132) := (hblk g hbase).trans hg
  have hc1 := two_cell1 hg
  have hc2 := two_cell1 hg2
  have hf2 := frozen_of_row w2 g 1 _ _ hg2
  have hyb := hi.bytes
  have HBF : Hid (Bld (w2.setCell ⟨g, 1, none⟩ (.slice q' m' d')) B g (xs ++ ys)) := by
    refine ⟨hbase, by have : B ≤ w2.heap.size := Nat.le_trans hs1 hs2; simpa [World.setCell] using this, .of fun y hy => ?_, .pointer (some ⟨g, 0, none⟩), .slice q' m' d', two_setCell hg2, .inr rfl, ?_⟩
    · rcases List.mem_append.1 hy with e | e
      · exact hxb.mem y e
      · exact hyb.mem y e
    · obtain ⟨e1, e2 | ⟨q, cap, cur, hv, hgq, hh, r⟩⟩ := ho2
      · exact ⟨e1, .inl e2⟩
      · exact ⟨e1, .inr ⟨q, cap, cur, hv, hgq, (Below.heap_setCell _ _ _ _ (by show q ≠ g; omega)).trans hh, r⟩⟩
  have HK : Hid (KpG B g w (w2.setCell ⟨g, 1, none⟩ (.slice q' m' d'))) := by
    refine ⟨hos.trans k1.os, htp.trans k1.tape, hou.trans k1.output, ?_, fun k hk hx => ?_⟩
    · have : w.heap.size ≤ w2.heap.size := Nat.le_trans k1.size hs2
      simpa [World.setCell] using this
    · rw [Below.heap_setCell _ _ _ _ (fun e => hx (.inl e)), hblk k (by rcases Nat.lt_or_ge k B with h | h; exact h; exact absurd (.inr h) hx)]
      exact k1.block k hk (fun e => hx (.inl e))
  clear ho ho2 hblk hg hg2 HB k1 hi hi1
  go_wp2_with (first
    | (at_builtin
       refine wpList_appRun rfl (.tmp 12) (.tmp 13) 22 22 rfl _ _ rfl rfl hr ?_))
  go_ret2
  exact ⟨⟨_, rfl⟩, HBF.out, HK.out⟩
theorem cells5 : Tryd.prog.cellsOf 5 = 1 := by kernel_rfl
set_option maxHeartbeats 2000000 in
/-- What String tells (of at least one byte). -/
theorem string_any (w : World) (B g : Nat) (xs : List Int) (h : Bld w B g xs) (h0 : 0 < xs.length) (hs : xs.length ≤ 1000000) (B0 : Nat) (hB0 : B0 ≤ B) :
    Calls Tryd.prog 82 #[.pointer (some ⟨g, 0, none⟩)] w fun e w' => e = .returned (.string ⟨(toU xs).toArray⟩) ∧ Below B0 w w' := by
  obtain ⟨h1, h2, h3, ad, v, h4, _, h6⟩ := h
  obtain ⟨q, cap, cur, rfl, hg, hh, hnc, hcm, hcs, htake⟩ := h6.2.resolve_left (fun h => by omega)
  have c0 := two_cell1 h4
  have c1 : w.drew.cell? ⟨g, 1, none⟩ = some (.slice (some ⟨q, 0, none⟩) xs.length cap) := c0
  have hul : (toU xs).length = xs.length := toU_len xs
  have hSD : (Builtin.unsafeSliceData_ #[22] 164 #[.slice (some ⟨q, 0, none⟩) xs.length cap]).run Tryd.prog w.drew = .ok (.pointer (some ⟨q, 0, none⟩)) w.drew := Lib.run_unsafeSliceData_row _ _ _ _ _ _ (by omega)
  obtain ⟨_, _, hv8, _, hq2, _, _, _, hcells⟩ := owns8 h6 h0
  cases hv8
  have hUS : (Builtin.unsafeString_ #[164, 3] 9 #[.pointer (some ⟨q, 0, none⟩), .int .i64 xs.length]).run Tryd.prog w.drew = .ok (.string ⟨(toU xs).toArray⟩) (w.drew.freeze ⟨q, 0, none⟩ xs.length) := by
    have h := Lib.run_unsafeString_row (P := Tryd.prog) w.drew 164 3 9 5 Tryd.underlying164 cells5 q cur.size (by have hg' : w.drew.heap[q]? = some (.cells cur 5 (0, 0)) := hh; simp [World.shape?, hg']) (toU xs) (fun e => by rw [e] at hul; simp at hul; omega) (by rw [hul]; omega) (by rw [hul]; omega) (fun j x hx => by
      have hj : j < xs.length := by have := (List.getElem?_eq_some_iff.1 hx).1; omega
      have hc := hcells j hj
      have hx' : (x.toNat : Int) = xs.getD j 0 := by
        have e := toI_toU xs h3
        have e2 : (toI (toU xs)).getD j 0 = xs.getD j 0 := by rw [e]
        rw [← e2, toI_get (toU xs) j (by omega)]
        rw [List.getElem?_eq_getElem (by omega)] at hx
        simp only [Option.some.injEq] at hx
        rw [hx]
      rw [addr_add, Nat.zero_add, hx']
      exact hc)
    rw [hul] at h
    exact h
  have hbf : Below B0 w (w.drew.freeze ⟨q, 0, none⟩ xs.length) := Lib.below_freeze (Below.drew (Below.refl B0 w)) (p := ⟨q, 0, none⟩) (by show B0 ≤ q; omega) _
  have HBF : Hid (Below B0 w (w.drew.freeze ⟨q, 0, none⟩ xs.length)) := hbf
  clear hcells hbf htake hh h6 h4
  go_enter Tryd.func82, Tryd.ntmps82
  go_wp2_with fail
  go_region
  all_goals (go_wp2_with fail)
  all_goals go_ret
  all_goals exact ⟨rfl, HBF.out⟩
end Go.Proofs.YtcmjlhcpoajbkaaDoor
