import Derived.Test.YtcmjlhcpoajbkaaDoorQBk
namespace Go.Proofs.YtcmjlhcpoajbkaaDoor
set_option maxRecDepth 10000
set_option linter.unusedSimpArgs false
open Go.RowKit
/-- What the book keeps of one list: the list and what append made of it. -/
def Ent (w : World) (F : Nat → Prop) (s : Value) (i : Nat) : Prop :=
  ∃ (r : Nat) (d : Nat → Value) (nn : Nat → Nat), s = .slice (some ⟨r, 0, none⟩) 4 4 ∧ (∃ cs, w.heap[r]? = some (.cells cs 31)) ∧ F r ∧ ∀ k, k < 4 → w.cell? ⟨r, k, none⟩ = some (d k) ∧ MkV w (markP i) (d k) (nn k) ∧ (0 < nn k → ∀ q, (d k).ownBlock = some q → F q)
/-- The book, in blocks of F. -/
structure BookAt (w : World) (F : Nat → Prop) (gb : Nat) (blv : Value) (n : Nat) : Prop where
  blk : w.heap[gb]? = some (.cells #[blv] 53)
  fgb : F gb
  own : ∃ ss, w.ownsRow 0 124 1 blv n ss ∧ ∀ i, i < n → ∃ s, ss[i]? = some s ∧ Ent w F s i
  frow : ∀ k, blv.ownBlock = some k → F k
theorem MkV.kp0 {X : Nat → Prop} {w w' : World} {M : List Int} {v : Value} {n : Nat} (h : MkV w M v n) (hk : Kp X w w') (hX : 0 < n → ∀ k, v.ownBlock = some k → ¬ X k) : MkV w' M v n := by
  obtain ⟨p, c, rfl, h1, h2, h3⟩ := h
  refine ⟨p, c, rfl, h1, h2, fun h0 => ?_⟩
  obtain ⟨q, rfl, hq, hc⟩ := h3 h0
  refine ⟨q, rfl, Nat.lt_of_lt_of_le hq hk.size, fun i hi => ?_⟩
  rw [World.cell?_of_block (w := w) (a := ⟨q, i, none⟩) (hk.block q hq (hX h0 q rfl))]
  exact hc i hi
theorem Ent.frame {X F : Nat → Prop} {w w' : World} {s : Value} {i : Nat} (h : Ent w F s i) (hk : Kp X w w') (hX : ∀ k, F k → ¬ X k) : Ent w' F s i := by
  obtain ⟨r, d, nn, h1, h2, h3, h4⟩ := h
  obtain ⟨cs, h2⟩ := h2
  refine ⟨r, d, nn, h1, ⟨cs, (hk.block r (row_lt h2) (hX r h3)).trans h2⟩, h3, fun k hk4 => ?_⟩
  obtain ⟨a, b, c⟩ := h4 k hk4
  exact ⟨by rw [World.cell?_of_block (w := w) (a := ⟨r, k, none⟩) (hk.block r (row_lt h2) (hX r h3))]; exact a, b.kp0 hk (fun h0 q hq => hX q (c h0 q hq)), c⟩
/-- What changes no row of lists and no byte leaves it, too. -/
theorem Ent.other {X F : Nat → Prop} {w w' : World} {s : Value} {i : Nat} (h : Ent w F s i) (hk : Kp X w w') (hX : ∀ k, X k → ∃ cs t fr, w.heap[k]? = some (.cells cs t fr) ∧ t ≠ 31 ∧ ∀ z, cs[0]? ≠ some (.int .u8 z)) : Ent w' F s i := by
  obtain ⟨r, d, nn, h1, ⟨cs, h2⟩, h3, h4⟩ := h
  have hr : ¬ X r := fun hx => by
    obtain ⟨cs', t, fr, e1, e2, _⟩ := hX r hx
    rw [h2] at e1
    simp only [Option.some.injEq, Obj.cells.injEq] at e1
    exact e2 e1.2.1.symm
  refine ⟨r, d, nn, h1, ⟨cs, (hk.block r (row_lt h2) hr).trans h2⟩, h3, fun k hk4 => ?_⟩
  obtain ⟨a, ⟨p, c, b1, b2, b3, b4⟩, c'⟩ := h4 k hk4
  refine ⟨by rw [World.cell?_of_block (w := w) (a := ⟨r, k, none⟩) (hk.block r (row_lt h2) hr)]; exact a, ⟨p, c, b1, b2, b3, fun h0 => ?_⟩, c'⟩
  obtain ⟨q, hp, hq, hc⟩ := b4 h0
  have hnq : ¬ X q := fun hx => by
    obtain ⟨cs', t, fr, e1, _, e3⟩ := hX q hx
    have := hc 0 (by omega)
    rw [cell_of_row _ _ _ _ _ _ e1] at this
    exact e3 _ this
  exact ⟨q, hp, Nat.lt_of_lt_of_le hq hk.size, fun j hj => by rw [World.cell?_of_block (w := w) (a := ⟨q, j, none⟩) (hk.block q hq hnq)]; exact hc j hj⟩
theorem Ent.mono {F F' : Nat → Prop} {w : World} {s : Value} {i : Nat} (h : Ent w F s i) (hF : ∀ k, F k → F' k) : Ent w F' s i := by
  obtain ⟨r, d, nn, h1, h2, h3, h4⟩ := h
  exact ⟨r, d, nn, h1, h2, hF r h3, fun k hk4 => ⟨(h4 k hk4).1, (h4 k hk4).2.1, fun h0 q hq => hF q ((h4 k hk4).2.2 h0 q hq)⟩⟩
theorem BookAt.frame {X F : Nat → Prop} {w w' : World} {gb n : Nat} {blv : Value} (h : BookAt w F gb blv n) (hk : Kp X w w') (hX : ∀ k, F k → ¬ X k) : BookAt w' F gb blv n := by
  obtain ⟨h1, h2, ⟨ss, h3, h4⟩, h5⟩ := h
  exact ⟨(hk.block gb (row_lt h1) (hX gb h2)).trans h1, h2, ⟨ss, owns_kp h3 hk (fun q hq => hX q (h5 q hq)), fun i hi => by
    obtain ⟨s, hs, he⟩ := h4 i hi
    exact ⟨s, hs, he.frame hk hX⟩⟩, h5⟩
theorem BookAt.mono {F F' : Nat → Prop} {w : World} {gb n : Nat} {blv : Value} (h : BookAt w F gb blv n) (hF : ∀ k, F k → F' k) : BookAt w F' gb blv n := by
  obtain ⟨h1, h2, ⟨ss, h3, h4⟩, h5⟩ := h
  exact ⟨h1, hF gb h2, ⟨ss, h3, fun i hi => by
    obtain ⟨s, hs, he⟩ := h4 i hi
    exact ⟨s, hs, he.mono hF⟩⟩, fun k hk => hF k (h5 k hk)⟩
theorem BookAt.below {F : Nat → Prop} {w w' : World} {gb n : Nat} {blv : Value} (h : BookAt w F gb blv n) (hb : Below w.heap.size w w') : BookAt w' F gb blv n :=
  h.frame (kp_of hb rfl) (fun _ _ x => x)
theorem ix51 (g n c k : Nat) (hk : k < n) (W : World) : (Instr.indexAt 51 (.slice (some ⟨g, 0, none⟩) n c) (.int .i64 k)).run Tryd.prog W = .ok (.pointer (some ⟨g, k, none⟩)) W := by
  have h1 : (k : Int) < n := by omega
  go_simp
theorem ix124 (g n c k : Nat) (hk : k < n) (W : World) : (Instr.indexAt 124 (.slice (some ⟨g, 0, none⟩) n c) (.int .i64 k)).run Tryd.prog W = .ok (.pointer (some ⟨g, k, none⟩)) W := by
  have h1 : (k : Int) < n := by omega
  go_simp
set_option maxHeartbeats 8000000 in
theorem looks_any (w : World) (F : Nat → Prop) (gb n : Nat) (blv : Value) (h : BookAt w F gb blv n) (hn : n ≤ 4398046511104) :
    Calls Tryd.prog 34 #[.pointer (some ⟨gb, 0, none⟩)] w fun e w' => e = .returned (.bool true) ∧ Below w.heap.size w w' := by
  obtain ⟨h1, h2, ⟨ss, h3, h4⟩, h5⟩ := h
  obtain ⟨bp, bc, rfl, hbf, hbr⟩ := owns_shape h3
  have hgl := row_lt h1
  have cb0 : w.cell? ⟨gb, 0, none⟩ = some (.slice bp n bc) := by rw [cell_of_row _ _ _ _ _ _ h1]; rfl
  have HC1 : Hid (∀ W : World, Below w.heap.size w W → W.cell? ⟨gb, 0, none⟩ = some (.slice bp n bc)) := fun W hW => by rw [hW.cell (p := ⟨gb, 0, none⟩) hgl]; exact cb0
  have HE : Hid (∀ i, i < n → ∃ (ro r : Nat) (d : Nat → Value) (nn : Nat → Nat), bp = some ⟨ro, 0, none⟩ ∧ (∀ W : World, Below w.heap.size w W → W.cell? ⟨ro, i, none⟩ = some (.slice (some ⟨r, 0, none⟩) 4 4)) ∧ ∀ k, k < 4 → (∀ W : World, Below w.heap.size w W → W.cell? ⟨r, k, none⟩ = some (d k)) ∧ MkV w (markP i) (d k) (nn k)) := fun i hi => by
    obtain ⟨s, hs, r, d, nn, rfl, ⟨cs, hr'⟩, _, hd⟩ := h4 i hi
    have hr := row_lt hr'
    obtain ⟨ro, cap, hv, _, hrol, _, _, hcs⟩ := owns_get h3 (by omega)
    injection hv with e1
    refine ⟨ro, r, d, nn, e1, fun W hW => ?_, fun k hk => ⟨fun W hW => ?_, (hd k hk).2.1⟩⟩
    · rw [hW.cell (p := ⟨ro, i, none⟩) hrol, hcs i hi]; exact hs
    · rw [hW.cell (p := ⟨r, k, none⟩) hr]; exact (hd k hk).1
  clear h1 h2 h3 h4 h5 cb0
  go_enter Tryd.func34, Tryd.ntmps34
  go_wp2_with fail
  go_loopw [3] (fun kv wr => ∃ k : Nat, k ≤ 4 ∧ kv = .int .i64 k ∧ Below w.heap.size w wr) (fun kv _ => 4 - (intOf kv).toNat)
  case atStart => exact ⟨0, by omega, rfl, Below.refl _ _⟩
  case round =>
    obtain ⟨k, hk, rfl, hb1⟩ := hrel
    by_cases hk4 : k < 4
    · have hk4' : (k : Int) < 4 := by omega
      go_wp2_with fail
      go_loopw [4] (fun iv wr => ∃ i : Nat, i ≤ n ∧ iv = .int .i64 i ∧ Below w.heap.size w wr) (fun iv _ => n - (intOf iv).toNat)
      case atStart => exact ⟨0, by omega, rfl, hb1⟩
      case round =>
        obtain ⟨i, hi, rfl, hb2⟩ := hrel
        have c1 := HC1.out _ hb2
        by_cases hin : i < n
        · have hin' : (i : Int) < n := by omega
          obtain ⟨ro, r, d, nn, rfl, hro, hd⟩ := HE.out i hin
          obtain ⟨hdk, hmk⟩ := hd k hk4
          obtain ⟨dp, dc, hdv, hdf, hdr, hdl⟩ := hmk
          rw [hdv] at hdk
          have HRO : Hid (∀ W : World, Below w.heap.size w W → W.cell? ⟨ro, i, none⟩ = some (.slice (some ⟨r, 0, none⟩) 4 4)) := hro
          have HDK : Hid (∀ W : World, Below w.heap.size w W → W.cell? ⟨r, k, none⟩ = some (.slice dp (nn k) dc)) := hdk
          have HDL : Hid (0 < nn k → ∃ q, dp = some ⟨q, 0, none⟩ ∧ q < w.heap.size ∧ ∀ i_1, i_1 < nn k * 32 → w.cell? ⟨q, i_1, none⟩ = some (.int .u8 ((markP i).getD (i_1 % 32) 0))) := hdl
          clear hro hdk hdl hd hdv
          generalize nn k = m at *
          have hMl := markP_len i
          have hMb := markP_bytes i
          go_wp2_with fail
          refine (mark_any i wr (by omega)).mono ?_
          rintro e w1 ⟨rfl, b1⟩
          have B1 : Below w.heap.size w w1 := hb2.trans (b1.mono hb2.size)
          have n1 : Hid (Dg (w1.alloc (.cells Z8x32 25)) w1.heap.size Z32) := Dg.new w1 _ rfl
          have hs1 := B1.size
          generalize markP i = M at *
          clear c1 b1
          go_wp2_with (first
            | (with_reducible refine atStore 25 ?_
               refine store_D rfl _ _ rfl w1.heap.size M rfl rfl Z32 n1.out hMl ?_
               intro U hU
               refine hideGoal ?_))
          have BU : Below w.heap.size w U := hU.below _ _ hs1 (B1.alloc hs1 _)
          have dU : Hid (Dg U w1.heap.size M) := hU.dg hMl
          clear hU n1 B1
          generalize w1.heap.size = gm at *
          refine openGoal ?_
          go_wp2_with fail
          go_loopw [6] (fun jv wr => ∃ j : Nat, j ≤ m ∧ jv = .int .i64 j ∧ Below w.heap.size w wr ∧ Dg wr gm M) (fun jv _ => m - (intOf jv).toNat)
          case atStart => exact ⟨0, by omega, rfl, BU, dU.out⟩
          case round =>
            obtain ⟨j, hj, rfl, hb3, hD3⟩ := hrel
            have HD3 : Hid (Dg wr gm M) := hD3
            clear hD3 BU dU
            have c1 := HC1.out _ hb3
            have c2 := HRO.out _ hb3
            have c3 := HDK.out _ hb3
            have x1 := fun W => ix51 ro n bc i hin W
            have x2 := fun W => ix124 r 4 4 k hk4 W
            by_cases hjm : j < m
            · have hjm' : (j : Int) < m := by omega
              obtain ⟨q, rfl, hq, hqc⟩ := HDL.out (by omega)
              have x3 : ∀ W : World, (Instr.indexAt 31 (.slice (some ⟨q, 0, none⟩) m dc) (.int .i64 j)).run Tryd.prog W = .ok (.pointer (some ((⟨q, 0, none⟩ : Addr).add (j * 32)))) W := fun W => index_at ⟨q, 0, none⟩ m dc j hjm W
              have hat : Hid (∀ W : World, Below w.heap.size w W → At8 W ((⟨q, 0, none⟩ : Addr).add (j * 32)) M) := fun W hW z hz => by
                rw [addr_add, Nat.zero_add, addr_add, hW.cell (p := ⟨q, j * 32 + z, none⟩) hq, hqc (j * 32 + z) (by omega), show (j * 32 + z) % 32 = z by omega]
              go_upto_region 11 with fail
              have BD : Below w.heap.size w wr.drew := hb3.drew
              have S0 : Below w.heap.size w wr.drew ∧ Dg wr.drew gm M := ⟨BD, ⟨HD3.out.len, HD3.out.here⟩⟩
              refine wp_region_noPanic ?_
              refine wp_region_held (S := fun W => Below w.heap.size w W ∧ Dg W gm M) follows ?_
              refine wpAnyH_take (i := 0) (v := .pointer (some ⟨gb, 0, none⟩)) rfl (by kernel_rfl) (by kernel_rfl) (by kernel_rfl) (fun _ _ _ h => h) (.inl ⟨rfl, fun W _ => by go_simp⟩) S0 ?_
              simp only [Act.put, List.getElem_toArray, List.getElem_cons_zero, List.getElem_cons_succ, List.setIfInBounds_toArray, List.set_cons_zero, List.set_cons_succ]
              refine wpAnyH_take (i := 1) (v := .pointer (some ⟨gb, 0, none⟩)) rfl (by kernel_rfl) (by kernel_rfl) (by kernel_rfl) (fun _ _ _ h => h) (.inl ⟨rfl, fun W _ => by go_simp⟩) S0 ?_
              simp only [Act.put, List.getElem_toArray, List.getElem_cons_zero, List.getElem_cons_succ, List.setIfInBounds_toArray, List.set_cons_zero, List.set_cons_succ]
              refine wpAnyH_take (i := 2) (v := .pointer (some ⟨gb, 0, none⟩)) rfl (by kernel_rfl) (by kernel_rfl) (by kernel_rfl) (fun _ _ _ h => h) (.inl ⟨rfl, fun W _ => by go_simp⟩) S0 ?_
              simp only [Act.put, List.getElem_toArray, List.getElem_cons_zero, List.getElem_cons_succ, List.setIfInBounds_toArray, List.set_cons_zero, List.set_cons_succ]
              refine wpAnyH_take (i := 3) (v := .slice (some ⟨ro, 0, none⟩) n bc) rfl (by kernel_rfl) (by kernel_rfl) (by kernel_rfl) (fun _ _ _ h => h) (.inl ⟨rfl, fun W hW => by have e := HC1.out W hW.1; go_simp⟩) S0 ?_
              simp only [Act.put, List.getElem_toArray, List.getElem_cons_zero, List.getElem_cons_succ, List.setIfInBounds_toArray, List.set_cons_zero, List.set_cons_succ]
              refine wpAnyH_take (i := 4) (v := .int .i64 i) rfl (by kernel_rfl) (by kernel_rfl) (by kernel_rfl) (fun _ _ _ h => h) (.inl ⟨rfl, fun W _ => by go_simp⟩) S0 ?_
              simp only [Act.put, List.getElem_toArray, List.getElem_cons_zero, List.getElem_cons_succ, List.setIfInBounds_toArray, List.set_cons_zero, List.set_cons_succ]
              refine wpAnyH_take (i := 5) (v := .pointer (some ⟨ro, i, none⟩)) rfl (by kernel_rfl) (by kernel_rfl) (by kernel_rfl) (fun _ _ _ h => h) (.inl ⟨rfl, fun W _ => by have e := x1 W; go_simp⟩) S0 ?_
              simp only [Act.put, List.getElem_toArray, List.getElem_cons_zero, List.getElem_cons_succ, List.setIfInBounds_toArray, List.set_cons_zero, List.set_cons_succ]
              refine wpAnyH_take (i := 6) (v := .slice (some ⟨r, 0, none⟩) 4 4) rfl (by kernel_rfl) (by kernel_rfl) (by kernel_rfl) (fun _ _ _ h => h) (.inl ⟨rfl, fun W hW => by have e := HRO.out W hW.1; go_simp⟩) S0 ?_
              simp only [Act.put, List.getElem_toArray, List.getElem_cons_zero, List.getElem_cons_succ, List.setIfInBounds_toArray, List.set_cons_zero, List.set_cons_succ]
              refine wpAnyH_take (i := 7) (v := .int .i64 k) rfl (by kernel_rfl) (by kernel_rfl) (by kernel_rfl) (fun _ _ _ h => h) (.inl ⟨rfl, fun W _ => by go_simp⟩) S0 ?_
              simp only [Act.put, List.getElem_toArray, List.getElem_cons_zero, List.getElem_cons_succ, List.setIfInBounds_toArray, List.set_cons_zero, List.set_cons_succ]
              refine wpAnyH_take (i := 8) (v := .pointer (some ⟨r, k, none⟩)) rfl (by kernel_rfl) (by kernel_rfl) (by kernel_rfl) (fun _ _ _ h => h) (.inl ⟨rfl, fun W _ => by have e := x2 W; go_simp⟩) S0 ?_
              simp only [Act.put, List.getElem_toArray, List.getElem_cons_zero, List.getElem_cons_succ, List.setIfInBounds_toArray, List.set_cons_zero, List.set_cons_succ]
              refine wpAnyH_take (i := 9) (v := .slice (some ⟨q, 0, none⟩) m dc) rfl (by kernel_rfl) (by kernel_rfl) (by kernel_rfl) (fun _ _ _ h => h) (.inl ⟨rfl, fun W hW => by have e := HDK.out W hW.1; go_simp⟩) S0 ?_
              simp only [Act.put, List.getElem_toArray, List.getElem_cons_zero, List.getElem_cons_succ, List.setIfInBounds_toArray, List.set_cons_zero, List.set_cons_succ]
              refine wpAnyH_take (i := 10) (v := .int .i64 j) rfl (by kernel_rfl) (by kernel_rfl) (by kernel_rfl) (fun _ _ _ h => h) (.inl ⟨rfl, fun W _ => by go_simp⟩) S0 ?_
              simp only [Act.put, List.getElem_toArray, List.getElem_cons_zero, List.getElem_cons_succ, List.setIfInBounds_toArray, List.set_cons_zero, List.set_cons_succ]
              refine wpAnyH_take (i := 11) (v := .pointer (some ((⟨q, 0, none⟩ : Addr).add (j * 32)))) rfl (by kernel_rfl) (by kernel_rfl) (by kernel_rfl) (fun _ _ _ h => h) (.inl ⟨rfl, fun W _ => by have e := x3 W; go_simp⟩) S0 ?_
              simp only [Act.put, List.getElem_toArray, List.getElem_cons_zero, List.getElem_cons_succ, List.setIfInBounds_toArray, List.set_cons_zero, List.set_cons_succ]
              refine wpAnyH_take (i := 12) (v := .agg (A8 M)) rfl (by kernel_rfl) (by kernel_rfl) (by kernel_rfl) (fun _ _ _ h => h) (yields_at rfl (.tmp 48) rfl ((⟨q, 0, none⟩ : Addr).add (j * 32)) rfl M hMl (fun W hW => hat.out W hW.1)) S0 ?_
              simp only [Act.put, List.getElem_toArray, List.getElem_cons_zero, List.getElem_cons_succ, List.setIfInBounds_toArray, List.set_cons_zero, List.set_cons_succ]
              refine wpAnyH_take (i := 13) (v := .agg (A8 M)) rfl (by kernel_rfl) (by kernel_rfl) (by kernel_rfl) (fun _ _ _ h => h) (yields_D rfl (.tmp 5) rfl gm rfl M hMl (fun W hW => hW.2)) S0 ?_
              simp only [Act.put, List.getElem_toArray, List.getElem_cons_zero, List.getElem_cons_succ, List.setIfInBounds_toArray, List.set_cons_zero, List.set_cons_succ]
              refine wpAnyH_take (i := 14) (v := .bool (!decide (M = M))) rfl (by kernel_rfl) (by kernel_rfl) (by kernel_rfl) (fun _ _ _ h => h) (yields_neq rfl (.tmp 49) (.tmp 50) rfl M M hMl hMb hMl hMb rfl rfl) S0 ?_
              simp only [Act.put, List.getElem_toArray, List.getElem_cons_zero, List.getElem_cons_succ, List.setIfInBounds_toArray, List.set_cons_zero, List.set_cons_succ]
              refine wpAnyH_done (by kernel_rfl) ?_ _
              refine NoPanic.normal ?_
              have hDD : Hid (Dg wr.drew gm M) := S0.2
              clear S0 c1 c2 c3
              go_wp2_with fail
              go_roundw
              case rel => exact ⟨j + 1, by omega, by go_num, BD, hDD.out⟩
              case measure => simp [intOf]; omega
            · have hjm' : ¬ (j : Int) < m := by omega
              go_wp2_with fail
              go_roundw
              case rel => exact ⟨i + 1, by omega, by go_num, hb3⟩
              case measure => simp [intOf]; omega
        · have hin' : ¬ (i : Int) < n := by omega
          go_wp2_with fail
          go_roundw
          case rel => exact ⟨k + 1, by omega, by go_num, hb2⟩
          case measure => simp [intOf]; omega
    · have hk4' : ¬ (k : Int) < 4 := by omega
      go_wp2_with fail
      go_ret
      exact ⟨rfl, hb1⟩
end Go.Proofs.YtcmjlhcpoajbkaaDoor
