import Derived.Test.YtcmjlhcpoajbkaaDoorQRp
import Derived.Test.YtcmjlhcpoajbkaaDoorQRw
import Derived.Test.YtcmjlhcpoajbkaaDoorQMu
namespace Go.Proofs.YtcmjlhcpoajbkaaDoor
set_option maxRecDepth 10000
set_option linter.unusedSimpArgs false
open Go.RowKit
/-- The document's log, with what is its own. -/
structure RefAt (w : World) (g : Nat) (yv : Value) (l : List UInt8) (es : List (List Int)) : Prop where
  blk : w.heap[g]? = some (.cells #[.string ⟨l.toArray⟩, yv] 61)
  own : w.ownsRow 0 9 1 yv es.length (es.map strV)
  fit : Fit es
theorem RefAt.read {w : World} {g : Nat} {yv : Value} {l : List UInt8} {es : List (List Int)} (h : RefAt w g yv l es) : ∃ ep ec, w.cell? ⟨g, 1, none⟩ = some (.slice ep es.length ec) ∧ S59 w ep es.length ec es ∧ (ep = none → ec = 0) ∧ es.length ≤ 64 := by
  obtain ⟨p, c, hv, hS⟩ := s59_of h.own h.fit
  refine ⟨p, c, by rw [cell_of_row _ _ _ _ _ _ h.blk, ← hv]; rfl, hS, fun hp => ?_, h.fit.1⟩
  obtain ⟨_, ⟨h1, _⟩ | ⟨g', cap, cur, h1, _⟩⟩ := h.own
  · rw [hv] at h1; injection h1
  · rw [hv] at h1; injection h1 with h2; rw [hp] at h2; cases h2
theorem RefAt.refR {w : World} {g : Nat} {yv : Value} {l : List UInt8} {es : List (List Int)} (h : RefAt w g yv l es) : RefR w g l es := by
  obtain ⟨p, c, h1, h2, _, h3⟩ := h.read
  exact ⟨by rw [cell_of_row _ _ _ _ _ _ h.blk]; rfl, ⟨p, c, h1, h2⟩, h3⟩
theorem RefAt.apart {w : World} {g : Nat} {yv : Value} {l : List UInt8} {es : List (List Int)} (h : RefAt w g yv l es) : yv.ownBlock ≠ some g := by
  intro he
  obtain ⟨_, ⟨rfl, _⟩ | ⟨r, cap, cur, rfl, _, hh, _⟩⟩ := h.own
  · cases he
  · simp only [Value.ownBlock, Option.some.injEq] at he
    subst he
    rw [h.blk] at hh
    simp only [Option.some.injEq, Obj.cells.injEq] at hh
    exact absurd hh.2.1 (by decide)
theorem RefAt.rowlt {w : World} {g : Nat} {yv : Value} {l : List UInt8} {es : List (List Int)} (h : RefAt w g yv l es) : ∀ k, yv.ownBlock = some k → k < w.heap.size := fun k hk => (h.own.lt k hk).2
theorem RefAt.frame {X : Nat → Prop} {w w' : World} {g : Nat} {yv : Value} {l : List UInt8} {es : List (List Int)} (h : RefAt w g yv l es) (hk : Kp X w w') (hg : ¬ X g) (hX : ∀ k, yv.ownBlock = some k → ¬ X k) : RefAt w' g yv l es :=
  ⟨(hk.block g (row_lt h.blk) hg).trans h.blk, owns_kp h.own hk hX, h.fit⟩
theorem RefAt.below {w w' : World} {g : Nat} {yv : Value} {l : List UInt8} {es : List (List Int)} (h : RefAt w g yv l es) (hb : Below w.heap.size w w') : RefAt w' g yv l es :=
  h.frame (kp_of hb rfl) (fun x => x) (fun _ _ x => x)
theorem sslice_nil (p : Option Addr) (n c m : Nat) (hm : m ≤ n) (hn : n ≤ c) (hc : p = none → c = 0) (W : World) :
    (Instr.sliceAt 59 (.slice p n c) none (some (.int .i64 m)) none).run Tryd.prog W = .ok (.slice p m c) W := by
  cases p with
  | some ad => exact sslice_front ad n c m hm hn W
  | none =>
    have h0 := hc rfl
    subst h0
    have e1 : m = 0 := by omega
    have e2 : n = 0 := by omega
    subst e1 e2
    go_simp
theorem app59_world (w : World) (g : Nat) (yv : Value) (l : List UInt8) (es : List (List Int)) (hL : RefAt w g yv l es) (g1 : Nat) (x : List Int) (h2 : w.heap[g1]? = some (.cells #[.string ⟨(toU x).toArray⟩] 9)) (hx3 : x.length ≤ 300) (hxb : Bytes x) (hlen : es.length < 64) :
    ∃ ga cap w3, (Builtin.append_ #[59, 59] 59 #[yv, .slice (some ⟨g1, 0, none⟩) 1 1]).run Tryd.prog w = .ok (.slice (some ⟨ga, 0, none⟩) (es.length + 1) cap) w3 ∧
      w3.cell? ⟨g, 1, none⟩ = some yv ∧ w3.frozen? ⟨g, 1, none⟩ = false ∧
      RefAt (w3.setCell ⟨g, 1, none⟩ (.slice (some ⟨ga, 0, none⟩) (es.length + 1) cap)) g (.slice (some ⟨ga, 0, none⟩) (es.length + 1) cap) l (es ++ [x]) ∧ es.length + 1 ≤ cap ∧ cap ≤ 9223372036854775807 ∧
      Kp (fun k => k = g ∨ yv.ownBlock = some k) w (w3.setCell ⟨g, 1, none⟩ (.slice (some ⟨ga, 0, none⟩) (es.length + 1) cap)) ∧ (yv.ownBlock = some ga ∨ w.heap.size ≤ ga) := by
  obtain ⟨i9, hi9, hz, hsz, hby⟩ := info9'
  have hgl := row_lt hL.blk
  obtain ⟨ga, cap, w3, hr, ho3, hgr, hwh, hga⟩ := run_append_lies (P := Tryd.prog) w 59 59 0 9 i9 (.string ⟨#[]⟩) 1 16 Tryd.underlying59 hi9 hz hsz hby rfl (by omega) yv es.length (es.map strV) hL.own
    ⟨g1, 0, none⟩ 1 1 [.string ⟨(toU x).toArray⟩] rfl (fun j u hu => by
      have e : j = 0 := by
        have := (List.getElem?_eq_some_iff.1 hu).1
        simp at this; omega
      subst e
      rw [addr_add, cell_of_row _ _ _ _ _ _ h2]
      simpa using hu) (fun u hu => by simp only [List.mem_singleton] at hu; subst hu; rfl) (by omega) (by unfold maxLen; omega) (by omega) (Nat.zero_le _) _ rfl
  have hne : ga ≠ g := by
    rcases hwh with h | h
    · exact fun e => hL.apart (by rw [h, e])
    · omega
  have e3 : w3.heap[g]? = w.heap[g]? := hgr.block g hgl (fun e => hL.apart e.symm)
  have hsize : w.heap.size ≤ (w3.setCell ⟨g, 1, none⟩ (.slice (some ⟨ga, 0, none⟩) (es.length + 1) cap)).heap.size := by simpa [World.setCell] using hgr.size
  have hcap : es.length + 1 ≤ cap ∧ cap ≤ 9223372036854775807 := by
    obtain ⟨p', c', h1, h2, h3⟩ := owns_shape ho3
    cases h1
    exact ⟨h2, h3⟩
  refine ⟨ga, cap, w3, hr, ?_, ?_, ⟨two_setCell (e3.trans hL.blk), ?_, hL.fit.snoc hlen hx3 hxb⟩, hcap.1, hcap.2, ⟨hgr.os, hgr.tape, hgr.output, hsize, fun k hk hx => ?_⟩, ?_⟩
  · rw [World.cell?_of_block (w := w) e3, cell_of_row _ _ _ _ _ _ hL.blk]; rfl
  · rw [World.frozen?_of_block (w := w) e3]; exact frozen_of_row w g 1 _ _ hL.blk
  · rw [List.length_append, List.map_append]
    exact ownsRow_setCell_other ho3 (by simpa [Value.ownBlock] using hne) _
  · rw [Below.heap_setCell _ _ _ _ (fun e => hx (.inl e))]
    exact hgr.block k hk (fun e => hx (.inr e.symm))
  · rcases hwh with h | h
    · exact .inl h
    · exact .inr (by omega)
set_option maxHeartbeats 4000000 in
theorem refAppend_any (w : World) (g : Nat) (yv : Value) (l : List UInt8) (es : List (List Int)) (x : List Int) (hL : RefAt w g yv l es) (hx3 : x.length ≤ 300) (hxb : Bytes x) (hlen : es.length < 64) :
    Calls Tryd.prog 70 #[.pointer (some ⟨g, 0, none⟩), .string ⟨(toU x).toArray⟩] w fun e w' => ∃ yv', e = .returned (.tuple #[.int .i64 (es.length : Int), .int .i64 0]) ∧ RefAt w' g yv' l (es ++ [x]) ∧ Kp (fun k => k = g ∨ yv.ownBlock = some k) w w' ∧ (∀ k, yv'.ownBlock = some k → yv.ownBlock = some k ∨ w.heap.size ≤ k) := by
  obtain ⟨ep, ec, rfl, hef, her⟩ := owns_shape hL.own
  have hc : w.cell? ⟨g, 1, none⟩ = some (.slice ep es.length ec) := by rw [cell_of_row _ _ _ _ _ _ hL.blk]; rfl
  have hsz := str_size x
  have hx' : ¬ (300 : Int) < x.length := by omega
  have hl' : ¬ (64 : Int) ≤ es.length := by omega
  have bN : Below w.heap.size w (w.alloc (.cells #[.string ⟨(toU x).toArray⟩] 9)) := (Below.refl _ _).alloc (Nat.le_refl _) _
  have hN := heapN w (.cells #[.string ⟨(toU x).toArray⟩] 9) _ rfl
  have hcN := cell_alloc hc (.cells #[.string ⟨(toU x).toArray⟩] 9)
  obtain ⟨ga, cap, w3, hr, hc3, hf3, hR3, hcap, hcap2, hk3, hq3⟩ := app59_world _ g _ l es (hL.below bN) w.heap.size x hN hx3 hxb hlen
  have HR : Hid _ := hR3
  have HK : Hid (Kp (fun k => k = g ∨ (Value.slice ep es.length ec).ownBlock = some k) w (w3.setCell ⟨g, 1, none⟩ (.slice (some ⟨ga, 0, none⟩) (es.length + 1) cap))) := (kp_of bN rfl).trans hk3
  have HQ : Hid (∀ k, (Value.slice (some ⟨ga, 0, none⟩) (es.length + 1) cap).ownBlock = some k → (Value.slice ep es.length ec).ownBlock = some k ∨ w.heap.size ≤ k) := fun k hk => by
    simp only [Value.ownBlock, Option.some.injEq] at hk
    subst hk
    rcases hq3 with h | h
    · exact .inl h
    · exact .inr (by have := bN.size; omega)
  have c5 : (w3.setCell ⟨g, 1, none⟩ (.slice (some ⟨ga, 0, none⟩) (es.length + 1) cap)).cell? ⟨g, 1, none⟩ = some (.slice (some ⟨ga, 0, none⟩) (es.length + 1) cap) := by rw [cell_of_row _ _ _ _ _ _ hR3.blk]; rfl
  have HRR : Hid _ := hr
  clear hR3 hk3 hq3 hL bN hN hr
  go_enter Tryd.func70, Tryd.ntmps70
  go_wp2_with (first
    | (at_builtin
       refine wpList_appRun rfl (.tmp 21) (.tmp 23) 59 59 rfl _ _ rfl rfl HRR.out ?_))
  go_ret2
  exact ⟨rfl, _, HR.out, HK.out, HQ.out⟩
set_option maxHeartbeats 2000000 in
theorem refAppendNo_any (w : World) (g : Nat) (yv : Value) (l : List UInt8) (es : List (List Int)) (x : List Int) (hL : RefAt w g yv l es) (hs : x.length ≤ 9223372036854775807) (hno : 300 < x.length ∨ 64 ≤ es.length) :
    Calls Tryd.prog 70 #[.pointer (some ⟨g, 0, none⟩), .string ⟨(toU x).toArray⟩] w fun e w' => e = .returned (.tuple #[.int .i64 0, .int .i64 2]) ∧ w' = w := by
  obtain ⟨ep, ec, rfl, hef, her⟩ := owns_shape hL.own
  have hc : w.cell? ⟨g, 1, none⟩ = some (.slice ep es.length ec) := by rw [cell_of_row _ _ _ _ _ _ hL.blk]; rfl
  have hsz := str_size x
  have hfew := hL.fit.1
  clear hL
  by_cases h : 300 < x.length
  · have h' : (300 : Int) < x.length := by omega
    go_enter Tryd.func70, Tryd.ntmps70
    go_wp2_with fail
    go_ret2
    exact ⟨rfl, rfl⟩
  · have h' : ¬ (300 : Int) < x.length := by omega
    have h6 : (64 : Int) ≤ es.length := by omega
    go_enter Tryd.func70, Tryd.ntmps70
    go_wp2_with fail
    go_ret2
    exact ⟨rfl, rfl⟩
set_option maxHeartbeats 1000000 in
theorem refRootM_any (w : World) (g : Nat) (yv : Value) (l : List UInt8) (es : List (List Int)) (n : Int) (hL : RefAt w g yv l es) :
    Calls Tryd.prog 71 #[.pointer (some ⟨g, 0, none⟩), .int .i64 n] w fun e w' => e = .returned (.tuple #[.agg (A8 (rootOut n es).1), .int .i64 (rootOut n es).2]) ∧ Below w.heap.size w w' := by
  obtain ⟨ep, ec, hc1, hE, hnil, hfew⟩ := hL.read
  clear hL
  have hb0 : Below w.heap.size w (w.alloc (.cells Z8x32 25)) := (Below.refl _ _).alloc (Nat.le_refl _) _
  have d0 : Hid (Dg (w.alloc (.cells Z8x32 25)) w.heap.size Z32) := Dg.new w _ rfl
  have hc := fun ob => cell_alloc hc1 ob
  have hf := hE.fits
  have HE : Hid (S59 w ep es.length ec es) := hE
  clear hE hc1
  by_cases h1 : n < 0
  · have HX : Hid (rootOut n es = (Z32, 1)) := by
      show rootOut n es = _
      unfold rootOut; rw [if_pos (.inl h1)]
    go_enter Tryd.func71, Tryd.ntmps71
    go_wp2_with (first
      | (with_reducible refine atStore 25 ?_
         refine store_D rfl _ _ rfl w.heap.size Z32 rfl rfl Z32 d0.out rfl ?_
         intro X hX
         refine hideGoal ?_))
    have dX : Hid (Dg X w.heap.size Z32) := hX.dg rfl
    have bX : Hid (Below w.heap.size w X) := hX.below _ _ (Nat.le_refl _) hb0
    clear hX d0
    refine openGoal ?_
    go_wp2_with fail
    exact bodyPost_ret (results_DT rfl _ _ w.heap.size Z32 rfl dX.out) rfl ⟨by rw [HX.out]; rfl, bX.out⟩
  · by_cases h2 : (es.length : Int) < n
    · have HX : Hid (rootOut n es = (Z32, 1)) := by
        show rootOut n es = _
        unfold rootOut; rw [if_pos (.inr h2)]
      go_enter Tryd.func71, Tryd.ntmps71
      go_wp2_with (first
        | (with_reducible refine atStore 25 ?_
           refine store_D rfl _ _ rfl w.heap.size Z32 rfl rfl Z32 d0.out rfl ?_
           intro X hX
           refine hideGoal ?_))
      have dX : Hid (Dg X w.heap.size Z32) := hX.dg rfl
      have bX : Hid (Below w.heap.size w X) := hX.below _ _ (Nat.le_refl _) hb0
      clear hX d0
      refine openGoal ?_
      go_wp2_with fail
      exact bodyPost_ret (results_DT rfl _ _ w.heap.size Z32 rfl dX.out) rfl ⟨by rw [HX.out]; rfl, bX.out⟩
    · obtain ⟨m, rfl⟩ : ∃ m : Nat, n = m := ⟨n.toNat, by omega⟩
      have HX : Hid (rootOut m es = (rootP (es.take m), 0)) := by
        show rootOut m es = _
        unfold rootOut; rw [if_neg (by omega), Int.toNat_natCast]
      have hsl := fun W => sslice_nil ep es.length ec m (by omega) hf hnil W
      go_enter Tryd.func71, Tryd.ntmps71
      go_wp2_with fail
      refine (refRoot_any m ep ec (es.take m) _ ((HE.out.front m (by omega)).below hb0)).mono ?_
      rintro e w1 ⟨rfl, b1⟩
      have d1 : Hid (Dg w1 w.heap.size Z32) := d0.out.next b1
      have B1 : Below w.heap.size w w1 := hb0.trans (b1.mono (by simp))
      obtain ⟨hl, _⟩ := rootP_ok (es.take m)
      clear b1 d0 hsl hc
      obtain ⟨D, hD⟩ : ∃ D, rootP (es.take m) = D := ⟨_, rfl⟩
      rw [hD] at hl HX ⊢
      clear hD
      go_wp2_with (first
        | (with_reducible refine atStore 25 ?_
           refine store_D rfl _ _ rfl w.heap.size D rfl rfl Z32 d1.out hl ?_
           intro X hX
           refine hideGoal ?_))
      have dX : Hid (Dg X w.heap.size D) := hX.dg hl
      have bX : Hid (Below w.heap.size w X) := hX.below _ _ (Nat.le_refl _) B1
      clear hX d1 B1
      refine openGoal ?_
      go_wp2_with fail
      exact bodyPost_ret (results_DT rfl _ _ w.heap.size D rfl dX.out) rfl ⟨by rw [HX.out]; rfl, bX.out⟩
set_option maxHeartbeats 1000000 in
theorem refLinkM_any (w : World) (g : Nat) (yv : Value) (l : List UInt8) (es : List (List Int)) (m n : Int) (hL : RefAt w g yv l es) :
    Calls Tryd.prog 74 #[.pointer (some ⟨g, 0, none⟩), .int .i64 m, .int .i64 n] w fun e w' => ∃ v, e = .returned (.tuple #[v, .int .i64 (linkOut m n es).2]) ∧ Own w' w.heap.size v (linkOut m n es).1 ∧ Below w.heap.size w w' := by
  obtain ⟨ep, ec, hc, hE, hnil, hfew⟩ := hL.read
  clear hL
  have hf := hE.fits
  have HE : Hid (S59 w ep es.length ec es) := hE
  clear hE
  by_cases hbad : n < 0 ∨ (es.length : Int) < n ∨ m < 0 ∨ n < m
  · have HX : Hid (linkOut m n es = ([], 1)) := by
      show linkOut m n es = _
      unfold linkOut; rw [if_pos hbad]
    by_cases h1 : n < 0
    · go_enter Tryd.func74, Tryd.ntmps74
      go_wp2_with fail
      go_ret2
      exact ⟨_, by rw [HX.out]; rfl, by rw [HX.out]; exact ⟨rfl, .inl ⟨rfl, rfl⟩⟩, Below.refl _ _⟩
    · by_cases h2 : (es.length : Int) < n
      · go_enter Tryd.func74, Tryd.ntmps74
        go_wp2_with fail
        go_ret2
        exact ⟨_, by rw [HX.out]; rfl, by rw [HX.out]; exact ⟨rfl, .inl ⟨rfl, rfl⟩⟩, Below.refl _ _⟩
      · by_cases h3 : m < 0
        · go_enter Tryd.func74, Tryd.ntmps74
          go_wp2_with fail
          go_ret2
          exact ⟨_, by rw [HX.out]; rfl, by rw [HX.out]; exact ⟨rfl, .inl ⟨rfl, rfl⟩⟩, Below.refl _ _⟩
        · have h4 : n < m := by omega
          go_enter Tryd.func74, Tryd.ntmps74
          go_wp2_with fail
          go_ret2
          exact ⟨_, by rw [HX.out]; rfl, by rw [HX.out]; exact ⟨rfl, .inl ⟨rfl, rfl⟩⟩, Below.refl _ _⟩
  · have h1 : ¬ n < 0 := by omega
    have h2 : ¬ (es.length : Int) < n := by omega
    have h3 : ¬ m < 0 := by omega
    have h4 : ¬ n < m := by omega
    obtain ⟨a, rfl⟩ : ∃ a : Nat, m = a := ⟨m.toNat, by omega⟩
    obtain ⟨b, rfl⟩ : ∃ b : Nat, n = b := ⟨n.toNat, by omega⟩
    have HX : Hid (linkOut a b es = (linkP a (es.take b), 0)) := by
      show linkOut a b es = _
      unfold linkOut; rw [if_neg hbad, Int.toNat_natCast, Int.toNat_natCast]
    have hsl := fun W => sslice_nil ep es.length ec b (by omega) hf hnil W
    clear hbad
    go_enter Tryd.func74, Tryd.ntmps74
    go_wp2_with fail
    refine (refLink_any b a ep ec (es.take b) w (HE.out.front b (by omega)) (by omega) (by omega)).mono ?_
    rintro e w1 ⟨v, rfl, hO, b1⟩
    have HO : Hid (Own w1 w.heap.size v (linkP a (es.take b))) := hO
    clear hO hsl hc
    go_wp2_with fail
    go_ret2
    exact ⟨_, by rw [HX.out]; rfl, by rw [HX.out]; exact HO.out, b1⟩
set_option maxHeartbeats 2000000 in
theorem refPathM_any (w : World) (g : Nat) (yv : Value) (l : List UInt8) (es : List (List Int)) (i n : Int) (hL : RefAt w g yv l es) :
    Calls Tryd.prog 72 #[.pointer (some ⟨g, 0, none⟩), .int .i64 i, .int .i64 n] w fun e w' => ∃ v, e = .returned (.tuple #[v, .int .i64 (pathOut i n es).2]) ∧ Own w' w.heap.size v (pathOut i n es).1 ∧ Below w.heap.size w w' := by
  obtain ⟨ep, ec, hc, hE, hnil, hfew⟩ := hL.read
  clear hL
  have hf := hE.fits
  have HE : Hid (S59 w ep es.length ec es) := hE
  clear hE
  by_cases hbad : (es.length : Int) < n ∨ ¬ (0 ≤ i ∧ i < n)
  · have HX : Hid (pathOut i n es = ([], 1)) := by
      show pathOut i n es = _
      unfold pathOut; rw [if_pos hbad]
    by_cases h1 : n < 1
    · go_enter Tryd.func72, Tryd.ntmps72
      go_wp2_with fail
      go_ret2
      exact ⟨_, by rw [HX.out]; rfl, by rw [HX.out]; exact ⟨rfl, .inl ⟨rfl, rfl⟩⟩, Below.refl _ _⟩
    · by_cases h2 : (es.length : Int) < n
      · go_enter Tryd.func72, Tryd.ntmps72
        go_wp2_with fail
        go_ret2
        exact ⟨_, by rw [HX.out]; rfl, by rw [HX.out]; exact ⟨rfl, .inl ⟨rfl, rfl⟩⟩, Below.refl _ _⟩
      · by_cases h3 : i < 0
        · go_enter Tryd.func72, Tryd.ntmps72
          go_wp2_with fail
          go_ret2
          exact ⟨_, by rw [HX.out]; rfl, by rw [HX.out]; exact ⟨rfl, .inl ⟨rfl, rfl⟩⟩, Below.refl _ _⟩
        · have h4 : n ≤ i := by omega
          clear hbad
          go_enter Tryd.func72, Tryd.ntmps72
          go_wp2_with fail
          go_ret2
          exact ⟨_, by rw [HX.out]; rfl, by rw [HX.out]; exact ⟨rfl, .inl ⟨rfl, rfl⟩⟩, Below.refl _ _⟩
  · have h1 : ¬ n < 1 := by omega
    have h2 : ¬ (es.length : Int) < n := by omega
    have h3 : ¬ i < 0 := by omega
    have h4 : ¬ n ≤ i := by omega
    obtain ⟨a, rfl⟩ : ∃ a : Nat, i = a := ⟨i.toNat, by omega⟩
    obtain ⟨b, rfl⟩ : ∃ b : Nat, n = b := ⟨n.toNat, by omega⟩
    have HX : Hid (pathOut a b es = (pathP a (es.take b), 0)) := by
      show pathOut a b es = _
      unfold pathOut; rw [if_neg hbad, Int.toNat_natCast, Int.toNat_natCast]
    have hsl := fun W => sslice_nil ep es.length ec b (by omega) hf hnil W
    clear hbad
    go_enter Tryd.func72, Tryd.ntmps72
    go_wp2_with fail
    refine (refPath_any b a ep ec (es.take b) w (HE.out.front b (by omega)) (by omega) (by omega)).mono ?_
    rintro e w1 ⟨v, rfl, hO, b1⟩
    have HO : Hid (Own w1 w.heap.size v (pathP a (es.take b))) := hO
    clear hO hsl hc
    go_wp2_with fail
    go_ret2
    exact ⟨_, by rw [HX.out]; rfl, by rw [HX.out]; exact HO.out, b1⟩
end Go.Proofs.YtcmjlhcpoajbkaaDoor
