import Derived.Test.YtcmjlhcpoajbkaaDoorFin
namespace Go.Proofs.YtcmjlhcpoajbkaaDoor
set_option maxRecDepth 10000
open Go.RowKit
/-- The two tables lie where they were laid. -/
structure Tabs (ks hs : List Int) (w : World) : Prop where
  klen : ks.length = 64
  hlen : hs.length = 8
  start : ∃ t fr, w.heap[0]? = some (.cells (A32 hs) t fr)
  rounds : ∃ t fr, w.heap[1]? = some (.cells (A32 ks) t fr)
theorem Tabs.size {ks hs : List Int} {w : World} (h : Tabs ks hs w) : 1 < w.heap.size := by
  obtain ⟨tK, fr, hK⟩ := h.rounds
  rcases Nat.lt_or_ge 1 w.heap.size with h | h
  · exact h
  · rw [Array.getElem?_eq_none h] at hK; cases hK
theorem Tabs.below {ks hs : List Int} {w w' : World} (h : Tabs ks hs w) (hb : Below w.heap.size w w') : Tabs ks hs w' :=
  ⟨h.klen, h.hlen, by obtain ⟨tK, fr, e⟩ := h.start; exact ⟨tK, fr, (hb.block 0 (by have := h.size; omega)).trans e⟩,
   by obtain ⟨tK, fr, e⟩ := h.rounds; exact ⟨tK, fr, (hb.block 1 h.size).trans e⟩⟩
def hashP (ks hs xs : List Int) : List Int := finP ks hs (0 + xs.length) xs
theorem dbytes_len (st : List Int) : (dbytes st).length = 32 := by simp [dbytes]
theorem finP_len (ks st : List Int) (t : Nat) (xs : List Int) : (finP ks st t xs).length = 32 := by
  unfold finP; split <;> exact dbytes_len _
theorem dbytes_bytes (st : List Int) : Bytes (dbytes st) := .of fun x hx => by
  simp only [dbytes, List.mem_map] at hx
  obtain ⟨i, _, rfl⟩ := hx
  unfold dbyte; omega
theorem finP_bytes (ks st : List Int) (t : Nat) (xs : List Int) : Bytes (finP ks st t xs) := by
  unfold finP; split <;> exact dbytes_bytes _
/-- A slice of bytes that came in. -/
structure In8 (w : World) (p : Option Addr) (n cap : Nat) (xs : List Int) : Prop where
  len : xs.length = n
  bytes : Bytes xs
  fits : n ≤ cap
  room : cap ≤ 9223372036854775807
  small : n ≤ 140737488355328
  lies : Lies w p xs
theorem In8.below {w w' : World} {p : Option Addr} {n cap : Nat} {xs : List Int} (h : In8 w p n cap xs) (hb : Below w.heap.size w w') : In8 w' p n cap xs :=
  ⟨h.len, h.bytes, h.fits, h.room, h.small, h.lies.below hb⟩
theorem fin_in {ks hs st : List Int} {w : World} (hT : Tabs ks hs w) (hs : st.length = 8) (ahead : Nat) (ha : ahead ≤ 64) {p : Option Addr} {n cap : Nat} {xs : List Int} (hi : In8 w p n cap xs) :
    Calls Tryd.prog 88 #[.agg (A32 st), .int .i64 ahead, .slice p n cap] w fun e w' => e = .returned (.agg (A8 (finP ks st (ahead + n) xs))) ∧ Below w.heap.size w w' :=
  finish_any ks st ahead n cap p xs w hT.klen hs hi.len hi.bytes hi.small hi.fits hi.room ha hi.lies hT.rounds
set_option maxHeartbeats 400000 in
theorem hash_any (ks hs : List Int) (w : World) (hT : Tabs ks hs w) (p : Option Addr) (n cap : Nat) (xs : List Int) (hi : In8 w p n cap xs) :
    Calls Tryd.prog 54 #[.slice p n cap] w fun e w' => e = .returned (.agg (A8 (hashP ks hs xs))) ∧ Below w.heap.size w w' := by
  obtain ⟨tS, fr, hst⟩ := hT.start
  have h1 := hT.size
  have H0 : Hid ((w.alloc (.cells Z8x32 25)).heap[0]? = _) := (heapO w (.cells Z8x32 25) 0 (by omega)).trans hst
  have hb0 : Below w.heap.size w (w.alloc (.cells Z8x32 25)) := (Below.refl _ _).alloc (Nat.le_refl _) _
  clear hst
  go_enter Tryd.func54, Tryd.ntmps54
  go_wp2_with (first
    | (with_reducible refine atLoad 143 ?_
       refine wpList_load_row rfl 143 (.global 0) rfl 0 rfl tS (A32 hs) fr (.array 8 98) H0.out und40 rfl (by rw [info40, A32_size, hT.hlen]) ?_))
  refine (fin_in (hT.below hb0) hT.hlen 0 (by omega) (hi.below hb0)).mono ?_
  rintro e w1 ⟨rfl, hb1⟩
  have hz : Hid (w1.heap[w.heap.size]? = _) := (hb1.block w.heap.size (by simp)).trans (heapN w _ _ rfl)
  have hB := hb0.trans (hb1.mono (by simp))
  have hl := finP_len ks hs (0 + n) xs
  have hF : hashP ks hs xs = finP ks hs (0 + n) xs := by rw [hashP, hi.len]
  generalize finP ks hs (0 + n) xs = F at *
  have HF : Hid (hashP ks hs xs = F) := hF
  clear hF
  go_wp2_with (first
    | (with_reducible refine atStore 25 ?_
       refine wpList_store_W rfl 25 (.tmp 2) (.tmp 5) rfl w.heap.size (A8 F) rfl rfl 25 Z8x32 hz.out (by rw [info25, A8_size, hl]) (by rw [A8_size, hl]; rfl) (A8_one _) ?_
       intro U hU))
  refine bodyPost_ret (v := .agg (A8 F)) (results_cell_row rfl _ _ w.heap.size 25 _ (0, 0) _ rfl hU.here und25 rfl (by rw [info25, A8_size, hl])) rfl ⟨?_, ?_⟩
  · rw [HF.out]
  · exact hU.below _ _ (by omega) hB
def kblock (ks hs key : List Int) : List Int := if 64 < key.length then fblock (hashP ks hs key) else fblock key
theorem kblock_len (ks hs key : List Int) : (kblock ks hs key).length = 64 := by unfold kblock; split <;> exact fblock_len _
theorem hashP_len (ks hs xs : List Int) : (hashP ks hs xs).length = 32 := finP_len _ _ _ _
theorem hashP_bytes (ks hs xs : List Int) : Bytes (hashP ks hs xs) := finP_bytes _ _ _ _
theorem kblock_bytes (ks hs key : List Int) (h : Bytes key) : Bytes (kblock ks hs key) := by
  unfold kblock; split
  · exact (hashP_bytes _ _ _).fblock
  · exact h.fblock
theorem row_lt {w : World} {g : Nat} {o : Obj} (h : w.heap[g]? = some o) : g < w.heap.size := by
  rcases Nat.lt_or_ge g w.heap.size with h' | h'
  · exact h'
  · rw [Array.getElem?_eq_none h'] at h; cases h
/-- A digest in a block of its own, as a slice. -/
theorem in8_row {w : World} {g : Nat} {F : List Int} {t : TypeId} {fr : Nat × Nat} (h : w.heap[g]? = some (.cells (A8 F) t fr)) (hl : F.length = 32) (hb : Bytes F) : In8 w (some ⟨g, 0, none⟩) 32 32 F :=
  ⟨hl, hb, Nat.le_refl _, by omega, by omega, fun _ => ⟨g, 0, rfl, row_lt h, fun j hj => (cell_of_row w g (0 + j) _ _ _ h).trans (by rw [Nat.zero_add, A8_get _ _ hj])⟩⟩
set_option maxHeartbeats 400000 in
theorem keyBlock_any (ks hs : List Int) (w : World) (hT : Tabs ks hs w) (p : Option Addr) (n cap : Nat) (xs : List Int) (hi : In8 w p n cap xs) :
    Calls Tryd.prog 89 #[.slice p n cap] w fun e w' => e = .returned (.agg (A8 (kblock ks hs xs))) ∧ Below w.heap.size w w' := by
  have hb0 : Below w.heap.size w (w.alloc (.cells Z8x64 146)) := (Below.refl _ _).alloc (Nat.le_refl _) _
  have hn : n ≤ 140737488355328 := hi.small
  by_cases h64 : 64 < n
  · have hF : kblock ks hs xs = fblock (hashP ks hs xs) := by rw [kblock, if_pos (by rw [hi.len]; exact h64)]
    have hl := hashP_len ks hs xs
    have hby := hashP_bytes ks hs xs
    go_enter Tryd.func89, Tryd.ntmps89
    go_wp2_with fail
    refine (hash_any ks hs _ (hT.below hb0) p n cap xs (hi.below hb0)).mono ?_
    rintro e w1 ⟨rfl, hb1⟩
    generalize hashP ks hs xs = D at *
    have HF : Hid (kblock ks hs xs = fblock D) := hF
    have hz : Hid (w1.heap[w.heap.size]? = _) := (hb1.block w.heap.size (by simp)).trans (heapN w _ _ rfl)
    have hB := hb0.trans (hb1.mono (by simp))
    have hz1 : w.heap.size < w1.heap.size := by have := hb1.size; simp at this; omega
    clear hF hb1
    go_wp2_with (first
      | (with_reducible refine atStore 25 ?_
         refine wpList_store_W rfl 25 (.tmp 3) (.tmp 8) rfl w1.heap.size (A8 D) rfl rfl 25 Z8x32 ?_ (by rw [info25, A8_size, hl]) (by rw [A8_size, hl]; rfl) (A8_one _) ?_
         · exact heapN w1 _ _ rfl
         intro U hU
         refine hideGoal ?_))
    have uz : Hid (U.heap[w.heap.size]? = _) := ((hU.other w.heap.size (by omega)).trans (heapO w1 _ _ (by omega))).trans hz.out
    have ub := hU.below _ _ (by omega) (hB.alloc (by omega) _)
    have hin := in8_row hU.here hl hby
    have us : w.heap.size < U.heap.size := by rw [hU.size]; simp; omega
    clear hU hz hB
    generalize w1.heap.size = g at *
    refine openGoal ?_
    go_wp2_with fail
    refine (firstBlock_any (some ⟨g, 0, none⟩) 32 32 D _ hin.len hin.lies).mono ?_
    rintro e w2 ⟨rfl, hb2⟩
    have yz : Hid (w2.heap[w.heap.size]? = _) := (hb2.block w.heap.size us).trans uz.out
    have yb := ub.trans (hb2.mono (by omega))
    have hfl := fblock_len D
    generalize fblock D = F at *
    go_wp2_with (first
      | (with_reducible refine atStore 146 ?_
         refine wpList_store_W rfl 146 (.tmp 2) (.tmp 10) rfl w.heap.size (A8 F) rfl rfl 146 Z8x64 yz.out (by rw [info43, A8_size, hfl]) (by rw [A8_size, hfl]; rfl) (A8_one _) ?_
         intro V hV))
    refine bodyPost_ret (v := .agg (A8 F)) (results_cell_row rfl _ _ w.heap.size 146 _ (0, 0) _ rfl hV.here und43 rfl (by rw [info43, A8_size, hfl])) rfl ⟨by rw [HF.out], ?_⟩
    exact hV.below _ _ (by omega) yb
  · have hF : kblock ks hs xs = fblock xs := by rw [kblock, if_neg (by rw [hi.len]; exact h64)]
    go_enter Tryd.func89, Tryd.ntmps89
    go_wp2_with fail
    refine (firstBlock_any p n cap xs _ hi.len (hi.below hb0).lies).mono ?_
    rintro e w2 ⟨rfl, hb2⟩
    have yz : Hid (w2.heap[w.heap.size]? = _) := (hb2.block w.heap.size (by simp)).trans (heapN w _ _ rfl)
    have yb := hb0.trans (hb2.mono (by simp))
    have hfl := fblock_len xs
    generalize fblock xs = F at *
    have HF : Hid (kblock ks hs xs = F) := hF
    clear hF
    go_wp2_with (first
      | (with_reducible refine atStore 146 ?_
         refine wpList_store_W rfl 146 (.tmp 2) (.tmp 12) rfl w.heap.size (A8 F) rfl rfl 146 Z8x64 yz.out (by rw [info43, A8_size, hfl]) (by rw [A8_size, hfl]; rfl) (A8_one _) ?_
         intro V hV))
    refine bodyPost_ret (v := .agg (A8 F)) (results_cell_row rfl _ _ w.heap.size 146 _ (0, 0) _ rfl hV.here und43 rfl (by rw [info43, A8_size, hfl])) rfl ⟨by rw [HF.out], ?_⟩
    exact hV.below _ _ (by omega) yb
end Go.Proofs.YtcmjlhcpoajbkaaDoor
