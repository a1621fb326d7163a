import Derived.Test.YtcmjlhcpoajbkaaDoorQSa
namespace Go.Proofs.YtcmjlhcpoajbkaaDoor
set_option maxRecDepth 10000
set_option linter.unusedSimpArgs false
open Go.RowKit
theorem three_setCell {w : World} {b : Nat} {v v' v'' u : Value} {t : TypeId} (h : w.heap[b]? = some (.cells #[v, v', v''] t (0, 0))) : (w.setCell ⟨b, 0, none⟩ u).heap[b]? = some (.cells #[u, v', v''] t (0, 0)) := by
  have := heap_setCell_same w b 0 _ _ u h
  exact this
set_option maxHeartbeats 16000000 in
theorem step_load (w w0 : World) (hw0 : Below w0.heap.size w0 w) (hT : Tabs KS HS w) (F G : Nat → Prop) (gp gx gy gb n : Nat) (ev yv kv blv : Value) (key : List Int) (es : List (List Int)) (hP : PairAt w F gp gx gy ev yv kv key es) (hB : BookAt w G gb blv n) (hF : ∀ k, F k → k < w.heap.size) (hG : ∀ k, G k → k < w.heap.size) (hFG : ∀ k, F k → ¬ G k) (a i m : Int) (bv : Value) (hkv : Arg w0 kv key) :
    Calls Tryd.prog 33 #[.pointer (some ⟨gp, 0, none⟩), opV 7 a i m bv, .pointer (some ⟨gb, 0, none⟩)] w (StepOut w F G gp gy gb n kv key) := by
  obtain ⟨bp, bn, bc, rfl⟩ : ∃ bp bn bc, kv = .slice bp bn bc := by
    rcases hkv with ⟨e, _⟩ | ⟨ad, n', c', e, _⟩
    · exact ⟨_, _, _, e⟩
    · exact ⟨_, _, _, e⟩
  have HB : Hid (BookAt w G gb blv n) := hB
  have HP : Hid (PairAt w F gp gx gy ev yv (.slice bp bn bc) key es) := hP
  have HTb : Hid (Tabs KS HS w) := hT
  have HF : Hid (∀ k, F k → k < w.heap.size) := hF
  have HG : Hid (∀ k, G k → k < w.heap.size) := hG
  have HFG : Hid (∀ k, F k → ¬ G k) := hFG
  have HA : Hid (Arg w0 (.slice bp bn bc) key) := hkv
  have HW0 : Hid (Below w0.heap.size w0 w) := hw0
  have hkl := hP.klen
  have hfit := hP.ref.fit
  have HWh : Hid (loadP key (toU (saveP key es)) = (es, 0, (toU (saveP key es)).length)) := by show _ = _; rw [toU_len]; exact load_whole key es hfit
  have hSl : (toU (saveP key es)).length ≤ 21504 := by
    rw [toU_len]
    have h := saveU_len key es (fun k => (hfit.2 k).1) es.length
    have : es.length * 336 ≤ 64 * 336 := Nat.mul_le_mul_right _ hfit.1
    show (saveU key es es.length).length ≤ _
    omega
  clear hP hB hT hF hG hFG hkv hw0 hfit
  have b0 : Below w.heap.size w (w.alloc (.cells #[.int .i64 7, .int .i64 a, .int .i64 i, .int .i64 m, bv] 66)) := (Below.refl _ _).alloc (Nat.le_refl _) _
  have hws : w0.heap.size ≤ w.heap.size := HW0.out.size
  have c00 := (HP.out.below b0).c0
  unfold opV
  go_enter Tryd.func33, Tryd.ntmps33
  go_wp2_with fail
  generalize w.alloc (.cells #[.int .i64 7, .int .i64 a, .int .i64 i, .int .i64 m, bv] 66) = V at *
  refine (save_all V (HTb.out.below b0) gx key es (HP.out.below b0).log.read).mono ?_
  rintro e w1 ⟨rfl, b1⟩
  have B1 : Below w.heap.size w w1 := b0.trans (b1.mono b0.size)
  have c12 := (HP.out.below B1).c2
  obtain ⟨SS, hSS⟩ : ∃ SS, toU (saveP key es) = SS := ⟨_, rfl⟩
  rw [hSS] at HWh hSl ⊢
  have hsz : (ByteArray.mk SS.toArray).size = SS.length := by show SS.toArray.size = _; simp
  clear hSS b1 b0 c00
  go_wp2_with fail
  have W01 : Below w0.heap.size w0 w1 := HW0.out.trans (B1.mono hws)
  refine (roomyW_any (HA.out.below W01)).mono ?_
  rintro e w2 ⟨p, k, cap, rfl, b2, _, hI, hR⟩
  have B2 : Below w.heap.size w w2 := B1.trans (b2.mono B1.size)
  have HI : Hid (In8 w2 p k cap key) := hI
  have HR : Hid (Rowy w2 w1.heap.size p k) := hR
  have HOF : Hid (∀ z, Of p z → w1.heap.size ≤ z ∧ z < w2.heap.size) := fun z hz => hR.of hz
  have hkk := hI.len
  have hw1 := B1.size
  have hw2 := b2.size
  clear hI hR b2 c12 W01
  go_wp2_with fail
  have hLd := load_any w2 (HTb.out.below B2) p k cap key HI.out (by omega) SS (by omega)
  rw [HWh.out] at hLd
  refine hLd.mono ?_
  rintro e w3 ⟨lv, rfl, b3, hl1, _⟩
  obtain ⟨gl, el, rfl, hLl⟩ := hl1 (.inl rfl)
  have HLl : Hid (LogAt w3 w2.heap.size gl el key es) := hLl
  have B3 : Below w.heap.size w w3 := B2.trans (b3.mono B2.size)
  have HR3 : Hid (Rowy w3 w1.heap.size p k) := HR.out.below b3
  have hw3 := b3.size
  clear hLd hLl hl1 b3 HI HR
  go_wp2_with fail
  go_loopw [33] (fun iv wr => ∃ j : Nat, j ≤ k ∧ iv = .int .i64 j ∧ Kp (Of p) w3 wr ∧ Rowy wr w1.heap.size p k) (fun iv _ => k - (intOf iv).toNat)
  case atStart => exact ⟨0, by omega, rfl, ⟨rfl, rfl, rfl, Nat.le_refl _, fun _ _ _ => rfl⟩, HR3.out⟩
  case round =>
    obtain ⟨j, hj, rfl, hkp, hrw⟩ := hrel
    by_cases hjl : j < k
    · have hjl' : (j : Int) < k := by omega
      obtain ⟨g, cur, rfl, hg, hch, hcz⟩ := hrw.resolve_left (fun h => by omega)
      have hcj : wr.cell? ⟨g, j, none⟩ = some (cur[j]'(by omega)) := by rw [cell_of_row _ _ _ _ _ _ hch]; simp
      have hfj := frozen_of_row wr g j _ _ hch
      have hix := ixR g k cap j hjl
      clear hrw
      go_wp2_with fail
      go_roundw
      case rel =>
        refine ⟨j + 1, by omega, by go_num, ⟨hkp.os, hkp.tape, hkp.output, by simpa using hkp.size, fun z hz hx => ?_⟩, .inr ⟨g, cur.setIfInBounds j (.int .u8 35), rfl, hg, heap_setCell_same wr g j _ _ _ hch, by simpa using hcz⟩⟩
        rw [Below.heap_setCell _ _ _ _ (by intro he; exact hx ⟨_, rfl, he.symm⟩)]
        exact hkp.block z hz hx
      case measure => first | (simp [intOf]; done) | (simp [intOf]; omega)
    · have hjl' : ¬ (j : Int) < k := by omega
      have P4 := (HP.out.below B3).frame hkp (fun z hz hx => by have := (HOF.out z hx).1; have := HF.out z hz; omega)
      have HP4 : Hid (PairAt wr F gp gx gy ev yv (.slice bp bn bc) key es) := P4
      have c40 := P4.c0
      have f40 := frozen_of_row wr gp 0 _ _ P4.blk
      have HKP : Hid (Kp (Of p) w3 wr) := hkp
      clear hkp hrw P4
      go_wp2_with fail
      go_ret
      have hgpl := HF.out gp HP4.out.fgp
      have hgyl := HF.out gy HP4.out.fgy
      have k5 : Kp (fun z => z = gp) wr (wr.setCell ⟨gp, 0, none⟩ (.pointer (some ⟨gl, 0, none⟩))) := ⟨rfl, rfl, rfl, by simp [World.setCell], fun z _ hx => Below.heap_setCell _ _ _ _ hx⟩
      have f1 := HLl.out.frame HKP.out (fun z hz hx => by have := (HLl.out.blk_ge hz).1; have := (HOF.out z hx).2; omega)
      have f2 := f1.1.frame k5 (fun z hz hx => by have := (f1.1.blk_ge hz).1; have : z = gp := hx; omega)
      have hge : ∀ z, Blk (wr.setCell ⟨gp, 0, none⟩ (.pointer (some ⟨gl, 0, none⟩))) gl el es.length z → w2.heap.size ≤ z := fun z hz => (f2.1.blk_ge hz).1
      have hoth := HP4.out.ref.other HP4.out.blk
      refine ⟨rfl, true, gl, el, yv, es, blv, n, ⟨three_setCell HP4.out.blk, .inl HP4.out.fgp, f2.1.zero, fun z hz => .inr ⟨rfl, by have := hge z hz; omega⟩, HP4.out.ref.frame k5 (fun h => hoth (.inl h.symm)) (fun z hz h => hoth (.inr (by rw [← h]; exact hz))), .inl HP4.out.fgy, fun z hz => .inl (HP4.out.frow z hz), fun z hz => ?_, HP4.out.klen, HP4.out.kbytes⟩, (((HB.out.below B3).frame HKP.out (fun z hg hx => by have := (HOF.out z hx).1; have := HG.out z hg; omega)).frame k5 (fun z hg hx => HFG.out gp HP4.out.fgp (by rw [← hx]; exact hg))).mono (fun z hz => .inl hz), by omega, ⟨HKP.out.os.trans B3.os, HKP.out.tape.trans B3.tape, HKP.out.output.trans B3.output, Nat.le_trans B3.size (Nat.le_trans HKP.out.size k5.size), fun z hz hx => ?_⟩⟩
      · have h1 := hge z hz
        exact ⟨by omega, by omega, fun e => by have := HF.out z (HP4.out.frow z e); omega⟩
      · exact (k5.block z (Nat.lt_of_lt_of_le hz (Nat.le_trans B3.size HKP.out.size)) (fun h => hx (.inl (by rw [h]; exact HP4.out.fgp)))).trans ((HKP.out.block z (Nat.lt_of_lt_of_le hz B3.size) (fun h => by have := (HOF.out z h).1; omega)).trans (B3.block z hz))
end Go.Proofs.YtcmjlhcpoajbkaaDoor
