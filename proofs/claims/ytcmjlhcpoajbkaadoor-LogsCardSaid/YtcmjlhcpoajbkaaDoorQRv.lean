import Derived.Test.YtcmjlhcpoajbkaaDoorQRr
import Derived.Test.YtcmjlhcpoajbkaaDoorQSv
namespace Go.Proofs.YtcmjlhcpoajbkaaDoor
set_option maxRecDepth 10000
set_option linter.unusedSimpArgs false
open Go.RowKit
theorem longU_toU (n : Int) (k : Nat) : longU n k = toU (longI n k) := by
  induction k with
  | zero => rfl
  | succ k ih => show _ :: _ = _ :: toU (longI n k); rw [ih]
theorem toU_cat (a b : List Int) : (ByteArray.mk (toU a).toArray) ++ (ByteArray.mk (toU b).toArray) = ByteArray.mk (toU (a ++ b)).toArray := by
  have : toU (a ++ b) = toU a ++ toU b := by simp [toU]
  rw [this]; exact ByteArray.mk_append_mk (toU a) (toU b)
/-- The reference's tag, by the numbers. -/
theorem refTag_b (w : World) (l : List UInt8) (key : List Int) (hk : toI l = key) (hlk : l.length ≤ 140737488355400) (D : List Int) (hD : Bytes D) (hl : D.length ≤ 140737488355400) :
    Calls Tryd.prog 20 #[.string ⟨l.toArray⟩, .string ⟨(toU D).toArray⟩] w fun e w' => e = .returned (.agg (A8 (tagP KS HS key D))) ∧ Below w.heap.size w w' := by
  have e : tagP KS HS key D = refTagP l (toU D) := by rw [← hk, ← tag_same, toI_toU D hD]
  rw [e]
  exact refTag_any l (toU D) w hlk (by rw [toU_len]; omega)
theorem refSeal_any (w : World) (l : List UInt8) (key : List Int) (hk : toI l = key) (hlk : l.length ≤ 1000) (s e : List Int) (hs : Bytes s) (he : Bytes e) (hsl : s.length = 32) (hel : e.length ≤ 300) :
    Calls Tryd.prog 20 #[.string ⟨l.toArray⟩, .string ⟨(toU (s ++ e)).toArray⟩] w fun ex w' => ex = .returned (.agg (A8 (sealP key s e))) ∧ Below w.heap.size w w' :=
  refTag_b w l key hk (by omega) (s ++ e) (bytes_app hs he) (by rw [List.length_append]; omega)
set_option maxHeartbeats 8000000 in
theorem refSave_any (w : World) (l : List UInt8) (key : List Int) (hk : toI l = key) (hlk : l.length ≤ 1000) (p : Option Addr) (n cap : Nat) (es : List (List Int)) (hE : S59 w p n cap es) (hn : n ≤ 64) :
    Calls Tryd.prog 40 #[.string ⟨l.toArray⟩, .slice p n cap] w fun e w' => e = .returned (.string ⟨(toU (saveP key es)).toArray⟩) ∧ Below w.heap.size w w' := by
  have hlen := hE.len
  have hfit := hE.fits
  have hroom := hE.room
  have HEach : Hid (∀ i, (es.getD i []).length ≤ 300 ∧ Bytes (es.getD i [])) := hE.each
  have HLies : Hid (0 < n → ∃ b o, p = some ⟨b, o, none⟩ ∧ b < w.heap.size ∧ ∀ i, i < n → w.cell? ⟨b, o + i, none⟩ = some (strV (es.getD i []))) := hE.lies
  clear hE
  have hb0 : Hid (Below w.heap.size w (w.alloc (.cells Z8x32 25))) := (Below.refl _ _).alloc (Nat.le_refl _) _
  have HD0 : Hid (Dg (w.alloc (.cells Z8x32 25)) w.heap.size (sealU key es 0)) := Dg.new w _ rfl
  have HSP : Hid (saveP key es = saveU key es n) := by show saveU key es es.length = _; rw [hlen]
  go_enter Tryd.func40, Tryd.ntmps40
  go_wp2_with fail
  go_loopw [5, 7] (fun v i wr => ∃ k : Nat, k ≤ n ∧ i = .int .i64 k ∧ v = .string ⟨(toU (saveU key es k)).toArray⟩ ∧ Dg wr w.heap.size (sealU key es k) ∧ Below w.heap.size w wr) (fun _ i _ => n - (intOf i).toNat)
  case atStart => exact ⟨0, by omega, rfl, rfl, HD0.out, hb0.out⟩
  case round =>
    obtain ⟨k, hk', rfl, rfl, hD, hbr⟩ := hrel
    have HD : Hid (Dg wr w.heap.size (sealU key es k)) := hD
    clear hD HD0 hb0
    have hlen' := saveU_len key es (fun k => (HEach.out k).1) k
    by_cases hlt : k < n
    · obtain ⟨b, o, rfl, hbl, hcs⟩ := HLies.out (by omega)
      have hc0 := hcs k hlt
      have hcr : ∀ W : World, Below w.heap.size w W → W.cell? ⟨b, o + k, none⟩ = some (strV (es.getD k [])) := fun W hW => by rw [hW.cell (p := ⟨b, o + k, none⟩) hbl]; exact hc0
      have HCR : Hid (∀ W : World, Below w.heap.size w W → W.cell? ⟨b, o + k, none⟩ = some (strV (es.getD k []))) := hcr
      have hix : ∀ W : World, (Instr.indexAt 59 (.slice (some ⟨b, o, none⟩) n cap) (.int .i64 k)).run Tryd.prog W = .ok (.pointer (some ⟨b, o + k, none⟩)) W := fun W => sindex_at b o n cap k hlt W
      obtain ⟨he3, heb⟩ := HEach.out k
      obtain ⟨hsl, hsb⟩ := sealU_ok key es k
      obtain ⟨hsl', hsb'⟩ := sealU_ok key es (k + 1)
      have HS1 : Hid (sealP key (sealU key es k) (es.getD k []) = sealU key es (k + 1)) := rfl
      have HSV : Hid (saveU key es (k + 1) = ((saveU key es k ++ longI ((es.getD k []).length : Nat) 4) ++ es.getD k []) ++ sealU key es (k + 1)) := by
        show _ = _
        rw [List.append_assoc, List.append_assoc]; rfl
      clear hcs hc0 hcr
      generalize es.getD k [] = x at *
      generalize sealU key es k = s at *
      obtain ⟨s', hs'⟩ : ∃ s', sealU key es (k + 1) = s' := ⟨_, rfl⟩
      have HSU : Hid (sealU key es (k + 1) = s') := hs'
      rw [hs'] at hsl' hsb' HS1 HSV
      clear hs'
      generalize saveU key es k = SF at *
      have hszx := str_size x
      have hszs := str_size s
      have hszs' := str_size s'
      have hszF := str_size SF
      unfold strV at HCR
      go_wp2_with fail
      have hbd : Below w.heap.size w wr.drew := hbr.drew
      have HDd : Dg wr.drew w.heap.size s := ⟨HD.out.len, HD.out.here⟩
      have hk0 := HCR.out _ hbd
      refine wp_region_noPanic ?_
      refine wp_region_held (S := fun W => W.cell? ⟨b, o + k, none⟩ = some (.string ⟨(toU x).toArray⟩)) follows ?_
      refine wpAnyH_take (i := 0) (v := .string ⟨l.toArray⟩) rfl (by kernel_rfl) (by kernel_rfl) (by kernel_rfl) (fun _ _ _ h => h) (.inl ⟨rfl, fun W _ => by go_simp⟩) hk0 ?_
      simp only [Act.put, List.getElem_toArray, List.getElem_cons_zero, List.getElem_cons_succ, List.setIfInBounds_toArray, List.set_cons_zero, List.set_cons_succ]
      refine wpAnyH_take (i := 3) (v := .slice (some ⟨b, o, none⟩) n cap) rfl (by kernel_rfl) (by kernel_rfl) (by kernel_rfl) (fun _ _ _ h => h) (.inl ⟨rfl, fun W _ => by go_simp⟩) hk0 ?_
      simp only [Act.put, List.getElem_toArray, List.getElem_cons_zero, List.getElem_cons_succ, List.setIfInBounds_toArray, List.set_cons_zero, List.set_cons_succ]
      refine wpAnyH_take (i := 4) (v := .int .i64 k) rfl (by kernel_rfl) (by kernel_rfl) (by kernel_rfl) (fun _ _ _ h => h) (.inl ⟨rfl, fun W _ => by go_simp⟩) hk0 ?_
      simp only [Act.put, List.getElem_toArray, List.getElem_cons_zero, List.getElem_cons_succ, List.setIfInBounds_toArray, List.set_cons_zero, List.set_cons_succ]
      refine wpAnyH_take (i := 5) (v := .pointer (some ⟨b, o + k, none⟩)) rfl (by kernel_rfl) (by kernel_rfl) (by kernel_rfl) (fun _ _ _ h => h) (.inl ⟨rfl, fun W _ => by have e := hix W; go_simp⟩) hk0 ?_
      simp only [Act.put, List.getElem_toArray, List.getElem_cons_zero, List.getElem_cons_succ, List.setIfInBounds_toArray, List.set_cons_zero, List.set_cons_succ]
      refine wpAnyH_take (i := 6) (v := .string ⟨(toU x).toArray⟩) rfl (by kernel_rfl) (by kernel_rfl) (by kernel_rfl) (fun _ _ _ h => h) (.inl ⟨rfl, fun W hW => by have e := hW; go_simp⟩) hk0 ?_
      simp only [Act.put, List.getElem_toArray, List.getElem_cons_zero, List.getElem_cons_succ, List.setIfInBounds_toArray, List.set_cons_zero, List.set_cons_succ]
      refine relist #[true, false, false, true, true, true, true, false, false, false] (by kernel_rfl) ?_
      refine any_one (i := 1) (by kernel_rfl) ?_
      refine wpOp_load_D rfl rfl (.tmp 6) rfl w.heap.size rfl s HDd ?_
      refine ⟨hk0, ?_⟩
      simp only [Act.put, List.getElem_toArray, List.getElem_cons_zero, List.getElem_cons_succ, List.setIfInBounds_toArray, List.set_cons_zero, List.set_cons_succ]
      refine relist #[true, true, false, true, true, true, true, false, false, false] (by kernel_rfl) ?_
      refine any_one (i := 2) (by kernel_rfl) ?_
      refine wpOp_call (f := 60) (args := #[.agg (A8 s)]) rfl rfl (by go_simp) ?_
      refine (text_any s _ hsl).mono ?_
      rintro ex w1 ⟨rfl, b1⟩
      have B1 : Below w.heap.size w w1 := hbd.trans (b1.mono hbd.size)
      have D1 : Dg w1 w.heap.size s := HDd.next b1
      refine ⟨_, rfl, HCR.out _ B1, ?_⟩
      simp only [Act.put, List.getElem_toArray, List.getElem_cons_zero, List.getElem_cons_succ, List.setIfInBounds_toArray, List.set_cons_zero, List.set_cons_succ]
      have eA := toU_cat s x
      refine wpAnyH_take (i := 7) (v := .string ⟨(toU (s ++ x)).toArray⟩) rfl (by kernel_rfl) (by kernel_rfl) (by kernel_rfl) (fun _ _ _ h => h) (.inl ⟨rfl, fun W _ => by go_simp <;> omega⟩) (HCR.out _ B1) ?_
      simp only [Act.put, List.getElem_toArray, List.getElem_cons_zero, List.getElem_cons_succ, List.setIfInBounds_toArray, List.set_cons_zero, List.set_cons_succ]
      refine relist #[true, true, true, true, true, true, true, true, false, false] (by kernel_rfl) ?_
      refine any_one (i := 8) (by kernel_rfl) ?_
      refine wpOp_call (f := 20) (args := #[.string ⟨l.toArray⟩, .string ⟨(toU (s ++ x)).toArray⟩]) rfl rfl (by go_simp) ?_
      refine (refSeal_any w1 l key hk hlk s x hsb heb hsl he3).mono ?_
      rintro ex w2 ⟨rfl, b2⟩
      rw [HS1.out]
      have B2 : Below w.heap.size w w2 := B1.trans (b2.mono B1.size)
      have D2 : Dg w2 w.heap.size s := D1.next b2
      refine ⟨_, rfl, HCR.out _ B2, ?_⟩
      simp only [Act.put, List.getElem_toArray, List.getElem_cons_zero, List.getElem_cons_succ, List.setIfInBounds_toArray, List.set_cons_zero, List.set_cons_succ]
      refine relist #[true, true, true, true, true, true, true, true, true, false] (by kernel_rfl) ?_
      refine any_one (i := 9) (by kernel_rfl) ?_
      refine wpOp_store_D rfl rfl (.tmp 6) (.tmp 22) rfl w.heap.size s' rfl rfl s D2 hsl' ?_
      intro U hU
      have BU : Below w.heap.size w U := hU.below _ _ (Nat.le_refl _) B2
      refine ⟨HCR.out _ BU, ?_⟩
      simp only [Act.put, List.getElem_toArray, List.getElem_cons_zero, List.getElem_cons_succ, List.setIfInBounds_toArray, List.set_cons_zero, List.set_cons_succ]
      refine wpAnyH_done (by kernel_rfl) ?_ _
      refine NoPanic.normal ?_
      have DU : Hid (Dg U w.heap.size s') := hU.dg hsl'
      clear hU D1 D2 HDd HD b1 b2 B1 B2 hk0 hbd eA
      obtain ⟨LL, hLL⟩ : ∃ LL, longI (x.length : Nat) 4 = LL := ⟨_, rfl⟩
      have HLU : Hid (longU (x.length : Nat) 4 = toU LL) := by show _ = _; rw [longU_toU, hLL]
      have hLl : LL.length = 4 := by rw [← hLL]; exact longI_len _ _
      rw [hLL] at HSV
      clear hLL
      have hszL := str_size LL
      obtain ⟨A1, hA1⟩ : ∃ A1, SF ++ LL = A1 := ⟨_, rfl⟩
      obtain ⟨A2, hA2⟩ : ∃ A2, A1 ++ x = A2 := ⟨_, rfl⟩
      obtain ⟨A3, hA3⟩ : ∃ A3, A2 ++ s' = A3 := ⟨_, rfl⟩
      have e1 := toU_cat SF LL
      have e2 := toU_cat A1 x
      have e3 := toU_cat A2 s'
      rw [hA1] at e1 HSV
      rw [hA2] at e2 HSV
      rw [hA3] at e3 HSV
      have l1 : A1.length = SF.length + 4 := by rw [← hA1, List.length_append, hLl]
      have l2 : A2.length = SF.length + 4 + x.length := by rw [← hA2, List.length_append, l1]
      clear hA1 hA2 hA3
      have hz1 := str_size A1
      have hz2 := str_size A2
      rw [l1] at hz1
      rw [l2] at hz2
      have hk64 : SF.length ≤ 64 * 336 := Nat.le_trans hlen' (Nat.mul_le_mul_right _ (by omega))
      go_wp2_with fail
      have hbd : Below w.heap.size w U.drew := BU.drew
      have S0 : U.drew.cell? ⟨b, o + k, none⟩ = some (.string ⟨(toU x).toArray⟩) ∧ Dg U.drew w.heap.size s' := ⟨HCR.out _ hbd, ⟨DU.out.len, DU.out.here⟩⟩
      refine wp_region_noPanic ?_
      refine wp_region_held (S := fun W => W.cell? ⟨b, o + k, none⟩ = some (.string ⟨(toU x).toArray⟩) ∧ Dg W w.heap.size s') follows ?_
      refine wpAnyH_take (i := 0) (v := .string ⟨(toU SF).toArray⟩) rfl (by kernel_rfl) (by kernel_rfl) (by kernel_rfl) (fun _ _ _ h => h) (.inl ⟨rfl, fun W _ => by go_simp⟩) S0 ?_
      simp only [Act.put, List.getElem_toArray, List.getElem_cons_zero, List.getElem_cons_succ, List.setIfInBounds_toArray, List.set_cons_zero, List.set_cons_succ]
      refine wpAnyH_take (i := 1) (v := .slice (some ⟨b, o, none⟩) n cap) rfl (by kernel_rfl) (by kernel_rfl) (by kernel_rfl) (fun _ _ _ h => h) (.inl ⟨rfl, fun W _ => by go_simp⟩) S0 ?_
      simp only [Act.put, List.getElem_toArray, List.getElem_cons_zero, List.getElem_cons_succ, List.setIfInBounds_toArray, List.set_cons_zero, List.set_cons_succ]
      refine wpAnyH_take (i := 2) (v := .int .i64 k) rfl (by kernel_rfl) (by kernel_rfl) (by kernel_rfl) (fun _ _ _ h => h) (.inl ⟨rfl, fun W _ => by go_simp⟩) S0 ?_
      simp only [Act.put, List.getElem_toArray, List.getElem_cons_zero, List.getElem_cons_succ, List.setIfInBounds_toArray, List.set_cons_zero, List.set_cons_succ]
      refine wpAnyH_take (i := 3) (v := .pointer (some ⟨b, o + k, none⟩)) rfl (by kernel_rfl) (by kernel_rfl) (by kernel_rfl) (fun _ _ _ h => h) (.inl ⟨rfl, fun W _ => by have e := hix W; go_simp⟩) S0 ?_
      simp only [Act.put, List.getElem_toArray, List.getElem_cons_zero, List.getElem_cons_succ, List.setIfInBounds_toArray, List.set_cons_zero, List.set_cons_succ]
      refine wpAnyH_take (i := 4) (v := .string ⟨(toU x).toArray⟩) rfl (by kernel_rfl) (by kernel_rfl) (by kernel_rfl) (fun _ _ _ h => h) (.inl ⟨rfl, fun W hW => by have e := hW.1; go_simp⟩) S0 ?_
      simp only [Act.put, List.getElem_toArray, List.getElem_cons_zero, List.getElem_cons_succ, List.setIfInBounds_toArray, List.set_cons_zero, List.set_cons_succ]
      refine wpAnyH_take (i := 5) (v := .int .i64 (x.length : Nat)) rfl (by kernel_rfl) (by kernel_rfl) (by kernel_rfl) (fun _ _ _ h => h) (.inl ⟨rfl, fun W _ => by go_simp⟩) S0 ?_
      simp only [Act.put, List.getElem_toArray, List.getElem_cons_zero, List.getElem_cons_succ, List.setIfInBounds_toArray, List.set_cons_zero, List.set_cons_succ]
      refine wpAnyH_take (i := 8) (v := .slice (some ⟨b, o, none⟩) n cap) rfl (by kernel_rfl) (by kernel_rfl) (by kernel_rfl) (fun _ _ _ h => h) (.inl ⟨rfl, fun W _ => by go_simp⟩) S0 ?_
      simp only [Act.put, List.getElem_toArray, List.getElem_cons_zero, List.getElem_cons_succ, List.setIfInBounds_toArray, List.set_cons_zero, List.set_cons_succ]
      refine wpAnyH_take (i := 9) (v := .int .i64 k) rfl (by kernel_rfl) (by kernel_rfl) (by kernel_rfl) (fun _ _ _ h => h) (.inl ⟨rfl, fun W _ => by go_simp⟩) S0 ?_
      simp only [Act.put, List.getElem_toArray, List.getElem_cons_zero, List.getElem_cons_succ, List.setIfInBounds_toArray, List.set_cons_zero, List.set_cons_succ]
      refine wpAnyH_take (i := 10) (v := .pointer (some ⟨b, o + k, none⟩)) rfl (by kernel_rfl) (by kernel_rfl) (by kernel_rfl) (fun _ _ _ h => h) (.inl ⟨rfl, fun W _ => by have e := hix W; go_simp⟩) S0 ?_
      simp only [Act.put, List.getElem_toArray, List.getElem_cons_zero, List.getElem_cons_succ, List.setIfInBounds_toArray, List.set_cons_zero, List.set_cons_succ]
      refine wpAnyH_take (i := 11) (v := .string ⟨(toU x).toArray⟩) rfl (by kernel_rfl) (by kernel_rfl) (by kernel_rfl) (fun _ _ _ h => h) (.inl ⟨rfl, fun W hW => by have e := hW.1; go_simp⟩) S0 ?_
      simp only [Act.put, List.getElem_toArray, List.getElem_cons_zero, List.getElem_cons_succ, List.setIfInBounds_toArray, List.set_cons_zero, List.set_cons_succ]
      refine wpAnyH_take (i := 13) (v := .agg (A8 s')) rfl (by kernel_rfl) (by kernel_rfl) (by kernel_rfl) (fun _ _ _ h => h) (yields_D rfl (.tmp 6) rfl w.heap.size rfl s' hsl' (fun W hW => hW.2)) S0 ?_
      simp only [Act.put, List.getElem_toArray, List.getElem_cons_zero, List.getElem_cons_succ, List.setIfInBounds_toArray, List.set_cons_zero, List.set_cons_succ]
      refine relist #[true, true, true, true, true, true, false, false, true, true, true, true, false, true, false, false, false] (by kernel_rfl) ?_
      refine any_one (i := 6) (by kernel_rfl) ?_
      refine wpOp_call (f := 65) (args := #[.int .i64 (x.length : Nat), .int .i64 4]) rfl rfl (by go_simp) ?_
      refine (long_any (x.length : Nat) 4 _ (by omega)).mono ?_
      rintro ex w1 ⟨rfl, b1⟩
      rw [HLU.out]
      have B1 : Below w.heap.size w w1 := hbd.trans (b1.mono hbd.size)
      have S1 : w1.cell? ⟨b, o + k, none⟩ = some (.string ⟨(toU x).toArray⟩) ∧ Dg w1 w.heap.size s' := ⟨HCR.out _ B1, S0.2.next b1⟩
      refine ⟨_, rfl, S1, ?_⟩
      simp only [Act.put, List.getElem_toArray, List.getElem_cons_zero, List.getElem_cons_succ, List.setIfInBounds_toArray, List.set_cons_zero, List.set_cons_succ]
      refine wpAnyH_take (i := 7) (v := .string ⟨(toU A1).toArray⟩) rfl (by kernel_rfl) (by kernel_rfl) (by kernel_rfl) (fun _ _ _ h => h) (.inl ⟨rfl, fun W _ => by go_simp <;> omega⟩) S1 ?_
      simp only [Act.put, List.getElem_toArray, List.getElem_cons_zero, List.getElem_cons_succ, List.setIfInBounds_toArray, List.set_cons_zero, List.set_cons_succ]
      refine wpAnyH_take (i := 12) (v := .string ⟨(toU A2).toArray⟩) rfl (by kernel_rfl) (by kernel_rfl) (by kernel_rfl) (fun _ _ _ h => h) (.inl ⟨rfl, fun W _ => by go_simp <;> omega⟩) S1 ?_
      simp only [Act.put, List.getElem_toArray, List.getElem_cons_zero, List.getElem_cons_succ, List.setIfInBounds_toArray, List.set_cons_zero, List.set_cons_succ]
      refine relist #[true, true, true, true, true, true, true, true, true, true, true, true, true, true, false, false, false] (by kernel_rfl) ?_
      refine any_one (i := 14) (by kernel_rfl) ?_
      refine wpOp_call (f := 60) (args := #[.agg (A8 s')]) rfl rfl (by go_simp) ?_
      refine (text_any s' _ hsl').mono ?_
      rintro ex w2 ⟨rfl, b2⟩
      have B2 : Below w.heap.size w w2 := B1.trans (b2.mono B1.size)
      have S2 : w2.cell? ⟨b, o + k, none⟩ = some (.string ⟨(toU x).toArray⟩) ∧ Dg w2 w.heap.size s' := ⟨HCR.out _ B2, S1.2.next b2⟩
      refine ⟨_, rfl, S2, ?_⟩
      simp only [Act.put, List.getElem_toArray, List.getElem_cons_zero, List.getElem_cons_succ, List.setIfInBounds_toArray, List.set_cons_zero, List.set_cons_succ]
      refine wpAnyH_take (i := 15) (v := .string ⟨(toU A3).toArray⟩) rfl (by kernel_rfl) (by kernel_rfl) (by kernel_rfl) (fun _ _ _ h => h) (.inl ⟨rfl, fun W _ => by go_simp <;> omega⟩) S2 ?_
      simp only [Act.put, List.getElem_toArray, List.getElem_cons_zero, List.getElem_cons_succ, List.setIfInBounds_toArray, List.set_cons_zero, List.set_cons_succ]
      refine wpAnyH_take (i := 16) (v := .string ⟨(toU A3).toArray⟩) rfl (by kernel_rfl) (by kernel_rfl) (by kernel_rfl) (fun _ _ _ h => h) (.inl ⟨rfl, fun W _ => by go_simp⟩) S2 ?_
      simp only [Act.put, List.getElem_toArray, List.getElem_cons_zero, List.getElem_cons_succ, List.setIfInBounds_toArray, List.set_cons_zero, List.set_cons_succ]
      refine wpAnyH_done (by kernel_rfl) ?_ _
      refine NoPanic.normal ?_
      go_wp2_with fail
      go_roundw
      case rel => exact ⟨k + 1, by omega, by go_num, by rw [HSV.out], by rw [HSU.out]; exact S2.2, B2⟩
      case measure => simp [intOf]; omega
    · have ek : k = n := by omega
      subst ek
      go_wp2_with fail
      go_ret
      exact ⟨by rw [HSP.out]; rfl, hbr⟩
end Go.Proofs.YtcmjlhcpoajbkaaDoor
