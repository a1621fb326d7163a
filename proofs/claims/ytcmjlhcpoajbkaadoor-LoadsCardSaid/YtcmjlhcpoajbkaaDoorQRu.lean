import Derived.Test.YtcmjlhcpoajbkaaDoorQRv
import Derived.Test.YtcmjlhcpoajbkaaDoorQTx
import Derived.RangeFuncNested
import Derived.RangeFuncBound
import Derived.RangeFuncCalls
import Derived.RangeFuncLeaves
import Derived.Shelf.Abstract
import Derived.Shelf.RegionOpen
import Derived.WalkKit
import Derived.OwnWalkIn
import Derived.TacticsInMore
import Derived.LoopNIn
import Derived.LoopIn
import Derived.Test.YtcmjlhcpoajbkaaDoorQCl
import Derived.Test.YtcmjlhcpoajbkaaDoorQKd
import Derived.TacticsIn
import Derived.OrdersIn
import Derived.Test.YtcmjlhcpoajbkaaDoorQTag
import Derived.Test.YtcmjlhcpoajbkaaDoorQDs
import Derived.Test.YtcmjlhcpoajbkaaDoorQLf
namespace Go.Proofs.YtcmjlhcpoajbkaaDoor
set_option maxRecDepth 10000
set_option linter.unusedSimpArgs false
open Go.RowKit
theorem toU_toI (l : List UInt8) : toU (toI l) = l := by
  unfold toU toI
  rw [List.map_map]
  conv => rhs; rw [← List.map_id l]
  apply List.map_congr_left
  intro b _
  simp
theorem ext_mid (f : List UInt8) (a b : Nat) : (ByteArray.mk f.toArray).extract a b = ⟨((f.drop a).take (b - a)).toArray⟩ := by
  apply ByteArray.ext
  simp [ByteArray.data_extract, List.extract_eq_take_drop]
theorem str_mid (f : List UInt8) (a b : Nat) (hab : a ≤ b) (hb : b ≤ f.length) (W : World) : (Instr.sliceAt 9 (.string ⟨f.toArray⟩) (some (.int .i64 (a : Int))) (some (.int .i64 (b : Int))) none).run Tryd.prog W = .ok (.string ⟨((f.drop a).take (b - a)).toArray⟩) W := by
  have hsz : (ByteArray.mk f.toArray).size = f.length := by show f.toArray.size = _; simp
  have h1 : (b : Int) ≤ f.length := by omega
  have h2 : ¬ (a : Int) < 0 := by omega
  have h3 : (a : Int) ≤ b := by omega
  have he := ext_mid f a b
  go_simp
theorem wrap_byte (y z : Nat) (hy : y < 4294967296) (hz : z < 256) : wrap64 (256 * (y : Int) + wrap64 (z : Int)) = ((y * 256 + z : Nat) : Int) := by
  have e1 : wrap64 (z : Int) = z := by unfold wrap64; omega
  rw [e1]
  unfold wrap64
  omega
theorem Fit.snoc {es : List (List Int)} {x : List Int} (h : Fit es) (hl : es.length < 64) (hx : x.length ≤ 300) (hb : Bytes x) : Fit (es ++ [x]) := by
  refine ⟨by rw [List.length_append]; simp; omega, fun k => ?_⟩
  rcases Nat.lt_trichotomy k es.length with hk | hk | hk
  · rw [List.getD_eq_getElem?_getD, List.getElem?_append_left hk, ← List.getD_eq_getElem?_getD]; exact h.2 k
  · rw [List.getD_eq_getElem?_getD, List.getElem?_append_right (by omega), hk, Nat.sub_self]; exact ⟨hx, hb⟩
  · rw [List.getD_eq_getElem?_getD, List.getElem?_eq_none (by rw [List.length_append]; simp; omega)]
    exact ⟨by simp, fun j => by simp⟩
theorem Fit.nil : Fit [] := ⟨by simp, fun k => by simp [Bytes]⟩
theorem entN_ok (f : List UInt8) (h : lenN f ≤ 300) : (entN f).length ≤ 300 ∧ Bytes (entN f) := ⟨by unfold entN; rw [toI_len, List.length_take]; omega, toI_bytes _⟩
theorem loadF_fit (key : List Int) (f : List UInt8) : ∀ (k p : Nat) (es : List (List Int)) (s : List Int), Fit es → Fit (loadF key f k p es s).1 := by
  intro k
  induction k with
  | zero => intro p es s h; exact h
  | succ k ih =>
    intro p es s h
    simp only [loadF]
    split
    · exact h
    · split
      · exact h
      · rename_i he
        split
        · exact h
        · have hz : errN (f.drop p) es.length = 0 := by simpa using he
          obtain ⟨_, h2, h3⟩ := errN_zero _ _ hz
          exact ih _ _ _ (h.snoc h3 (entN_ok _ h2).1 (entN_ok _ h2).2)
theorem loadP_fit (key : List Int) (f : List UInt8) : Fit (loadP key f).1 := loadF_fit _ _ _ _ _ _ Fit.nil
/-- What a call of the document's own Load comes to. -/
def RefOut (w : World) (LP : List (List Int) × Int × Nat) (e : Ending) (w' : World) : Prop :=
  ∃ v, e = .returned (.tuple #[v, .int .i64 LP.2.1, .int .i64 LP.2.2]) ∧ Below w.heap.size w w' ∧
    ((LP.2.1 = 0 ∨ LP.2.1 = 3) → w'.ownsRow w.heap.size 9 1 v LP.1.length (LP.1.map strV))
theorem refOut_row {w w' : World} {es : List (List Int)} {m : Int} {pl : Nat} {v : Value} (hb : Below w.heap.size w w') (ho : w'.ownsRow (w.heap.size + 1) 9 1 v es.length (es.map strV)) :
    RefOut w (es, m, pl) (.returned (.tuple #[v, .int .i64 m, .int .i64 pl])) w' := ⟨v, rfl, hb, fun _ => owns_mono ho (by omega)⟩
theorem refOut_nil {w w' : World} {es : List (List Int)} {m : Int} {pl : Nat} {v : Value} (hm : ¬ (m = 0 ∨ m = 3)) (hb : Below w.heap.size w w') :
    RefOut w (es, m, pl) (.returned (.tuple #[v, .int .i64 m, .int .i64 pl])) w' := ⟨v, rfl, hb, fun h => absurd h hm⟩
set_option maxHeartbeats 20000000 in
theorem refLoad_any (w : World) (l : List UInt8) (key : List Int) (hk : toI l = key) (hlk : l.length ≤ 100) (f : List UInt8) (hf : f.length ≤ 140737488355328) :
    Calls Tryd.prog 38 #[.string ⟨l.toArray⟩, .string ⟨f.toArray⟩] w (RefOut w (loadP key f)) := by
  have hsz : (ByteArray.mk f.toArray).size = f.length := by show f.toArray.size = _; simp
  have hszk : (ByteArray.mk l.toArray).size = l.length := by show l.toArray.size = _; simp
  obtain ⟨LP, hLP⟩ : ∃ LP, loadP key f = LP := ⟨_, rfl⟩
  have HLP : Hid (loadF key f (f.length + 1) 0 [] Z32 = LP) := hLP
  rw [hLP]
  clear hLP
  have hkl : ¬ (100 : Int) < l.length := by omega
  have D1 : Hid (Dg (w.alloc (.cells Z8x32 25)) w.heap.size Z32) := Dg.new w _ rfl
  have B1 : Hid (Below w.heap.size w (w.alloc (.cells Z8x32 25))) := (Below.refl _ _).alloc (Nat.le_refl _) _
  have O1 : Hid ((w.alloc (.cells Z8x32 25)).ownsRow (w.heap.size + 1) 9 1 (.slice none 0 0) 0 []) := World.ownsRow_nil _ _ _ _
  go_enter Tryd.func38, Tryd.ntmps38
  go_wp2_with fail
  go_loopw [7, 9] (fun v i wr => ∃ (pl k : Nat) (es : List (List Int)) (s : List Int), i = .int .i64 pl ∧ pl ≤ f.length ∧ f.length < pl + k ∧ loadF key f k pl es s = LP ∧ es.length ≤ 64 ∧ s.length = 32 ∧ Bytes s ∧ wr.ownsRow (w.heap.size + 1) 9 1 v es.length (es.map strV) ∧ Dg wr w.heap.size s ∧ Below w.heap.size w wr) (fun _ i _ => f.length - (intOf i).toNat)
  case atStart => exact ⟨0, f.length + 1, [], Z32, rfl, by omega, by omega, HLP.out, by simp, rfl, Z32_bytes, O1.out, D1.out, B1.out⟩
  case round =>
    obtain ⟨pl, k, es, s, rfl, hpl, hfu, hload, h64, hsl, hsb, hO, hD, hbr⟩ := hrel
    clear D1 B1 O1 HLP
    obtain ⟨k, rfl⟩ : ∃ k', k = k' + 1 := ⟨k - 1, by omega⟩
    obtain ⟨vp, vc, rfl, hvf, hvr⟩ := owns_shape hO
    have HO : Hid (wr.ownsRow (w.heap.size + 1) 9 1 (.slice vp es.length vc) es.length (es.map strV)) := hO
    have HD : Hid (Dg wr w.heap.size s) := hD
    clear hO hD
    by_cases hend : pl < f.length
    · have HLo : Hid ((if errN (f.drop pl) es.length ≠ 0 then (es, errN (f.drop pl) es.length, pl) else if tagN (f.drop pl) ≠ sealP key s (entN (f.drop pl)) then (es, 4, pl) else loadF key f k (pl + (4 + lenN (f.drop pl) + 32)) (es ++ [entN (f.drop pl)]) (sealP key s (entN (f.drop pl)))) = LP) := by
        have h := hload
        simp only [loadF] at h
        rw [if_neg (by omega)] at h
        exact h
      have hdl : (f.drop pl).length = f.length - pl := List.length_drop
      clear hload
      have hend' : (pl : Int) < f.length := by omega
      by_cases h4 : f.length < pl + 4
      · have h4' : (f.length : Int) < (pl : Int) + 4 := by omega
        have hER : errN (f.drop pl) es.length = 3 := by unfold errN; rw [if_pos (by omega)]
        have hLP : LP = (es, 3, pl) := by rw [← HLo.out, hER, if_pos (by decide)]
        subst hLP
        clear HLo hER
        go_wp2_with fail
        go_ret3
        exact refOut_row hbr HO.out
      · have h4' : ¬ (f.length : Int) < (pl : Int) + 4 := by omega
        go_wp2_with fail
        go_loopw [10, 11] (fun v i wq => wq = wr ∧ ∃ q : Nat, q ≤ 4 ∧ i = .int .i64 q ∧ v = .int .i64 (numN ((f.drop pl).take q) : Nat)) (fun _ i _ => 4 - (intOf i).toNat)
        case atStart => exact ⟨rfl, 0, by omega, rfl, rfl⟩
        case round =>
          obtain ⟨hwq, q, hq, rfl, rfl⟩ := hrel
          by_cases hlt : q < 4
          · have hlt' : (q : Int) < 4 := by omega
            have hin : pl + q < f.length := by omega
            have hin' : (pl : Int) + q < f.length := by omega
            have hnl := numN_lt ((f.drop pl).take q) (by rw [List.length_take]; omega)
            have HS : Hid (numN ((f.drop pl).take (q + 1)) = numN ((f.drop pl).take q) * 256 + (f[pl + q]).toNat) := by
              show _ = _
              rw [List.take_succ_eq_append_getElem (by rw [hdl]; omega), numN_snoc, List.getElem_drop]
            have hbl := (f[pl + q]).toNat_lt
            have hg : f.toArray[pl + q]? = some f[pl + q] := by simp [hin]
            clear HO HD HLo
            generalize numN ((f.drop pl).take q) = y at *
            go_wp2_with fail
            go_roundw
            case rel =>
              refine ⟨(by first | exact trivial | exact hwq), q + 1, by omega, by go_num, ?_⟩
              have hb := byte_at f (pl + q) hin (by assumption)
              rw [hb, HS.out]
              generalize (f[pl + q]).toNat = z at *
              rw [wrap_byte y z hnl hbl]
            case measure => simp [intOf]; omega
          · have eq4 : q = 4 := by omega
            subst eq4
            subst hwq
            have hnl := numN_lt ((f.drop pl).take 4) (by rw [List.length_take]; omega)
            obtain ⟨n, hn⟩ : ∃ n, numN ((f.drop pl).take 4) = n := ⟨_, rfl⟩
            have HNE : Hid (lenN (f.drop pl) = n) := hn
            rw [hn] at hnl ⊢
            clear hn
            by_cases h3 : 300 < n
            · have h3' : (300 : Int) < n := by omega
              have hER : errN (f.drop pl) es.length = 2 := by unfold errN; rw [if_neg (by omega), if_pos (.inl (by rw [HNE.out]; exact h3))]
              have hLP : LP = (es, 2, pl) := by rw [← HLo.out, hER, if_pos (by decide)]
              subst hLP
              clear HLo hER
              go_wp2_with fail
              go_ret3
              exact refOut_nil (by decide) hbr
            · have h3' : ¬ (300 : Int) < n := by omega
              by_cases h6 : es.length = 64
              · have h6' : (es.length : Int) = 64 := by omega
                have hER : errN (f.drop pl) es.length = 2 := by unfold errN; rw [if_neg (by omega), if_pos (.inr (by omega))]
                have hLP : LP = (es, 2, pl) := by rw [← HLo.out, hER, if_pos (by decide)]
                subst hLP
                clear HLo hER
                go_wp2_with fail
                go_ret3
                exact refOut_nil (by decide) hbr
              · have h6' : ¬ (es.length : Int) = 64 := by omega
                by_cases h7 : f.length < pl + 4 + n + 32
                · have h7' : (f.length : Int) < (pl : Int) + 4 + n + 32 := by omega
                  have hER : errN (f.drop pl) es.length = 3 := by unfold errN; rw [if_neg (by omega), if_neg (by rw [HNE.out]; omega), if_pos (by rw [HNE.out, hdl]; omega)]
                  have hLP : LP = (es, 3, pl) := by rw [← HLo.out, hER, if_pos (by decide)]
                  subst hLP
                  clear HLo hER
                  go_wp2_with fail
                  go_ret3
                  exact refOut_row hbr HO.out
                · have h7' : ¬ (f.length : Int) < (pl : Int) + 4 + n + 32 := by omega
                  have hER : errN (f.drop pl) es.length = 0 := by unfold errN; rw [if_neg (by omega), if_neg (by rw [HNE.out]; omega), if_neg (by rw [HNE.out, hdl]; omega)]
                  have HLo2 : Hid ((if tagN (f.drop pl) ≠ sealP key s (entN (f.drop pl)) then (es, 4, pl) else loadF key f k (pl + (4 + n + 32)) (es ++ [entN (f.drop pl)]) (sealP key s (entN (f.drop pl)))) = LP) := by
                    have h := HLo.out
                    rw [hER, if_neg (by decide), HNE.out] at h
                    exact h
                  have hxl : (entN (f.drop pl)).length = n := by unfold entN; rw [toI_len, List.length_take, HNE.out, List.length_drop, List.length_drop]; omega
                  have hxb : Bytes (entN (f.drop pl)) := toI_bytes _
                  have htl : (tagN (f.drop pl)).length = 32 := by unfold tagN; rw [toI_len, List.length_take, HNE.out, List.length_drop, List.length_drop, List.length_drop]; omega
                  have htb : Bytes (tagN (f.drop pl)) := toI_bytes _
                  have hm1 : ∀ W : World, (Instr.sliceAt 9 (.string ⟨f.toArray⟩) (some (.int .i64 ((pl : Int) + 4))) (some (.int .i64 ((pl : Int) + 4 + n))) none).run Tryd.prog W = .ok (.string ⟨(toU (entN (f.drop pl))).toArray⟩) W := fun W => by
                    have h := str_mid f (pl + 4) (pl + 4 + n) (by omega) (by omega) W
                    have e1 : ((pl + 4 : Nat) : Int) = (pl : Int) + 4 := by omega
                    have e2 : ((pl + 4 + n : Nat) : Int) = (pl : Int) + 4 + n := by omega
                    rw [e1, e2] at h
                    have e3 : toU (entN (f.drop pl)) = (f.drop (pl + 4)).take (pl + 4 + n - (pl + 4)) := by unfold entN; rw [toU_toI, HNE.out, List.drop_drop, show pl + 4 + n - (pl + 4) = n by omega]
                    rw [h, e3]
                  have hm2 : ∀ W : World, (Instr.sliceAt 9 (.string ⟨f.toArray⟩) (some (.int .i64 ((pl : Int) + 4 + n))) (some (.int .i64 ((pl : Int) + 4 + n + 32))) none).run Tryd.prog W = .ok (.string ⟨(toU (tagN (f.drop pl))).toArray⟩) W := fun W => by
                    have h := str_mid f (pl + 4 + n) (pl + 4 + n + 32) (by omega) (by omega) W
                    have e1 : ((pl + 4 + n : Nat) : Int) = (pl : Int) + 4 + n := by omega
                    have e2 : ((pl + 4 + n + 32 : Nat) : Int) = (pl : Int) + 4 + n + 32 := by omega
                    rw [e1, e2] at h
                    have e3 : toU (tagN (f.drop pl)) = (f.drop (pl + 4 + n)).take (pl + 4 + n + 32 - (pl + 4 + n)) := by unfold tagN; rw [toU_toI, HNE.out, List.drop_drop, List.drop_drop, show pl + 4 + n + 32 - (pl + 4 + n) = 32 by omega, show pl + (4 + n) = pl + 4 + n by omega]
                    rw [h, e3]
                  clear HLo hER HNE
                  generalize entN (f.drop pl) = x at *
                  generalize tagN (f.drop pl) = TG at *
                  have hszs := str_size s
                  have hszx := str_size x
                  have eA := toU_cat s x
                  have hkl5 := sealP_len key s x
                  have hkb5 := sealP_bytes key s x
                  obtain ⟨SE, hSE⟩ : ∃ SE, sealP key s x = SE := ⟨_, rfl⟩
                  have HSE : Hid (sealP key s x = SE) := hSE
                  rw [hSE] at hkl5 hkb5 HLo2
                  clear hSE hdl
                  go_wp2_with (first
                    | (with_reducible refine atLoad 25 ?_
                       refine load_D rfl (.tmp 8) rfl w.heap.size rfl s HD.out ?_))
                  refine (text_any s _ hsl).mono ?_
                  rintro ex w1 ⟨rfl, b1⟩
                  have B1 : Below w.heap.size w w1 := hbr.trans (b1.mono hbr.size)
                  have HD1 : Hid (Dg w1 w.heap.size s) := HD.out.next b1
                  have HO1 : Hid (w1.ownsRow (w.heap.size + 1) 9 1 (.slice vp es.length vc) es.length (es.map strV)) := owns_below HO.out b1
                  clear HD HO b1 hbr
                  go_wp2_with fail
                  refine (refSeal_any w1 l key hk (by omega) s x hsb hxb hsl (by omega)).mono ?_
                  rintro ex w2 ⟨rfl, b2⟩
                  rw [HSE.out]
                  have B2 : Below w.heap.size w w2 := B1.trans (b2.mono B1.size)
                  have HD2 : Hid (Dg w2 w.heap.size s) := HD1.out.next b2
                  have HO2 : Hid (w2.ownsRow (w.heap.size + 1) 9 1 (.slice vp es.length vc) es.length (es.map strV)) := owns_below HO1.out b2
                  have hlt2 := HD2.out.lt
                  have n2 : Hid (Dg (w2.alloc (.cells Z8x32 25)) w2.heap.size Z32) := Dg.new w2 _ rfl
                  clear HD1 HO1 b2 B1 HSE
                  go_wp2_with (first
                    | (with_reducible refine atStore 25 ?_
                       refine store_D rfl _ _ rfl w2.heap.size SE rfl rfl Z32 n2.out hkl5 ?_
                       intro U hU
                       refine hideGoal ?_))
                  have bU : Below w2.heap.size w2 U := hU.below _ _ (Nat.le_refl _) ((Below.refl _ _).alloc (Nat.le_refl _) _)
                  have dU : Hid (Dg U w2.heap.size SE) := hU.dg hkl5
                  have BU : Below w.heap.size w U := B2.trans (bU.mono B2.size)
                  have HDU : Hid (Dg U w.heap.size s) := HD2.out.next bU
                  have HOU : Hid (U.ownsRow (w.heap.size + 1) 9 1 (.slice vp es.length vc) es.length (es.map strV)) := owns_below HO2.out bU
                  clear hU n2 HO2 HD2 B2 bU
                  generalize w2.heap.size = gB at *
                  refine openGoal ?_
                  have hne := toU_inj hkb5 htb
                  obtain ⟨dd, hdd⟩ : ∃ dd, decide (SE = TG) = dd := ⟨_, rfl⟩
                  rw [hdd] at hne
                  have ew1 : IntKind.i64.wrap ((pl : Int) + 4) = (pl : Int) + 4 := i64_wrap _ (by omega) (by omega)
                  have ew2 : IntKind.i64.wrap ((pl : Int) + 4 + n) = (pl : Int) + 4 + n := i64_wrap _ (by omega) (by omega)
                  have ew3 : IntKind.i64.wrap ((pl : Int) + 4 + n + 32) = (pl : Int) + 4 + n + 32 := i64_wrap _ (by omega) (by omega)
                  have HDD : Hid (decide (SE = TG) = dd) := hdd
                  clear hdd
                  go_wp2_with fail
                  have S0 : Dg U.drew gB SE := ⟨dU.out.len, dU.out.here⟩
                  have BD : Below w.heap.size w U.drew := BU.drew
                  refine wp_region_noPanic ?_
                  refine wp_region_held (S := fun W => Dg W gB SE) follows ?_
                  refine wpAnyH_take (i := 0) (v := .agg (A8 SE)) rfl (by kernel_rfl) (by kernel_rfl) (by kernel_rfl) (fun _ _ _ h => h) (yields_D rfl (.tmp 13) rfl gB rfl SE hkl5 (fun W hW => hW)) S0 ?_
                  simp only [Act.put, List.getElem_toArray, List.getElem_cons_zero, List.getElem_cons_succ, List.setIfInBounds_toArray, List.set_cons_zero, List.set_cons_succ]
                  refine wpAnyH_take (i := 2) (v := .string ⟨f.toArray⟩) rfl (by kernel_rfl) (by kernel_rfl) (by kernel_rfl) (fun _ _ _ h => h) (.inl ⟨rfl, fun W _ => by go_simp⟩) S0 ?_
                  simp only [Act.put, List.getElem_toArray, List.getElem_cons_zero, List.getElem_cons_succ, List.setIfInBounds_toArray, List.set_cons_zero, List.set_cons_succ]
                  refine wpAnyH_take (i := 3) (v := .int .i64 pl) rfl (by kernel_rfl) (by kernel_rfl) (by kernel_rfl) (fun _ _ _ h => h) (.inl ⟨rfl, fun W _ => by go_simp⟩) S0 ?_
                  simp only [Act.put, List.getElem_toArray, List.getElem_cons_zero, List.getElem_cons_succ, List.setIfInBounds_toArray, List.set_cons_zero, List.set_cons_succ]
                  refine wpAnyH_take (i := 4) (v := .int .i64 ((pl : Int) + 4)) rfl (by kernel_rfl) (by kernel_rfl) (by kernel_rfl) (fun _ _ _ h => h) (.inl ⟨rfl, fun W _ => by go_simp⟩) S0 ?_
                  simp only [Act.put, List.getElem_toArray, List.getElem_cons_zero, List.getElem_cons_succ, List.setIfInBounds_toArray, List.set_cons_zero, List.set_cons_succ]
                  refine wpAnyH_take (i := 5) (v := .int .i64 n) rfl (by kernel_rfl) (by kernel_rfl) (by kernel_rfl) (fun _ _ _ h => h) (.inl ⟨rfl, fun W _ => by go_simp⟩) S0 ?_
                  simp only [Act.put, List.getElem_toArray, List.getElem_cons_zero, List.getElem_cons_succ, List.setIfInBounds_toArray, List.set_cons_zero, List.set_cons_succ]
                  refine wpAnyH_take (i := 6) (v := .int .i64 ((pl : Int) + 4 + n)) rfl (by kernel_rfl) (by kernel_rfl) (by kernel_rfl) (fun _ _ _ h => h) (.inl ⟨rfl, fun W _ => by go_simp⟩) S0 ?_
                  simp only [Act.put, List.getElem_toArray, List.getElem_cons_zero, List.getElem_cons_succ, List.setIfInBounds_toArray, List.set_cons_zero, List.set_cons_succ]
                  refine wpAnyH_take (i := 7) (v := .int .i64 pl) rfl (by kernel_rfl) (by kernel_rfl) (by kernel_rfl) (fun _ _ _ h => h) (.inl ⟨rfl, fun W _ => by go_simp⟩) S0 ?_
                  simp only [Act.put, List.getElem_toArray, List.getElem_cons_zero, List.getElem_cons_succ, List.setIfInBounds_toArray, List.set_cons_zero, List.set_cons_succ]
                  refine wpAnyH_take (i := 8) (v := .int .i64 ((pl : Int) + 4)) rfl (by kernel_rfl) (by kernel_rfl) (by kernel_rfl) (fun _ _ _ h => h) (.inl ⟨rfl, fun W _ => by go_simp⟩) S0 ?_
                  simp only [Act.put, List.getElem_toArray, List.getElem_cons_zero, List.getElem_cons_succ, List.setIfInBounds_toArray, List.set_cons_zero, List.set_cons_succ]
                  refine wpAnyH_take (i := 9) (v := .int .i64 n) rfl (by kernel_rfl) (by kernel_rfl) (by kernel_rfl) (fun _ _ _ h => h) (.inl ⟨rfl, fun W _ => by go_simp⟩) S0 ?_
                  simp only [Act.put, List.getElem_toArray, List.getElem_cons_zero, List.getElem_cons_succ, List.setIfInBounds_toArray, List.set_cons_zero, List.set_cons_succ]
                  refine wpAnyH_take (i := 10) (v := .int .i64 ((pl : Int) + 4 + n)) rfl (by kernel_rfl) (by kernel_rfl) (by kernel_rfl) (fun _ _ _ h => h) (.inl ⟨rfl, fun W _ => by go_simp⟩) S0 ?_
                  simp only [Act.put, List.getElem_toArray, List.getElem_cons_zero, List.getElem_cons_succ, List.setIfInBounds_toArray, List.set_cons_zero, List.set_cons_succ]
                  refine wpAnyH_take (i := 11) (v := .int .i64 ((pl : Int) + 4 + n + 32)) rfl (by kernel_rfl) (by kernel_rfl) (by kernel_rfl) (fun _ _ _ h => h) (.inl ⟨rfl, fun W _ => by go_simp⟩) S0 ?_
                  simp only [Act.put, List.getElem_toArray, List.getElem_cons_zero, List.getElem_cons_succ, List.setIfInBounds_toArray, List.set_cons_zero, List.set_cons_succ]
                  refine wpAnyH_take (i := 12) (v := .string ⟨(toU TG).toArray⟩) rfl (by kernel_rfl) (by kernel_rfl) (by kernel_rfl) (fun _ _ _ h => h) (.inl ⟨rfl, fun W _ => by have e := hm2 W; go_simp⟩) S0 ?_
                  simp only [Act.put, List.getElem_toArray, List.getElem_cons_zero, List.getElem_cons_succ, List.setIfInBounds_toArray, List.set_cons_zero, List.set_cons_succ]
                  refine relist #[true, false, true, true, true, true, true, true, true, true, true, true, true, false] (by kernel_rfl) ?_
                  refine any_one (i := 1) (by kernel_rfl) ?_
                  refine wpOp_call (f := 60) (args := #[.agg (A8 SE)]) rfl rfl (by go_simp) ?_
                  refine (text_any SE _ hkl5).mono ?_
                  rintro ex w3 ⟨rfl, b3⟩
                  have S3 : Dg w3 gB SE := Dg.next (w := U.drew) S0 b3
                  have B3 : Below w.heap.size w w3 := BD.trans (b3.mono BD.size)
                  have b3' : Below U.heap.size U w3 := (Below.refl _ _).drew.trans b3
                  have HD3 : Hid (Dg w3 w.heap.size s) := HDU.out.next b3'
                  have HO3 : Hid (w3.ownsRow (w.heap.size + 1) 9 1 (.slice vp es.length vc) es.length (es.map strV)) := owns_below HOU.out b3'
                  refine ⟨_, rfl, S3, ?_⟩
                  simp only [Act.put, List.getElem_toArray, List.getElem_cons_zero, List.getElem_cons_succ, List.setIfInBounds_toArray, List.set_cons_zero, List.set_cons_succ]
                  refine wpAnyH_take (i := 13) (v := .bool (!dd)) rfl (by kernel_rfl) (by kernel_rfl) (by kernel_rfl) (fun _ _ _ h => h) (.inl ⟨rfl, fun W _ => by go_simp⟩) S3 ?_
                  simp only [Act.put, List.getElem_toArray, List.getElem_cons_zero, List.getElem_cons_succ, List.setIfInBounds_toArray, List.set_cons_zero, List.set_cons_succ]
                  refine wpAnyH_done (by kernel_rfl) ?_ _
                  refine NoPanic.normal ?_
                  have d3 : Hid (Dg w3 gB SE) := S3
                  clear S3 S0 BD b3 b3' HDU HOU dU BU hne hm1 hm2 ew1 ew2 ew3
                  by_cases htg : SE = TG
                  · have hdt : dd = true := by rw [← HDD.out]; exact decide_eq_true htg
                    subst hdt
                    have HLo3 : Hid (loadF key f k (pl + (4 + n + 32)) (es ++ [x]) SE = LP) := by
                      have h := HLo2.out
                      rw [if_neg (by simpa using htg.symm)] at h
                      exact h
                    clear HLo2 htg HDD
                    go_wp2_with (first
                      | (with_reducible refine atLoad 25 ?_
                         refine load_D rfl (.tmp 13) rfl gB rfl SE d3.out ?_)
                      | (with_reducible refine atStore 25 ?_
                         refine store_D rfl _ _ rfl w.heap.size SE rfl rfl s HD3.out hkl5 ?_
                         intro X hX
                         refine hideGoal ?_))
                    have BX : Below w.heap.size w X := hX.below _ _ (Nat.le_refl _) B3
                    have HDX : Hid (Dg X w.heap.size SE) := hX.dg hkl5
                    have HOX : Hid (X.ownsRow (w.heap.size + 1) 9 1 (.slice vp es.length vc) es.length (es.map strV)) := by
                      obtain ⟨h1, h2 | ⟨gg, cap, cur, hv, hg, hh, r⟩⟩ := HO3.out
                      · exact ⟨h1, .inl h2⟩
                      · exact ⟨h1, .inr ⟨gg, cap, cur, hv, hg, (hX.other gg (by omega)).trans hh, r⟩⟩
                    have hltX := HDX.out.lt
                    clear hX HD3 HO3 d3 B3
                    refine openGoal ?_
                    have hN := heapN X (.cells #[.string ⟨(toU x).toArray⟩] 9) _ rfl
                    have bN : Below X.heap.size X (X.alloc (.cells #[.string ⟨(toU x).toArray⟩] 9)) := (Below.refl _ _).alloc (Nat.le_refl _) _
                    have HDN : Hid (Dg (X.alloc (.cells #[.string ⟨(toU x).toArray⟩] 9)) w.heap.size SE) := HDX.out.next bN
                    have HON : Hid ((X.alloc (.cells #[.string ⟨(toU x).toArray⟩] 9)).ownsRow (w.heap.size + 1) 9 1 (.slice vp es.length vc) es.length (es.map strV)) := owns_below HOX.out bN
                    have BN : Below w.heap.size w (X.alloc (.cells #[.string ⟨(toU x).toArray⟩] 9)) := BX.trans (bN.mono BX.size)
                    have hsN := bN.size
                    clear HDX HOX BX bN
                    go_wp2_with (first
                      | (at_builtin
                         refine wpList_appOne rfl (.tmp 89) (.tmp 91) 59 9 (.string ⟨#[]⟩) 16 Tryd.underlying59 info9' rfl (by omega) rfl (w.heap.size + 1) _ es.length (es.map strV) rfl HON X.heap.size (.string ⟨(toU x).toArray⟩) rfl hN rfl (by omega) (by omega) ?_
                         intro v' w7 HO7 hs7 hB7
                         refine hideGoal ?_))
                    have b7 : Below (w.heap.size + 1) (X.alloc (.cells #[.string ⟨(toU x).toArray⟩] 9)) w7 := hB7 _ (Below.refl _ _)
                    have D7 : Dg w7 w.heap.size SE := ⟨hkl5, (b7.block _ (by omega)).trans HDN.out.here⟩
                    have B7 : Below w.heap.size w w7 := BN.trans (b7.mono (by omega))
                    have O7 : w7.ownsRow (w.heap.size + 1) 9 1 v' (es ++ [x]).length ((es ++ [x]).map strV) := by
                      have h := HO7.out
                      rw [List.length_append, List.map_append]
                      exact h
                    have HO8 : Hid _ := O7
                    have HD8 : Hid _ := D7
                    have HB8 : Hid _ := B7
                    clear O7 D7 B7 b7 hB7 HO7 BN HON HDN hN
                    refine openGoal ?_
                    go_wp2_with fail
                    go_roundw
                    case rel => exact ⟨pl + (4 + n + 32), k, es ++ [x], SE, by congr 1; omega, by omega, by omega, HLo3.out, by rw [List.length_append]; simp; omega, hkl5, hkb5, HO8.out, HD8.out, HB8.out⟩
                    case measure => simp [intOf]; omega
                  · have hdt : dd = false := by rw [← HDD.out]; exact decide_eq_false htg
                    subst hdt
                    have hLP : LP = (es, 4, pl) := by rw [← HLo2.out, if_pos (fun e => htg e.symm)]
                    subst hLP
                    clear HLo2 htg HDD HO3 HD3 d3
                    go_wp2_with fail
                    go_ret3
                    exact refOut_nil (by decide) B3
    · have ep0 : pl = f.length := by omega
      have hLP : LP = (es, 0, pl) := by rw [← hload]; simp only [loadF]; rw [if_pos (by omega)]
      subst hLP
      clear hload
      go_wp2_with fail
      go_ret3
      rw [← ep0]
      exact refOut_row hbr HO.out
end Go.Proofs.YtcmjlhcpoajbkaaDoor
