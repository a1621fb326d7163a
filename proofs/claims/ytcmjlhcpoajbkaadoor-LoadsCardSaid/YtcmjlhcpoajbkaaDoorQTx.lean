import Derived.Test.YtcmjlhcpoajbkaaDoorQCa
import Derived.Test.YtcmjlhcpoajbkaaDoorQDs
import Derived.Test.YtcmjlhcpoajbkaaDoorQSg
namespace Go.Proofs.YtcmjlhcpoajbkaaDoor
set_option maxRecDepth 10000
set_option linter.unusedSimpArgs false
open Go.RowKit
/-- Bytes as a string. -/
def strV (T : List Int) : Value := .string ⟨(toU T).toArray⟩
theorem bytes_cons {x : Int} {l : List Int} (hx : 0 ≤ x ∧ x < 256) (h : Bytes l) : Bytes (x :: l) := by
  refine .of fun y hy => ?_
  rcases List.mem_cons.1 hy with e | e
  · rw [e]; exact hx
  · exact h.mem y e
theorem bytes_app {a b : List Int} (ha : Bytes a) (hb : Bytes b) : Bytes (a ++ b) := by
  refine .of fun y hy => ?_
  rcases List.mem_append.1 hy with e | e
  · exact ha.mem y e
  · exact hb.mem y e
theorem textAt_bytes (e : List Int) (he : Bytes e) (ls : List Bool) (ds : List (List Int)) (hd : ∀ k, Bytes (ds.getD k [])) (k : Nat) : Bytes (textAt e ls ds k) := by
  cases k with
  | zero => exact bytes_cons (by omega) he
  | succ k =>
    have h1 := hP_bytes (textAt e ls ds k)
    have h2 := hd k
    simp only [textAt]
    split
    · exact bytes_cons (by omega) (bytes_app h1 h2)
    · exact bytes_cons (by omega) (bytes_app h2 h1)
theorem getD_bytes {w : World} {p : Option Addr} {m cap : Nat} {ds : List (List Int)} (hD : D32 w p m cap ds) (k : Nat) : Bytes (ds.getD k []) ∧ (ds.getD k []).length ≤ 32 := by
  have hl := hD.len
  rcases Nat.lt_or_ge k m with h | h
  · exact ⟨(hD.get k h).2, by have := (hD.get k h).1; omega⟩
  · rw [List.getD_eq_getElem?_getD, List.getElem?_eq_none (by omega)]
    exact ⟨fun j => by simp, by simp⟩
theorem textAt_len (e : List Int) (ls : List Bool) (ds : List (List Int)) (hd : ∀ k, (ds.getD k []).length ≤ 32) (k : Nat) : (textAt e ls ds k).length ≤ e.length + 65 := by
  cases k with
  | zero => show (0 :: e).length ≤ _; rw [List.length_cons]; omega
  | succ k =>
    have h1 := hP_len (textAt e ls ds k)
    have h2 := hd k
    simp only [textAt]
    split
    · rw [List.length_cons, List.length_append]; omega
    · rw [List.length_cons, List.length_append]; omega
theorem info9' : ∃ i, Tryd.prog.info? 9 = some i ∧ i.zero = some (.string ⟨#[]⟩) ∧ i.size = 1 ∧ i.bytes = 16 := ⟨_, rfl, by kernel_rfl, by kernel_rfl, by kernel_rfl⟩
theorem index59 (g n c k : Nat) (hk : k < n) (W : World) : (Instr.indexAt 59 (.slice (some ⟨g, 0, none⟩) n c) (.int .i64 k)).run Tryd.prog W = .ok (.pointer (some ⟨g, k, none⟩)) W := by
  have h1 : (k : Int) < n := by omega
  go_simp
def texts (e : List Int) (ls : List Bool) (ds : List (List Int)) (m : Nat) : List Value := (List.range (m + 1)).map fun k => strV (textAt e ls ds k)
theorem texts_get (e : List Int) (ls : List Bool) (ds : List (List Int)) (m k : Nat) (hk : k ≤ m) : (texts e ls ds m)[k]? = some (strV (textAt e ls ds k)) := by
  simp [texts, List.getElem?_map, List.getElem?_range (show k < m + 1 by omega)]
theorem texts_front (e : List Int) (ls : List Bool) (ds : List (List Int)) (b : Bool) (m : Nat) (h1 : m = ls.length) (h2 : ds.length = m + 1) : texts e (ls ++ [b]) ds (m + 1) = texts e ls (ds.take m) m ++ [strV (textAt e (ls ++ [b]) ds (m + 1))] := by
  have hs : ds = ds.take m ++ [ds.getD m []] := by
    have := congrArg List.reverse (rev_last ds m h2)
    simpa using this
  have hml : (ds.take m).length = m := by rw [List.length_take]; omega
  unfold texts
  rw [List.range_succ (n := m + 1), List.map_append]
  congr 1
  apply List.map_congr_left
  intro k hk
  have hk' : k < m + 1 := by simpa using hk
  conv => lhs; rw [hs]
  rw [textAt_front e ls [b] (ds.take m) [ds.getD m []] k (by omega) (by omega)]
theorem str_size (T : List Int) : (ByteArray.mk (toU T).toArray).size = T.length := by show (toU T).toArray.size = _; simp [toU_len]
set_option maxHeartbeats 8000000 in
theorem refTexts_any (e : List Int) (he : Bytes e) (hle : e.length ≤ 140737488355300) : ∀ (f m i n : Nat) (p : Option Addr) (cap : Nat) (ds : List (List Int)) (w : World), D32 w p m cap ds → i < n → n ≤ 2 ^ f → f ≤ 63 → n ≤ 9223372036854775807 →
    Calls Tryd.prog 84 #[strV e, .int .i64 i, .int .i64 n, .slice p m cap] w fun ex w' => ∃ v, ex = .returned (.tuple #[v, .bool (decide (m = (leftsF f i n).length))]) ∧ (m = (leftsF f i n).length → w'.ownsRow w.heap.size 9 1 v (m + 1) (texts e (leftsF f i n) ds m)) ∧ Below w.heap.size w w' := by
  intro f
  have one : ∀ (f m i : Nat) (p : Option Addr) (cap : Nat) (ds : List (List Int)) (w : World), D32 w p m cap ds →
      Calls Tryd.prog 84 #[strV e, .int .i64 i, .int .i64 (1 : Nat), .slice p m cap] w fun ex w' => ∃ v, ex = .returned (.tuple #[v, .bool (decide (m = (leftsF f i 1).length))]) ∧ (m = (leftsF f i 1).length → w'.ownsRow w.heap.size 9 1 v (m + 1) (texts e (leftsF f i 1) ds m)) ∧ Below w.heap.size w w' := by
    intro f m i p cap ds w hD
    rw [leftsF_one]
    have hq : ((m : Int) == 0) = decide (m = 0) := by
      by_cases h : m = 0
      · subst h; rfl
      · have : ¬ ((m : Int) = 0) := by omega
        simp [h, this]
    have hsz := str_size e
    have eA : (ByteArray.mk #[0]) ++ (ByteArray.mk (toU e).toArray) = ByteArray.mk (toU (0 :: e)).toArray := ByteArray.mk_append_mk [0] (toU e)
    have HO : Hid (m = 0 → (w.alloc (.cells #[strV (0 :: e)] 9)).ownsRow w.heap.size 9 1 (.slice (some ⟨w.heap.size, 0, none⟩) 1 1) (m + 1) (texts e [] ds m)) := fun h => by
      subst h
      exact ⟨rfl, .inr ⟨w.heap.size, 1, #[strV (0 :: e)], rfl, Nat.le_refl _, heapN w _ _ rfl, Nat.le_refl _, by unfold maxLen; omega, rfl, rfl⟩⟩
    generalize hdd : decide (m = ([] : List Bool).length) = B at *
    have hq' : ((m : Int) == 0) = B := by rw [hq, ← hdd, List.length_nil]
    clear hq hdd
    unfold strV at *
    go_enter Tryd.func84, Tryd.ntmps84
    go_wp2_with fail
    go_ret2
    exact ⟨_, rfl, HO.out, (Below.refl _ _).alloc (Nat.le_refl _) _⟩
  induction f with
  | zero =>
    intro m i n p cap ds w hD hi hn hf hb
    have e1 : n = 1 := by simp at hn; omega
    subst e1
    exact one 0 m i p cap ds w hD
  | succ f ih =>
    intro m i n p cap ds w hD hi hn hf hb
    by_cases h1 : n = 1
    · subst h1
      exact one (f + 1) m i p cap ds w hD
    · clear one
      have hq : ((n : Int) == 1) = false := by simp; omega
      have hp63 : (2:Nat) ^ (f + 1) ≤ 2 ^ 63 := Nat.pow_le_pow_right (by omega) hf
      obtain ⟨hk1, hk2, hk3⟩ := halfN_spec n (by omega) (by omega)
      have hk4 := halfN_pow n f (by omega) hn (by omega)
      have hdl := hD.len
      have hdr := hD.room
      have hdf := hD.fits
      by_cases hm0 : m = 0
      · subst hm0
        have hne : ¬ 0 = (leftsF (f + 1) i n).length := by rw [leftsF, if_neg h1]; split <;> simp
        rw [decide_eq_false hne]
        have HN : Hid (¬ 0 = (leftsF (f + 1) i n).length) := hne
        clear hne
        unfold strV
        go_enter Tryd.func84, Tryd.ntmps84
        go_wp2_with fail
        go_ret2
        exact ⟨_, rfl, fun h => absurd h HN.out, Below.refl _ _⟩
      · obtain ⟨q, rfl⟩ : ∃ q, m = q + 1 := ⟨m - 1, by omega⟩
        obtain ⟨ad, rfl, hadl, _⟩ := hD.lies (by omega)
        have hsl : ∀ W : World, (Instr.sliceAt 31 (.slice (some ad) (q + 1) cap) none (some (.int .i64 (q : Int))) none).run Tryd.prog W = .ok (.slice (some ad) q cap) W := fun W => by
          have h1 : (q : Int) ≤ cap := by omega
          have h2 : ¬ (q : Int) < 0 := by omega
          go_simp
        have hia : ∀ W : World, (Instr.indexAt 31 (.slice (some ad) (q + 1) cap) (.int .i64 q)).run Tryd.prog W = .ok (.pointer (some (ad.add (q * 32)))) W := fun W => index_at ad (q + 1) cap q (by omega) W
        obtain ⟨hol, hob⟩ := hD.get q (by omega)
        have hat : At8 w (ad.add (q * 32)) (ds.getD q []) := hD.at q (by omega)
        have hw1 : ((q : Int) + 1 - 1) = q := by omega
        have HL : Hid (leftsF (f + 1) i n = if i < halfN n then leftsF f i (halfN n) ++ [true] else leftsF f (i - halfN n) (n - halfN n) ++ [false]) := by
          show leftsF (f + 1) i n = _
          rw [leftsF, if_neg h1]
        have HD' : Hid (D32 w (some ad) (q + 1) cap ds) := hD
        clear hD
        unfold strV
        go_enter Tryd.func84, Tryd.ntmps84
        go_wp2_with fail
        refine (half_any n w (by omega) (by omega)).mono ?_
        rintro ex w0 ⟨rfl, rfl⟩
        generalize halfN n = k at *
        by_cases hik : i < k
        · have hik' : (i : Int) < k := by omega
          have HLL : Hid (leftsF (f + 1) i n = leftsF f i k ++ [true]) := by show _ = _; rw [HL.out, if_pos hik]
          clear HL
          go_wp2_with fail
          have hrec := ih q i k (some ad) cap (ds.take q) w0 (HD'.out.front q (by omega)) hik hk4 (by omega) (by omega)
          have HR : Hid _ := hrec
          clear hrec
          unfold strV at HR
          refine Calls.mono HR.out ?_
          rintro ex w1 ⟨v, rfl, hO, b1⟩
          have hll := leftsF_len f i k
          clear HR
          by_cases hok : q = (leftsF f i k).length
          · have hO := hO hok
            rw [decide_eq_true hok]
            have hq63 : q ≤ 62 := by omega
            have hok2 : q + 1 = (leftsF (f + 1) i n).length := by rw [HLL.out, List.length_append, ← hok]; rfl
            have HF : Hid (decide (q + 1 = (leftsF (f + 1) i n).length) = true) := decide_eq_true hok2
            have HTX : Hid (texts e (leftsF (f + 1) i n) ds (q + 1) = texts e (leftsF f i k) (ds.take q) q ++ [strV (textAt e (leftsF (f + 1) i n) ds (q + 1))]) := by
              show _ = _
              rw [HLL.out]; exact texts_front e _ ds true q hok hdl
            have hsplit : ds = ds.take q ++ [ds.getD q []] := by
              have := congrArg List.reverse (rev_last ds q hdl)
              simpa using this
            have htq : (ds.take q).length = q := by rw [List.length_take]; omega
            have HTE : Hid (textAt e (leftsF (f + 1) i n) ds (q + 1) = 1 :: (hP (textAt e (leftsF f i k) (ds.take q) q) ++ ds.getD q [])) := by
              show _ = _
              have e1 : textAt e (leftsF (f + 1) i n) ds q = textAt e (leftsF f i k) (ds.take q) q := by
                rw [HLL.out]
                conv => lhs; rw [hsplit]
                exact textAt_front e _ _ _ _ q (by omega) (by omega)
              have e2 : (leftsF (f + 1) i n).getD q false = true := by rw [HLL.out, hok]; simp [List.getD]
              simp only [textAt, e1, e2, if_true]
            have hbT : Bytes (textAt e (leftsF f i k) (ds.take q) q) := textAt_bytes e he _ _ (fun j => (getD_bytes (HD'.out.front q (by omega)) j).1) q
            have hlT := textAt_len e (leftsF f i k) (ds.take q) (fun j => (getD_bytes (HD'.out.front q (by omega)) j).2) q
            have hget := texts_get e (leftsF f i k) (ds.take q) q q (Nat.le_refl _)
            have htl : (texts e (leftsF f i k) (ds.take q) q).length = q + 1 := by simp [texts]
            obtain ⟨g, c1, rfl, hg1, hg2, hgf, hgc, hgcs⟩ := owns_get hO (by omega)
            have HO : Hid (w1.ownsRow w0.heap.size 9 1 (.slice (some ⟨g, 0, none⟩) (q + 1) c1) (q + 1) (texts e (leftsF f i k) (ds.take q) q)) := hO
            have hcell : w1.cell? ⟨g, q, none⟩ = some (strV (textAt e (leftsF f i k) (ds.take q) q)) := by rw [hgcs q (by omega), hget]
            clear hgcs hO hget hok hok2 hsplit htq HLL
            generalize texts e (leftsF f i k) (ds.take q) q = TS at *
            obtain ⟨TT, hTT⟩ : ∃ TT, textAt e (leftsF f i k) (ds.take q) q = TT := ⟨_, rfl⟩
            rw [hTT] at HTE hbT hlT hcell
            clear hTT
            unfold strV at hcell
            have hi59 : ∀ W : World, (Instr.indexAt 59 (.slice (some ⟨g, 0, none⟩) (q + 1) c1) (.int .i64 q)).run Tryd.prog W = .ok (.pointer (some ⟨g, q, none⟩)) W := fun W => index59 g (q + 1) c1 q (by omega) W
            go_wp2_with fail
            refine (ref_any _ (toU TT) TT rfl (toI_toU TT hbT) w1 (by rw [toU_len]; omega)).mono ?_
            rintro ex w2 ⟨rfl, b2⟩
            have hHl := hP_len TT
            have hHb := hP_bytes TT
            generalize hP TT = H at *
            have n2 : Hid (Dg (w2.alloc (.cells Z8x32 25)) w2.heap.size Z32) := Dg.new w2 _ rfl
            have B2 : Below w0.heap.size w0 w2 := b1.trans (b2.mono b1.size)
            have hs12 := b2.size
            have HO2 : Hid (w2.ownsRow w0.heap.size 9 1 (.slice (some ⟨g, 0, none⟩) (q + 1) c1) (q + 1) TS) := owns_below HO.out b2
            clear hcell HO hi59 b1 b2
            go_wp2_with (first
              | (with_reducible refine atStore 25 ?_
                 refine store_D rfl _ _ rfl w2.heap.size H rfl rfl Z32 n2.out hHl ?_
                 intro U hU
                 refine hideGoal ?_))
            have bU : Below w2.heap.size w2 U := hU.below _ _ (Nat.le_refl _) ((Below.refl _ _).alloc (Nat.le_refl _) _)
            have dU : Dg U w2.heap.size H := hU.dg hHl
            have BU : Below w0.heap.size w0 U := B2.trans (bU.mono B2.size)
            have HO3 : Hid (U.ownsRow w0.heap.size 9 1 (.slice (some ⟨g, 0, none⟩) (q + 1) c1) (q + 1) TS) := owns_below HO2.out bU
            have hgd : g < w2.heap.size := by omega
            clear hU n2 HO2 B2
            generalize w2.heap.size = gd at *
            have hat' : ∀ W : World, Below w0.heap.size w0 W → At8 W (ad.add (q * 32)) (ds.getD q []) := fun W hW j hj => by
              have h := hat j hj
              rw [hW.cell (by rw [addr_block, addr_block]; exact hadl)]
              exact h
            generalize ds.getD q [] = OT at *
            refine openGoal ?_
            go_wp2_with fail
            refine wp_region_noPanic ?_
            have BD : Below w0.heap.size w0 U.drew := BU.drew
            have S0 : Dg U.drew gd H ∧ At8 U.drew (ad.add (q * 32)) OT := ⟨⟨dU.len, dU.here⟩, hat' _ BD⟩
            refine wp_region_held (S := fun W => Dg W gd H ∧ At8 W (ad.add (q * 32)) OT) follows ?_
            refine wpAnyH_take (i := 0) (v := .slice (some ⟨g, 0, none⟩) (q + 1) c1) rfl (by kernel_rfl) (by kernel_rfl) (by kernel_rfl) (fun _ _ _ h => h) (.inl ⟨rfl, fun W _ => by go_simp⟩) S0 ?_
            simp only [Act.put, List.getElem_toArray, List.getElem_cons_zero, List.getElem_cons_succ, List.setIfInBounds_toArray, List.set_cons_zero, List.set_cons_succ]
            refine wpAnyH_take (i := 4) (v := .slice (some ad) (q + 1) cap) rfl (by kernel_rfl) (by kernel_rfl) (by kernel_rfl) (fun _ _ _ h => h) (.inl ⟨rfl, fun W _ => by go_simp⟩) S0 ?_
            simp only [Act.put, List.getElem_toArray, List.getElem_cons_zero, List.getElem_cons_succ, List.setIfInBounds_toArray, List.set_cons_zero, List.set_cons_succ]
            refine wpAnyH_take (i := 5) (v := .int .i64 q) rfl (by kernel_rfl) (by kernel_rfl) (by kernel_rfl) (fun _ _ _ h => h) (.inl ⟨rfl, fun W _ => by go_simp⟩) S0 ?_
            simp only [Act.put, List.getElem_toArray, List.getElem_cons_zero, List.getElem_cons_succ, List.setIfInBounds_toArray, List.set_cons_zero, List.set_cons_succ]
            refine wpAnyH_take (i := 6) (v := .pointer (some (ad.add (q * 32)))) rfl (by kernel_rfl) (by kernel_rfl) (by kernel_rfl) (fun _ _ _ h => h) (.inl ⟨rfl, fun W _ => by have e := hia W; go_simp⟩) S0 ?_
            simp only [Act.put, List.getElem_toArray, List.getElem_cons_zero, List.getElem_cons_succ, List.setIfInBounds_toArray, List.set_cons_zero, List.set_cons_succ]
            refine wpAnyH_take (i := 1) (v := .agg (A8 H)) rfl (by kernel_rfl) (by kernel_rfl) (by kernel_rfl) (fun _ _ _ h => h) (yields_D rfl (.tmp 14) rfl gd rfl H hHl (fun W hW => hW.1)) S0 ?_
            simp only [Act.put, List.getElem_toArray, List.getElem_cons_zero, List.getElem_cons_succ, List.setIfInBounds_toArray, List.set_cons_zero, List.set_cons_succ]
            refine wpAnyH_take (i := 7) (v := .agg (A8 OT)) rfl (by kernel_rfl) (by kernel_rfl) (by kernel_rfl) (fun _ _ _ h => h) (yields_at rfl (.tmp 61) rfl (ad.add (q * 32)) rfl OT hol (fun W hW => hW.2)) S0 ?_
            simp only [Act.put, List.getElem_toArray, List.getElem_cons_zero, List.getElem_cons_succ, List.setIfInBounds_toArray, List.set_cons_zero, List.set_cons_succ]
            refine relist #[true, true, false, false, true, true, true, true, false, false, false, false, false, false] (by kernel_rfl) ?_
            refine any_one (i := 2) (by kernel_rfl) ?_
            refine wpOp_call (f := 60) (args := #[.agg (A8 H)]) rfl rfl (by go_simp) ?_
            refine (text_any H _ hHl).mono ?_
            rintro ex w3 ⟨rfl, b3⟩
            have B3 : Below w0.heap.size w0 w3 := BD.trans (b3.mono BD.size)
            have S3 : Dg w3 gd H ∧ At8 w3 (ad.add (q * 32)) OT := ⟨Dg.next (w := U.drew) S0.1 b3, hat' _ B3⟩
            have HO4 : Hid (w3.ownsRow w0.heap.size 9 1 (.slice (some ⟨g, 0, none⟩) (q + 1) c1) (q + 1) TS) := owns_below (w := U) HO3.out (show Below U.heap.size U w3 from (Below.refl _ _).drew.trans b3)
            refine ⟨_, rfl, S3, ?_⟩
            simp only [Act.put, List.getElem_toArray, List.getElem_cons_zero, List.getElem_cons_succ, List.setIfInBounds_toArray, List.set_cons_zero, List.set_cons_succ]
            have hsL : (ByteArray.mk (toU H).toArray).size = 32 := by rw [str_size, hHl]
            have hsR : (ByteArray.mk (toU OT).toArray).size = 32 := by rw [str_size, hol]
            have eA : (ByteArray.mk #[1]) ++ (ByteArray.mk (toU H).toArray) = ByteArray.mk (1 :: toU H).toArray := ByteArray.mk_append_mk [1] (toU H)
            have eB : (ByteArray.mk (1 :: toU H).toArray) ++ (ByteArray.mk (toU OT).toArray) = ByteArray.mk (toU (1 :: (H ++ OT))).toArray := by
              have h := ByteArray.mk_append_mk (1 :: toU H) (toU OT)
              rw [h]
              simp [toU]
            have hsA : (ByteArray.mk (1 :: toU H).toArray).size = 33 := by show (1 :: toU H).toArray.size = _; simp [toU_len, hHl]
            refine wpAnyH_take (i := 3) (v := .string ⟨(1 :: toU H).toArray⟩) rfl (by kernel_rfl) (by kernel_rfl) (by kernel_rfl) (fun _ _ _ h => h) (.inl ⟨rfl, fun W _ => by go_simp⟩) S3 ?_
            simp only [Act.put, List.getElem_toArray, List.getElem_cons_zero, List.getElem_cons_succ, List.setIfInBounds_toArray, List.set_cons_zero, List.set_cons_succ]
            refine relist #[true, true, true, true, true, true, true, true, false, false, false, false, false, false] (by kernel_rfl) ?_
            refine any_one (i := 8) (by kernel_rfl) ?_
            refine wpOp_call (f := 60) (args := #[.agg (A8 OT)]) rfl rfl (by go_simp) ?_
            refine (text_any OT _ hol).mono ?_
            rintro ex w4 ⟨rfl, b4⟩
            have B4 : Below w0.heap.size w0 w4 := B3.trans (b4.mono B3.size)
            have S4 : Dg w4 gd H ∧ At8 w4 (ad.add (q * 32)) OT := ⟨S3.1.next b4, hat' _ B4⟩
            have HO5 : Hid (w4.ownsRow w0.heap.size 9 1 (.slice (some ⟨g, 0, none⟩) (q + 1) c1) (q + 1) TS) := owns_below HO4.out b4
            refine ⟨_, rfl, S4, ?_⟩
            simp only [Act.put, List.getElem_toArray, List.getElem_cons_zero, List.getElem_cons_succ, List.setIfInBounds_toArray, List.set_cons_zero, List.set_cons_succ]
            refine wpAnyH_take (i := 9) (v := .string ⟨(toU (1 :: (H ++ OT))).toArray⟩) rfl (by kernel_rfl) (by kernel_rfl) (by kernel_rfl) (fun _ _ _ h => h) (.inl ⟨rfl, fun W _ => by go_simp⟩) S4 ?_
            simp only [Act.put, List.getElem_toArray, List.getElem_cons_zero, List.getElem_cons_succ, List.setIfInBounds_toArray, List.set_cons_zero, List.set_cons_succ]
            refine relist #[true, true, true, true, true, true, true, true, true, true, false, false, false, false] (by kernel_rfl) ?_
            refine any_one (i := 10) (by kernel_rfl) ?_
            refine wpOp_val (v := .slice (some ⟨w4.heap.size, 0, none⟩) 1 1) (w' := w4.alloc (.cells #[.string ⟨(toU (1 :: (H ++ OT))).toArray⟩] 9)) rfl rfl (by go_simp) ?_
            have b5 : Below w4.heap.size w4 (w4.alloc (.cells #[.string ⟨(toU (1 :: (H ++ OT))).toArray⟩] 9)) := (Below.refl _ _).alloc (Nat.le_refl _) _
            have h5 := heapN w4 (.cells #[.string ⟨(toU (1 :: (H ++ OT))).toArray⟩] 9) _ rfl
            have B5 := B4.trans (b5.mono B4.size)
            have S5 : Dg (w4.alloc (.cells #[.string ⟨(toU (1 :: (H ++ OT))).toArray⟩] 9)) gd H ∧ At8 (w4.alloc (.cells #[.string ⟨(toU (1 :: (H ++ OT))).toArray⟩] 9)) (ad.add (q * 32)) OT := ⟨S4.1.next b5, hat' _ B5⟩
            have HO6 : Hid ((w4.alloc (.cells #[.string ⟨(toU (1 :: (H ++ OT))).toArray⟩] 9)).ownsRow w0.heap.size 9 1 (.slice (some ⟨g, 0, none⟩) (q + 1) c1) (q + 1) TS) := owns_below HO5.out b5
            refine ⟨S5, ?_⟩
            simp only [Act.put, List.getElem_toArray, List.getElem_cons_zero, List.getElem_cons_succ, List.setIfInBounds_toArray, List.set_cons_zero, List.set_cons_succ]
            generalize w4.alloc (.cells #[.string ⟨(toU (1 :: (H ++ OT))).toArray⟩] 9) = w5 at *
            generalize w4.heap.size = g5 at *
            refine relist #[true, true, true, true, true, true, true, true, true, true, true, false, false, false] (by kernel_rfl) ?_
            refine any_one (i := 11) (by kernel_rfl) ?_
            obtain ⟨i9, hi9, hz9, hsz9, hby9⟩ := info9'
            obtain ⟨ga, ca, w6, hr6, ho6, hgr6, _, _⟩ := run_append_lies (P := Tryd.prog) w5 59 59 w0.heap.size 9 i9 (.string ⟨#[]⟩) 1 16 Tryd.underlying59 hi9 hz9 hsz9 hby9 rfl (by omega) (.slice (some ⟨g, 0, none⟩) (q + 1) c1) (q + 1) TS HO6.out
              ⟨g5, 0, none⟩ 1 1 [.string ⟨(toU (1 :: (H ++ OT))).toArray⟩] rfl (fun j u hu => by
                have e0 : j = 0 := by
                  have := (List.getElem?_eq_some_iff.1 hu).1
                  simp at this; omega
                subst e0
                rw [addr_add, cell_of_row _ _ _ _ _ _ h5]
                simpa using hu) (fun u hu => by simp only [List.mem_singleton] at hu; subst hu; rfl) (by omega) (by unfold maxLen; omega) (by omega) B5.size _ rfl
            have B6 : Below w0.heap.size w0 w6 := B5.grown hgr6 B5.size (fun k hk => by simp only [Value.ownBlock, Option.some.injEq] at hk; omega)
            have S6 : Dg w6 gd H ∧ At8 w6 (ad.add (q * 32)) OT := ⟨⟨S5.1.len, (hgr6.block gd S5.1.lt (by simp only [Value.ownBlock, ne_eq, Option.some.injEq]; omega)).trans S5.1.here⟩, hat' _ B6⟩
            refine wpOp_app rfl rfl (.tmp 55) (.tmp 65) 59 59 rfl _ _ rfl rfl hr6 ?_
            refine ⟨S6, ?_⟩
            simp only [Act.put, List.getElem_toArray, List.getElem_cons_zero, List.getElem_cons_succ, List.setIfInBounds_toArray, List.set_cons_zero, List.set_cons_succ]
            refine wpAnyH_take (i := 12) (v := .slice (some ⟨ga, 0, none⟩) (q + 1 + 1) ca) rfl (by kernel_rfl) (by kernel_rfl) (by kernel_rfl) (fun _ _ _ h => h) (.inl ⟨rfl, fun W _ => by go_simp⟩) S6 ?_
            simp only [Act.put, List.getElem_toArray, List.getElem_cons_zero, List.getElem_cons_succ, List.setIfInBounds_toArray, List.set_cons_zero, List.set_cons_succ]
            refine wpAnyH_take (i := 13) (v := .bool true) rfl (by kernel_rfl) (by kernel_rfl) (by kernel_rfl) (fun _ _ _ h => h) (.inl ⟨rfl, fun W _ => by go_simp⟩) S6 ?_
            simp only [Act.put, List.getElem_toArray, List.getElem_cons_zero, List.getElem_cons_succ, List.setIfInBounds_toArray, List.set_cons_zero, List.set_cons_succ]
            refine relist #[true, true, true, true, true, true, true, true, true, true, true, true, true, true] (by kernel_rfl) ?_
            refine wpAnyH_done (by kernel_rfl) ?_ _
            refine NoPanic.normal ?_
            have HOF : Hid (w6.ownsRow w0.heap.size 9 1 (.slice (some ⟨ga, 0, none⟩) (q + 1 + 1) ca) (q + 1 + 1) (texts e (leftsF (f + 1) i n) ds (q + 1))) := by
              show World.ownsRow _ _ _ _ _ _ _
              rw [HTX.out, HTE.out]; exact ho6
            clear S0 S3 S4 S5 S6 HO3 HO4 HO5 HO6 ho6 hgr6 hr6 h5 eA eB hat' hat
            go_wp2_with fail
            go_ret2
            exact ⟨_, by rw [HF.out]; rfl, fun _ => HOF.out, B6⟩
          · rw [decide_eq_false hok]
            have hno : ¬ q + 1 = (leftsF (f + 1) i n).length := by rw [HLL.out, List.length_append]; simp; exact hok
            have HF : Hid (decide (q + 1 = (leftsF (f + 1) i n).length) = false) := decide_eq_false hno
            have HNO : Hid (¬ q + 1 = (leftsF (f + 1) i n).length) := hno
            clear hno hO
            go_wp2_with fail
            go_ret2
            exact ⟨_, by rw [HF.out]; rfl, fun h => absurd h HNO.out, b1⟩
        · have hik' : ¬ (i : Int) < k := by omega
          have HLL : Hid (leftsF (f + 1) i n = leftsF f (i - k) (n - k) ++ [false]) := by show _ = _; rw [HL.out, if_neg hik]
          have ei : ((i : Int) - k) = ((i - k : Nat) : Int) := by omega
          have en : ((n : Int) - k) = ((n - k : Nat) : Int) := by omega
          clear HL
          go_wp2_with fail
          have hrec := ih q (i - k) (n - k) (some ad) cap (ds.take q) w0 (HD'.out.front q (by omega)) (by omega) (by omega) (by omega) (by omega)
          have HR : Hid _ := hrec
          clear hrec
          unfold strV at HR
          refine Calls.mono HR.out ?_
          rintro ex w1 ⟨v, rfl, hO, b1⟩
          have hll := leftsF_len f (i - k) (n - k)
          clear HR
          by_cases hok : q = (leftsF f (i - k) (n - k)).length
          · have hO := hO hok
            rw [decide_eq_true hok]
            have hq63 : q ≤ 62 := by omega
            have hok2 : q + 1 = (leftsF (f + 1) i n).length := by rw [HLL.out, List.length_append, ← hok]; rfl
            have HF : Hid (decide (q + 1 = (leftsF (f + 1) i n).length) = true) := decide_eq_true hok2
            have HTX : Hid (texts e (leftsF (f + 1) i n) ds (q + 1) = texts e (leftsF f (i - k) (n - k)) (ds.take q) q ++ [strV (textAt e (leftsF (f + 1) i n) ds (q + 1))]) := by
              show _ = _
              rw [HLL.out]; exact texts_front e _ ds false q hok hdl
            have hsplit : ds = ds.take q ++ [ds.getD q []] := by
              have := congrArg List.reverse (rev_last ds q hdl)
              simpa using this
            have htq : (ds.take q).length = q := by rw [List.length_take]; omega
            have HTE : Hid (textAt e (leftsF (f + 1) i n) ds (q + 1) = 1 :: (ds.getD q [] ++ hP (textAt e (leftsF f (i - k) (n - k)) (ds.take q) q))) := by
              show _ = _
              have e1 : textAt e (leftsF (f + 1) i n) ds q = textAt e (leftsF f (i - k) (n - k)) (ds.take q) q := by
                rw [HLL.out]
                conv => lhs; rw [hsplit]
                exact textAt_front e _ _ _ _ q (by omega) (by omega)
              have e2 : (leftsF (f + 1) i n).getD q false = false := by rw [HLL.out, hok]; simp [List.getD]
              simp only [textAt, e1, e2, Bool.false_eq_true, if_false]
            have hbT : Bytes (textAt e (leftsF f (i - k) (n - k)) (ds.take q) q) := textAt_bytes e he _ _ (fun j => (getD_bytes (HD'.out.front q (by omega)) j).1) q
            have hlT := textAt_len e (leftsF f (i - k) (n - k)) (ds.take q) (fun j => (getD_bytes (HD'.out.front q (by omega)) j).2) q
            have hget := texts_get e (leftsF f (i - k) (n - k)) (ds.take q) q q (Nat.le_refl _)
            have htl : (texts e (leftsF f (i - k) (n - k)) (ds.take q) q).length = q + 1 := by simp [texts]
            obtain ⟨g, c1, rfl, hg1, hg2, hgf, hgc, hgcs⟩ := owns_get hO (by omega)
            have HO : Hid (w1.ownsRow w0.heap.size 9 1 (.slice (some ⟨g, 0, none⟩) (q + 1) c1) (q + 1) (texts e (leftsF f (i - k) (n - k)) (ds.take q) q)) := hO
            have hcell : w1.cell? ⟨g, q, none⟩ = some (strV (textAt e (leftsF f (i - k) (n - k)) (ds.take q) q)) := by rw [hgcs q (by omega), hget]
            clear hgcs hO hget hok hok2 hsplit htq HLL
            generalize texts e (leftsF f (i - k) (n - k)) (ds.take q) q = TS at *
            obtain ⟨TT, hTT⟩ : ∃ TT, textAt e (leftsF f (i - k) (n - k)) (ds.take q) q = TT := ⟨_, rfl⟩
            rw [hTT] at HTE hbT hlT hcell
            clear hTT
            unfold strV at hcell
            have hi59 : ∀ W : World, (Instr.indexAt 59 (.slice (some ⟨g, 0, none⟩) (q + 1) c1) (.int .i64 q)).run Tryd.prog W = .ok (.pointer (some ⟨g, q, none⟩)) W := fun W => index59 g (q + 1) c1 q (by omega) W
            go_wp2_with fail
            refine (ref_any _ (toU TT) TT rfl (toI_toU TT hbT) w1 (by rw [toU_len]; omega)).mono ?_
            rintro ex w2 ⟨rfl, b2⟩
            have hHl := hP_len TT
            have hHb := hP_bytes TT
            generalize hP TT = H at *
            have n2 : Hid (Dg (w2.alloc (.cells Z8x32 25)) w2.heap.size Z32) := Dg.new w2 _ rfl
            have B2 : Below w0.heap.size w0 w2 := b1.trans (b2.mono b1.size)
            have hs12 := b2.size
            have HO2 : Hid (w2.ownsRow w0.heap.size 9 1 (.slice (some ⟨g, 0, none⟩) (q + 1) c1) (q + 1) TS) := owns_below HO.out b2
            clear hcell HO hi59 b1 b2
            go_wp2_with (first
              | (with_reducible refine atStore 25 ?_
                 refine store_D rfl _ _ rfl w2.heap.size H rfl rfl Z32 n2.out hHl ?_
                 intro U hU
                 refine hideGoal ?_))
            have bU : Below w2.heap.size w2 U := hU.below _ _ (Nat.le_refl _) ((Below.refl _ _).alloc (Nat.le_refl _) _)
            have dU : Dg U w2.heap.size H := hU.dg hHl
            have BU : Below w0.heap.size w0 U := B2.trans (bU.mono B2.size)
            have HO3 : Hid (U.ownsRow w0.heap.size 9 1 (.slice (some ⟨g, 0, none⟩) (q + 1) c1) (q + 1) TS) := owns_below HO2.out bU
            have hgd : g < w2.heap.size := by omega
            clear hU n2 HO2 B2
            generalize w2.heap.size = gd at *
            have hat' : ∀ W : World, Below w0.heap.size w0 W → At8 W (ad.add (q * 32)) (ds.getD q []) := fun W hW j hj => by
              have h := hat j hj
              rw [hW.cell (by rw [addr_block, addr_block]; exact hadl)]
              exact h
            generalize ds.getD q [] = OT at *
            refine openGoal ?_
            go_wp2_with fail
            refine wp_region_noPanic ?_
            have BD : Below w0.heap.size w0 U.drew := BU.drew
            have S0 : Dg U.drew gd H ∧ At8 U.drew (ad.add (q * 32)) OT := ⟨⟨dU.len, dU.here⟩, hat' _ BD⟩
            refine wp_region_held (S := fun W => Dg W gd H ∧ At8 W (ad.add (q * 32)) OT) follows ?_
            refine wpAnyH_take (i := 0) (v := .slice (some ⟨g, 0, none⟩) (q + 1) c1) rfl (by kernel_rfl) (by kernel_rfl) (by kernel_rfl) (fun _ _ _ h => h) (.inl ⟨rfl, fun W _ => by go_simp⟩) S0 ?_
            simp only [Act.put, List.getElem_toArray, List.getElem_cons_zero, List.getElem_cons_succ, List.setIfInBounds_toArray, List.set_cons_zero, List.set_cons_succ]
            refine wpAnyH_take (i := 1) (v := .slice (some ad) (q + 1) cap) rfl (by kernel_rfl) (by kernel_rfl) (by kernel_rfl) (fun _ _ _ h => h) (.inl ⟨rfl, fun W _ => by go_simp⟩) S0 ?_
            simp only [Act.put, List.getElem_toArray, List.getElem_cons_zero, List.getElem_cons_succ, List.setIfInBounds_toArray, List.set_cons_zero, List.set_cons_succ]
            refine wpAnyH_take (i := 2) (v := .int .i64 q) rfl (by kernel_rfl) (by kernel_rfl) (by kernel_rfl) (fun _ _ _ h => h) (.inl ⟨rfl, fun W _ => by go_simp⟩) S0 ?_
            simp only [Act.put, List.getElem_toArray, List.getElem_cons_zero, List.getElem_cons_succ, List.setIfInBounds_toArray, List.set_cons_zero, List.set_cons_succ]
            refine wpAnyH_take (i := 3) (v := .pointer (some (ad.add (q * 32)))) rfl (by kernel_rfl) (by kernel_rfl) (by kernel_rfl) (fun _ _ _ h => h) (.inl ⟨rfl, fun W _ => by have e := hia W; go_simp⟩) S0 ?_
            simp only [Act.put, List.getElem_toArray, List.getElem_cons_zero, List.getElem_cons_succ, List.setIfInBounds_toArray, List.set_cons_zero, List.set_cons_succ]
            refine wpAnyH_take (i := 4) (v := .agg (A8 OT)) rfl (by kernel_rfl) (by kernel_rfl) (by kernel_rfl) (fun _ _ _ h => h) (yields_at rfl (.tmp 93) rfl (ad.add (q * 32)) rfl OT hol (fun W hW => hW.2)) S0 ?_
            simp only [Act.put, List.getElem_toArray, List.getElem_cons_zero, List.getElem_cons_succ, List.setIfInBounds_toArray, List.set_cons_zero, List.set_cons_succ]
            refine wpAnyH_take (i := 7) (v := .agg (A8 H)) rfl (by kernel_rfl) (by kernel_rfl) (by kernel_rfl) (fun _ _ _ h => h) (yields_D rfl (.tmp 17) rfl gd rfl H hHl (fun W hW => hW.1)) S0 ?_
            simp only [Act.put, List.getElem_toArray, List.getElem_cons_zero, List.getElem_cons_succ, List.setIfInBounds_toArray, List.set_cons_zero, List.set_cons_succ]
            refine relist #[true, true, true, true, true, false, false, true, false, false, false, false, false, false] (by kernel_rfl) ?_
            refine any_one (i := 5) (by kernel_rfl) ?_
            refine wpOp_call (f := 60) (args := #[.agg (A8 OT)]) rfl rfl (by go_simp) ?_
            refine (text_any OT _ hol).mono ?_
            rintro ex w3 ⟨rfl, b3⟩
            have B3 : Below w0.heap.size w0 w3 := BD.trans (b3.mono BD.size)
            have S3 : Dg w3 gd H ∧ At8 w3 (ad.add (q * 32)) OT := ⟨Dg.next (w := U.drew) S0.1 b3, hat' _ B3⟩
            have HO4 : Hid (w3.ownsRow w0.heap.size 9 1 (.slice (some ⟨g, 0, none⟩) (q + 1) c1) (q + 1) TS) := owns_below (w := U) HO3.out (show Below U.heap.size U w3 from (Below.refl _ _).drew.trans b3)
            refine ⟨_, rfl, S3, ?_⟩
            simp only [Act.put, List.getElem_toArray, List.getElem_cons_zero, List.getElem_cons_succ, List.setIfInBounds_toArray, List.set_cons_zero, List.set_cons_succ]
            have hsL : (ByteArray.mk (toU OT).toArray).size = 32 := by rw [str_size, hol]
            have hsR : (ByteArray.mk (toU H).toArray).size = 32 := by rw [str_size, hHl]
            have eA : (ByteArray.mk #[1]) ++ (ByteArray.mk (toU OT).toArray) = ByteArray.mk (1 :: toU OT).toArray := ByteArray.mk_append_mk [1] (toU OT)
            have eB : (ByteArray.mk (1 :: toU OT).toArray) ++ (ByteArray.mk (toU H).toArray) = ByteArray.mk (toU (1 :: (OT ++ H))).toArray := by
              have h := ByteArray.mk_append_mk (1 :: toU OT) (toU H)
              rw [h]
              simp [toU]
            have hsA : (ByteArray.mk (1 :: toU OT).toArray).size = 33 := by show (1 :: toU OT).toArray.size = _; simp [toU_len, hol]
            refine wpAnyH_take (i := 6) (v := .string ⟨(1 :: toU OT).toArray⟩) rfl (by kernel_rfl) (by kernel_rfl) (by kernel_rfl) (fun _ _ _ h => h) (.inl ⟨rfl, fun W _ => by go_simp⟩) S3 ?_
            simp only [Act.put, List.getElem_toArray, List.getElem_cons_zero, List.getElem_cons_succ, List.setIfInBounds_toArray, List.set_cons_zero, List.set_cons_succ]
            refine relist #[true, true, true, true, true, true, true, true, false, false, false, false, false, false] (by kernel_rfl) ?_
            refine any_one (i := 8) (by kernel_rfl) ?_
            refine wpOp_call (f := 60) (args := #[.agg (A8 H)]) rfl rfl (by go_simp) ?_
            refine (text_any H _ hHl).mono ?_
            rintro ex w4 ⟨rfl, b4⟩
            have B4 : Below w0.heap.size w0 w4 := B3.trans (b4.mono B3.size)
            have S4 : Dg w4 gd H ∧ At8 w4 (ad.add (q * 32)) OT := ⟨S3.1.next b4, hat' _ B4⟩
            have HO5 : Hid (w4.ownsRow w0.heap.size 9 1 (.slice (some ⟨g, 0, none⟩) (q + 1) c1) (q + 1) TS) := owns_below HO4.out b4
            refine ⟨_, rfl, S4, ?_⟩
            simp only [Act.put, List.getElem_toArray, List.getElem_cons_zero, List.getElem_cons_succ, List.setIfInBounds_toArray, List.set_cons_zero, List.set_cons_succ]
            refine wpAnyH_take (i := 9) (v := .string ⟨(toU (1 :: (OT ++ H))).toArray⟩) rfl (by kernel_rfl) (by kernel_rfl) (by kernel_rfl) (fun _ _ _ h => h) (.inl ⟨rfl, fun W _ => by go_simp⟩) S4 ?_
            simp only [Act.put, List.getElem_toArray, List.getElem_cons_zero, List.getElem_cons_succ, List.setIfInBounds_toArray, List.set_cons_zero, List.set_cons_succ]
            refine relist #[true, true, true, true, true, true, true, true, true, true, false, false, false, false] (by kernel_rfl) ?_
            refine any_one (i := 10) (by kernel_rfl) ?_
            refine wpOp_val (v := .slice (some ⟨w4.heap.size, 0, none⟩) 1 1) (w' := w4.alloc (.cells #[.string ⟨(toU (1 :: (OT ++ H))).toArray⟩] 9)) rfl rfl (by go_simp) ?_
            have b5 : Below w4.heap.size w4 (w4.alloc (.cells #[.string ⟨(toU (1 :: (OT ++ H))).toArray⟩] 9)) := (Below.refl _ _).alloc (Nat.le_refl _) _
            have h5 := heapN w4 (.cells #[.string ⟨(toU (1 :: (OT ++ H))).toArray⟩] 9) _ rfl
            have B5 := B4.trans (b5.mono B4.size)
            have S5 : Dg (w4.alloc (.cells #[.string ⟨(toU (1 :: (OT ++ H))).toArray⟩] 9)) gd H ∧ At8 (w4.alloc (.cells #[.string ⟨(toU (1 :: (OT ++ H))).toArray⟩] 9)) (ad.add (q * 32)) OT := ⟨S4.1.next b5, hat' _ B5⟩
            have HO6 : Hid ((w4.alloc (.cells #[.string ⟨(toU (1 :: (OT ++ H))).toArray⟩] 9)).ownsRow w0.heap.size 9 1 (.slice (some ⟨g, 0, none⟩) (q + 1) c1) (q + 1) TS) := owns_below HO5.out b5
            refine ⟨S5, ?_⟩
            simp only [Act.put, List.getElem_toArray, List.getElem_cons_zero, List.getElem_cons_succ, List.setIfInBounds_toArray, List.set_cons_zero, List.set_cons_succ]
            generalize w4.alloc (.cells #[.string ⟨(toU (1 :: (OT ++ H))).toArray⟩] 9) = w5 at *
            generalize w4.heap.size = g5 at *
            refine relist #[true, true, true, true, true, true, true, true, true, true, true, false, false, false] (by kernel_rfl) ?_
            refine any_one (i := 11) (by kernel_rfl) ?_
            obtain ⟨i9, hi9, hz9, hsz9, hby9⟩ := info9'
            obtain ⟨ga, ca, w6, hr6, ho6, hgr6, _, _⟩ := run_append_lies (P := Tryd.prog) w5 59 59 w0.heap.size 9 i9 (.string ⟨#[]⟩) 1 16 Tryd.underlying59 hi9 hz9 hsz9 hby9 rfl (by omega) (.slice (some ⟨g, 0, none⟩) (q + 1) c1) (q + 1) TS HO6.out
              ⟨g5, 0, none⟩ 1 1 [.string ⟨(toU (1 :: (OT ++ H))).toArray⟩] rfl (fun j u hu => by
                have e0 : j = 0 := by
                  have := (List.getElem?_eq_some_iff.1 hu).1
                  simp at this; omega
                subst e0
                rw [addr_add, cell_of_row _ _ _ _ _ _ h5]
                simpa using hu) (fun u hu => by simp only [List.mem_singleton] at hu; subst hu; rfl) (by omega) (by unfold maxLen; omega) (by omega) B5.size _ rfl
            have B6 : Below w0.heap.size w0 w6 := B5.grown hgr6 B5.size (fun k hk => by simp only [Value.ownBlock, Option.some.injEq] at hk; omega)
            have S6 : Dg w6 gd H ∧ At8 w6 (ad.add (q * 32)) OT := ⟨⟨S5.1.len, (hgr6.block gd S5.1.lt (by simp only [Value.ownBlock, ne_eq, Option.some.injEq]; omega)).trans S5.1.here⟩, hat' _ B6⟩
            refine wpOp_app rfl rfl (.tmp 90) (.tmp 100) 59 59 rfl _ _ rfl rfl hr6 ?_
            refine ⟨S6, ?_⟩
            simp only [Act.put, List.getElem_toArray, List.getElem_cons_zero, List.getElem_cons_succ, List.setIfInBounds_toArray, List.set_cons_zero, List.set_cons_succ]
            refine wpAnyH_take (i := 12) (v := .slice (some ⟨ga, 0, none⟩) (q + 1 + 1) ca) rfl (by kernel_rfl) (by kernel_rfl) (by kernel_rfl) (fun _ _ _ h => h) (.inl ⟨rfl, fun W _ => by go_simp⟩) S6 ?_
            simp only [Act.put, List.getElem_toArray, List.getElem_cons_zero, List.getElem_cons_succ, List.setIfInBounds_toArray, List.set_cons_zero, List.set_cons_succ]
            refine wpAnyH_take (i := 13) (v := .bool true) rfl (by kernel_rfl) (by kernel_rfl) (by kernel_rfl) (fun _ _ _ h => h) (.inl ⟨rfl, fun W _ => by go_simp⟩) S6 ?_
            simp only [Act.put, List.getElem_toArray, List.getElem_cons_zero, List.getElem_cons_succ, List.setIfInBounds_toArray, List.set_cons_zero, List.set_cons_succ]
            refine relist #[true, true, true, true, true, true, true, true, true, true, true, true, true, true] (by kernel_rfl) ?_
            refine wpAnyH_done (by kernel_rfl) ?_ _
            refine NoPanic.normal ?_
            have HOF : Hid (w6.ownsRow w0.heap.size 9 1 (.slice (some ⟨ga, 0, none⟩) (q + 1 + 1) ca) (q + 1 + 1) (texts e (leftsF (f + 1) i n) ds (q + 1))) := by
              show World.ownsRow _ _ _ _ _ _ _
              rw [HTX.out, HTE.out]; exact ho6
            clear S0 S3 S4 S5 S6 HO3 HO4 HO5 HO6 ho6 hgr6 hr6 h5 eA eB hat' hat
            go_wp2_with fail
            go_ret2
            exact ⟨_, by rw [HF.out]; rfl, fun _ => HOF.out, B6⟩
          · rw [decide_eq_false hok]
            have hno : ¬ q + 1 = (leftsF (f + 1) i n).length := by rw [HLL.out, List.length_append]; simp; exact hok
            have HF : Hid (decide (q + 1 = (leftsF (f + 1) i n).length) = false) := decide_eq_false hno
            have HNO : Hid (¬ q + 1 = (leftsF (f + 1) i n).length) := hno
            clear hno hO
            go_wp2_with fail
            go_ret2
            exact ⟨_, by rw [HF.out]; rfl, fun h => absurd h HNO.out, b1⟩
end Go.Proofs.YtcmjlhcpoajbkaaDoor
