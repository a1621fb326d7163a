import Derived.Test.YtcmjlhcpoajbkaaDoorQSy
namespace Go.Proofs.YtcmjlhcpoajbkaaDoor
set_option maxRecDepth 10000
set_option linter.unusedSimpArgs false
open Go.RowKit
theorem eixK (b o n c k : Nat) (hk : k < n) (W : World) : (Instr.indexAt 47 (.slice (some ⟨b, o, none⟩) n c) (.int .i64 k)).run Tryd.prog W = .ok (.pointer (some ⟨b, o + k, none⟩)) W := by
  have h1 : (k : Int) < n := by omega
  have h3 : (⟨b, o, none⟩ : Addr).add k = ⟨b, o + k, none⟩ := addr_add _ _ _
  go_simp
theorem ix48 (b o n c k : Nat) (hk : k < n) (W : World) : (Instr.indexAt 48 (.slice (some ⟨b, o, none⟩) n c) (.int .i64 k)).run Tryd.prog W = .ok (.pointer (some ⟨b, o + k * 5, none⟩)) W := by
  have h1 : (k : Int) < n := by omega
  have h3 : (⟨b, o, none⟩ : Addr).add (k * 5) = ⟨b, o + k * 5, none⟩ := addr_add _ _ _
  go_simp
theorem ix49 (g n c k : Nat) (hk : k < n) (W : World) : (Instr.indexAt 49 (.slice (some ⟨g, 0, none⟩) n c) (.int .i64 k)).run Tryd.prog W = .ok (.pointer (some ⟨g, k, none⟩)) W := by
  have h1 : (k : Int) < n := by omega
  go_simp
theorem und66 : ∃ fs, Tryd.prog.underlying 66 = some (.struct fs) := ⟨_, Tryd.underlying66⟩
theorem info66 : (Tryd.prog.info? 66).map (·.size) = some 5 := by kernel_rfl
theorem arg_len {w : World} {p : Option Addr} {n c : Nat} {xs : List Int} (h : Arg w (.slice p n c) xs) : xs.length = n := by
  rcases h with ⟨e, rfl⟩ | ⟨ad, n', c', e, h2, _⟩
  · injection e with _ e2; simp [e2]
  · injection e with _ e2; omega
set_option maxHeartbeats 32000000 in
theorem logs_any (w : World) (hT : Tabs KS HS w) (kp : Option Addr) (kn kc : Nat) (ks : List (List Int)) (hK : KeysAt w kp kn kc ks) (hkn : kn ≤ 5864062014806) (sp : Option Addr) (sn sc : Nat) (S : Nat → SOp) (hS : ScriptAt w sp sn sc S) (hsn : sn ≤ 2513169434916) :
    Calls Tryd.prog 7 #[.slice kp kn kc, .slice sp sn sc] w fun e w' => e = .returned (.bool true) ∧ Below w.heap.size w w' := by
  have HTb : Hid (Tabs KS HS w) := hT
  have HK : Hid (KeysAt w kp kn kc ks) := hK
  have HSc : Hid (ScriptAt w sp sn sc S) := hS
  have hkf := hK.fits
  have hkr := hK.room
  have hsf := hS.fits
  have hsr := hS.room
  clear hT hK hS
  go_enter Tryd.func7, Tryd.ntmps7
  go_wp2_with fail
  refine (alive_any _ HTb.out).mono ?_
  rintro e w1 ⟨rfl, b1⟩
  have HI0 : Hid (LInv w (w1.alloc (.cells #[.slice none 0 0] 53)) (.slice none 0 0) [] w1.heap.size (.slice none 0 0) 0) := LInv.start b1
  clear b1
  go_wp2_with fail
  obtain ⟨gb, hgb⟩ : ∃ gb, w1.heap.size = gb := ⟨_, rfl⟩
  rw [hgb] at HI0 ⊢
  clear hgb
  generalize w1.alloc (.cells #[.slice none 0 0] 53) = V at *
  go_loopw [6, 8] (fun lv iv wr => ∃ (i : Nat) (PS : List PR) (lp : Option Addr) (lc : Nat), i ≤ kn ∧ PS.length ≤ i ∧ iv = .int .i64 i ∧ lv = .slice lp PS.length lc ∧ LInv w wr (.slice lp PS.length lc) PS gb (.slice none 0 0) 0) (fun _ iv _ => kn - (intOf iv).toNat)
  case atStart => exact ⟨0, [], none, 0, by omega, by simp, rfl, rfl, HI0.out⟩
  case round =>
    obtain ⟨i, PS, lp, lc, hi, hPl, rfl, rfl, hInv⟩ := hrel
    generalize wr = wo at *
    obtain ⟨hlf, hlr⟩ : PS.length ≤ lc ∧ lc ≤ 9223372036854775807 := by
      obtain ⟨_, ow, _, _, h4, _⟩ := hInv
      obtain ⟨_, _, e, h1, h2⟩ := owns_shape h4
      cases e
      exact ⟨h1, h2⟩
    have HI : Hid (LInv w wo (.slice lp PS.length lc) PS gb (.slice none 0 0) 0) := hInv
    have hb : Below w.heap.size w wo := hInv.1
    clear hInv HI0
    by_cases hin : i < kn
    · have hin' : (i : Int) < kn := by omega
      obtain ⟨b, o, rfl, hbl, hcs⟩ := HK.out.lies (by omega)
      obtain ⟨vp, vn, vc, hcell, hArg⟩ := hcs i hin
      have HA : Hid (Arg w (.slice vp vn vc) (ks.getD i [])) := hArg
      have hvl := arg_len hArg
      have hsm := hArg.small
      have hxb := hArg.bytes
      have HCC : Hid (∀ W : World, Below w.heap.size w W → W.cell? ⟨b, o + i, none⟩ = some (.slice vp vn vc)) := fun W hW => by rw [hW.cell (p := ⟨b, o + i, none⟩) hbl]; exact hcell
      have hix := fun W => eixK b o kn kc i hin W
      have c0 := HCC.out wo hb
      clear hcs hcell hArg
      generalize ks.getD i [] = key at *
      go_wp2_with fail
      refine (roomyW_any (HA.out.below hb)).mono ?_
      rintro e w2 ⟨p, m, cap, rfl, b2, hPr, hI2, hR⟩
      have B2 : Below w.heap.size w w2 := hb.trans (b2.mono hb.size)
      have HPr : Hid (Pair w2 (.slice vp vn vc) p m cap key) := hPr
      have HI2 : Hid (In8 w2 p m cap key) := hI2
      have HR : Hid (Rowy w2 wo.heap.size p m) := hR
      have HOF : Hid (∀ z, Of p z → wo.heap.size ≤ z ∧ z < w2.heap.size) := fun z hz => hR.of hz
      have hml := hI2.len
      have hws := hb.size
      have HB2 : Hid (Below wo.heap.size wo w2) := b2
      clear hPr hI2 hR b2 c0
      by_cases hlong : 100 < vn
      · have hl' : (100 : Int) < vn := by omega
        have hdl : decide ((100 : Int) < vn) = true := decide_eq_true hl'
        go_wp2_with fail
        refine (new_long w2 p m cap (by omega) (by omega)).mono ?_
        rintro e w3 ⟨rfl, hw3⟩
        rw [hw3]
        clear hw3 w3
        have c2 := HCC.out w2 B2
        go_wp2_with fail
        refine (kept_any HPr.out).mono ?_
        rintro e w3 ⟨rfl, hw3⟩
        rw [hw3]
        clear hw3 w3 c2
        go_wp2_with fail
        go_loopw [13] (fun jv wq => ∃ j : Nat, j ≤ m ∧ jv = .int .i64 j ∧ Kp (Of p) w2 wq ∧ Rowy wq wo.heap.size p m) (fun jv _ => m - (intOf jv).toNat)
        case atStart => exact ⟨0, by omega, rfl, ⟨rfl, rfl, rfl, Nat.le_refl _, fun _ _ _ => rfl⟩, HR.out⟩
        case round =>
          obtain ⟨j, hj, rfl, hkp, hrw⟩ := hrel
          by_cases hjl : j < m
          · have hjl' : (j : Int) < m := by omega
            obtain ⟨g, cur, rfl, hg, hch, hcz⟩ := hrw.resolve_left (fun h => by omega)
            have hcj : wr.cell? ⟨g, j, none⟩ = some (cur[j]'(by omega)) := by rw [cell_of_row _ _ _ _ _ _ hch]; simp
            have hfj := frozen_of_row wr g j _ _ hch
            have hix2 := ixR g m cap j hjl
            clear hrw
            go_wp2_with fail
            go_roundw
            case rel =>
              refine ⟨j + 1, by omega, by go_num, ⟨hkp.os, hkp.tape, hkp.output, by simpa using hkp.size, fun z hz hx => ?_⟩, .inr ⟨g, cur.setIfInBounds j (.int .u8 35), rfl, hg, heap_setCell_same wr g j _ _ _ hch, by simpa using hcz⟩⟩
              rw [Below.heap_setCell _ _ _ _ (by intro he; exact hx ⟨_, rfl, he.symm⟩)]
              exact hkp.block z hz hx
            case measure => first | (simp [intOf]; done) | (simp [intOf]; omega)
          · have hjl' : ¬ (j : Int) < m := by omega
            have BK : Below wo.heap.size wo wr := hkp.below (fun z hz => (HOF.out z hz).1) HB2.out.size HB2.out
            have HI4 : Hid (LInv w wr (.slice lp PS.length lc) PS gb (.slice none 0 0) 0) := HI.out.below BK
            have c4 := HCC.out wr (hb.trans (BK.mono hws))
            clear hkp hrw
            go_wp2_with fail
            go_roundw
            case rel => exact ⟨i + 1, PS, lp, lc, by omega, by omega, by go_num, rfl, HI4.out⟩
            case measure => first | (simp [intOf]; done) | (simp [intOf]; omega)
      · have hl' : ¬ (100 : Int) < vn := by omega
        have hdl : decide ((100 : Int) < vn) = false := decide_eq_false hl'
        go_wp2_with fail
        refine (new_any w2 p m cap key HI2.out (by omega)).mono ?_
        rintro e w3 ⟨gx, rfl, hL3, b3⟩
        have HL3 : Hid (LogAt w3 w2.heap.size gx (.slice none 0 0) key []) := hL3
        have B3 : Below w.heap.size w w3 := B2.trans (b3.mono B2.size)
        have HPr3 : Hid (Pair w3 (.slice vp vn vc) p m cap key) := HPr.out.below b3
        have HR3 : Hid (Rowy w3 wo.heap.size p m) := HR.out.below b3
        have HB3 : Hid (Below wo.heap.size wo w3) := HB2.out.trans (b3.mono HB2.out.size)
        have c3 := HCC.out w3 B3
        have hs23 := b3.size
        have hso2 := HB2.out.size
        clear hL3 b3
        go_wp2_with fail
        refine (kept_any HPr3.out).mono ?_
        rintro e w4 ⟨rfl, hw4⟩
        rw [hw4]
        clear hw4 w4 c3
        go_wp2_with fail
        go_loopw [13] (fun jv wq => ∃ j : Nat, j ≤ m ∧ jv = .int .i64 j ∧ Kp (Of p) w3 wq ∧ Rowy wq wo.heap.size p m) (fun jv _ => m - (intOf jv).toNat)
        case atStart => exact ⟨0, by omega, rfl, ⟨rfl, rfl, rfl, Nat.le_refl _, fun _ _ _ => rfl⟩, HR3.out⟩
        case round =>
          obtain ⟨j, hj, rfl, hkp, hrw⟩ := hrel
          by_cases hjl : j < m
          · have hjl' : (j : Int) < m := by omega
            obtain ⟨g, cur, rfl, hg, hch, hcz⟩ := hrw.resolve_left (fun h => by omega)
            have hcj : wr.cell? ⟨g, j, none⟩ = some (cur[j]'(by omega)) := by rw [cell_of_row _ _ _ _ _ _ hch]; simp
            have hfj := frozen_of_row wr g j _ _ hch
            have hix2 := ixR g m cap j hjl
            clear hrw
            go_wp2_with fail
            go_roundw
            case rel =>
              refine ⟨j + 1, by omega, by go_num, ⟨hkp.os, hkp.tape, hkp.output, by simpa using hkp.size, fun z hz hx => ?_⟩, .inr ⟨g, cur.setIfInBounds j (.int .u8 35), rfl, hg, heap_setCell_same wr g j _ _ _ hch, by simpa using hcz⟩⟩
              rw [Below.heap_setCell _ _ _ _ (by intro he; exact hx ⟨_, rfl, he.symm⟩)]
              exact hkp.block z hz hx
            case measure => first | (simp [intOf]; done) | (simp [intOf]; omega)
          · have hjl' : ¬ (j : Int) < m := by omega
            have BK : Below wo.heap.size wo wr := hkp.below (fun z hz => (HOF.out z hz).1) HB3.out.size HB3.out
            have HLq : Hid (LogAt wr w2.heap.size gx (.slice none 0 0) key []) := HL3.out.kp hkp (fun z hz => (HOF.out z hz).2)
            have BW : Below w.heap.size w wr := hb.trans (BK.mono hws)
            have c4 := HCC.out wr BW
            have hsz4 := BK.size
            have hs4 := hkp.size
            clear hkp hrw
            go_upto_region 18 with fail
            obtain ⟨y0, ey0⟩ : ∃ W, wr.drew = W := ⟨_, rfl⟩
            have bd : Below wr.heap.size wr y0 := by rw [← ey0]; exact (Below.refl _ _).drew
            have HL0 : Hid (LogAt y0 w2.heap.size gx (.slice none 0 0) key []) := HLq.out.below bd
            have C0 : Below w.heap.size w y0 := BW.trans (bd.mono BW.size)
            have K0 : Below wo.heap.size wo y0 := BK.trans (bd.mono BK.size)
            have S0 : Below w.heap.size w wr.drew := by rw [ey0]; exact C0
            refine wp_region_noPanic ?_
            refine wp_region_held (S := fun W => Below w.heap.size w W) follows ?_
            refine wpAnyH_take (i := 0) (v := .slice lp PS.length lc) rfl (by kernel_rfl) (by kernel_rfl) (by kernel_rfl) (fun _ _ _ h => h) (.inl ⟨rfl, fun W _ => by go_simp⟩) S0 ?_
            simp only [Act.put, List.getElem_toArray, List.getElem_cons_zero, List.getElem_cons_succ, List.setIfInBounds_toArray, List.set_cons_zero, List.set_cons_succ]
            refine wpAnyH_take (i := 1) (v := .pointer (some ⟨gx, 0, none⟩)) rfl (by kernel_rfl) (by kernel_rfl) (by kernel_rfl) (fun _ _ _ h => h) (.inl ⟨rfl, fun W _ => by go_simp⟩) S0 ?_
            simp only [Act.put, List.getElem_toArray, List.getElem_cons_zero, List.getElem_cons_succ, List.setIfInBounds_toArray, List.set_cons_zero, List.set_cons_succ]
            refine wpAnyH_take (i := 2) (v := .slice (some ⟨b, o, none⟩) kn kc) rfl (by kernel_rfl) (by kernel_rfl) (by kernel_rfl) (fun _ _ _ h => h) (.inl ⟨rfl, fun W _ => by go_simp⟩) S0 ?_
            simp only [Act.put, List.getElem_toArray, List.getElem_cons_zero, List.getElem_cons_succ, List.setIfInBounds_toArray, List.set_cons_zero, List.set_cons_succ]
            refine wpAnyH_take (i := 3) (v := .int .i64 i) rfl (by kernel_rfl) (by kernel_rfl) (by kernel_rfl) (fun _ _ _ h => h) (.inl ⟨rfl, fun W _ => by go_simp⟩) S0 ?_
            simp only [Act.put, List.getElem_toArray, List.getElem_cons_zero, List.getElem_cons_succ, List.setIfInBounds_toArray, List.set_cons_zero, List.set_cons_succ]
            refine wpAnyH_take (i := 4) (v := .pointer (some ⟨b, o + i, none⟩)) rfl (by kernel_rfl) (by kernel_rfl) (by kernel_rfl) (fun _ _ _ h => h) (.inl ⟨rfl, fun W _ => by have e := hix W; go_simp⟩) S0 ?_
            simp only [Act.put, List.getElem_toArray, List.getElem_cons_zero, List.getElem_cons_succ, List.setIfInBounds_toArray, List.set_cons_zero, List.set_cons_succ]
            refine wpAnyH_take (i := 5) (v := .slice vp vn vc) rfl (by kernel_rfl) (by kernel_rfl) (by kernel_rfl) (fun _ _ _ h => h) (.inl ⟨rfl, fun W hW => by have e := HCC.out W hW; go_simp⟩) S0 ?_
            simp only [Act.put, List.getElem_toArray, List.getElem_cons_zero, List.getElem_cons_succ, List.setIfInBounds_toArray, List.set_cons_zero, List.set_cons_succ]
            refine wpAnyH_take (i := 6) (v := .string ⟨(toU key).toArray⟩) rfl (by kernel_rfl) (by kernel_rfl) (by kernel_rfl) (fun _ _ _ h => h) (yields_conv rfl (.tmp 87) rfl (.slice vp vn vc) _ rfl (fun W hW => (HA.out.below hW).conv)) S0 ?_
            simp only [Act.put, List.getElem_toArray, List.getElem_cons_zero, List.getElem_cons_succ, List.setIfInBounds_toArray, List.set_cons_zero, List.set_cons_succ]
            refine wpAnyH_take (i := 7) (v := .agg #[.string ⟨(toU key).toArray⟩, .slice none 0 0]) rfl (by kernel_rfl) (by kernel_rfl) (by kernel_rfl) (fun _ _ _ h => h) (.inl ⟨rfl, fun W _ => by go_simp⟩) S0 ?_
            simp only [Act.put, List.getElem_toArray, List.getElem_cons_zero, List.getElem_cons_succ, List.setIfInBounds_toArray, List.set_cons_zero, List.set_cons_succ]
            refine wpAnyH_take (i := 9) (v := .slice (some ⟨b, o, none⟩) kn kc) rfl (by kernel_rfl) (by kernel_rfl) (by kernel_rfl) (fun _ _ _ h => h) (.inl ⟨rfl, fun W _ => by go_simp⟩) S0 ?_
            simp only [Act.put, List.getElem_toArray, List.getElem_cons_zero, List.getElem_cons_succ, List.setIfInBounds_toArray, List.set_cons_zero, List.set_cons_succ]
            refine wpAnyH_take (i := 10) (v := .int .i64 i) rfl (by kernel_rfl) (by kernel_rfl) (by kernel_rfl) (fun _ _ _ h => h) (.inl ⟨rfl, fun W _ => by go_simp⟩) S0 ?_
            simp only [Act.put, List.getElem_toArray, List.getElem_cons_zero, List.getElem_cons_succ, List.setIfInBounds_toArray, List.set_cons_zero, List.set_cons_succ]
            refine wpAnyH_take (i := 11) (v := .pointer (some ⟨b, o + i, none⟩)) rfl (by kernel_rfl) (by kernel_rfl) (by kernel_rfl) (fun _ _ _ h => h) (.inl ⟨rfl, fun W _ => by have e := hix W; go_simp⟩) S0 ?_
            simp only [Act.put, List.getElem_toArray, List.getElem_cons_zero, List.getElem_cons_succ, List.setIfInBounds_toArray, List.set_cons_zero, List.set_cons_succ]
            refine wpAnyH_take (i := 12) (v := .slice vp vn vc) rfl (by kernel_rfl) (by kernel_rfl) (by kernel_rfl) (fun _ _ _ h => h) (.inl ⟨rfl, fun W hW => by have e := HCC.out W hW; go_simp⟩) S0 ?_
            simp only [Act.put, List.getElem_toArray, List.getElem_cons_zero, List.getElem_cons_succ, List.setIfInBounds_toArray, List.set_cons_zero, List.set_cons_succ]
            refine reworld (w' := wr.drew) rfl ?_
            rw [ey0]
            clear ey0 S0 c4
            refine relist #[true, true, true, true, true, true, true, true, false, true, true, true, true, false, false, false, false, false] (by kernel_rfl) ?_
            refine any_one (i := 8) (by kernel_rfl) ?_
            refine wpOp_val (v := .pointer (some ⟨y0.heap.size, 0, none⟩)) (w' := y0.alloc (.cells #[.string ⟨(toU key).toArray⟩, .slice none 0 0] 61)) rfl rfl (by go_simp) ?_
            have a1 : Below y0.heap.size y0 (y0.alloc (.cells #[.string ⟨(toU key).toArray⟩, .slice none 0 0] 61)) := (Below.refl _ _).alloc (Nat.le_refl _) _
            have n1 := heapN y0 (.cells #[.string ⟨(toU key).toArray⟩, .slice none 0 0] 61) _ rfl
            have C1 := C0.trans (a1.mono C0.size)
            refine ⟨C1, ?_⟩
            simp only [Act.put, List.getElem_toArray, List.getElem_cons_zero, List.getElem_cons_succ, List.setIfInBounds_toArray, List.set_cons_zero, List.set_cons_succ]
            generalize y0.alloc (.cells #[.string ⟨(toU key).toArray⟩, .slice none 0 0] 61) = y1 at *
            refine wpAnyH_take (i := 13) (v := .agg #[.pointer (some ⟨gx, 0, none⟩), .pointer (some ⟨y0.heap.size, 0, none⟩), .slice vp vn vc]) rfl (by kernel_rfl) (by kernel_rfl) (by kernel_rfl) (fun _ _ _ h => h) (.inl ⟨rfl, fun W _ => by go_simp⟩) C1 ?_
            simp only [Act.put, List.getElem_toArray, List.getElem_cons_zero, List.getElem_cons_succ, List.setIfInBounds_toArray, List.set_cons_zero, List.set_cons_succ]
            refine relist #[true, true, true, true, true, true, true, true, true, true, true, true, true, true, false, false, false, false] (by kernel_rfl) ?_
            refine any_one (i := 14) (by kernel_rfl) ?_
            refine wpOp_val (v := .pointer (some ⟨y1.heap.size, 0, none⟩)) (w' := y1.alloc (.cells #[.pointer (some ⟨gx, 0, none⟩), .pointer (some ⟨y0.heap.size, 0, none⟩), .slice vp vn vc] 63)) rfl rfl (by go_simp) ?_
            have a2 : Below y1.heap.size y1 (y1.alloc (.cells #[.pointer (some ⟨gx, 0, none⟩), .pointer (some ⟨y0.heap.size, 0, none⟩), .slice vp vn vc] 63)) := (Below.refl _ _).alloc (Nat.le_refl _) _
            have n2 := heapN y1 (.cells #[.pointer (some ⟨gx, 0, none⟩), .pointer (some ⟨y0.heap.size, 0, none⟩), .slice vp vn vc] 63) _ rfl
            have C2 := C1.trans (a2.mono C1.size)
            refine ⟨C2, ?_⟩
            simp only [Act.put, List.getElem_toArray, List.getElem_cons_zero, List.getElem_cons_succ, List.setIfInBounds_toArray, List.set_cons_zero, List.set_cons_succ]
            generalize y1.alloc (.cells #[.pointer (some ⟨gx, 0, none⟩), .pointer (some ⟨y0.heap.size, 0, none⟩), .slice vp vn vc] 63) = y2 at *
            refine relist #[true, true, true, true, true, true, true, true, true, true, true, true, true, true, true, false, false, false] (by kernel_rfl) ?_
            refine any_one (i := 15) (by kernel_rfl) ?_
            refine wpOp_val (v := .slice (some ⟨y2.heap.size, 0, none⟩) 1 1) (w' := y2.alloc (.cells #[.pointer (some ⟨y1.heap.size, 0, none⟩)] 57)) rfl rfl (by go_simp) ?_
            have a3 : Below y2.heap.size y2 (y2.alloc (.cells #[.pointer (some ⟨y1.heap.size, 0, none⟩)] 57)) := (Below.refl _ _).alloc (Nat.le_refl _) _
            have n3 := heapN y2 (.cells #[.pointer (some ⟨y1.heap.size, 0, none⟩)] 57) _ rfl
            have C3 := C2.trans (a3.mono C2.size)
            refine ⟨C3, ?_⟩
            simp only [Act.put, List.getElem_toArray, List.getElem_cons_zero, List.getElem_cons_succ, List.setIfInBounds_toArray, List.set_cons_zero, List.set_cons_succ]
            generalize y2.alloc (.cells #[.pointer (some ⟨y1.heap.size, 0, none⟩)] 57) = y3 at *
            have b13 : Below y1.heap.size y1 y3 := a2.trans (a3.mono a2.size)
            have b03 : Below y0.heap.size y0 y3 := a1.trans (b13.mono a1.size)
            have f3 := HL0.out.frame (kp_of b03 rfl) (fun _ _ x => x)
            have hy0 := bd.size
            have hy01 := a1.size
            have l1 := row_lt n1
            have l2 := row_lt n2
            have hPN : PairAt y3 (fun z => wo.heap.size ≤ z) y1.heap.size gx y0.heap.size (.slice none 0 0) (.slice none 0 0) (.slice vp vn vc) key [] :=
              ⟨(a3.block _ l2).trans n2, by omega, f3.1.zero, fun z hz => by have := (f3.1.blk_ge hz).1; omega, ⟨(b13.block _ l1).trans n1, World.ownsRow_nil _ _ _ _, Fit.nil⟩, by omega, (fun z hz => by cases hz), fun z hz => by
                have h1 := (HL0.out.blk_ge (f3.2 z hz)).2
                exact ⟨by omega, by omega, fun e => by cases e⟩, by omega, hxb⟩
            obtain ⟨ga, cap5, W5, hr5, hI5⟩ := HI.out.add (K0.trans (b03.mono K0.size)) ⟨y1.heap.size, gx, y0.heap.size, .slice none 0 0, .slice none 0 0, .slice vp vn vc, key, []⟩ hPN HA.out y2.heap.size n3 (by omega)
            refine relist #[true, true, true, true, true, true, true, true, true, true, true, true, true, true, true, true, false, false] (by kernel_rfl) ?_
            refine any_one (i := 16) (by kernel_rfl) ?_
            refine wpOp_app rfl rfl (.tmp 82) (.tmp 97) 49 49 rfl (.slice lp PS.length lc) (.slice (some ⟨y2.heap.size, 0, none⟩) 1 1) rfl rfl hr5 ?_
            have S5 : Below w.heap.size w W5 := hI5.1
            refine ⟨S5, ?_⟩
            simp only [Act.put, List.getElem_toArray, List.getElem_cons_zero, List.getElem_cons_succ, List.setIfInBounds_toArray, List.set_cons_zero, List.set_cons_succ]
            refine wpAnyH_take (i := 17) (v := .slice (some ⟨ga, 0, none⟩) (PS.length + 1) cap5) rfl (by kernel_rfl) (by kernel_rfl) (by kernel_rfl) (fun _ _ _ h => h) (.inl ⟨rfl, fun W _ => by go_simp⟩) S5 ?_
            simp only [Act.put, List.getElem_toArray, List.getElem_cons_zero, List.getElem_cons_succ, List.setIfInBounds_toArray, List.set_cons_zero, List.set_cons_succ]
            refine wpAnyH_done (by kernel_rfl) ?_ _
            refine NoPanic.normal ?_
            obtain ⟨R5, hR5⟩ : ∃ R5 : PR, ⟨y1.heap.size, gx, y0.heap.size, .slice none 0 0, .slice none 0 0, .slice vp vn vc, key, []⟩ = R5 := ⟨_, rfl⟩
            rw [hR5] at hI5
            have HI5 : Hid (LInv w W5 (.slice (some ⟨ga, 0, none⟩) (PS.length + 1) cap5) (PS ++ [R5]) gb (.slice none 0 0) 0) := hI5
            clear hr5 hI5 hR5 hPN f3 n1 n2 n3 a1 a2 a3 b13 b03 C0 C1 C2 C3 bd K0 HL0 S5
            go_wp2_with fail
            go_roundw
            case rel => exact ⟨i + 1, PS ++ [R5], some ⟨ga, 0, none⟩, cap5, by omega, by rw [List.length_append]; show PS.length + 1 ≤ i + 1; omega, by go_num, by rw [List.length_append]; rfl, by have h := HI5.out; rw [List.length_append]; exact h⟩
            case measure => first | (simp [intOf]; done) | (simp [intOf]; omega)
    · have hin' : ¬ (i : Int) < kn := by omega
      have hPk : PS.length ≤ 5864062014806 := by omega
      obtain ⟨L, hL⟩ : ∃ L, PS.length = L := ⟨_, rfl⟩
      obtain ⟨PT, hPT⟩ : ∃ PT, ptrs PS = PT := ⟨_, rfl⟩
      have HPL : Hid (PS.length = L ∧ ptrs PS = PT) := ⟨hL, hPT⟩
      have hPTl : PT.length = L := by rw [← hPT, ← hL]; simp [ptrs]
      rw [hL] at hlf HI hPk ⊢
      clear hL hPT hPl hkf hkr HK
      go_wp2_with fail
      clear hin hin' hi
      go_loopw [15] (fun jv wq => ∃ (j : Nat) (PS' : List PR) (blv : Value) (nb : Nat), j ≤ sn ∧ jv = .int .i64 j ∧ nb ≤ j ∧ PS'.length = L ∧ ptrs PS' = PT ∧ LInv w wq (.slice lp L lc) PS' gb blv nb) (fun jv _ => sn - (intOf jv).toNat)
      case atStart => exact ⟨0, PS, _, 0, by omega, rfl, by omega, HPL.out.1, HPL.out.2, HI.out⟩
      case round =>
        obtain ⟨j, PS', blv, nb, hj, rfl, hnb, hPl', hPt', hInv⟩ := hrel
        generalize wr = wq at *
        have HJ : Hid (LInv w wq (.slice lp L lc) PS' gb blv nb) := hInv
        have HPt : Hid (PS'.length = L ∧ ptrs PS' = PT) := ⟨hPl', hPt'⟩
        have hbq : Below w.heap.size w wq := hInv.1
        clear hInv hPl' hPt' HI HPL
        by_cases hrun : j < sn ∧ 0 < L
        · obtain ⟨hjs, hL0⟩ := hrun
          have hjs' : (j : Int) < sn := by omega
          have hL0' : (0 : Int) < L := by omega
          obtain ⟨b', o', rfl, hbl', hsc⟩ := HSc.out.lies (by omega)
          obtain ⟨⟨har1, har2⟩, bp, bn, bc, hc0, hc1, hc2, hc3, hc4, hArgB⟩ := hsc j hjs
          have HAB : Hid (Arg w (.slice bp bn bc) (S j).b) := hArgB
          have HCS : Hid (∀ W : World, Below w.heap.size w W → ∀ z, W.cell? ⟨b', z, none⟩ = w.cell? ⟨b', z, none⟩) := fun W hW z => hW.cell (p := ⟨b', z, none⟩) hbl'
          have HRG : Hid (∀ W : World, Below w.heap.size w W → W.rangeAt b' (o' + j * 5) [.int .i64 (S j).k, .int .i64 (S j).a, .int .i64 (S j).i, .int .i64 (S j).n, .slice bp bn bc]) := fun W hW z v hv => by
            rw [HCS.out W hW]
            rcases z with _ | _ | _ | _ | _ | z
            · simp at hv; rw [← hv]; exact hc0
            · simp at hv; rw [← hv]; exact hc1
            · simp at hv; rw [← hv]; exact hc2
            · simp at hv; rw [← hv]; exact hc3
            · simp at hv; rw [← hv]; exact hc4
            · simp at hv
          have HC1 : Hid (∀ W : World, Below w.heap.size w W → W.cell? ⟨b', o' + j * 5 + 1, none⟩ = some (.int .i64 (S j).a)) := fun W hW => by rw [HCS.out W hW]; exact hc1
          clear hsc hc0 hc1 hc2 hc3 hc4 hArgB
          obtain ⟨_, ow, hprs, hbook, hrow, hrow2⟩ := HJ.out
          obtain ⟨gl, lc', hlv, hgl0, hgll, hglc, hglr, hglcs⟩ := owns_get hrow (by rw [HPt.out.1]; exact hL0)
          rw [HPt.out.1] at hlv hglcs hrow
          rw [HPt.out.2] at hglcs
          injection hlv with e1 _ e3
          subst e1
          subst e3
          have HGL : Hid (∀ z, z < L → wq.cell? ⟨gl, z, none⟩ = PT[z]?) := hglcs
          have HPR : Hid (∀ (i : Nat) (r : PR), PS'[i]? = some r → PairAt wq (FO w wq ow i) r.gp r.gx r.gy r.ev r.yv r.kv r.key r.es ∧ Arg w r.kv r.key) := hprs
          have HBK : Hid (BookAt wq (FO w wq ow (-1)) gb blv nb) := hbook
          have HRW : Hid (wq.ownsRow w.heap.size 57 1 (.slice (some ⟨gl, 0, none⟩) L lc) PS'.length (ptrs PS')) := by show _; rw [HPt.out.1]; exact hrow
          have HR2 : Hid (∀ k, (Value.slice (some ⟨gl, 0, none⟩) L lc).ownBlock = some k → ow k = -2) := hrow2
          clear hprs hbook hrow hrow2 hglcs
          have x3 := fun W => ix48 b' o' sn sc j hjs W
          go_upto_region 22 with fail
          obtain ⟨wd, hwd⟩ : ∃ wd, wq.drew = wd := ⟨_, rfl⟩
          have bd : Below wq.heap.size wq wd := by rw [← hwd]; exact (Below.refl _ _).drew
          have hds : wd.heap.size = wq.heap.size := by rw [← hwd]; rfl
          have Bd : Below w.heap.size w wd := hbq.trans (bd.mono hbq.size)
          have HSd : Hid (∀ z, z < L → wd.cell? ⟨gl, z, none⟩ = PT[z]?) := fun z hz => by rw [bd.cell (p := ⟨gl, z, none⟩) hgll]; exact HGL.out z hz
          have S0 : Below w.heap.size w wq.drew ∧ ∀ z, z < L → wq.drew.cell? ⟨gl, z, none⟩ = PT[z]? := by rw [hwd]; exact ⟨Bd, HSd.out⟩
          obtain ⟨fs, hfs⟩ := und66
          refine wp_region_noPanic ?_
          refine wp_region_held (S := fun W => Below w.heap.size w W ∧ ∀ z, z < L → W.cell? ⟨gl, z, none⟩ = PT[z]?) follows ?_
          refine wpAnyH_take (i := 0) (v := .slice (some ⟨gl, 0, none⟩) L lc) rfl (by kernel_rfl) (by kernel_rfl) (by kernel_rfl) (fun _ _ _ h => h) (.inl ⟨rfl, fun W _ => by go_simp⟩) S0 ?_
          simp only [Act.put, List.getElem_toArray, List.getElem_cons_zero, List.getElem_cons_succ, List.setIfInBounds_toArray, List.set_cons_zero, List.set_cons_succ]
          refine wpAnyH_take (i := 1) (v := .slice (some ⟨b', o', none⟩) sn sc) rfl (by kernel_rfl) (by kernel_rfl) (by kernel_rfl) (fun _ _ _ h => h) (.inl ⟨rfl, fun W _ => by go_simp⟩) S0 ?_
          simp only [Act.put, List.getElem_toArray, List.getElem_cons_zero, List.getElem_cons_succ, List.setIfInBounds_toArray, List.set_cons_zero, List.set_cons_succ]
          refine wpAnyH_take (i := 2) (v := .int .i64 j) rfl (by kernel_rfl) (by kernel_rfl) (by kernel_rfl) (fun _ _ _ h => h) (.inl ⟨rfl, fun W _ => by go_simp⟩) S0 ?_
          simp only [Act.put, List.getElem_toArray, List.getElem_cons_zero, List.getElem_cons_succ, List.setIfInBounds_toArray, List.set_cons_zero, List.set_cons_succ]
          refine wpAnyH_take (i := 3) (v := .pointer (some ⟨b', o' + j * 5, none⟩)) rfl (by kernel_rfl) (by kernel_rfl) (by kernel_rfl) (fun _ _ _ h => h) (.inl ⟨rfl, fun W _ => by have e := x3 W; go_simp⟩) S0 ?_
          simp only [Act.put, List.getElem_toArray, List.getElem_cons_zero, List.getElem_cons_succ, List.setIfInBounds_toArray, List.set_cons_zero, List.set_cons_succ]
          refine wpAnyH_take (i := 4) (v := .pointer (some ⟨b', o' + j * 5 + 1, none⟩)) rfl (by kernel_rfl) (by kernel_rfl) (by kernel_rfl) (fun _ _ _ h => h) (.inl ⟨rfl, fun W _ => by go_simp⟩) S0 ?_
          simp only [Act.put, List.getElem_toArray, List.getElem_cons_zero, List.getElem_cons_succ, List.setIfInBounds_toArray, List.set_cons_zero, List.set_cons_succ]
          refine wpAnyH_take (i := 5) (v := .int .i64 (S j).a) rfl (by kernel_rfl) (by kernel_rfl) (by kernel_rfl) (fun _ _ _ h => h) (.inl ⟨rfl, fun W hW => by have e := HC1.out W hW.1; go_simp⟩) S0 ?_
          simp only [Act.put, List.getElem_toArray, List.getElem_cons_zero, List.getElem_cons_succ, List.setIfInBounds_toArray, List.set_cons_zero, List.set_cons_succ]
          refine wpAnyH_take (i := 6) (v := .slice (some ⟨gl, 0, none⟩) L lc) rfl (by kernel_rfl) (by kernel_rfl) (by kernel_rfl) (fun _ _ _ h => h) (.inl ⟨rfl, fun W _ => by go_simp⟩) S0 ?_
          simp only [Act.put, List.getElem_toArray, List.getElem_cons_zero, List.getElem_cons_succ, List.setIfInBounds_toArray, List.set_cons_zero, List.set_cons_succ]
          refine wpAnyH_take (i := 7) (v := .int .i64 L) rfl (by kernel_rfl) (by kernel_rfl) (by kernel_rfl) (fun _ _ _ h => h) (.inl ⟨rfl, fun W _ => by go_simp⟩) S0 ?_
          simp only [Act.put, List.getElem_toArray, List.getElem_cons_zero, List.getElem_cons_succ, List.setIfInBounds_toArray, List.set_cons_zero, List.set_cons_succ]
          refine wpAnyH_take (i := 11) (v := .slice (some ⟨b', o', none⟩) sn sc) rfl (by kernel_rfl) (by kernel_rfl) (by kernel_rfl) (fun _ _ _ h => h) (.inl ⟨rfl, fun W _ => by go_simp⟩) S0 ?_
          simp only [Act.put, List.getElem_toArray, List.getElem_cons_zero, List.getElem_cons_succ, List.setIfInBounds_toArray, List.set_cons_zero, List.set_cons_succ]
          refine wpAnyH_take (i := 12) (v := .int .i64 j) rfl (by kernel_rfl) (by kernel_rfl) (by kernel_rfl) (fun _ _ _ h => h) (.inl ⟨rfl, fun W _ => by go_simp⟩) S0 ?_
          simp only [Act.put, List.getElem_toArray, List.getElem_cons_zero, List.getElem_cons_succ, List.setIfInBounds_toArray, List.set_cons_zero, List.set_cons_succ]
          refine wpAnyH_take (i := 13) (v := .pointer (some ⟨b', o' + j * 5, none⟩)) rfl (by kernel_rfl) (by kernel_rfl) (by kernel_rfl) (fun _ _ _ h => h) (.inl ⟨rfl, fun W _ => by have e := x3 W; go_simp⟩) S0 ?_
          simp only [Act.put, List.getElem_toArray, List.getElem_cons_zero, List.getElem_cons_succ, List.setIfInBounds_toArray, List.set_cons_zero, List.set_cons_succ]
          refine wpAnyH_take (i := 14) (v := .agg #[.int .i64 (S j).k, .int .i64 (S j).a, .int .i64 (S j).i, .int .i64 (S j).n, .slice bp bn bc]) rfl (by kernel_rfl) (by kernel_rfl) (by kernel_rfl) (fun _ _ _ h => h) (yieldsIf_load_mid rfl 66 (.tmp 123) rfl b' (o' + j * 5) rfl [.int .i64 (S j).k, .int .i64 (S j).a, .int .i64 (S j).i, .int .i64 (S j).n, .slice bp bn bc] (.struct fs) (fun W hW => HRG.out W hW.1) hfs rfl info66) S0 ?_
          simp only [Act.put, List.getElem_toArray, List.getElem_cons_zero, List.getElem_cons_succ, List.setIfInBounds_toArray, List.set_cons_zero, List.set_cons_succ]
          refine wpAnyH_take (i := 15) (v := .pointer (some ⟨gb, 0, none⟩)) rfl (by kernel_rfl) (by kernel_rfl) (by kernel_rfl) (fun _ _ _ h => h) (.inl ⟨rfl, fun W _ => by go_simp⟩) S0 ?_
          simp only [Act.put, List.getElem_toArray, List.getElem_cons_zero, List.getElem_cons_succ, List.setIfInBounds_toArray, List.set_cons_zero, List.set_cons_succ]
          refine reworld (w' := wq.drew) rfl ?_
          rw [hwd] at S0 ⊢
          clear hwd
          refine relist #[true, true, true, true, true, true, true, true, false, false, false, true, true, true, true, true, false, false] (by kernel_rfl) ?_
          refine any_one (i := 8) (by kernel_rfl) ?_
          refine wpOp_call (f := 32) (args := #[.int .i64 (S j).a, .int .i64 L]) rfl rfl (by go_simp) ?_
          refine (lawPick_any wd (S j).a (L : Int) har1 har2 (by omega) (by omega)).mono ?_
          rintro e y1 ⟨rfl, hy1⟩
          rw [hy1]
          clear hy1 y1
          obtain ⟨K, hK, hKL⟩ : ∃ K : Nat, pickL (S j).a (L : Int) = K ∧ K < L := by
            have h1 := pickL_lo (S j).a (L : Int) (by omega)
            have h2 := pickL_hi (S j).a (L : Int) (by omega)
            exact ⟨(pickL (S j).a (L : Int)).toNat, by omega, by omega⟩
          rw [hK]
          clear hK
          obtain ⟨r, hr⟩ : ∃ r, PS'[K]? = some r := ⟨_, List.getElem?_eq_getElem (by rw [HPt.out.1]; exact hKL)⟩
          have hPTK : PT[K]? = some (.pointer (some ⟨r.gp, 0, none⟩)) := by rw [← HPt.out.2]; simp [ptrs, hr]
          have x9 := fun W => ix49 gl L lc K hKL W
          refine ⟨_, rfl, S0, ?_⟩
          simp only [Act.put, List.getElem_toArray, List.getElem_cons_zero, List.getElem_cons_succ, List.setIfInBounds_toArray, List.set_cons_zero, List.set_cons_succ]
          refine wpAnyH_take (i := 9) (v := .pointer (some ⟨gl, K, none⟩)) rfl (by kernel_rfl) (by kernel_rfl) (by kernel_rfl) (fun _ _ _ h => h) (.inl ⟨rfl, fun W _ => by have e := x9 W; go_simp⟩) S0 ?_
          simp only [Act.put, List.getElem_toArray, List.getElem_cons_zero, List.getElem_cons_succ, List.setIfInBounds_toArray, List.set_cons_zero, List.set_cons_succ]
          refine wpAnyH_take (i := 10) (v := .pointer (some ⟨r.gp, 0, none⟩)) rfl (by kernel_rfl) (by kernel_rfl) (by kernel_rfl) (fun _ _ _ h => h) (.inl ⟨rfl, fun W hW => by have e := (hW.2 K hKL).trans hPTK; clear hW; go_simp⟩) S0 ?_
          simp only [Act.put, List.getElem_toArray, List.getElem_cons_zero, List.getElem_cons_succ, List.setIfInBounds_toArray, List.set_cons_zero, List.set_cons_succ]
          refine relist #[true, true, true, true, true, true, true, true, true, true, true, true, true, true, true, true, false, false] (by kernel_rfl) ?_
          refine any_one (i := 16) (by kernel_rfl) ?_
          refine wpOp_call (f := 33) (args := #[.pointer (some ⟨r.gp, 0, none⟩), opV (S j).k (S j).a (S j).i (S j).n (.slice bp bn bc), .pointer (some ⟨gb, 0, none⟩)]) rfl rfl (by unfold opV; go_simp) ?_
          have hFO : ∀ c k, FO w wq ow c k → FO w wd ow c k := fun c k hk => ⟨hk.1, hk.2.1, by rw [hds]; exact hk.2.2⟩
          have hPRd : ∀ (i : Nat) (r : PR), PS'[i]? = some r → PairAt wd (FO w wd ow i) r.gp r.gx r.gy r.ev r.yv r.kv r.key r.es ∧ Arg w r.kv r.key := fun i r hr => ⟨((HPR.out i r hr).1.below bd).mono (hFO i), (HPR.out i r hr).2⟩
          have hBKd : BookAt wd (FO w wd ow (-1)) gb blv nb := (HBK.out.below bd).mono (hFO (-1))
          refine (step_any wd w Bd (HTb.out.below Bd) (FO w wd ow K) (FO w wd ow (-1)) r.gp r.gx r.gy gb nb r.ev r.yv r.kv blv r.key r.es (hPRd K r hr).1 hBKd (fun k hk => hk.2.2) (fun k hk => hk.2.2) (fun k hk => hk.2.1) (fun k hk hk' => by have := hk.1.symm.trans hk'.1; omega) (by omega) (S j).k (S j).a (S j).i (S j).n (.slice bp bn bc) (S j).b HAB.out (hPRd K r hr).2).mono ?_
          intro e y2 hso
          obtain ⟨rfl, PS2, blv2, n2, hl2, hp2, hn2, hI2⟩ := LInv.step Bd ow hPRd (owns_below HRW.out bd) HR2.out hr hso
          have HI2 : Hid (LInv w y2 (.slice (some ⟨gl, 0, none⟩) L lc) PS2 gb blv2 n2) := hI2
          have HP2 : Hid (PS2.length = L ∧ ptrs PS2 = PT) := ⟨hl2.trans HPt.out.1, hp2.trans HPt.out.2⟩
          have S2 : Below w.heap.size w y2 ∧ ∀ z, z < L → y2.cell? ⟨gl, z, none⟩ = PT[z]? := by
            obtain ⟨hb2, ow2, _, hbk2, hrow2, _⟩ := hI2
            obtain ⟨g2, c2, hv2, _, _, _, _, hcs2⟩ := owns_get hrow2 (by rw [HP2.out.1]; exact hL0)
            injection hv2 with e1
            injection e1 with e1
            injection e1 with e1
            rw [HP2.out.1, HP2.out.2, ← e1] at hcs2
            exact ⟨hb2, hcs2⟩
          refine ⟨_, rfl, S2, ?_⟩
          simp only [Act.put, List.getElem_toArray, List.getElem_cons_zero, List.getElem_cons_succ, List.setIfInBounds_toArray, List.set_cons_zero, List.set_cons_succ]
          refine wpAnyH_take (i := 17) (v := .bool true) rfl (by kernel_rfl) (by kernel_rfl) (by kernel_rfl) (fun _ _ _ h => h) (.inl ⟨rfl, fun W _ => by go_simp⟩) S2 ?_
          simp only [Act.put, List.getElem_toArray, List.getElem_cons_zero, List.getElem_cons_succ, List.setIfInBounds_toArray, List.set_cons_zero, List.set_cons_succ]
          refine wpAnyH_done (by kernel_rfl) ?_ _
          refine NoPanic.normal ?_
          obtain ⟨hb2, ow2, _, hbk2, _, _⟩ := hI2
          have HBK2 : Hid (BookAt y2 (FO w y2 ow2 (-1)) gb blv2 n2) := hbk2
          clear S0 S2 hso hbk2 hPRd hBKd hFO hPTK bd Bd HSd HPR HBK HRW HR2 HGL x3 x9 hp2 hl2
          go_wp2_with fail
          refine (looks_any y2 _ gb n2 blv2 HBK2.out (by omega)).mono ?_
          rintro e y3 ⟨rfl, c3⟩
          have HI3 : Hid (LInv w y3 (.slice (some ⟨gl, 0, none⟩) L lc) PS2 gb blv2 n2) := HI2.out.below c3
          clear c3 HBK2 HI2
          go_wp2_with fail
          go_roundw
          case rel => exact ⟨j + 1, PS2, blv2, n2, by omega, by go_num, by omega, HP2.out.1, HP2.out.2, HI3.out⟩
          case measure => first | (simp [intOf]; done) | (simp [intOf]; omega)
        · by_cases hjs : j < sn
          · have hjs' : (j : Int) < sn := by omega
            have hL0' : ¬ (0 : Int) < L := by omega
            go_wp2_with fail
            go_loopw [18] (fun zv wz => ∃ z : Nat, z ≤ L ∧ zv = .int .i64 z ∧ Below wq.heap.size wq wz) (fun zv _ => L - (intOf zv).toNat)
            case atStart => exact ⟨0, by omega, rfl, Below.refl _ _⟩
            case round =>
              obtain ⟨z, hz, rfl, hbz⟩ := hrel
              generalize wr = wz at *
              by_cases hzl : z < L
              · exact absurd hzl (by omega)
              · have hzl' : ¬ (z : Int) < L := by omega
                obtain ⟨_, ow, _, hbk, _, _⟩ := (HJ.out.below hbz)
                have HBK : Hid (BookAt wz (FO w wz ow (-1)) gb blv nb) := hbk
                have BZ : Below w.heap.size w wz := hbq.trans (hbz.mono hbq.size)
                clear hbk
                go_wp2_with fail
                refine (looks_any wz _ gb nb blv HBK.out (by omega)).mono ?_
                rintro e y1 ⟨rfl, c1⟩
                have C1 : Below w.heap.size w y1 := BZ.trans (c1.mono BZ.size)
                go_wp2_with fail
                go_ret
                exact ⟨rfl, C1⟩
          · have hjs' : ¬ (j : Int) < sn := by omega
            go_wp2_with fail
            go_loopw [18] (fun zv wz => ∃ z : Nat, z ≤ L ∧ zv = .int .i64 z ∧ Below wq.heap.size wq wz) (fun zv _ => L - (intOf zv).toNat)
            case atStart => exact ⟨0, by omega, rfl, Below.refl _ _⟩
            case round =>
              obtain ⟨z, hz, rfl, hbz⟩ := hrel
              generalize wr = wz at *
              by_cases hzl : z < L
              · have hzl' : (z : Int) < L := by omega
                obtain ⟨_, ow, hprs, _, hrow, _⟩ := (HJ.out.below hbz)
                obtain ⟨gl, lc', hlv, hgl0, hgll, hglc, hglr, hglcs⟩ := owns_get hrow (by rw [HPt.out.1]; omega)
                rw [HPt.out.1] at hlv hglcs
                injection hlv with e1 _ e3
                subst e1
                subst e3
                obtain ⟨r, hr⟩ : ∃ r, PS'[z]? = some r := ⟨_, List.getElem?_eq_getElem (by rw [HPt.out.1]; exact hzl)⟩
                obtain ⟨hpr, _⟩ := hprs z r hr
                have hcz : wz.cell? ⟨gl, z, none⟩ = some (.pointer (some ⟨r.gp, 0, none⟩)) := by rw [hglcs z hzl]; simp [ptrs, hr]
                have HPZ : Hid (PairAt wz (FO w wz ow z) r.gp r.gx r.gy r.ev r.yv r.kv r.key r.es) := hpr
                have HCZ : Hid (∀ W : World, Below wz.heap.size wz W → (W.cell? ⟨gl, z, none⟩ = some (.pointer (some ⟨r.gp, 0, none⟩)) ∧ W.cell? ⟨r.gp, 0, none⟩ = some (.pointer (some ⟨r.gx, 0, none⟩)) ∧ W.cell? ⟨r.gp, 1, none⟩ = some (.pointer (some ⟨r.gy, 0, none⟩)))) := fun W hW => ⟨by rw [hW.cell (block_lt_of_cell hcz)]; exact hcz, (hpr.below hW).c0, (hpr.below hW).c1⟩
                have x1 := fun W => ix49 gl L lc z hzl W
                have hkl : r.key.length ≤ 100 := hpr.klen
                have hki := hpr.toI
                have BZ : Below w.heap.size w wz := hbq.trans (hbz.mono hbq.size)
                clear hprs hrow hglcs hpr hcz hr
                obtain ⟨gp, gx, gy, ev, yv, kv, key, es⟩ := r
                have hkl2 : key.length ≤ 100 := hkl
                go_upto_region 29 with fail
                have bD : Below wz.heap.size wz wz.drew := (Below.refl _ _).drew
                have S0 := HCZ.out _ bD
                refine wp_region_noPanic ?_
                refine wp_region_held (S := fun W => W.cell? ⟨gl, z, none⟩ = some (.pointer (some ⟨gp, 0, none⟩)) ∧ W.cell? ⟨gp, 0, none⟩ = some (.pointer (some ⟨gx, 0, none⟩)) ∧ W.cell? ⟨gp, 1, none⟩ = some (.pointer (some ⟨gy, 0, none⟩))) follows ?_
                refine wpAnyH_take (i := 0) (v := .slice (some ⟨gl, 0, none⟩) L lc) rfl (by kernel_rfl) (by kernel_rfl) (by kernel_rfl) (fun _ _ _ h => h) (.inl ⟨rfl, fun W _ => by go_simp⟩) S0 ?_
                simp only [Act.put, List.getElem_toArray, List.getElem_cons_zero, List.getElem_cons_succ, List.setIfInBounds_toArray, List.set_cons_zero, List.set_cons_succ]
                refine wpAnyH_take (i := 1) (v := .int .i64 z) rfl (by kernel_rfl) (by kernel_rfl) (by kernel_rfl) (fun _ _ _ h => h) (.inl ⟨rfl, fun W _ => by go_simp⟩) S0 ?_
                simp only [Act.put, List.getElem_toArray, List.getElem_cons_zero, List.getElem_cons_succ, List.setIfInBounds_toArray, List.set_cons_zero, List.set_cons_succ]
                refine wpAnyH_take (i := 2) (v := .pointer (some ⟨gl, z, none⟩)) rfl (by kernel_rfl) (by kernel_rfl) (by kernel_rfl) (fun _ _ _ h => h) (.inl ⟨rfl, fun W _ => by have e := x1 W; go_simp⟩) S0 ?_
                simp only [Act.put, List.getElem_toArray, List.getElem_cons_zero, List.getElem_cons_succ, List.setIfInBounds_toArray, List.set_cons_zero, List.set_cons_succ]
                refine wpAnyH_take (i := 3) (v := .pointer (some ⟨gp, 0, none⟩)) rfl (by kernel_rfl) (by kernel_rfl) (by kernel_rfl) (fun _ _ _ h => h) (.inl ⟨rfl, fun W hW => by have e := hW.1; go_simp⟩) S0 ?_
                simp only [Act.put, List.getElem_toArray, List.getElem_cons_zero, List.getElem_cons_succ, List.setIfInBounds_toArray, List.set_cons_zero, List.set_cons_succ]
                refine wpAnyH_take (i := 4) (v := .pointer (some ⟨gp, 0, none⟩)) rfl (by kernel_rfl) (by kernel_rfl) (by kernel_rfl) (fun _ _ _ h => h) (.inl ⟨rfl, fun W _ => by go_simp⟩) S0 ?_
                simp only [Act.put, List.getElem_toArray, List.getElem_cons_zero, List.getElem_cons_succ, List.setIfInBounds_toArray, List.set_cons_zero, List.set_cons_succ]
                refine wpAnyH_take (i := 5) (v := .pointer (some ⟨gp, 0, none⟩)) rfl (by kernel_rfl) (by kernel_rfl) (by kernel_rfl) (fun _ _ _ h => h) (.inl ⟨rfl, fun W _ => by go_simp⟩) S0 ?_
                simp only [Act.put, List.getElem_toArray, List.getElem_cons_zero, List.getElem_cons_succ, List.setIfInBounds_toArray, List.set_cons_zero, List.set_cons_succ]
                refine wpAnyH_take (i := 6) (v := .pointer (some ⟨gx, 0, none⟩)) rfl (by kernel_rfl) (by kernel_rfl) (by kernel_rfl) (fun _ _ _ h => h) (.inl ⟨rfl, fun W hW => by have e := hW.2.1; go_simp⟩) S0 ?_
                simp only [Act.put, List.getElem_toArray, List.getElem_cons_zero, List.getElem_cons_succ, List.setIfInBounds_toArray, List.set_cons_zero, List.set_cons_succ]
                refine wpAnyH_take (i := 8) (v := .slice (some ⟨gl, 0, none⟩) L lc) rfl (by kernel_rfl) (by kernel_rfl) (by kernel_rfl) (fun _ _ _ h => h) (.inl ⟨rfl, fun W _ => by go_simp⟩) S0 ?_
                simp only [Act.put, List.getElem_toArray, List.getElem_cons_zero, List.getElem_cons_succ, List.setIfInBounds_toArray, List.set_cons_zero, List.set_cons_succ]
                refine wpAnyH_take (i := 9) (v := .int .i64 z) rfl (by kernel_rfl) (by kernel_rfl) (by kernel_rfl) (fun _ _ _ h => h) (.inl ⟨rfl, fun W _ => by go_simp⟩) S0 ?_
                simp only [Act.put, List.getElem_toArray, List.getElem_cons_zero, List.getElem_cons_succ, List.setIfInBounds_toArray, List.set_cons_zero, List.set_cons_succ]
                refine wpAnyH_take (i := 10) (v := .pointer (some ⟨gl, z, none⟩)) rfl (by kernel_rfl) (by kernel_rfl) (by kernel_rfl) (fun _ _ _ h => h) (.inl ⟨rfl, fun W _ => by have e := x1 W; go_simp⟩) S0 ?_
                simp only [Act.put, List.getElem_toArray, List.getElem_cons_zero, List.getElem_cons_succ, List.setIfInBounds_toArray, List.set_cons_zero, List.set_cons_succ]
                refine wpAnyH_take (i := 11) (v := .pointer (some ⟨gp, 0, none⟩)) rfl (by kernel_rfl) (by kernel_rfl) (by kernel_rfl) (fun _ _ _ h => h) (.inl ⟨rfl, fun W hW => by have e := hW.1; go_simp⟩) S0 ?_
                simp only [Act.put, List.getElem_toArray, List.getElem_cons_zero, List.getElem_cons_succ, List.setIfInBounds_toArray, List.set_cons_zero, List.set_cons_succ]
                refine wpAnyH_take (i := 12) (v := .pointer (some ⟨gp, 0, none⟩)) rfl (by kernel_rfl) (by kernel_rfl) (by kernel_rfl) (fun _ _ _ h => h) (.inl ⟨rfl, fun W _ => by go_simp⟩) S0 ?_
                simp only [Act.put, List.getElem_toArray, List.getElem_cons_zero, List.getElem_cons_succ, List.setIfInBounds_toArray, List.set_cons_zero, List.set_cons_succ]
                refine wpAnyH_take (i := 13) (v := .pointer (some ⟨gp, 1, none⟩)) rfl (by kernel_rfl) (by kernel_rfl) (by kernel_rfl) (fun _ _ _ h => h) (.inl ⟨rfl, fun W _ => by go_simp⟩) S0 ?_
                simp only [Act.put, List.getElem_toArray, List.getElem_cons_zero, List.getElem_cons_succ, List.setIfInBounds_toArray, List.set_cons_zero, List.set_cons_succ]
                refine wpAnyH_take (i := 14) (v := .pointer (some ⟨gy, 0, none⟩)) rfl (by kernel_rfl) (by kernel_rfl) (by kernel_rfl) (fun _ _ _ h => h) (.inl ⟨rfl, fun W hW => by have e := hW.2.2; go_simp⟩) S0 ?_
                simp only [Act.put, List.getElem_toArray, List.getElem_cons_zero, List.getElem_cons_succ, List.setIfInBounds_toArray, List.set_cons_zero, List.set_cons_succ]
                refine relist #[true, true, true, true, true, true, true, false, true, true, true, true, true, true, true, false, false] (by kernel_rfl) ?_
                refine any_one (i := 7) (by kernel_rfl) ?_
                refine wpOp_call (f := 35) (args := #[.pointer (some ⟨gx, 0, none⟩)]) rfl rfl (by go_simp) ?_
                refine (logHead_any wz.drew gx key es (HTb.out.below BZ.drew) (HPZ.out.below bD).log.read).mono ?_
                rintro e y1 ⟨rfl, c1⟩
                have C1 : Below wz.heap.size wz y1 := bD.trans c1
                refine ⟨_, rfl, HCZ.out _ C1, ?_⟩
                simp only [Act.put, List.getElem_toArray, List.getElem_cons_zero, List.getElem_cons_succ, List.setIfInBounds_toArray, List.set_cons_zero, List.set_cons_succ]
                refine relist #[true, true, true, true, true, true, true, true, true, true, true, true, true, true, true, false, false] (by kernel_rfl) ?_
                refine any_one (i := 15) (by kernel_rfl) ?_
                refine wpOp_call (f := 36) (args := #[.pointer (some ⟨gy, 0, none⟩)]) rfl rfl (by go_simp) ?_
                refine (refHead_any y1 gy (toU key) key hki (by rw [toU_len]; omega) es (HPZ.out.below C1).ref.refR).mono ?_
                rintro e y2 ⟨rfl, c2⟩
                have C2 : Below wz.heap.size wz y2 := C1.trans (c2.mono C1.size)
                refine ⟨_, rfl, HCZ.out _ C2, ?_⟩
                simp only [Act.put, List.getElem_toArray, List.getElem_cons_zero, List.getElem_cons_succ, List.setIfInBounds_toArray, List.set_cons_zero, List.set_cons_succ]
                refine wpAnyH_take (i := 16) (v := .bool (!true)) rfl (by kernel_rfl) (by kernel_rfl) (by kernel_rfl) (fun _ _ _ h => h) (yields_neqH rfl (.tmp 148) (.tmp 156) rfl (headP key es) (headP key es) true (eq_head key es) rfl rfl) (HCZ.out _ C2) ?_
                simp only [Act.put, List.getElem_toArray, List.getElem_cons_zero, List.getElem_cons_succ, List.setIfInBounds_toArray, List.set_cons_zero, List.set_cons_succ]
                refine wpAnyH_done (by kernel_rfl) ?_ _
                refine NoPanic.normal ?_
                have HC2 : Hid (Below wq.heap.size wq y2) := hbz.trans (C2.mono hbz.size)
                clear S0 bD C1 C2 c1 c2
                go_wp2_with fail
                go_roundw
                case rel => exact ⟨z + 1, by omega, by go_num, HC2.out⟩
                case measure => first | (simp [intOf]; done) | (simp [intOf]; omega)
              · have hzl' : ¬ (z : Int) < L := by omega
                obtain ⟨_, ow, _, hbk, _, _⟩ := (HJ.out.below hbz)
                have HBK : Hid (BookAt wz (FO w wz ow (-1)) gb blv nb) := hbk
                have BZ : Below w.heap.size w wz := hbq.trans (hbz.mono hbq.size)
                clear hbk
                go_wp2_with fail
                refine (looks_any wz _ gb nb blv HBK.out (by omega)).mono ?_
                rintro e y1 ⟨rfl, c1⟩
                have C1 : Below w.heap.size w y1 := BZ.trans (c1.mono BZ.size)
                go_wp2_with fail
                go_ret
                exact ⟨rfl, C1⟩
end Go.Proofs.YtcmjlhcpoajbkaaDoor
