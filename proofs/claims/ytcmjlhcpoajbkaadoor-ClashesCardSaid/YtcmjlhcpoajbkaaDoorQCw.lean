import Derived.Test.YtcmjlhcpoajbkaaDoorQRk
import Derived.Test.YtcmjlhcpoajbkaaDoorQLc
import Derived.Test.YtcmjlhcpoajbkaaDoorQFg
namespace Go.Proofs.YtcmjlhcpoajbkaaDoor
set_option maxRecDepth 10000
set_option linter.unusedSimpArgs false
open Go.RowKit
def NIL3 : Ending := .returned (.tuple #[.slice none 0 0, .slice none 0 0, .bool false])
theorem clash_both {w w' : World} {i n : Int} {a b : List Int} {p q : List (List Int)} {ex ex' : Ending} (h : Clashed w w' i n a p b q ex) (h' : RefClashed i n a p b q ex') :
    (ex = NIL3 ∧ ex' = NOTEXT) ∨ ∃ X Y v1 v2, ex = .returned (.tuple #[v1, v2, .bool (decide (hP X = hP Y))]) ∧ Own8 w' w.heap.size v1 X ∧ Own8 w' w.heap.size v2 Y ∧ v1.ownBlock ≠ v2.ownBlock ∧
      ex' = .returned (.tuple #[strV X, strV Y, .bool true, .bool (decide (hP X = hP Y))]) := by
  rcases h with ⟨h, he⟩ | ⟨h1, h2, h3, h4, h⟩
  · rcases h' with ⟨_, he'⟩ | ⟨h1, h2, h3, h4, _⟩
    · exact .inl ⟨he, he'⟩
    · exact absurd ⟨h1, h2, h3, h4⟩ h
  · rcases h' with ⟨h', _⟩ | ⟨_, _, _, _, h'⟩
    · exact absurd ⟨h1, h2, h3, h4⟩ h'
    · rcases h with ⟨h, he⟩ | ⟨k, hk, hne, hup, v1, v2, he, o1, o2, ob⟩
      · rcases h' with ⟨_, he'⟩ | ⟨k, hk, hne, _, _⟩
        · exact .inl ⟨he, he'⟩
        · exact absurd (h k hk) hne
      · rcases h' with ⟨h', _⟩ | ⟨k', hk', hne', hup', he'⟩
        · exact absurd (h' k hk) hne
        · have e : k = k' := by
            rcases Nat.lt_trichotomy k k' with c | c | c
            · exact absurd (hup k' c hk') hne'
            · exact c
            · exact absurd (hup' k c hk) hne
          subst e
          exact .inr ⟨_, _, v1, v2, he, o1, o2, ob, he'⟩
theorem bytes_beq (X : List Int) : (toU X == toU X) = true := by simp
theorem ab_hash : (decide (hP [0, 97] = hP [0, 98])) = false := by kernel_rfl
theorem Kp.own8 {X : Nat → Prop} {w w' : World} {B : Nat} {v : Value} {xs : List Int} (h : Own8 w B v xs) (hk : Kp X w w') (hX : ∀ g, v.ownBlock = some g → ¬ X g) : Own8 w' B v xs := by
  obtain ⟨h1, h2, h3, h4⟩ := h
  refine ⟨h1, h2, h3, ?_⟩
  obtain ⟨e1, e2 | ⟨g, cap, cur, hv, hg, hh, r⟩⟩ := h4
  · exact ⟨e1, .inl e2⟩
  · exact ⟨e1, .inr ⟨g, cap, cur, hv, hg, (hk.block g (row_lt hh) (hX g (by rw [hv]; rfl))).trans hh, r⟩⟩
theorem kp_set {w0 w : World} {g j : Nat} {v : Value} (h : Kp (fun k => k = g) w0 w) : Kp (fun k => k = g) w0 (w.setCell ⟨g, j, none⟩ v) :=
  ⟨h.os, h.tape, h.output, by simpa [World.setCell] using h.size, fun k hk hx => (Below.heap_setCell _ _ _ _ hx).trans (h.block k hk hx)⟩
theorem index22 (g n c k : Nat) (hk : k < n) (W : World) : (Instr.indexAt 22 (.slice (some ⟨g, 0, none⟩) n c) (.int .i64 k)).run Tryd.prog W = .ok (.pointer (some ⟨g, k, none⟩)) W := by
  have h1 : (k : Int) < n := by omega
  go_simp
theorem conv_nil (w : World) : (convert 22 9 (.slice none 0 0)).run Tryd.prog w = .ok (.string ⟨#[]⟩) w := by
  rw [run_convert_bytes_nil (P := Tryd.prog) w 22 5 Tryd.underlying22 Tryd.underlying5 0 0 9 Tryd.underlying9]; rfl
set_option maxHeartbeats 20000000 in
theorem clashesLaw_any (i n : Int) (va vb vp vq : Value) (a b : List Int) (ds ds' : List (List Int)) (w : World) (hT : Tabs KS HS w) (hA : Arg w va a) (hB : Arg w vb b) (hDp : DArg w vp ds) (hDq : DArg w vq ds') (hi : i ≤ 9223372036854775807) (hn : n ≤ 9223372036854775807) :
    Calls Tryd.prog 9 #[.int .i64 i, .int .i64 n, va, vp, vb, vq] w fun e w' => e = .returned (.bool true) ∧ Below w.heap.size w w' := by
  have hsa := hA.small
  have hab := hA.bytes
  have hsb := hB.small
  have hbb := hB.bytes
  have HA : Hid (Arg w va a) := hA
  have HB : Hid (Arg w vb b) := hB
  have HTb : Hid (Tabs KS HS w) := hT
  obtain ⟨p3, m3, c3, rfl, hd3⟩ := hDp.d32
  obtain ⟨p5, m5, c5, rfl, hd5⟩ := hDq.d32
  have HP : Hid (DArg w (.slice p3 m3 c3) ds) := hDp
  have HQ : Hid (DArg w (.slice p5 m5 c5) ds') := hDq
  have HD3 : Hid (D32 w p3 m3 c3 ds) := hd3
  have HD5 : Hid (D32 w p5 m5 c5 ds') := hd5
  clear hA hB hDp hDq hd3 hd5 hT
  go_enter Tryd.func9, Tryd.ntmps9
  go_wp2_with fail
  go_loopw [13] (fun i wr => ∃ kk : Nat, kk ≤ 3 ∧ i = .int .i64 kk ∧ Below w.heap.size w wr) (fun i _ => 3 - (intOf i).toNat)
  case atStart => exact ⟨0, by omega, rfl, Below.refl _ _⟩
  case round =>
    obtain ⟨kk, hkk, rfl, hbr⟩ := hrel
    by_cases h3 : kk < 3
    · have h3' : (kk : Int) < 3 := by omega
      go_wp2_with fail
      refine (roomy_any (HA.out.below hbr)).mono ?_
      rintro e w1 ⟨rp, rn, rc, rfl, b1, hPr, hIr⟩
      have B1 := hbr.trans (b1.mono hbr.size)
      have PR1 : Hid (Pair w1 va rp rn rc a) := hPr
      have IR1 : Hid (In8 w1 rp rn rc a) := hIr
      clear hPr hIr b1
      go_wp2_with fail
      refine (roomy_any (HB.out.below B1)).mono ?_
      rintro e w2 ⟨sp, sn, sc, rfl, b2, hPs, hIs⟩
      have B2 := B1.trans (b2.mono B1.size)
      have PR2 : Hid (Pair w2 va rp rn rc a) := PR1.out.below b2
      have IR2 : Hid (In8 w2 rp rn rc a) := IR1.out.below b2
      have PS2 : Hid (Pair w2 vb sp sn sc b) := hPs
      have IS2 : Hid (In8 w2 sp sn sc b) := hIs
      clear hPs hIs b2 PR1 IR1
      go_wp2_with fail
      refine (roomyD_any (HP.out.below B2)).mono ?_
      rintro e w3 ⟨tp, tm, tc, rfl, b3, hPt, hDt⟩
      have B3 := B2.trans (b3.mono B2.size)
      have PR3 : Hid (Pair w3 va rp rn rc a) := PR2.out.below b3
      have IR3 : Hid (In8 w3 rp rn rc a) := IR2.out.below b3
      have PS3 : Hid (Pair w3 vb sp sn sc b) := PS2.out.below b3
      have IS3 : Hid (In8 w3 sp sn sc b) := IS2.out.below b3
      have PT3 : Hid (PairD w3 (.slice p3 m3 c3) tp tm tc ds) := hPt
      have DT3 : Hid (D32 w3 tp tm tc ds) := hDt
      clear hPt hDt b3 PR2 IR2 PS2 IS2
      go_wp2_with fail
      refine (roomyD_any (HQ.out.below B3)).mono ?_
      rintro e w4 ⟨up, um, uc, rfl, b4, hPu, hDu⟩
      have B4 := B3.trans (b4.mono B3.size)
      have PR4 : Hid (Pair w4 va rp rn rc a) := PR3.out.below b4
      have IR4 : Hid (In8 w4 rp rn rc a) := IR3.out.below b4
      have PS4 : Hid (Pair w4 vb sp sn sc b) := PS3.out.below b4
      have IS4 : Hid (In8 w4 sp sn sc b) := IS3.out.below b4
      have PT4 : Hid (PairD w4 (.slice p3 m3 c3) tp tm tc ds) := PT3.out.below b4
      have DT4 : Hid (D32 w4 tp tm tc ds) := DT3.out.below b4
      have PU4 : Hid (PairD w4 (.slice p5 m5 c5) up um uc ds') := hPu
      have DU4 : Hid (D32 w4 up um uc ds') := hDu
      have hrn : rn < 140737488355328 := by have := IR4.out.len; omega
      have hsn : sn < 140737488355328 := by have := IS4.out.len; omega
      have hs4 := B4.size
      clear hPu hDu b4 PR3 IR3 PS3 IS3 PT3 DT3
      by_cases hk1 : kk = 1
      · subst hk1
        go_wp2_with fail
        refine (clash_any i n hi hn a rp rn rc hrn tp tm tc ds b sp sn sc hsn tp tm tc ds w4 (HTb.out.below B4) IR4.out DT4.out IS4.out DT4.out).mono ?_
        rintro ex w5 ⟨hcl, b5⟩
        have B5 := B4.trans (b5.mono B4.size)
        have HCL : Hid _ := hcl
        have cA := (HA.out.below B5).conv
        have cB := (HB.out.below B5).conv
        have hrc := refClash_any i n hi hn a hab (by omega) p3 m3 c3 ds b hbb (by omega) p3 m3 c3 ds w5 (HD3.out.below B5) (HD3.out.below B5)
        unfold strV at hrc
        have HRC : Hid _ := hrc
        clear hrc
        obtain ⟨y1, y2, yb, rfl⟩ := hcl.shape
        clear hcl
        go_wp2_with fail
        refine Calls.mono HRC.out ?_
        rintro ex w6 ⟨hrf, b6⟩
        have B6 := B5.trans (b6.mono B5.size)
        have b46 : Below w4.heap.size w4 w6 := b5.trans (b6.mono b5.size)
        have PR6 : Hid (Pair w6 va rp rn rc a) := PR4.out.below b46
        have PS6 : Hid (Pair w6 vb sp sn sc b) := PS4.out.below b46
        have PT6 : Hid (PairD w6 (.slice p3 m3 c3) tp tm tc ds) := PT4.out.below b46
        have PU6 : Hid (PairD w6 (.slice p3 m3 c3) tp tm tc ds) := PT4.out.below b46
        rcases clash_both HCL.out hrf with ⟨h1, rfl⟩ | ⟨X, Y, v1, v2, h1, o1, o2, ob, rfl⟩
        · unfold NIL3 at h1
          unfold NOTEXT
          simp only [Ending.returned.injEq, Value.tuple.injEq, Array.mk.injEq, List.cons.injEq, and_true] at h1
          obtain ⟨rfl, rfl, hb'⟩ := h1
          have hb' : yb = false := by simpa using hb'
          subst hb'
          have cn := conv_nil
          have qn := neq_nil none 0 0
          clear HCL HRC hrf cA cB b5 b6 b46 B5
          go_wp2_with fail
          refine (kept_any PR6.out).mono ?_
          rintro e w7 ⟨rfl, hw7⟩
          rw [hw7]
          clear hw7 w7
          go_wp2_with fail
          refine (kept_any PS6.out).mono ?_
          rintro e w7 ⟨rfl, hw7⟩
          rw [hw7]
          clear hw7 w7
          go_wp2_with fail
          refine (keptD_any PT6.out).mono ?_
          rintro e w7 ⟨rfl, b7⟩
          have B7 := B6.trans (b7.mono B6.size)
          have PU7 : Hid (PairD w7 (.slice p3 m3 c3) tp tm tc ds) := PU6.out.below b7
          clear PT6 PU6 b7 B6 PR6 PS6
          go_wp2_with fail
          refine (keptD_any PU7.out).mono ?_
          rintro e w8 ⟨rfl, b8⟩
          have B8 := B7.trans (b8.mono B7.size)
          clear PU7 b8 B7
          go_wp2_with fail
          go_loopw [30] (fun i wr => i = .int .i64 0 ∧ Below w.heap.size w wr) (fun _ _ => 0)
          case atStart => exact ⟨rfl, B8⟩
          case round =>
            obtain ⟨rfl, hbq⟩ := hrel
            go_wp2_with fail
            go_roundw
            case rel => exact ⟨2, by omega, by go_num, hbq⟩
            case measure => first | (simp [intOf]; done) | (simp [intOf]; omega)
        · simp only [Ending.returned.injEq, Value.tuple.injEq, Array.mk.injEq, List.cons.injEq, and_true] at h1
          obtain ⟨rfl, rfl, hb'⟩ := h1
          obtain ⟨g1, c1, rfl, hg1, hg1', i1⟩ := o1.in8
          obtain ⟨g2, c2, rfl, hg2, hg2', i2⟩ := o2.in8
          have hb' : yb = decide (hP X = hP Y) := by simpa using hb'
          rw [← hb']
          clear hb'
          have O1 : Hid (Own8 w6 w4.heap.size (.slice (some ⟨g1, 0, none⟩) X.length c1) X) := o1.below b6
          have O2 : Hid (Own8 w6 w4.heap.size (.slice (some ⟨g2, 0, none⟩) Y.length c2) Y) := o2.below b6
          have hg12 : g1 ≠ g2 := fun h => ob (by simp [Value.ownBlock, h])
          have hXs := o1.2.2.1
          have hfx := i1.fits
          have hrx := i1.room
          have q1 := neq_nil (some ⟨g1, 0, none⟩) X.length c1
          have q2 := neq_nil (some ⟨g2, 0, none⟩) Y.length c2
          clear HCL HRC hrf cA cB b5 b6 B5 o1 o2 i1 i2 ob
          unfold strV
          go_wp2_with fail
          refine (kept_any PR6.out).mono ?_
          rintro e w7 ⟨rfl, hw7⟩
          rw [hw7]
          clear hw7 w7
          go_wp2_with fail
          refine (kept_any PS6.out).mono ?_
          rintro e w7 ⟨rfl, hw7⟩
          rw [hw7]
          clear hw7 w7
          go_wp2_with fail
          refine (keptD_any PT6.out).mono ?_
          rintro e w7 ⟨rfl, b7⟩
          have B7 := B6.trans (b7.mono B6.size)
          have b47 := b46.trans (b7.mono b46.size)
          have PU7 : Hid (PairD w7 (.slice p3 m3 c3) tp tm tc ds) := PU6.out.below b7
          have O17 : Hid (Own8 w7 w4.heap.size (.slice (some ⟨g1, 0, none⟩) X.length c1) X) := O1.out.below b7
          have O27 : Hid (Own8 w7 w4.heap.size (.slice (some ⟨g2, 0, none⟩) Y.length c2) Y) := O2.out.below b7
          clear PT6 PU6 b7 B6 PR6 PS6 O1 O2 b46
          go_wp2_with fail
          refine (keptD_any PU7.out).mono ?_
          rintro e w8 ⟨rfl, b8⟩
          have B8 := B7.trans (b8.mono B7.size)
          have b48 := b47.trans (b8.mono b47.size)
          have O18 : Hid (Own8 w8 w4.heap.size (.slice (some ⟨g1, 0, none⟩) X.length c1) X) := O17.out.below b8
          have O28 : Hid (Own8 w8 w4.heap.size (.slice (some ⟨g2, 0, none⟩) Y.length c2) Y) := O27.out.below b8
          obtain ⟨_, _, hs1, _, _, j1⟩ := O18.out.in8
          obtain ⟨_, _, hs2, _, _, j2⟩ := O28.out.in8
          cases hs1
          cases hs2
          have k1 := in8_conv j1
          have k2 := in8_conv j2
          have bx := bytes_beq X
          have by' := bytes_beq Y
          clear PU7 b8 B7 O17 O27 b47 j1 j2
          obtain ⟨_, cap1, cur1, hv1, _, hh1, _, _, hz1, _⟩ := (O18.out.2.2.2.2).resolve_left (fun h => by cases h.1)
          cases hv1
          have hlz : cur1.size = c1 := by simpa using hz1
          go_wp2_with fail
          go_loopw [30] (fun i wr => ∃ j : Nat, j ≤ X.length ∧ i = .int .i64 j ∧ Kp (fun k => k = g1) w8 wr ∧ ∃ cur : Array Value, cur.size = c1 ∧ wr.heap[g1]? = some (.cells cur 5)) (fun i _ => X.length - (intOf i).toNat)
          case atStart => exact ⟨0, by omega, rfl, ⟨rfl, rfl, rfl, Nat.le_refl _, fun _ _ _ => rfl⟩, cur1, hlz, hh1⟩
          case round =>
            obtain ⟨j, hj, rfl, hkp, cur, hcz, hch⟩ := hrel
            by_cases hjl : j < X.length
            · have hcj : wr.cell? ⟨g1, j, none⟩ = some cur[j] := by rw [cell_of_row _ _ _ _ _ _ hch]; simp
              have hfj := frozen_of_row wr g1 j _ _ hch
              have hix := index22 g1 X.length c1 j hjl
              go_wp2_with fail
              go_roundw
              case rel => exact ⟨j + 1, by omega, by go_num, kp_set hkp, cur.setIfInBounds j (.int .u8 35), by simp [hcz], heap_setCell_same wr g1 j _ _ _ hch⟩
              case measure => first | (simp [intOf]; done) | (simp [intOf]; omega)
            · have ej : j = X.length := by omega
              subst ej
              have BK : Below w.heap.size w wr := hkp.below (fun k hk => by rw [hk]; omega) B8.size B8
              have bk4 : Below w4.heap.size w4 wr := hkp.below (fun k hk => by rw [hk]; omega) b48.size b48
              have PR9 : Hid (Pair wr va rp rn rc a) := PR4.out.below bk4
              have O29 := Kp.own8 O28.out hkp (fun g hg => by simp only [Value.ownBlock, Option.some.injEq] at hg; omega)
              obtain ⟨_, _, hs3, _, _, j3⟩ := O29.in8
              cases hs3
              have k3 := in8_conv j3
              clear k1 k2 hch hkp j3 O29 bk4 hh1
              go_wp2_with fail
              refine (kept_any PR9.out).mono ?_
              rintro e w9 ⟨rfl, hw9⟩
              rw [hw9]
              clear hw9 w9
              go_wp2_with fail
              go_roundw
              case rel => exact ⟨2, by omega, by go_num, BK⟩
              case measure => first | (simp [intOf]; done) | (simp [intOf]; omega)
      · have hk1' : ((kk : Int) == 1) = false := by simp; omega
        go_wp2_with fail
        refine (clash_any i n hi hn a rp rn rc hrn tp tm tc ds b sp sn sc hsn up um uc ds' w4 (HTb.out.below B4) IR4.out DT4.out IS4.out DU4.out).mono ?_
        rintro ex w5 ⟨hcl, b5⟩
        have B5 := B4.trans (b5.mono B4.size)
        have HCL : Hid _ := hcl
        have cA := (HA.out.below B5).conv
        have cB := (HB.out.below B5).conv
        have hrc := refClash_any i n hi hn a hab (by omega) p3 m3 c3 ds b hbb (by omega) p5 m5 c5 ds' w5 (HD3.out.below B5) (HD5.out.below B5)
        unfold strV at hrc
        have HRC : Hid _ := hrc
        clear hrc
        obtain ⟨y1, y2, yb, rfl⟩ := hcl.shape
        clear hcl
        go_wp2_with fail
        refine Calls.mono HRC.out ?_
        rintro ex w6 ⟨hrf, b6⟩
        have B6 := B5.trans (b6.mono B5.size)
        have b46 : Below w4.heap.size w4 w6 := b5.trans (b6.mono b5.size)
        have PR6 : Hid (Pair w6 va rp rn rc a) := PR4.out.below b46
        have PS6 : Hid (Pair w6 vb sp sn sc b) := PS4.out.below b46
        have PT6 : Hid (PairD w6 (.slice p3 m3 c3) tp tm tc ds) := PT4.out.below b46
        have PU6 : Hid (PairD w6 (.slice p5 m5 c5) up um uc ds') := PU4.out.below b46
        rcases clash_both HCL.out hrf with ⟨h1, rfl⟩ | ⟨X, Y, v1, v2, h1, o1, o2, ob, rfl⟩
        · unfold NIL3 at h1
          unfold NOTEXT
          simp only [Ending.returned.injEq, Value.tuple.injEq, Array.mk.injEq, List.cons.injEq, and_true] at h1
          obtain ⟨rfl, rfl, hb'⟩ := h1
          have hb' : yb = false := by simpa using hb'
          subst hb'
          have cn := conv_nil
          have qn := neq_nil none 0 0
          clear HCL HRC hrf cA cB b5 b6 b46 B5
          go_wp2_with fail
          refine (kept_any PR6.out).mono ?_
          rintro e w7 ⟨rfl, hw7⟩
          rw [hw7]
          clear hw7 w7
          go_wp2_with fail
          refine (kept_any PS6.out).mono ?_
          rintro e w7 ⟨rfl, hw7⟩
          rw [hw7]
          clear hw7 w7
          go_wp2_with fail
          refine (keptD_any PT6.out).mono ?_
          rintro e w7 ⟨rfl, b7⟩
          have B7 := B6.trans (b7.mono B6.size)
          have PU7 : Hid (PairD w7 (.slice p5 m5 c5) up um uc ds') := PU6.out.below b7
          clear PT6 PU6 b7 B6 PR6 PS6
          go_wp2_with fail
          refine (keptD_any PU7.out).mono ?_
          rintro e w8 ⟨rfl, b8⟩
          have B8 := B7.trans (b8.mono B7.size)
          clear PU7 b8 B7
          go_wp2_with fail
          go_loopw [30] (fun i wr => i = .int .i64 0 ∧ Below w.heap.size w wr) (fun _ _ => 0)
          case atStart => exact ⟨rfl, B8⟩
          case round =>
            obtain ⟨rfl, hbq⟩ := hrel
            go_wp2_with fail
            go_roundw
            case rel => exact ⟨kk + 1, by omega, by go_num, hbq⟩
            case measure => first | (simp [intOf]; done) | (simp [intOf]; omega)
        · simp only [Ending.returned.injEq, Value.tuple.injEq, Array.mk.injEq, List.cons.injEq, and_true] at h1
          obtain ⟨rfl, rfl, hb'⟩ := h1
          obtain ⟨g1, c1, rfl, hg1, hg1', i1⟩ := o1.in8
          obtain ⟨g2, c2, rfl, hg2, hg2', i2⟩ := o2.in8
          have hb' : yb = decide (hP X = hP Y) := by simpa using hb'
          rw [← hb']
          clear hb'
          have O1 : Hid (Own8 w6 w4.heap.size (.slice (some ⟨g1, 0, none⟩) X.length c1) X) := o1.below b6
          have O2 : Hid (Own8 w6 w4.heap.size (.slice (some ⟨g2, 0, none⟩) Y.length c2) Y) := o2.below b6
          have hg12 : g1 ≠ g2 := fun h => ob (by simp [Value.ownBlock, h])
          have hXs := o1.2.2.1
          have hfx := i1.fits
          have hrx := i1.room
          have q1 := neq_nil (some ⟨g1, 0, none⟩) X.length c1
          have q2 := neq_nil (some ⟨g2, 0, none⟩) Y.length c2
          clear HCL HRC hrf cA cB b5 b6 B5 o1 o2 i1 i2 ob
          unfold strV
          go_wp2_with fail
          refine (kept_any PR6.out).mono ?_
          rintro e w7 ⟨rfl, hw7⟩
          rw [hw7]
          clear hw7 w7
          go_wp2_with fail
          refine (kept_any PS6.out).mono ?_
          rintro e w7 ⟨rfl, hw7⟩
          rw [hw7]
          clear hw7 w7
          go_wp2_with fail
          refine (keptD_any PT6.out).mono ?_
          rintro e w7 ⟨rfl, b7⟩
          have B7 := B6.trans (b7.mono B6.size)
          have b47 := b46.trans (b7.mono b46.size)
          have PU7 : Hid (PairD w7 (.slice p5 m5 c5) up um uc ds') := PU6.out.below b7
          have O17 : Hid (Own8 w7 w4.heap.size (.slice (some ⟨g1, 0, none⟩) X.length c1) X) := O1.out.below b7
          have O27 : Hid (Own8 w7 w4.heap.size (.slice (some ⟨g2, 0, none⟩) Y.length c2) Y) := O2.out.below b7
          clear PT6 PU6 b7 B6 PR6 PS6 O1 O2 b46
          go_wp2_with fail
          refine (keptD_any PU7.out).mono ?_
          rintro e w8 ⟨rfl, b8⟩
          have B8 := B7.trans (b8.mono B7.size)
          have b48 := b47.trans (b8.mono b47.size)
          have O18 : Hid (Own8 w8 w4.heap.size (.slice (some ⟨g1, 0, none⟩) X.length c1) X) := O17.out.below b8
          have O28 : Hid (Own8 w8 w4.heap.size (.slice (some ⟨g2, 0, none⟩) Y.length c2) Y) := O27.out.below b8
          obtain ⟨_, _, hs1, _, _, j1⟩ := O18.out.in8
          obtain ⟨_, _, hs2, _, _, j2⟩ := O28.out.in8
          cases hs1
          cases hs2
          have k1 := in8_conv j1
          have k2 := in8_conv j2
          have bx := bytes_beq X
          have by' := bytes_beq Y
          clear PU7 b8 B7 O17 O27 b47 j1 j2
          obtain ⟨_, cap1, cur1, hv1, _, hh1, _, _, hz1, _⟩ := (O18.out.2.2.2.2).resolve_left (fun h => by cases h.1)
          cases hv1
          have hlz : cur1.size = c1 := by simpa using hz1
          go_wp2_with fail
          go_loopw [30] (fun i wr => ∃ j : Nat, j ≤ X.length ∧ i = .int .i64 j ∧ Kp (fun k => k = g1) w8 wr ∧ ∃ cur : Array Value, cur.size = c1 ∧ wr.heap[g1]? = some (.cells cur 5)) (fun i _ => X.length - (intOf i).toNat)
          case atStart => exact ⟨0, by omega, rfl, ⟨rfl, rfl, rfl, Nat.le_refl _, fun _ _ _ => rfl⟩, cur1, hlz, hh1⟩
          case round =>
            obtain ⟨j, hj, rfl, hkp, cur, hcz, hch⟩ := hrel
            by_cases hjl : j < X.length
            · have hcj : wr.cell? ⟨g1, j, none⟩ = some cur[j] := by rw [cell_of_row _ _ _ _ _ _ hch]; simp
              have hfj := frozen_of_row wr g1 j _ _ hch
              have hix := index22 g1 X.length c1 j hjl
              go_wp2_with fail
              go_roundw
              case rel => exact ⟨j + 1, by omega, by go_num, kp_set hkp, cur.setIfInBounds j (.int .u8 35), by simp [hcz], heap_setCell_same wr g1 j _ _ _ hch⟩
              case measure => first | (simp [intOf]; done) | (simp [intOf]; omega)
            · have ej : j = X.length := by omega
              subst ej
              have BK : Below w.heap.size w wr := hkp.below (fun k hk => by rw [hk]; omega) B8.size B8
              have bk4 : Below w4.heap.size w4 wr := hkp.below (fun k hk => by rw [hk]; omega) b48.size b48
              have PR9 : Hid (Pair wr va rp rn rc a) := PR4.out.below bk4
              have O29 := Kp.own8 O28.out hkp (fun g hg => by simp only [Value.ownBlock, Option.some.injEq] at hg; omega)
              obtain ⟨_, _, hs3, _, _, j3⟩ := O29.in8
              cases hs3
              have k3 := in8_conv j3
              clear k1 k2 hch hkp j3 O29 bk4 hh1
              go_wp2_with fail
              refine (kept_any PR9.out).mono ?_
              rintro e w9 ⟨rfl, hw9⟩
              rw [hw9]
              clear hw9 w9
              go_wp2_with fail
              go_roundw
              case rel => exact ⟨kk + 1, by omega, by go_num, BK⟩
              case measure => first | (simp [intOf]; done) | (simp [intOf]; omega)
    · have ek : kk = 3 := by omega
      subst ek
      have c1 := Lib.run_convert_bytes_const (P := Tryd.prog) wr 22 5 #[.int .u8 97] 1 1 Tryd.underlying22 Tryd.underlying5
      have c2 := Lib.run_convert_bytes_const (P := Tryd.prog) (wr.alloc (.cells #[.int .u8 97] 5 (1, 2))) 22 5 #[.int .u8 98] 1 1 Tryd.underlying22 Tryd.underlying5
      have hBa : Bytes [97] := .of fun x hx => by simp only [List.mem_cons, List.not_mem_nil, or_false] at hx; omega
      have hBb : Bytes [98] := .of fun x hx => by simp only [List.mem_cons, List.not_mem_nil, or_false] at hx; omega
      simp only [World.size_alloc] at c2
      have hA1 : In8 ((wr.alloc (.cells #[.int .u8 97] 5 (1, 2))).alloc (.cells #[.int .u8 98] 5 (1, 2))) (some ⟨wr.heap.size, 0, none⟩) 1 1 [97] := by
        refine In8.below (w := wr.alloc (.cells #[.int .u8 97] 5 (1, 2))) (in8_lit _ _ _ _ [97] hBa (by simp) (heapN wr _ _ rfl)) ((Below.refl _ _).alloc (Nat.le_refl _) _)
      have hA2 : In8 ((wr.alloc (.cells #[.int .u8 97] 5 (1, 2))).alloc (.cells #[.int .u8 98] 5 (1, 2))) (some ⟨wr.heap.size + 1, 0, none⟩) 1 1 [98] := by
        have h := heapN (wr.alloc (.cells #[.int .u8 97] 5 (1, 2))) (.cells #[.int .u8 98] 5 (1, 2)) _ rfl
        rw [World.size_alloc] at h
        exact in8_lit _ _ _ _ [98] hBb (by simp) h
      have BW : Below w.heap.size w ((wr.alloc (.cells #[.int .u8 97] 5 (1, 2))).alloc (.cells #[.int .u8 98] 5 (1, 2))) := (hbr.alloc hbr.size _).alloc (by have := hbr.size; simp; omega) _
      have HA1 : Hid _ := hA1
      have HA2 : Hid _ := hA2
      clear hA1 hA2
      go_wp2_with fail
      refine (clash_any 0 1 (by omega) (by omega) [97] _ 1 1 (by omega) none 0 0 [] [98] _ 1 1 (by omega) none 0 0 [] _ (HTb.out.below BW) HA1.out (d32_nil _) HA2.out (d32_nil _)).mono ?_
      rintro ex w2 ⟨hcl, b2⟩
      have B2 := BW.trans (b2.mono BW.size)
      have hw0 : wayLen 0 1 = 0 := by unfold wayLen leftsP; rw [leftsF_one]; rfl
      rcases hcl with ⟨h, _⟩ | ⟨_, _, _, _, h⟩
      · exact absurd ⟨by omega, by omega, by show 0 = wayLen 0 1; omega, by show 0 = wayLen 0 1; omega⟩ h
      · have h : Parted _ w2 (wayLen 0 1) (textAt [97] (leftsP 0 1) []) (textAt [98] (leftsP 0 1) []) ex := h
        rw [hw0] at h
        rcases h with ⟨h, _⟩ | ⟨k, hk, hne, hup, v1, v2, rfl, o1, o2, ob⟩
        · have := h 0 (Nat.le_refl _)
          simp [textAt] at this
        · have hk0 : k = 0 := by omega
          subst hk0
          have e1 : textAt [97] (leftsP 0 1) [] 0 = [0, 97] := rfl
          have e2 : textAt [98] (leftsP 0 1) [] 0 = [0, 98] := rfl
          rw [e1] at o1 ⊢
          rw [e2] at o2 ⊢
          rw [ab_hash]
          obtain ⟨g1, d1, rfl, _, _, i1⟩ := o1.in8
          obtain ⟨g2, d2, rfl, _, _, i2⟩ := o2.in8
          have k1 : (convert 22 9 (.slice (some ⟨g1, 0, none⟩) 2 d1)).run Tryd.prog w2 = .ok (.string ⟨#[0, 97]⟩) w2 := in8_conv i1
          have k2 : (convert 22 9 (.slice (some ⟨g2, 0, none⟩) 2 d2)).run Tryd.prog w2 = .ok (.string ⟨#[0, 98]⟩) w2 := in8_conv i2
          clear HA1 HA2 c1 c2 o1 o2 i1 i2 ob hup hne b2 BW
          go_wp2_with fail
          go_ret
          exact ⟨rfl, B2⟩
end Go.Proofs.YtcmjlhcpoajbkaaDoor
