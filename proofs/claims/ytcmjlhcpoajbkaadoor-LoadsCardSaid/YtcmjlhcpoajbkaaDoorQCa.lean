import Derived.Test.YtcmjlhcpoajbkaaDoorQRc
namespace Go.Proofs.YtcmjlhcpoajbkaaDoor
set_option maxRecDepth 10000
set_option linter.unusedSimpArgs false
open Go.RowKit
theorem index150 (g n c k : Nat) (hk : k < n) (W : World) : (Instr.indexAt 150 (.slice (some ⟨g, 0, none⟩) n c) (.int .i64 k)).run Tryd.prog W = .ok (.pointer (some ⟨g, k, none⟩)) W := by
  have h1 : (k : Int) < n := by omega
  go_simp
theorem index171 (g n c k : Nat) (hk : k < n) (W : World) : (Instr.indexAt 171 (.slice (some ⟨g, 0, none⟩) n c) (.int .i64 k)).run Tryd.prog W = .ok (.pointer (some ⟨g, k, none⟩)) W := by
  have h1 : (k : Int) < n := by omega
  go_simp
theorem bslice150 (f : Fn) (x c : Array Value) (w : World) : (Instr.buildSlice 150 1 #[(0, .func f x c)]).run Tryd.prog w = .ok (.slice (some ⟨w.heap.size, 0, none⟩) 1 1) (w.alloc (.cells #[.func f x c] 154)) := by
  kernel_rfl
/-- A method value of a place, and the text that it tells. -/
def TextK (w : World) (v : Value) (xs : List Int) : Prop :=
  (∃ p n c e, v = leafV p n c ∧ In8 w p n c e ∧ n < 140737488355328 ∧ xs = 0 :: e) ∨ (∃ L R : List Int, v = knotV L R ∧ L.length = 32 ∧ R.length = 32 ∧ Bytes L ∧ Bytes R ∧ xs = 1 :: (L ++ R))
theorem TextK.text {w : World} {v : Value} {xs : List Int} (h : TextK w v xs) : TextV w v xs := by
  rcases h with ⟨p, n, c, e, rfl, h1, h2, rfl⟩ | ⟨L, R, rfl, a, b, c, d, rfl⟩
  · exact leafV_text w p n c e h1 h2
  · exact knotV_text w L R a b c d
theorem TextK.below {w w' : World} {v : Value} {xs : List Int} (h : TextK w v xs) (hb : Below w.heap.size w w') : TextK w' v xs := by
  rcases h with ⟨p, n, c, e, rfl, h1, h2, rfl⟩ | h
  · exact .inl ⟨p, n, c, e, rfl, h1.below hb, h2, rfl⟩
  · exact .inr h
theorem TextK.pos {w : World} {v : Value} {xs : List Int} (h : TextK w v xs) : 0 < xs.length := by
  rcases h with ⟨p, n, c, e, rfl, h1, h2, rfl⟩ | ⟨L, R, rfl, a, b, c, d, rfl⟩
  · simp
  · simp
/-- The texts of a way, as they lie in a row of one's own; w0: where the entry lies. -/
def Texts (w0 w : World) (B : Nat) (v : Value) (m : Nat) (tx : Nat → List Int) : Prop :=
  ∃ vs : List Value, w.ownsRow B 154 1 v (m + 1) vs ∧ ∀ j, j ≤ m → ∃ u, vs[j]? = some u ∧ TextK w0 u (tx j)
theorem Texts.below {w0 w w' : World} {B : Nat} {v : Value} {m : Nat} {tx : Nat → List Int} (h : Texts w0 w B v m tx) (hb : Below w.heap.size w w') : Texts w0 w' B v m tx := by
  obtain ⟨vs, h1, h2⟩ := h
  exact ⟨vs, owns_below h1 hb, h2⟩
theorem Texts.mono {w0 w : World} {B B' : Nat} {v : Value} {m : Nat} {tx : Nat → List Int} (h : Texts w0 w B v m tx) (hb : B' ≤ B) : Texts w0 w B' v m tx := by
  obtain ⟨vs, h1, h2⟩ := h
  exact ⟨vs, owns_mono h1 hb, h2⟩
theorem Texts.from {w0 w1 w : World} {B : Nat} {v : Value} {m : Nat} {tx : Nat → List Int} (h : Texts w0 w B v m tx) (hb : Below w0.heap.size w0 w1) : Texts w1 w B v m tx := by
  obtain ⟨vs, h1, h2⟩ := h
  refine ⟨vs, h1, fun j hj => ?_⟩
  obtain ⟨u, e, t⟩ := h2 j hj
  exact ⟨u, e, t.below hb⟩
/-- What can be read of them. -/
theorem Texts.get {w0 w : World} {B : Nat} {v : Value} {m : Nat} {tx : Nat → List Int} (h : Texts w0 w B v m tx) :
    ∃ g cap, v = .slice (some ⟨g, 0, none⟩) (m + 1) cap ∧ B ≤ g ∧ g < w.heap.size ∧ m + 1 ≤ cap ∧ cap ≤ 9223372036854775807 ∧ ∀ k, k ≤ m → ∃ u, w.cell? ⟨g, k, none⟩ = some u ∧ TextK w0 u (tx k) := by
  obtain ⟨vs, h1, h2⟩ := h
  obtain ⟨g, cap, rfl, a, b, c, d, hc⟩ := owns_get h1 (by omega)
  refine ⟨g, cap, rfl, a, b, c, d, fun k hk => ?_⟩
  obtain ⟨u, e, t⟩ := h2 k hk
  exact ⟨u, by rw [hc k (by omega), e], t⟩
theorem Texts.one (w0 w : World) (B : Nat) (hB : B ≤ w.heap.size) (u : Value) (tx : Nat → List Int) (h : TextK w0 u (tx 0)) : Texts w0 (w.alloc (.cells #[u] 154)) B (.slice (some ⟨w.heap.size, 0, none⟩) 1 1) 0 tx := by
  refine ⟨[u], ⟨rfl, .inr ⟨w.heap.size, 1, #[u], rfl, hB, heapN w _ _ rfl, Nat.le_refl _, by unfold maxLen; omega, rfl, rfl⟩⟩, fun j hj => ?_⟩
  have : j = 0 := by omega
  subst this
  exact ⟨u, rfl, h⟩
theorem Texts.more {w0 w' : World} {B : Nat} {v' : Value} {m : Nat} {tx : Nat → List Int} {vs : List Value} {u : Value} (hv : ∀ j, j ≤ m → ∃ u, vs[j]? = some u ∧ TextK w0 u (tx j)) (hl : vs.length = m + 1) (h : w'.ownsRow B 154 1 v' (m + 1 + 1) (vs ++ [u])) (hu : TextK w0 u (tx (m + 1))) : Texts w0 w' B v' (m + 1) tx := by
  refine ⟨vs ++ [u], h, fun j hj => ?_⟩
  rcases Nat.lt_or_ge j (m + 1) with h1 | h1
  · obtain ⟨u', e, t⟩ := hv j (by omega)
    exact ⟨u', by rw [List.getElem?_append_left (by omega)]; exact e, t⟩
  · have : j = m + 1 := by omega
    subst this
    exact ⟨u, by rw [← hl]; simp, hu⟩
theorem textAt_len_bytes (e : List Int) (ls : List Bool) (ds : List (List Int)) (k : Nat) : (hP (textAt e ls ds k)).length = 32 ∧ Bytes (hP (textAt e ls ds k)) := ⟨hP_len _, hP_bytes _⟩
theorem neNat (m n : Nat) : ((m : Int) != (n : Int)) = decide (m ≠ n) := by
  by_cases h : m = n
  · subst h; simp
  · have : ¬ ((m : Int) = n) := by omega
    simp [h, this]
set_option maxHeartbeats 4000000 in
theorem way_no (pe : Option Addr) (ne ce : Nat) (m i n : Nat) (p : Option Addr) (cap : Nat) (w : World) (hi : i < n) (hn : n ≤ 9223372036854775807) (h : m ≠ (leftsP i n).length) :
    Calls Tryd.prog 92 #[.slice pe ne ce, .int .i64 i, .int .i64 n, .slice p m cap] w fun ex w' => ex = .returned (.tuple #[.slice none 0 0, .bool false]) ∧ Below w.heap.size w w' := by
  have hq := neNat m (leftsP i n).length
  rw [decide_eq_true h] at hq
  go_enter Tryd.func92, Tryd.ntmps92
  go_wp2_with fail
  refine (onLeft_any 63 i n w hi (by omega) (by omega) hn).mono ?_
  rintro e w1 ⟨v, rfl, hO, b1⟩
  obtain ⟨pl, cl, rfl, _, _⟩ := owns_shape hO
  have e1 : leftsF 63 i n = leftsP i n := rfl
  rw [e1] at hO ⊢
  clear hO
  generalize (leftsP i n).length = L at *
  go_wp2_with fail
  go_ret2
  exact ⟨rfl, b1⟩
set_option maxHeartbeats 4000000 in
theorem way_any (e : List Int) (pe : Option Addr) (ne ce : Nat) (hne : ne < 140737488355328) (m i n : Nat) (p : Option Addr) (cap : Nat) (ds : List (List Int)) (w : World) (hT : Tabs KS HS w) (hI : In8 w pe ne ce e) (hD : D32 w p m cap ds) (hi : i < n) (hn : n ≤ 9223372036854775807) (h : m = (leftsP i n).length) :
    Calls Tryd.prog 92 #[.slice pe ne ce, .int .i64 i, .int .i64 n, .slice p m cap] w fun ex w' => ∃ v, ex = .returned (.tuple #[v, .bool true]) ∧ Texts w w' w.heap.size v m (textAt e (leftsP i n) ds) ∧ Below w.heap.size w w' := by
  have hq := neNat m (leftsP i n).length
  rw [decide_eq_false (by omega)] at hq
  have hml := leftsP_len i n
  have hbs := bslice150
  go_enter Tryd.func92, Tryd.ntmps92
  go_wp2_with fail
  refine (onLeft_any 63 i n w hi (by omega) (by omega) hn).mono ?_
  rintro ex w1 ⟨v, rfl, hO, b1⟩
  have e1 : leftsF 63 i n = leftsP i n := rfl
  rw [e1] at hO
  clear e1
  obtain ⟨LS, hLS⟩ : ∃ LS, leftsP i n = LS := ⟨_, rfl⟩
  have HLS : Hid (leftsP i n = LS) := hLS
  rw [hLS] at hO hq hml h
  clear hLS
  obtain ⟨pl, cl, rfl, hfl, hcl⟩ := owns_shape hO
  have HO : Hid (w1.ownsRow w.heap.size 4 1 (.slice pl LS.length cl) LS.length (LS.map Value.bool)) := hO
  clear hO
  rw [← h] at HO hq hfl ⊢
  have HML : Hid (m = LS.length) := h
  have hm63 : m ≤ 63 := by omega
  clear h hml
  go_wp2_with fail
  refine (leafText_any w1 pe ne ce).mono ?_
  rintro ex w1' ⟨rfl, rfl⟩
  have b1s := b1.size
  have HB1 : Hid (Below w.heap.size w w1') := b1
  have T0 : Hid (Texts w (w1'.alloc (.cells #[leafV pe ne ce] 154)) w1'.heap.size (.slice (some ⟨w1'.heap.size, 0, none⟩) 1 1) 0 (textAt e LS ds)) := Texts.one w w1' w1'.heap.size (Nat.le_refl _) _ _ (.inl ⟨pe, ne, ce, e, rfl, hI, hne, rfl⟩)
  have B0 : Hid (Below w1'.heap.size w1' (w1'.alloc (.cells #[leafV pe ne ce] 154))) := (Below.refl _ _).alloc (Nat.le_refl _) _
  unfold leafV at T0 B0 ⊢
  clear b1
  go_wp2_with fail
  go_loopw [8, 27] (fun v i wr => ∃ k : Nat, k ≤ m ∧ i = .int .i64 k ∧ Texts w wr w1'.heap.size v k (textAt e LS ds) ∧ Below w1'.heap.size w1' wr) (fun _ i _ => m - (intOf i).toNat)
  case atStart => exact ⟨0, by omega, rfl, T0.out, B0.out⟩
  case round =>
    obtain ⟨k, hkm, rfl, hT3, hb⟩ := hrel
    have HB : Hid (Below w.heap.size w wr) := HB1.out.trans (hb.mono b1s)
    clear T0 B0
    by_cases hlt : k < m
    · obtain ⟨ad, rfl, _, _⟩ := hD.lies (by omega)
      have hat : At8 wr (ad.add (k * 32)) (ds.getD k []) := (hD.below HB.out).at k hlt
      obtain ⟨hdl, hdb⟩ := hD.get k hlt
      obtain ⟨gl, cl', hpl, hgl1, hgl2, _, _, hlc⟩ := owns_get HO.out (by omega)
      simp only [Value.slice.injEq, Option.some.injEq] at hpl
      obtain ⟨rfl, _, rfl⟩ := hpl
      have hlk : w1'.cell? ⟨gl, k, none⟩ = some (.bool (LS.getD k false)) := by
        rw [hlc k hlt, List.getElem?_map, List.getD_eq_getElem?_getD, List.getElem?_eq_getElem (by have := HML.out; omega)]; rfl
      clear hlc
      have HV := hT3
      obtain ⟨g, cap', rfl, hg1, hg2, hfc, hcm, hcs⟩ := hT3.get
      obtain ⟨vs, ho, hv⟩ := HV
      have hvl : vs.length = k + 1 := by have := ho.1; simpa using this
      obtain ⟨u, hu, tu⟩ := hcs k (Nat.le_refl _)
      have HO3 : Hid (wr.ownsRow w1'.heap.size 154 1 (.slice (some ⟨g, 0, none⟩) (k + 1) cap') (k + 1) vs) := ho
      clear ho hcs hT3
      have hi1 : ∀ W : World, (Instr.indexAt 31 (.slice (some ad) m cap) (.int .i64 k)).run Tryd.prog W = .ok (.pointer (some (ad.add (k * 32)))) W := fun W => index_at ad m cap k hlt W
      have hi2 : ∀ W : World, (Instr.indexAt 150 (.slice (some ⟨g, 0, none⟩) (k + 1) cap') (.int .i64 k)).run Tryd.prog W = .ok (.pointer (some ⟨g, k, none⟩)) W := fun W => index150 g (k + 1) cap' k (by omega) W
      have hi3 : ∀ W : World, (Instr.indexAt 171 (.slice (some ⟨gl, 0, none⟩) m cl) (.int .i64 k)).run Tryd.prog W = .ok (.pointer (some ⟨gl, k, none⟩)) W := fun W => index171 gl m cl k hlt W
      have n1 : Hid (Dg (wr.alloc (.cells Z8x32 25)) wr.heap.size Z32) := Dg.new wr _ rfl
      have hx1 := hb.size
      go_wp2_with (first
        | (with_reducible refine atLoad 25 ?_
           refine load_at rfl (.tmp 30) rfl (ad.add (k * 32)) rfl (ds.getD k []) hdl hat ?_)
        | (with_reducible refine atStore 25 ?_
           refine store_D rfl _ _ rfl wr.heap.size (ds.getD k []) rfl rfl Z32 n1.out hdl ?_
           intro U hU
           refine hideGoal ?_))
      have bU : Below wr.heap.size wr U := hU.below _ _ (Nat.le_refl _) ((Below.refl _ _).alloc (Nat.le_refl _) _)
      have dU : Hid (Dg U wr.heap.size (ds.getD k [])) := hU.dg hdl
      have huU : U.cell? ⟨g, k, none⟩ = some u := by rw [bU.cell (p := ⟨g, k, none⟩) hg2]; exact hu
      have BU : Below w.heap.size w U := HB.out.trans (bU.mono HB.out.size)
      have hT' := hT.below BU
      clear hU n1 hat hu hi1
      obtain ⟨fu, au, rfl, hen, hcl3⟩ := tu.text
      clear tu
      refine openGoal ?_
      go_wp2_with fail
      refine (textHash_any U _ (textAt e LS ds k) hT' ((show TextV w (.func (.func fu) #[au] #[]) (textAt e LS ds k) from ⟨fu, au, rfl, hen, hcl3⟩).below BU)).mono ?_
      rintro ex w2 ⟨rfl, b2⟩
      have d2 : Hid (Dg w2 wr.heap.size (ds.getD k [])) := dU.out.next b2
      have l2 := d2.out.lt
      have bR2 : Below wr.heap.size wr w2 := bU.trans (b2.mono bU.size)
      have n2 : Hid (Dg (w2.alloc (.cells Z8x32 25)) w2.heap.size Z32) := Dg.new w2 _ rfl
      obtain ⟨hHl, hHb⟩ := textAt_len_bytes e LS ds k
      have HTX : Hid (textAt e LS ds (k + 1) = if LS.getD k false = true then 1 :: (hP (textAt e LS ds k) ++ ds.getD k []) else 1 :: (ds.getD k [] ++ hP (textAt e LS ds k))) := rfl
      generalize hP (textAt e LS ds k) = H at *
      clear b2 dU huU hen hcl3 bU
      go_wp2_with (first
        | (with_reducible refine atStore 25 ?_
           refine store_D rfl _ _ rfl w2.heap.size H rfl rfl Z32 n2.out hHl ?_
           intro X hX
           refine hideGoal ?_))
      have bX : Below wr.heap.size wr X := hX.below _ _ bR2.size (bR2.alloc bR2.size _)
      have dX : Hid (Dg X w2.heap.size H) := hX.dg hHl
      have eX : Hid (Dg X wr.heap.size (ds.getD k [])) := (d2.out.alloc _).other hX (by omega)
      have hlX : X.cell? ⟨gl, k, none⟩ = some (.bool (LS.getD k false)) := by
        rw [bX.cell (p := ⟨gl, k, none⟩) (by show gl < _; omega), hb.cell (p := ⟨gl, k, none⟩) hgl2]; exact hlk
      have HOX : Hid (X.ownsRow w1'.heap.size 154 1 (.slice (some ⟨g, 0, none⟩) (k + 1) cap') (k + 1) vs) := owns_below HO3.out bX
      have BX1 : Hid (Below w1'.heap.size w1' X) := hb.trans (bX.mono hx1)
      clear hX n2 d2 bX bR2 HO3 hlk
      generalize w2.heap.size = g2 at *
      generalize wr.heap.size = g1 at *
      generalize ds.getD k [] = OT at *
      generalize LS.getD k false = LF at *
      refine openGoal ?_
      cases LF with
      | true =>
        have HTX' : Hid (textAt e LS ds (k + 1) = 1 :: (H ++ OT)) := by show _ = _; rw [HTX.out]; rfl
        clear HTX
        go_wp2_with (first
          | (with_reducible refine atLoad 25 ?_
             first
               | refine load_D rfl (.tmp 13) rfl g2 rfl H dX.out ?_
               | refine load_D rfl (.tmp 12) rfl g1 rfl OT eX.out ?_))
        refine (knotText_any X H OT hHl hdl).mono ?_
        rintro ex w3 ⟨rfl, b3⟩
        have HO4 : Hid (w3.ownsRow w1'.heap.size 154 1 (.slice (some ⟨g, 0, none⟩) (k + 1) cap') (k + 1) vs) := owns_below HOX.out b3
        have B3 : Below w1'.heap.size w1' w3 := BX1.out.trans (b3.mono BX1.out.size)
        have s3 := B3.size
        have TV : Hid (TextK w (knotV H OT) (textAt e LS ds (k + 1))) := by
          show TextK _ _ _
          rw [HTX'.out]; exact .inr ⟨H, OT, rfl, hHl, hdl, hHb, hdb, rfl⟩
        unfold knotV at TV ⊢
        clear b3 HOX dX eX BX1
        go_wp2_with (first
          | (at_builtin
             refine wpList_appOne rfl (.tmp 41) (.tmp 45) 150 154 .nilFunc 8 Tryd.underlying150 info154' rfl (by omega) rfl w1'.heap.size _ (k + 1) vs rfl (owns_below HO4.out ((Below.refl _ _).alloc (Nat.le_refl _) _)) w3.heap.size _ rfl (heapN w3 _ _ rfl) rfl (by omega) (by simp; omega) ?_
             intro v2 w4 ho4 hs4 hb4
             refine hideGoal ?_))
        have B4 : Hid (Below w1'.heap.size w1' w4) := hb4 w1' (B3.alloc s3 _)
        clear hb4 HO4 B3
        refine openGoal ?_
        go_wp2_with fail
        go_roundw
        case rel => exact ⟨k + 1, by omega, by go_num, Texts.more hv hvl ho4.out TV.out, B4.out⟩
        case measure => simp [intOf]; omega
      | false =>
        have HTX' : Hid (textAt e LS ds (k + 1) = 1 :: (OT ++ H)) := by show _ = _; rw [HTX.out]; rfl
        clear HTX
        go_wp2_with (first
          | (with_reducible refine atLoad 25 ?_
             first
               | refine load_D rfl (.tmp 13) rfl g2 rfl H dX.out ?_
               | refine load_D rfl (.tmp 12) rfl g1 rfl OT eX.out ?_))
        refine (knotText_any X OT H hdl hHl).mono ?_
        rintro ex w3 ⟨rfl, b3⟩
        have HO4 : Hid (w3.ownsRow w1'.heap.size 154 1 (.slice (some ⟨g, 0, none⟩) (k + 1) cap') (k + 1) vs) := owns_below HOX.out b3
        have B3 : Below w1'.heap.size w1' w3 := BX1.out.trans (b3.mono BX1.out.size)
        have s3 := B3.size
        have TV : Hid (TextK w (knotV OT H) (textAt e LS ds (k + 1))) := by
          show TextK _ _ _
          rw [HTX'.out]; exact .inr ⟨OT, H, rfl, hdl, hHl, hdb, hHb, rfl⟩
        unfold knotV at TV ⊢
        clear b3 HOX dX eX BX1
        go_wp2_with (first
          | (at_builtin
             refine wpList_appOne rfl (.tmp 47) (.tmp 51) 150 154 .nilFunc 8 Tryd.underlying150 info154' rfl (by omega) rfl w1'.heap.size _ (k + 1) vs rfl (owns_below HO4.out ((Below.refl _ _).alloc (Nat.le_refl _) _)) w3.heap.size _ rfl (heapN w3 _ _ rfl) rfl (by omega) (by simp; omega) ?_
             intro v2 w4 ho4 hs4 hb4
             refine hideGoal ?_))
        have B4 : Hid (Below w1'.heap.size w1' w4) := hb4 w1' (B3.alloc s3 _)
        clear hb4 HO4 B3
        refine openGoal ?_
        go_wp2_with fail
        go_roundw
        case rel => exact ⟨k + 1, by omega, by go_num, Texts.more hv hvl ho4.out TV.out, B4.out⟩
        case measure => simp [intOf]; omega
    · have hkm' : k = m := by omega
      subst hkm'
      have hn1 : ¬ ((k : Int) < k) := by omega
      have HT3 : Hid _ := hT3
      clear hT3
      go_wp2_with fail
      go_ret2
      exact ⟨_, rfl, by rw [HLS.out]; exact Texts.mono HT3.out b1s, HB.out⟩
set_option maxHeartbeats 2000000 in
/-- What tree.Climb tells. -/
theorem climb_any (e : List Int) (pe : Option Addr) (ne ce : Nat) (hne : ne < 140737488355328) (m i n : Nat) (p : Option Addr) (cap : Nat) (ds : List (List Int)) (w : World) (hT : Tabs KS HS w) (hI : In8 w pe ne ce e) (hD : D32 w p m cap ds) (hi : i < n) (hn : n ≤ 9223372036854775807) :
    Calls Tryd.prog 62 #[.slice pe ne ce, .int .i64 i, .int .i64 n, .slice p m cap] w fun ex w' => ex = .returned (.tuple #[.agg (A8 (if (climbR e ds.reverse i n).2 = true then (climbR e ds.reverse i n).1 else Z32)), .bool (climbR e ds.reverse i n).2]) ∧ Below w.heap.size w w' := by
  obtain ⟨hc1, hc2⟩ := climb_up e 63 i n ds hi (by omega) (by omega)
  have hl := hD.len
  have eP : leftsF 63 i n = leftsP i n := rfl
  rw [eP] at hc1 hc2
  have hb0 : Below w.heap.size w (w.alloc (.cells Z8x32 25)) := (Below.refl _ _).alloc (Nat.le_refl _) _
  have d0 : Hid (Dg (w.alloc (.cells Z8x32 25)) w.heap.size Z32) := Dg.new w _ rfl
  by_cases h : m = (leftsP i n).length
  · have h' : ds.length = (leftsP i n).length := by omega
    rw [decide_eq_true h'] at hc1
    have hc2 := hc2 h'
    have HC : Hid ((climbR e ds.reverse i n).1 = hP (textAt e (leftsP i n) ds ds.length)) := hc2
    rw [hc1]
    simp only [if_true]
    rw [HC.out, hl]
    clear hc1 hc2 HC h' hl
    have HH : Hid (m = (leftsP i n).length) := h
    clear h
    go_enter Tryd.func62, Tryd.ntmps62
    go_wp2_with fail
    refine (way_any e pe ne ce hne m i n p cap ds _ (hT.below hb0) (hI.below hb0) (hD.below hb0) hi hn HH.out).mono ?_
    rintro ex w1 ⟨v, rfl, hX, b1⟩
    have d1 : Hid (Dg w1 w.heap.size Z32) := d0.out.next b1
    have B1 : Below w.heap.size w w1 := hb0.trans (b1.mono (by simp))
    obtain ⟨g, cap', rfl, hg1, hg2, hfc, hcm, hcs⟩ := hX.get
    obtain ⟨u, hu, tu⟩ := hcs m (Nat.le_refl _)
    have tu1 := (tu.below b1).text
    clear hcs hX tu d0 b1
    have hi2 : ∀ W : World, (Instr.indexAt 150 (.slice (some ⟨g, 0, none⟩) (m + 1) cap') (.int .i64 m)).run Tryd.prog W = .ok (.pointer (some ⟨g, m, none⟩)) W := fun W => index150 g (m + 1) cap' m (by omega) W
    obtain ⟨fu, au, rfl, hen, hcl3⟩ := tu1
    go_wp2_with fail
    refine (textHash_any w1 _ (textAt e (leftsP i n) ds m) (hT.below B1) ⟨fu, au, rfl, hen, hcl3⟩).mono ?_
    rintro ex w2 ⟨rfl, b2⟩
    have d2 : Hid (Dg w2 w.heap.size Z32) := d1.out.next b2
    have B2 : Below w.heap.size w w2 := B1.trans (b2.mono B1.size)
    obtain ⟨hHl, hHb⟩ := textAt_len_bytes e (leftsP i n) ds m
    obtain ⟨H, hH⟩ : ∃ H, hP (textAt e (leftsP i n) ds m) = H := ⟨_, rfl⟩
    have HHd : Hid (hP (textAt e (leftsP i n) ds m) = H) := hH
    rw [hH] at hHl hHb ⊢
    clear hH
    clear b2 d1 B1 hen hcl3 hu
    go_wp2_with (first
      | (with_reducible refine atStore 25 ?_
         refine store_D rfl _ _ rfl w.heap.size H rfl rfl Z32 d2.out hHl ?_
         intro X hX
         refine hideGoal ?_))
    have dX : Hid (Dg X w.heap.size H) := hX.dg hHl
    have bX : Hid (Below w.heap.size w X) := hX.below _ _ (Nat.le_refl _) B2
    clear hX d2 B2
    refine openGoal ?_
    go_wp2_with fail
    exact bodyPost_ret (results_DT rfl _ _ w.heap.size H rfl dX.out) rfl ⟨by rw [HHd.out]; rfl, bX.out⟩
  · have h' : ¬ ds.length = (leftsP i n).length := by omega
    rw [decide_eq_false h'] at hc1
    rw [hc1]
    simp only [Bool.false_eq_true, if_false]
    clear hc1 hc2 h' hl
    have HH : Hid (m ≠ (leftsP i n).length) := h
    clear h
    go_enter Tryd.func62, Tryd.ntmps62
    go_wp2_with fail
    refine (way_no pe ne ce m i n p cap _ hi hn HH.out).mono ?_
    rintro ex w1 ⟨rfl, b1⟩
    have d1 : Hid (Dg w1 w.heap.size Z32) := d0.out.next b1
    have B1 : Below w.heap.size w w1 := hb0.trans (b1.mono (by simp))
    clear d0 b1
    go_wp2_with (first
      | (with_reducible refine atStore 25 ?_
         refine store_D rfl _ _ rfl w.heap.size Z32 rfl rfl Z32 d1.out rfl ?_
         intro X hX
         refine hideGoal ?_))
    have dX : Hid (Dg X w.heap.size Z32) := hX.dg rfl
    have bX : Hid (Below w.heap.size w X) := hX.below _ _ (Nat.le_refl _) B1
    clear hX d1 B1
    refine openGoal ?_
    go_wp2_with fail
    exact bodyPost_ret (results_DT rfl _ _ w.heap.size Z32 rfl dX.out) rfl ⟨rfl, bX.out⟩
end Go.Proofs.YtcmjlhcpoajbkaaDoor
namespace Go.Proofs.YtcmjlhcpoajbkaaDoor
set_option maxRecDepth 10000
open Go.RowKit
/-- What Climb tells: the root, the error. -/
def climbOut (e : List Int) (i n : Int) (ds : List (List Int)) : List Int × Int :=
  if n < 1 ∨ i < 0 ∨ n ≤ i then (Z32, 1) else if (climbR e ds.reverse i.toNat n.toNat).2 = true then ((climbR e ds.reverse i.toNat n.toNat).1, 0) else (Z32, 1)
theorem climbOut_ok (e : List Int) (i n : Int) (ds : List (List Int)) : (climbOut e i n ds).1.length = 32 ∧ Bytes (climbOut e i n ds).1 := by
  unfold climbOut
  split
  · exact ⟨rfl, Z32_bytes⟩
  · split
    · exact climbR_ok _ _ _ _
    · exact ⟨rfl, Z32_bytes⟩
theorem isIn_any (i n : Int) (w : World) : Calls Tryd.prog 61 #[.int .i64 i, .int .i64 n] w fun ex w' => ex = .returned (.bool (decide (0 ≤ i) && decide (i < n))) ∧ w' = w := by
  obtain ⟨b, hb⟩ : ∃ b, (decide (0 ≤ i) && decide (i < n)) = b := ⟨_, rfl⟩
  rw [hb]
  by_cases h0 : 0 ≤ i
  · by_cases h1 : i < n
    · have HB : Hid (b = true) := by show b = true; rw [← hb, decide_eq_true h0, decide_eq_true h1]; rfl
      clear hb
      go_enter Tryd.func61, Tryd.ntmps61
      go_wp2_with fail
      go_ret
      exact ⟨by rw [HB.out]; rfl, rfl⟩
    · have HB : Hid (b = false) := by show b = false; rw [← hb, decide_eq_false h1]; simp
      clear hb
      go_enter Tryd.func61, Tryd.ntmps61
      go_wp2_with fail
      go_ret
      exact ⟨by rw [HB.out]; rfl, rfl⟩
  · have HB : Hid (b = false) := by show b = false; rw [← hb, decide_eq_false h0]; rfl
    clear hb
    go_enter Tryd.func61, Tryd.ntmps61
    go_wp2_with fail
    go_ret
    exact ⟨by rw [HB.out]; rfl, rfl⟩
set_option maxHeartbeats 1000000 in
theorem annalClimb_any (e : List Int) (pe : Option Addr) (ne ce : Nat) (hne : ne < 140737488355328) (i n : Int) (p : Option Addr) (m cap : Nat) (ds : List (List Int)) (w : World) (hT : Tabs KS HS w) (hI : In8 w pe ne ce e) (hD : D32 w p m cap ds) (hi : i ≤ 9223372036854775807) (hn : n ≤ 9223372036854775807) :
    Calls Tryd.prog 22 #[.slice pe ne ce, .int .i64 i, .int .i64 n, .slice p m cap] w fun ex w' => ex = .returned (.tuple #[.agg (A8 (climbOut e i n ds).1), .int .i64 (climbOut e i n ds).2]) ∧ Below w.heap.size w w' := by
  have hb0 : Below w.heap.size w (w.alloc (.cells Z8x32 25)) := (Below.refl _ _).alloc (Nat.le_refl _) _
  have d0 : Hid (Dg (w.alloc (.cells Z8x32 25)) w.heap.size Z32) := Dg.new w _ rfl
  by_cases h1 : 0 ≤ i ∧ i < n
  · have hin : (decide (0 ≤ i) && decide (i < n)) = true := by simp [h1.1, h1.2]
    obtain ⟨a, rfl⟩ : ∃ a : Nat, i = a := ⟨i.toNat, by omega⟩
    obtain ⟨b, rfl⟩ : ∃ b : Nat, n = b := ⟨n.toNat, by omega⟩
    have HE : Hid (climbOut e a b ds = if (climbR e ds.reverse a b).2 = true then ((climbR e ds.reverse a b).1, 0) else (Z32, 1)) := by
      show climbOut e a b ds = _
      unfold climbOut; rw [if_neg (by omega), Int.toNat_natCast, Int.toNat_natCast]
    go_enter Tryd.func22, Tryd.ntmps22
    go_wp2_with fail
    refine (isIn_any _ _ _).mono ?_
    rintro ex w0 ⟨rfl, rfl⟩
    rw [hin]
    go_wp2_with fail
    refine (climb_any e pe ne ce hne m a b p cap ds _ (hT.below hb0) (hI.below hb0) (hD.below hb0) (by omega) (by omega)).mono ?_
    rintro ex w1 ⟨rfl, b1⟩
    obtain ⟨hcl, hcb⟩ := climbR_ok e ds.reverse a b
    have d1 : Hid (Dg w1 w.heap.size Z32) := d0.out.next b1
    have B1 : Below w.heap.size w w1 := hb0.trans (b1.mono (by simp))
    have l1 := d1.out.lt
    have n1 : Hid (Dg (w1.alloc (.cells Z8x32 25)) w1.heap.size Z32) := Dg.new w1 _ rfl
    clear b1 d0
    generalize climbR e ds.reverse a b = C at *
    obtain ⟨C, ok⟩ := C
    have HD : Hid ((if ok = true then C else Z32).length = 32) := by
      show _ = _
      split
      · exact hcl
      · rfl
    generalize hDD : (if ok = true then C else Z32) = D at *
    have HDD : Hid ((if ok = true then C else Z32) = D) := hDD
    clear hDD
    go_wp2_with (first
      | (with_reducible refine atStore 25 ?_
         refine store_D rfl _ _ rfl w1.heap.size D rfl rfl Z32 n1.out HD.out ?_
         intro X hX
         refine hideGoal ?_))
    have dX : Hid (Dg X w.heap.size Z32) := (d1.out.alloc _).other hX (by omega)
    have cX : Hid (Dg X w1.heap.size D) := hX.dg HD.out
    have bX : Hid (Below w.heap.size w X) := hX.below _ _ (by omega) (B1.alloc (by omega) _)
    clear hX d1 n1 B1
    generalize w1.heap.size = g1 at *
    refine openGoal ?_
    cases ok with
    | true =>
      have hdc : C = D := HDD.out
      subst hdc
      go_wp2_with (first
        | (with_reducible refine atLoad 25 ?_
           refine load_D rfl _ rfl g1 rfl C cX.out ?_)
        | (with_reducible refine atStore 25 ?_
           refine store_D rfl _ _ rfl w.heap.size C rfl rfl Z32 dX.out hcl ?_
           intro Y hY
           refine hideGoal ?_))
      have dY : Hid (Dg Y w.heap.size C) := hY.dg hcl
      have bY : Hid (Below w.heap.size w Y) := hY.below _ _ (Nat.le_refl _) bX.out
      clear hY dX cX bX
      refine openGoal ?_
      go_wp2_with fail
      exact bodyPost_ret (results_DT rfl _ _ w.heap.size C rfl dY.out) rfl ⟨by rw [HE.out]; rfl, bY.out⟩
    | false =>
      go_wp2_with (first
        | (with_reducible refine atStore 25 ?_
           refine store_D rfl _ _ rfl w.heap.size Z32 rfl rfl Z32 dX.out rfl ?_
           intro Y hY
           refine hideGoal ?_))
      have dY : Hid (Dg Y w.heap.size Z32) := hY.dg rfl
      have bY : Hid (Below w.heap.size w Y) := hY.below _ _ (Nat.le_refl _) bX.out
      clear hY dX cX bX
      refine openGoal ?_
      go_wp2_with fail
      exact bodyPost_ret (results_DT rfl _ _ w.heap.size Z32 rfl dY.out) rfl ⟨by rw [HE.out]; rfl, bY.out⟩
  · have hin : (decide (0 ≤ i) && decide (i < n)) = false := by
      cases hd : (decide (0 ≤ i) && decide (i < n)) with
      | false => rfl
      | true => simp at hd; exact absurd hd h1
    have HE : Hid (climbOut e i n ds = (Z32, 1)) := by
      show climbOut e i n ds = _
      unfold climbOut; rw [if_pos (by omega)]
    go_enter Tryd.func22, Tryd.ntmps22
    go_wp2_with fail
    refine (isIn_any _ _ _).mono ?_
    rintro ex w0 ⟨rfl, rfl⟩
    rw [hin]
    go_wp2_with (first
      | (with_reducible refine atStore 25 ?_
         refine store_D rfl _ _ rfl w.heap.size Z32 rfl rfl Z32 d0.out rfl ?_
         intro X hX
         refine hideGoal ?_))
    have dX : Hid (Dg X w.heap.size Z32) := hX.dg rfl
    have bX : Hid (Below w.heap.size w X) := hX.below _ _ (Nat.le_refl _) hb0
    clear hX d0
    refine openGoal ?_
    go_wp2_with fail
    exact bodyPost_ret (results_DT rfl _ _ w.heap.size Z32 rfl dX.out) rfl ⟨by rw [HE.out]; rfl, bX.out⟩
set_option maxHeartbeats 1000000 in
theorem refClimbs_any (l : List UInt8) (e : List Int) (he : toI l = e) (hle : l.length ≤ 140737488355400) (i n : Int) (p : Option Addr) (m cap : Nat) (ds : List (List Int)) (w : World) (hD : D32 w p m cap ds) (hi : i ≤ 9223372036854775807) (hn : n ≤ 9223372036854775807) :
    Calls Tryd.prog 23 #[.string ⟨l.toArray⟩, .int .i64 i, .int .i64 n, .slice p m cap] w fun ex w' => ex = .returned (.tuple #[.agg (A8 (climbOut e i n ds).1), .int .i64 (climbOut e i n ds).2]) ∧ Below w.heap.size w w' := by
  have hb0 : Below w.heap.size w (w.alloc (.cells Z8x32 25)) := (Below.refl _ _).alloc (Nat.le_refl _) _
  have d0 : Hid (Dg (w.alloc (.cells Z8x32 25)) w.heap.size Z32) := Dg.new w _ rfl
  by_cases h1 : n < 1
  · have HE : Hid (climbOut e i n ds = (Z32, 1)) := by
      show climbOut e i n ds = _
      unfold climbOut; rw [if_pos (by omega)]
    go_enter Tryd.func23, Tryd.ntmps23
    go_wp2_with (first
      | (with_reducible refine atStore 25 ?_
         refine store_D rfl _ _ rfl w.heap.size Z32 rfl rfl Z32 d0.out rfl ?_
         intro X hX
         refine hideGoal ?_))
    have dX : Hid (Dg X w.heap.size Z32) := hX.dg rfl
    have bX : Hid (Below w.heap.size w X) := hX.below _ _ (Nat.le_refl _) hb0
    clear hX d0
    refine openGoal ?_
    go_wp2_with fail
    exact bodyPost_ret (results_DT rfl _ _ w.heap.size Z32 rfl dX.out) rfl ⟨by rw [HE.out]; rfl, bX.out⟩
  · by_cases h2 : i < 0
    · have HE : Hid (climbOut e i n ds = (Z32, 1)) := by
        show climbOut e i n ds = _
        unfold climbOut; rw [if_pos (by omega)]
      go_enter Tryd.func23, Tryd.ntmps23
      go_wp2_with (first
        | (with_reducible refine atStore 25 ?_
           refine store_D rfl _ _ rfl w.heap.size Z32 rfl rfl Z32 d0.out rfl ?_
           intro X hX
           refine hideGoal ?_))
      have dX : Hid (Dg X w.heap.size Z32) := hX.dg rfl
      have bX : Hid (Below w.heap.size w X) := hX.below _ _ (Nat.le_refl _) hb0
      clear hX d0
      refine openGoal ?_
      go_wp2_with fail
      exact bodyPost_ret (results_DT rfl _ _ w.heap.size Z32 rfl dX.out) rfl ⟨by rw [HE.out]; rfl, bX.out⟩
    · by_cases h3 : n ≤ i
      · have HE : Hid (climbOut e i n ds = (Z32, 1)) := by
          show climbOut e i n ds = _
          unfold climbOut; rw [if_pos (by omega)]
        go_enter Tryd.func23, Tryd.ntmps23
        go_wp2_with (first
          | (with_reducible refine atStore 25 ?_
             refine store_D rfl _ _ rfl w.heap.size Z32 rfl rfl Z32 d0.out rfl ?_
             intro X hX
             refine hideGoal ?_))
        have dX : Hid (Dg X w.heap.size Z32) := hX.dg rfl
        have bX : Hid (Below w.heap.size w X) := hX.below _ _ (Nat.le_refl _) hb0
        clear hX d0
        refine openGoal ?_
        go_wp2_with fail
        exact bodyPost_ret (results_DT rfl _ _ w.heap.size Z32 rfl dX.out) rfl ⟨by rw [HE.out]; rfl, bX.out⟩
      · obtain ⟨a, rfl⟩ : ∃ a : Nat, i = a := ⟨i.toNat, by omega⟩
        obtain ⟨b, rfl⟩ : ∃ b : Nat, n = b := ⟨n.toNat, by omega⟩
        have HE : Hid (climbOut e a b ds = if (climbR e ds.reverse a b).2 = true then ((climbR e ds.reverse a b).1, 0) else (Z32, 1)) := by
          show climbOut e a b ds = _
          unfold climbOut; rw [if_neg (by omega), Int.toNat_natCast, Int.toNat_natCast]
        have h3' : ¬ (b : Int) ≤ a := h3
        go_enter Tryd.func23, Tryd.ntmps23
        go_wp2_with fail
        refine (refClimb_any l e he hle m a b p cap ds _ (hD.below hb0) (by omega) (by omega)).mono ?_
        rintro ex w1 ⟨rfl, b1⟩
        obtain ⟨hcl, hcb⟩ := climbR_ok e ds.reverse a b
        have d1 : Hid (Dg w1 w.heap.size Z32) := d0.out.next b1
        have B1 : Below w.heap.size w w1 := hb0.trans (b1.mono (by simp))
        have l1 := d1.out.lt
        have n1 : Hid (Dg (w1.alloc (.cells Z8x32 25)) w1.heap.size Z32) := Dg.new w1 _ rfl
        clear b1 d0
        generalize climbR e ds.reverse a b = C at *
        obtain ⟨C, ok⟩ := C
        go_wp2_with (first
          | (with_reducible refine atStore 25 ?_
             refine store_D rfl _ _ rfl w1.heap.size C rfl rfl Z32 n1.out hcl ?_
             intro X hX
             refine hideGoal ?_))
        have dX : Hid (Dg X w.heap.size Z32) := (d1.out.alloc _).other hX (by omega)
        have cX : Hid (Dg X w1.heap.size C) := hX.dg hcl
        have bX : Hid (Below w.heap.size w X) := hX.below _ _ (by omega) (B1.alloc (by omega) _)
        clear hX d1 n1 B1
        generalize w1.heap.size = g1 at *
        refine openGoal ?_
        cases ok with
        | true =>
          go_wp2_with (first
            | (with_reducible refine atLoad 25 ?_
               refine load_D rfl _ rfl g1 rfl C cX.out ?_)
            | (with_reducible refine atStore 25 ?_
               refine store_D rfl _ _ rfl w.heap.size C rfl rfl Z32 dX.out hcl ?_
               intro Y hY
               refine hideGoal ?_))
          have dY : Hid (Dg Y w.heap.size C) := hY.dg hcl
          have bY : Hid (Below w.heap.size w Y) := hY.below _ _ (Nat.le_refl _) bX.out
          clear hY dX cX bX
          refine openGoal ?_
          go_wp2_with fail
          exact bodyPost_ret (results_DT rfl _ _ w.heap.size C rfl dY.out) rfl ⟨by rw [HE.out]; rfl, bY.out⟩
        | false =>
          go_wp2_with (first
            | (with_reducible refine atStore 25 ?_
               refine store_D rfl _ _ rfl w.heap.size Z32 rfl rfl Z32 dX.out rfl ?_
               intro Y hY
               refine hideGoal ?_))
          have dY : Hid (Dg Y w.heap.size Z32) := hY.dg rfl
          have bY : Hid (Below w.heap.size w Y) := hY.below _ _ (Nat.le_refl _) bX.out
          clear hY dX cX bX
          refine openGoal ?_
          go_wp2_with fail
          exact bodyPost_ret (results_DT rfl _ _ w.heap.size Z32 rfl dY.out) rfl ⟨by rw [HE.out]; rfl, bY.out⟩
end Go.Proofs.YtcmjlhcpoajbkaaDoor
