import Derived.Test.YtcmjlhcpoajbkaaDoorQMk
import Derived.Test.YtcmjlhcpoajbkaaDoorQRc
namespace Go.Proofs.YtcmjlhcpoajbkaaDoor
set_option maxRecDepth 10000
set_option linter.unusedSimpArgs false
open Go.RowKit
/-- The i-th entry of a log that was made. -/
def entryP (es : List (List Int)) (i : Nat) : List Int := if i < es.length ∧ i < 40 then (es.getD i []).take 300 else END
theorem entryP_made (es : List (List Int)) (i : Nat) (h : i < (madeP es).length) : (madeP es).getD i [] = entryP es i := by
  rw [madeP_len] at h
  unfold entryP madeP
  have hc := cutP_len es
  rw [List.getD_eq_getElem?_getD]
  by_cases h1 : i < es.length ∧ i < 40
  · rw [if_pos h1, List.getElem?_append_left (by omega)]
    unfold cutP
    rw [List.getElem?_map, List.getElem?_take, if_pos h1.2, List.getElem?_eq_getElem h1.1, List.getD_eq_getElem?_getD, List.getElem?_eq_getElem h1.1]
    rfl
  · rw [if_neg h1, List.getElem?_append_right (by omega), hc, show i - min 40 es.length = 0 by omega]
    rfl
set_option maxHeartbeats 2000000 in
theorem entry_any (w : World) (p : Option Addr) (n c : Nat) (es : List (List Int)) (he : EN w p n c es) (i : Nat) (hi : i ≤ 1000) :
    Calls Tryd.prog 45 #[.slice p n c, .int .i64 i] w fun e w' => ∃ q m d, e = .returned (.slice q m d) ∧ In8 w' q m d (entryP es i) ∧ m ≤ 300 ∧ Below w.heap.size w w' := by
  have hn := he.len
  have hf := he.fits
  have hr := he.room
  have hcv := Lib.run_convert_bytes_const (P := Tryd.prog) w 22 5 #[.int .u8 101, .int .u8 110, .int .u8 100] 3 3 Tryd.underlying22 Tryd.underlying5
  have h3 := heapN w (.cells #[.int .u8 101, .int .u8 110, .int .u8 100] 5 (3, 4)) _ rfl
  have hI3 : Hid (In8 (w.alloc (.cells #[.int .u8 101, .int .u8 110, .int .u8 100] 5 (3, 4))) (some ⟨w.heap.size, 0, none⟩) 3 3 END) := in8_lit _ _ _ _ END END_bytes (by simp [END]) h3
  have b3 : Hid (Below w.heap.size w (w.alloc (.cells #[.int .u8 101, .int .u8 110, .int .u8 100] 5 (3, 4)))) := (Below.refl _ _).alloc (Nat.le_refl _) _
  by_cases h1 : i < n
  · by_cases h2 : i < 40
    · have HX : Hid (entryP es i = (es.getD i []).take 300) := by show _ = _; unfold entryP; rw [if_pos ⟨by omega, h2⟩]
      obtain ⟨b, o, rfl, hbl, hc⟩ := he.lies (by omega)
      obtain ⟨q, qn, qc, hcell, hq⟩ := hc i h1
      have HQ : Hid (In8 w q qn qc (es.getD i [])) := hq
      have hix : ∀ W : World, (Instr.indexAt 47 (.slice (some ⟨b, o, none⟩) n c) (.int .i64 i)).run Tryd.prog W = .ok (.pointer (some ⟨b, o + i, none⟩)) W := fun W => eindex_at b o n c i h1 W
      clear hc hq hcv h3 hI3 b3
      go_enter Tryd.func45, Tryd.ntmps45
      go_wp2_with fail
      refine (short_any w q qn qc 300 _ HQ.out (by omega)).mono ?_
      rintro e w2 ⟨r, rfl, hr3, hq1, rfl⟩
      have HQ1 : Hid _ := hq1
      clear hq1
      go_wp2_with fail
      go_ret
      exact ⟨q, r, qc, rfl, by rw [HX.out]; exact HQ1.out, hr3, Below.refl _ _⟩
    · have HX : Hid (entryP es i = END) := by show _ = _; unfold entryP; rw [if_neg (by omega)]
      go_enter Tryd.func45, Tryd.ntmps45
      go_wp2_with fail
      go_ret
      exact ⟨_, 3, 3, rfl, by rw [HX.out]; exact hI3.out, by omega, b3.out⟩
  · have HX : Hid (entryP es i = END) := by show _ = _; unfold entryP; rw [if_neg (by omega)]
    go_enter Tryd.func45, Tryd.ntmps45
    go_wp2_with fail
    go_ret
    exact ⟨_, 3, 3, rfl, by rw [HX.out]; exact hI3.out, by omega, b3.out⟩
end Go.Proofs.YtcmjlhcpoajbkaaDoor
