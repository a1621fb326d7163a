import Derived.Test.YtcmjlhcpoajbkaaDoorRoom
import Derived.Test.YtcmjlhcpoajbkaaDoorRef
namespace Go.Proofs.YtcmjlhcpoajbkaaDoor
set_option maxRecDepth 10000
open Go.RowKit
theorem conv_arg (xs : List Int) (w : World) (ad : Addr) (n cap : Nat) (hn : xs.length = n) (hc : ∀ j, j < n → w.cell? (ad.add j) = some (.int .u8 (xs.getD j 0))) :
    (convert 22 9 (.slice (some ad) n cap)).run Tryd.prog w = .ok (.string ⟨(toU xs).toArray⟩) w := by
  have hl : (loadCells ad n).run Tryd.prog w = .ok (xs.map (Value.int .u8)).toArray w := by
    have := run_loadCells_list (P := Tryd.prog) w ad (xs.map (Value.int .u8)) (fun j v hv => by
      have hj : j < xs.length := by
        rcases Nat.lt_or_ge j xs.length with h | h
        · exact h
        · rw [List.getElem?_eq_none (by simpa using h)] at hv; cases hv
      rw [hc j (by omega)]
      simp only [List.getElem?_map, List.getElem?_eq_getElem hj, Option.map_some, Option.some.injEq] at hv
      rw [← hv, List.getD_eq_getElem?_getD, List.getElem?_eq_getElem hj]; rfl)
    simpa [hn] using this
  rw [run_convert_bytes_string w 22 9 5 _ n cap Tryd.underlying22 Tryd.underlying5 Tryd.underlying9, run_bytesToString w _ n cap xs hl, foldl_push_bytes]
  simp [toU, ByteArray.empty, ByteArray.emptyWithCapacity]
  rfl
theorem kept_nil (w : World) : Calls Tryd.prog 18 #[.slice none 0 0, .slice none 0 0] w fun e w' => e = .returned (.bool true) ∧ w' = w := by
  have hq := eql_nil none 0 0 w
  go_enter Tryd.func18, Tryd.ntmps18
  go_wp2
  go_ret
  exact ⟨rfl, rfl⟩
set_option maxHeartbeats 400000 in
theorem kept_some (ad : Addr) (g n cap cap' : Nat) (xs : List Int) (w : World) (hl : xs.length = n) (hn : n ≤ 140737488351232) (hc' : n + 1 ≤ cap')
    (h1 : ∀ j, j < n → w.cell? (ad.add j) = some (.int .u8 (xs.getD j 0))) (h2 : ∀ j, j < n → w.cell? ⟨g, j, none⟩ = some (.int .u8 (xs.getD j 0))) (hmark : w.cell? ⟨g, n, none⟩ = some (.int .u8 126)) :
    Calls Tryd.prog 18 #[.slice (some ⟨g, 0, none⟩) n cap', .slice (some ad) n cap] w fun e w' => e = .returned (.bool true) ∧ w' = w := by
  have hq := eql_nil (some ad) n cap w
  have k1 := conv_arg xs w ad n cap hl h1
  have k2 := conv_arg xs w ⟨g, 0, none⟩ n cap' hl (fun j hj => by rw [addr_add, Nat.zero_add]; exact h2 j hj)
  clear h1 h2 hl
  generalize toU xs = u at *
  go_enter Tryd.func18, Tryd.ntmps18
  go_wp2
  go_ret
  exact ⟨rfl, rfl⟩
end Go.Proofs.YtcmjlhcpoajbkaaDoor
