import Derived.Test.YtcmjlhcpoajbkaaDoorLaw
import Derived.Test.YtcmjlhcpoajbkaaDoorTie
import Derived.Test.YtcmjlhcpoajbkaaDoorCards
import Derived.ProofKit
import Derived.OpenShut
import Derived.ShutString
import Derived.ChangeOld
import Derived.LaidMore
import Derived.SizedLaws
import Derived.Stop.Joined
import Derived.Stop.LaidErr
import Derived.Lib.LaidTab
import Derived.SevenTiedAt
namespace Go.Proofs.YtcmjlhcpoajbkaaDoor
set_option maxRecDepth 100000
open Go.ChangeShapes Go.WideShapes Go.ChangeAt Go.RowKit
theorem own : ownKnob Tryd.prog.godebug = none := by kernel_rfl
theorem laidOut : laidOutB Tryd.prog = true := by kernel_rfl
def nStart : String := Rows.hashesRow.named.getD 0 default
def nRounds : String := Rows.hashesRow.named.getD 1 default
theorem gStart : Tryd.prog.globalNamed nStart = some 0 := by kernel_rfl
theorem gRounds : Tryd.prog.globalNamed nRounds = some 1 := by kernel_rfl
theorem tStart : (Tryd.prog.globals[0]?).map (·.type) = some 143 := by kernel_rfl
theorem tRounds : (Tryd.prog.globals[1]?).map (·.type) = some 167 := by kernel_rfl
def laid2 : List (String × DataW Unit) := Rows.hashesRow.laid
theorem door_met (os : Os) (args : Array Value) : laidMetH Tryd.prog laid2 ((World.doorLaid Tryd.prog 400 os).forCall (fun _ _ => 0) ⟨#[], args, []⟩).memory :=
  laidMetH_of_parts3 (fuel := 8) (laidMet_of_run' 8 (by kernel_rfl) (by kernel_rfl)) (by kernel_rfl) (by kernel_rfl)
theorem block_of_var {W : World} {name : String} {g : Nat} {cs : Array Value} (hg : Tryd.prog.globalNamed name = some g) (h : W.var? Tryd.prog name = some cs) : ∃ t fr, W.heap[g]? = some (.cells cs t fr) := by
  unfold World.var? at h
  rw [hg] at h
  simp only [Option.bind_some] at h
  split at h
  · rename_i cs' t fr e
    cases h
    exact ⟨t, fr, e⟩
  · cases h
theorem tabs_of_laid {W : World} (h : laidMetH Tryd.prog laid2 W) : Tabs KS HS W := by
  rw [MakeChecks.laidMetH_plain _ _ _ (by kernel_rfl)] at h
  have h : laidMet Tryd.prog [(nStart, Lib.tabData .u32 HS), (nRounds, Lib.tabData .u32 KS)] W := h
  have h1 : Lib.TabIs Tryd.prog W nStart .u32 HS := Lib.tabIs_of_head (n := 8) gStart tStart und40 Tryd.underlying98 (by kernel_rfl) (by kernel_rfl) h
  have h2 : Lib.TabIs Tryd.prog W nRounds .u32 KS := Lib.tabIs_of_head (n := 64) gRounds tRounds und49 Tryd.underlying98 (by kernel_rfl) (by kernel_rfl) (laidMet.tail h)
  exact ⟨rfl, rfl, block_of_var gStart h1, block_of_var gRounds h2⟩
theorem bytes5 : Tryd.prog.bytesOf 5 = 1 := by kernel_rfl
/-- A slice that was read, as the walk takes it. -/
theorem arg_of {H : Type} {enc : TypeId × Value → H} {W : World} {v : Value} {d : DataW H} {p : List MemPlace} {ts : List TypeId} {ds : List (DataW H)} {base j : Nat}
    (hv : Value.okWide Tryd.prog W .any base 22 v) (h : DataW.Trod enc Tryd.prog W 0 (fun _ => true) true 22 v d p) (hsz : (DataW.weightsEach Tryd.prog ts ds).all (· ≤ reachBytes) = true)
    (ht : ts[j]? = some 22) (hd : ds[j]? = some d) : ∃ xs, Arg W v xs := by
  obtain ⟨a0, len0, cap0, rfl⟩ := okWide_slice Tryd.underlying22 hv
  obtain ⟨fuel, hf⟩ := h
  rcases open_ints Tryd.underlying22 Tryd.underlying5 (by kernel_rfl) hf with ⟨hcs, _⟩ | ⟨x, l, c, zs, hcs, _, hl, hm, hz, hx, hcell, hwz⟩
  · simp [Value.cells] at hcs
    obtain ⟨rfl, rfl, rfl⟩ := hcs
    exact ⟨[], .inl ⟨rfl, rfl⟩⟩
  · simp [Value.cells] at hcs
    obtain ⟨rfl, rfl, rfl⟩ := hcs
    have hz' : zs.length = cap0 := by simpa using hz
    simp only [Prod.mk.injEq] at hx
    have hs := sized_slice hsz ht (by rw [hd, hx.1]) Tryd.underlying22
    rw [bytes5] at hs
    simp only [lits, List.length_map, List.length_take, List.length_drop, reachBytes] at hs
    refine ⟨zs.take len0, .inr ⟨x, len0, cap0, rfl, by rw [List.length_take]; omega, by omega, Bytes.of fun y hy => ?_, fun i hi => ?_⟩⟩
    · have := bounds_u8 (hwz y (List.mem_of_mem_take hy))
      omega
    · rw [hcell i (by omega), List.getD_eq_getElem?_getD, List.getD_eq_getElem?_getD, List.getElem?_take, if_pos hi]
end Go.Proofs.YtcmjlhcpoajbkaaDoor
