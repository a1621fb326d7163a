import Derived.Test.YtcmjlhcpoajbkaaDoorQTag2
namespace Go.Proofs.YtcmjlhcpoajbkaaDoor
set_option maxRecDepth 10000
open Go.RowKit
/-- A text's bytes as numbers. -/
def toI (l : List UInt8) : List Int := l.map fun b => (b.toNat : Int)
theorem toI_len (l : List UInt8) : (toI l).length = l.length := by simp [toI]
theorem toI_bytes (l : List UInt8) : Bytes (toI l) := .of fun x hx => by
  simp only [toI, List.mem_map] at hx
  obtain ⟨b, _, rfl⟩ := hx
  have := b.toNat_lt
  omega
theorem toI_get (l : List UInt8) (i : Nat) (h : i < l.length) : (toI l).getD i 0 = ((l[i]).toNat : Int) := by
  simp [toI, h]
/-- The constants. -/
def KS : List Int := [1116352408, 1899447441, 3049323471, 3921009573, 961987163, 1508970993, 2453635748, 2870763221, 3624381080, 310598401, 607225278, 1426881987, 1925078388, 2162078206, 2614888103, 3248222580, 3835390401, 4022224774, 264347078, 604807628, 770255983, 1249150122, 1555081692, 1996064986, 2554220882, 2821834349, 2952996808, 3210313671, 3336571891, 3584528711, 113926993, 338241895, 666307205, 773529912, 1294757372, 1396182291, 1695183700, 1986661051, 2177026350, 2456956037, 2730485921, 2820302411, 3259730800, 3345764771, 3516065817, 3600352804, 4094571909, 275423344, 430227734, 506948616, 659060556, 883997877, 958139571, 1322822218, 1537002063, 1747873779, 1955562222, 2024104815, 2227730452, 2361852424, 2428436474, 2756734187, 3204031479, 3329325298]
def HS : List Int := [1779033703, 3144134277, 1013904242, 2773480762, 1359893119, 2600822924, 528734635, 1541459225]
/-- Numbers as a text's bytes. -/
def toU (l : List Int) : List UInt8 := l.map fun n => UInt8.ofNat n.toNat
theorem toU_len (l : List Int) : (toU l).length = l.length := by simp [toU]
theorem toI_toU (l : List Int) (h : Bytes l) : toI (toU l) = l := by
  simp only [toI, toU, List.map_map]
  conv => rhs; rw [← List.map_id l]
  apply List.map_congr_left
  intro x hx
  have := h.mem x hx
  simp only [Function.comp, UInt8.toNat_ofNat', id]
  omega
theorem byte_at (l : List UInt8) (i : Nat) (_h : i < l.length) (h' : i < (ByteArray.mk l.toArray).size) : ((ByteArray.mk l.toArray)[i]'h').toNat = (l[i]).toNat := rfl
end Go.Proofs.YtcmjlhcpoajbkaaDoor
