/-
  NARROWER THAN 'FOR EVERY INPUT', by the rows' own cells (each row's printed sentence says how): Hashes: laid · Climbs: laid · Signs: laid · Links: laid · Logs: laid · Loads: laid · Clashes: laid · Shown: laid · Grown: laid · Torn: laid · Keyed: laid · Alike: laid.
  DERIVED. THE GIVEN ROWS OF THIS SEAT. 12 by the template 'for every input the law returns true; each argument reads behind the call as it read before'; 0 by the template 'total and deterministic' (their statements: YtcmjlhcpoajbkaaDoorTotals.lean).
  GIVEN WITH THE SEED: the statements are not yours to turn. If you find one false, say at which input.
  Laid BY PROGRAM, IN A SANDBOX (cutbox-rows.mjs): the forced cells as the released guide's own fill.sh prints them over the translation 1c08ae18285fec74… (all of the seat's roots in one cut). By AI agents, Wed Nov 11 2026. No macro, syntax, notation, axiom, sorry.
-/
import Derived.Test.YtcmjlhcpoajbkaaDoorChecked
import GoSem.Claim
import GoSem.ClaimJoined
import GoSem.ClaimMapViews
import Derived.JoinedTies
import Derived.KernelRfl
namespace Go.Proofs.YtcmjlhcpoajbkaaDoor
/- THE CELL 'sum', in the pinned program and in every row, IS THE sha256 OF THE DUMP (.gsa) THAT YtcmjlhcpoajbkaaDoorProg.lean LOADS. Nothing in Lean hashes anything: it is a label: what it is worth is what the hold of that sum in a sandbox is worth. -/
noncomputable def Tryd.pinned : Pinned := { name := "ytcmjlhcpoajbkaadoor", sum := "1c08ae18285fec74fb63a205c1176bed123dbf36f8023cfe9ff1b4732635f89f", checked := Tryd.checked }
namespace Rows
def none {H : Type} : Left H := { results := [], args := [] }

/- WHAT THE LISTED PACKAGE-LEVEL VARIABLES READ AS WHEN THE CALL BEGINS. Each datum BY PROGRAM (the guide's laid-datum.mjs) off the statement by which the dump's own 'gosem.cut.vars' lays the variable. In a bare row this is a premise. The card (YtcmjlhcpoajbkaaDoorCards.lean) ties it to the program's text. -/
def laid_annal_digest_start {H : Type} : DataW H := .agg [.lit (.int .u32 1779033703), .lit (.int .u32 3144134277), .lit (.int .u32 1013904242), .lit (.int .u32 2773480762), .lit (.int .u32 1359893119), .lit (.int .u32 2600822924), .lit (.int .u32 528734635), .lit (.int .u32 1541459225)]
def laid_annal_digest_rounds {H : Type} : DataW H := .agg [.lit (.int .u32 1116352408), .lit (.int .u32 1899447441), .lit (.int .u32 3049323471), .lit (.int .u32 3921009573), .lit (.int .u32 961987163), .lit (.int .u32 1508970993), .lit (.int .u32 2453635748), .lit (.int .u32 2870763221), .lit (.int .u32 3624381080), .lit (.int .u32 310598401), .lit (.int .u32 607225278), .lit (.int .u32 1426881987), .lit (.int .u32 1925078388), .lit (.int .u32 2162078206), .lit (.int .u32 2614888103), .lit (.int .u32 3248222580), .lit (.int .u32 3835390401), .lit (.int .u32 4022224774), .lit (.int .u32 264347078), .lit (.int .u32 604807628), .lit (.int .u32 770255983), .lit (.int .u32 1249150122), .lit (.int .u32 1555081692), .lit (.int .u32 1996064986), .lit (.int .u32 2554220882), .lit (.int .u32 2821834349), .lit (.int .u32 2952996808), .lit (.int .u32 3210313671), .lit (.int .u32 3336571891), .lit (.int .u32 3584528711), .lit (.int .u32 113926993), .lit (.int .u32 338241895), .lit (.int .u32 666307205), .lit (.int .u32 773529912), .lit (.int .u32 1294757372), .lit (.int .u32 1396182291), .lit (.int .u32 1695183700), .lit (.int .u32 1986661051), .lit (.int .u32 2177026350), .lit (.int .u32 2456956037), .lit (.int .u32 2730485921), .lit (.int .u32 2820302411), .lit (.int .u32 3259730800), .lit (.int .u32 3345764771), .lit (.int .u32 3516065817), .lit (.int .u32 3600352804), .lit (.int .u32 4094571909), .lit (.int .u32 275423344), .lit (.int .u32 430227734), .lit (.int .u32 506948616), .lit (.int .u32 659060556), .lit (.int .u32 883997877), .lit (.int .u32 958139571), .lit (.int .u32 1322822218), .lit (.int .u32 1537002063), .lit (.int .u32 1747873779), .lit (.int .u32 1955562222), .lit (.int .u32 2024104815), .lit (.int .u32 2227730452), .lit (.int .u32 2361852424), .lit (.int .u32 2428436474), .lit (.int .u32 2756734187), .lit (.int .u32 3204031479), .lit (.int .u32 3329325298)]

/-- 'annallaw.Hashes': WHATEVER THE INPUT: true; the input reads as it did. -/
def hashesSpec : ChangeSpec := { name := "hashes", fn := fun _ => fun
  | [d1, d2] => { results := [.lit (.bool true)], args := [d1, d2] }
  | _ => none }
def hashesRow : OpenClaim := { program := "ytcmjlhcpoajbkaadoor", sum := "1c08ae18285fec74fb63a205c1176bed123dbf36f8023cfe9ff1b4732635f89f", func := "annal/annallaw.Hashes", spec := "hashes", named := ["annal/digest.start", "annal/digest.rounds"], apart := false, laid := [("annal/digest.start", laid_annal_digest_start), ("annal/digest.rounds", laid_annal_digest_rounds)] }
def HashesSaid : Prop := hashesRow.holds Tryd.pinned (OpenSpec.ofChange hashesSpec)

/-- ITS FALSE NEIGHBOUR: 'it returns false'. Refute it at one input. -/
def hashesWrong : ChangeSpec := { name := "hashes", fn := fun _ => fun
  | [d1, d2] => { results := [.lit (.bool false)], args := [d1, d2] }
  | _ => none }
def HashesWrongFalsely : Prop := hashesRow.holds Tryd.pinned (OpenSpec.ofChange hashesWrong)

/-- 'annallaw.Climbs': WHATEVER THE INPUT: true; the input reads as it did. -/
def climbsSpec : ChangeSpec := { name := "climbs", fn := fun _ => fun
  | [d1, d2, d3, d4] => { results := [.lit (.bool true)], args := [d1, d2, d3, d4] }
  | _ => none }
def climbsRow : OpenClaim := { program := "ytcmjlhcpoajbkaadoor", sum := "1c08ae18285fec74fb63a205c1176bed123dbf36f8023cfe9ff1b4732635f89f", func := "annal/annallaw.Climbs", spec := "climbs", unfollowed := true, recurses := true, named := ["annal/digest.start", "annal/digest.rounds"], apart := false, laid := [("annal/digest.start", laid_annal_digest_start), ("annal/digest.rounds", laid_annal_digest_rounds)] }
def ClimbsSaid : Prop := climbsRow.holds Tryd.pinned (OpenSpec.ofChange climbsSpec)

/-- ITS FALSE NEIGHBOUR: 'it returns false'. Refute it at one input. -/
def climbsWrong : ChangeSpec := { name := "climbs", fn := fun _ => fun
  | [d1, d2, d3, d4] => { results := [.lit (.bool false)], args := [d1, d2, d3, d4] }
  | _ => none }
def ClimbsWrongFalsely : Prop := climbsRow.holds Tryd.pinned (OpenSpec.ofChange climbsWrong)

/-- 'annallaw.Signs': WHATEVER THE INPUT: true; the input reads as it did. -/
def signsSpec : ChangeSpec := { name := "signs", fn := fun _ => fun
  | [d1, d2] => { results := [.lit (.bool true)], args := [d1, d2] }
  | _ => none }
def signsRow : OpenClaim := { program := "ytcmjlhcpoajbkaadoor", sum := "1c08ae18285fec74fb63a205c1176bed123dbf36f8023cfe9ff1b4732635f89f", func := "annal/annallaw.Signs", spec := "signs", named := ["annal/digest.start", "annal/digest.rounds"], apart := false, laid := [("annal/digest.start", laid_annal_digest_start), ("annal/digest.rounds", laid_annal_digest_rounds)] }
def SignsSaid : Prop := signsRow.holds Tryd.pinned (OpenSpec.ofChange signsSpec)

/-- ITS FALSE NEIGHBOUR: 'it returns false'. Refute it at one input. -/
def signsWrong : ChangeSpec := { name := "signs", fn := fun _ => fun
  | [d1, d2] => { results := [.lit (.bool false)], args := [d1, d2] }
  | _ => none }
def SignsWrongFalsely : Prop := signsRow.holds Tryd.pinned (OpenSpec.ofChange signsWrong)

/-- 'annallaw.Links': WHATEVER THE INPUT: true; the input reads as it did. -/
def linksSpec : ChangeSpec := { name := "links", fn := fun _ => fun
  | [d1, d2, d3, d4, d5] => { results := [.lit (.bool true)], args := [d1, d2, d3, d4, d5] }
  | _ => none }
def linksRow : OpenClaim := { program := "ytcmjlhcpoajbkaadoor", sum := "1c08ae18285fec74fb63a205c1176bed123dbf36f8023cfe9ff1b4732635f89f", func := "annal/annallaw.Links", spec := "links", unfollowed := true, recurses := true, named := ["annal/digest.start", "annal/digest.rounds"], apart := false, laid := [("annal/digest.start", laid_annal_digest_start), ("annal/digest.rounds", laid_annal_digest_rounds)] }
def LinksSaid : Prop := linksRow.holds Tryd.pinned (OpenSpec.ofChange linksSpec)

/-- ITS FALSE NEIGHBOUR: 'it returns false'. Refute it at one input. -/
def linksWrong : ChangeSpec := { name := "links", fn := fun _ => fun
  | [d1, d2, d3, d4, d5] => { results := [.lit (.bool false)], args := [d1, d2, d3, d4, d5] }
  | _ => none }
def LinksWrongFalsely : Prop := linksRow.holds Tryd.pinned (OpenSpec.ofChange linksWrong)

/-- 'annallaw.Logs': WHATEVER THE INPUT: true; the input reads as it did. -/
def logsSpec : ChangeSpec := { name := "logs", fn := fun _ => fun
  | [d1, d2] => { results := [.lit (.bool true)], args := [d1, d2] }
  | _ => none }
def logsRow : OpenClaim := { program := "ytcmjlhcpoajbkaadoor", sum := "1c08ae18285fec74fb63a205c1176bed123dbf36f8023cfe9ff1b4732635f89f", func := "annal/annallaw.Logs", spec := "logs", inPlace := ["internal/abi.NoEscape"], unfollowed := true, recurses := true, named := ["annal/digest.start", "annal/digest.rounds"], apart := false, laid := [("annal/digest.start", laid_annal_digest_start), ("annal/digest.rounds", laid_annal_digest_rounds)] }
def LogsSaid : Prop := logsRow.holds Tryd.pinned (OpenSpec.ofChange logsSpec)

/-- ITS FALSE NEIGHBOUR: 'it returns false'. Refute it at one input. -/
def logsWrong : ChangeSpec := { name := "logs", fn := fun _ => fun
  | [d1, d2] => { results := [.lit (.bool false)], args := [d1, d2] }
  | _ => none }
def LogsWrongFalsely : Prop := logsRow.holds Tryd.pinned (OpenSpec.ofChange logsWrong)

/-- 'annallaw.Loads': WHATEVER THE INPUT: true; the input reads as it did. -/
def loadsSpec : ChangeSpec := { name := "loads", fn := fun _ => fun
  | [d1, d2] => { results := [.lit (.bool true)], args := [d1, d2] }
  | _ => none }
def loadsRow : OpenClaim := { program := "ytcmjlhcpoajbkaadoor", sum := "1c08ae18285fec74fb63a205c1176bed123dbf36f8023cfe9ff1b4732635f89f", func := "annal/annallaw.Loads", spec := "loads", inPlace := ["internal/abi.NoEscape"], unfollowed := true, recurses := true, named := ["annal/digest.start", "annal/digest.rounds"], apart := false, laid := [("annal/digest.start", laid_annal_digest_start), ("annal/digest.rounds", laid_annal_digest_rounds)] }
def LoadsSaid : Prop := loadsRow.holds Tryd.pinned (OpenSpec.ofChange loadsSpec)

/-- ITS FALSE NEIGHBOUR: 'it returns false'. Refute it at one input. -/
def loadsWrong : ChangeSpec := { name := "loads", fn := fun _ => fun
  | [d1, d2] => { results := [.lit (.bool false)], args := [d1, d2] }
  | _ => none }
def LoadsWrongFalsely : Prop := loadsRow.holds Tryd.pinned (OpenSpec.ofChange loadsWrong)

/-- 'annallaw.Clashes': WHATEVER THE INPUT: true; the input reads as it did. -/
def clashesSpec : ChangeSpec := { name := "clashes", fn := fun _ => fun
  | [d1, d2, d3, d4, d5, d6] => { results := [.lit (.bool true)], args := [d1, d2, d3, d4, d5, d6] }
  | _ => none }
def clashesRow : OpenClaim := { program := "ytcmjlhcpoajbkaadoor", sum := "1c08ae18285fec74fb63a205c1176bed123dbf36f8023cfe9ff1b4732635f89f", func := "annal/annallaw.Clashes", spec := "clashes", unfollowed := true, recurses := true, named := ["annal/digest.start", "annal/digest.rounds"], apart := false, laid := [("annal/digest.start", laid_annal_digest_start), ("annal/digest.rounds", laid_annal_digest_rounds)] }
def ClashesSaid : Prop := clashesRow.holds Tryd.pinned (OpenSpec.ofChange clashesSpec)

/-- ITS FALSE NEIGHBOUR: 'it returns false'. Refute it at one input. -/
def clashesWrong : ChangeSpec := { name := "clashes", fn := fun _ => fun
  | [d1, d2, d3, d4, d5, d6] => { results := [.lit (.bool false)], args := [d1, d2, d3, d4, d5, d6] }
  | _ => none }
def ClashesWrongFalsely : Prop := clashesRow.holds Tryd.pinned (OpenSpec.ofChange clashesWrong)

/-- 'annalkeep.Shown': WHATEVER THE INPUT: true; the input reads as it did. -/
def shownSpec : ChangeSpec := { name := "shown", fn := fun _ => fun
  | [d1, d2, d3, d4, d5, d6, d7] => { results := [.lit (.bool true)], args := [d1, d2, d3, d4, d5, d6, d7] }
  | _ => none }
def shownRow : OpenClaim := { program := "ytcmjlhcpoajbkaadoor", sum := "1c08ae18285fec74fb63a205c1176bed123dbf36f8023cfe9ff1b4732635f89f", func := "annal/annalkeep.Shown", spec := "shown", unfollowed := true, recurses := true, named := ["annal/digest.start", "annal/digest.rounds"], apart := false, laid := [("annal/digest.start", laid_annal_digest_start), ("annal/digest.rounds", laid_annal_digest_rounds)] }
def ShownSaid : Prop := shownRow.holds Tryd.pinned (OpenSpec.ofChange shownSpec)

/-- ITS FALSE NEIGHBOUR: 'it returns false'. Refute it at one input. -/
def shownWrong : ChangeSpec := { name := "shown", fn := fun _ => fun
  | [d1, d2, d3, d4, d5, d6, d7] => { results := [.lit (.bool false)], args := [d1, d2, d3, d4, d5, d6, d7] }
  | _ => none }
def ShownWrongFalsely : Prop := shownRow.holds Tryd.pinned (OpenSpec.ofChange shownWrong)

/-- 'annalkeep.Grown': WHATEVER THE INPUT: true; the input reads as it did. -/
def grownSpec : ChangeSpec := { name := "grown", fn := fun _ => fun
  | [d1, d2, d3, d4, d5, d6] => { results := [.lit (.bool true)], args := [d1, d2, d3, d4, d5, d6] }
  | _ => none }
def grownRow : OpenClaim := { program := "ytcmjlhcpoajbkaadoor", sum := "1c08ae18285fec74fb63a205c1176bed123dbf36f8023cfe9ff1b4732635f89f", func := "annal/annalkeep.Grown", spec := "grown", unfollowed := true, recurses := true, named := ["annal/digest.start", "annal/digest.rounds"], apart := false, laid := [("annal/digest.start", laid_annal_digest_start), ("annal/digest.rounds", laid_annal_digest_rounds)] }
def GrownSaid : Prop := grownRow.holds Tryd.pinned (OpenSpec.ofChange grownSpec)

/-- ITS FALSE NEIGHBOUR: 'it returns false'. Refute it at one input. -/
def grownWrong : ChangeSpec := { name := "grown", fn := fun _ => fun
  | [d1, d2, d3, d4, d5, d6] => { results := [.lit (.bool false)], args := [d1, d2, d3, d4, d5, d6] }
  | _ => none }
def GrownWrongFalsely : Prop := grownRow.holds Tryd.pinned (OpenSpec.ofChange grownWrong)

/-- 'annalkeep.Torn': WHATEVER THE INPUT: true; the input reads as it did. -/
def tornSpec : ChangeSpec := { name := "torn", fn := fun _ => fun
  | [d1, d2, d3, d4] => { results := [.lit (.bool true)], args := [d1, d2, d3, d4] }
  | _ => none }
def tornRow : OpenClaim := { program := "ytcmjlhcpoajbkaadoor", sum := "1c08ae18285fec74fb63a205c1176bed123dbf36f8023cfe9ff1b4732635f89f", func := "annal/annalkeep.Torn", spec := "torn", inPlace := ["internal/abi.NoEscape"], unfollowed := true, recurses := true, named := ["annal/digest.start", "annal/digest.rounds"], apart := false, laid := [("annal/digest.start", laid_annal_digest_start), ("annal/digest.rounds", laid_annal_digest_rounds)] }
def TornSaid : Prop := tornRow.holds Tryd.pinned (OpenSpec.ofChange tornSpec)

/-- ITS FALSE NEIGHBOUR: 'it returns false'. Refute it at one input. -/
def tornWrong : ChangeSpec := { name := "torn", fn := fun _ => fun
  | [d1, d2, d3, d4] => { results := [.lit (.bool false)], args := [d1, d2, d3, d4] }
  | _ => none }
def TornWrongFalsely : Prop := tornRow.holds Tryd.pinned (OpenSpec.ofChange tornWrong)

/-- 'annalkeep.Keyed': WHATEVER THE INPUT: true; the input reads as it did. -/
def keyedSpec : ChangeSpec := { name := "keyed", fn := fun _ => fun
  | [d1, d2, d3] => { results := [.lit (.bool true)], args := [d1, d2, d3] }
  | _ => none }
def keyedRow : OpenClaim := { program := "ytcmjlhcpoajbkaadoor", sum := "1c08ae18285fec74fb63a205c1176bed123dbf36f8023cfe9ff1b4732635f89f", func := "annal/annalkeep.Keyed", spec := "keyed", inPlace := ["internal/abi.NoEscape"], unfollowed := true, recurses := true, named := ["annal/digest.start", "annal/digest.rounds"], apart := false, laid := [("annal/digest.start", laid_annal_digest_start), ("annal/digest.rounds", laid_annal_digest_rounds)] }
def KeyedSaid : Prop := keyedRow.holds Tryd.pinned (OpenSpec.ofChange keyedSpec)

/-- ITS FALSE NEIGHBOUR: 'it returns false'. Refute it at one input. -/
def keyedWrong : ChangeSpec := { name := "keyed", fn := fun _ => fun
  | [d1, d2, d3] => { results := [.lit (.bool false)], args := [d1, d2, d3] }
  | _ => none }
def KeyedWrongFalsely : Prop := keyedRow.holds Tryd.pinned (OpenSpec.ofChange keyedWrong)

/-- 'annalkeep.Alike': WHATEVER THE INPUT: true; the input reads as it did. -/
def alikeSpec : ChangeSpec := { name := "alike", fn := fun _ => fun
  | [d1, d2, d3, d4] => { results := [.lit (.bool true)], args := [d1, d2, d3, d4] }
  | _ => none }
def alikeRow : OpenClaim := { program := "ytcmjlhcpoajbkaadoor", sum := "1c08ae18285fec74fb63a205c1176bed123dbf36f8023cfe9ff1b4732635f89f", func := "annal/annalkeep.Alike", spec := "alike", inPlace := ["internal/abi.NoEscape"], unfollowed := true, recurses := true, named := ["annal/digest.start", "annal/digest.rounds"], apart := false, laid := [("annal/digest.start", laid_annal_digest_start), ("annal/digest.rounds", laid_annal_digest_rounds)] }
def AlikeSaid : Prop := alikeRow.holds Tryd.pinned (OpenSpec.ofChange alikeSpec)

/-- ITS FALSE NEIGHBOUR: 'it returns false'. Refute it at one input. -/
def alikeWrong : ChangeSpec := { name := "alike", fn := fun _ => fun
  | [d1, d2, d3, d4] => { results := [.lit (.bool false)], args := [d1, d2, d3, d4] }
  | _ => none }
def AlikeWrongFalsely : Prop := alikeRow.holds Tryd.pinned (OpenSpec.ofChange alikeWrong)

/- THE SECOND FORM. 'bulk': how many values and letters a reading holds, each counted each time it is reached (what is shared counts as often as it is met; a slice's spare places count too). A statement '..UptoSaid' is the law's where the arguments, and the package variables that the reading takes, are together of bulk at most 1048576: NARROWER than '..Said'. Prove '..Said' where nothing that the law and all that it calls make is longer than what came in: it says more and counts as full. Else prove '..UptoSaid'. A law counts once. -/
mutual
def uptoBulk {H : Type} : DataW H → Nat
  | .lit (.string bytes) => bytes.length + 1
  | .lit _ => 1
  | .nil => 1
  | .ptr d => uptoBulk d + 1
  | .slice elems spare => uptoBulkAll elems + uptoBulkAll spare + 1
  | .agg parts => uptoBulkAll parts + 1
  | .iface _ d => uptoBulk d + 1
  | .map entries => uptoBulkEntries entries + 1
  | .held _ => 1
def uptoBulkAll {H : Type} : List (DataW H) → Nat
  | [] => 0
  | d :: r => uptoBulk d + uptoBulkAll r
def uptoBulkEntries {H : Type} : List (Lit × DataW H) → Nat
  | [] => 0
  | x :: r => uptoBulkEntry x + uptoBulkEntries r
def uptoBulkEntry {H : Type} : Lit × DataW H → Nat
  | (.string bytes, d) => bytes.length + uptoBulk d + 1
  | (_, d) => uptoBulk d + 1
 end
def uptoSmall : (H : Type) → List (DataW H) → Bool := fun _ ds => decide (uptoBulkAll ds ≤ 1048576)
def OpenSpec.upto (s : _root_.Go.ChangeSpec) : _root_.Go.OpenSpec := { _root_.Go.OpenSpec.ofChange s with cond := some uptoSmall }

/-- 'annallaw.Hashes', WHERE WHAT IT READS IS OF BULK AT MOST 1048576: true; the input reads as it did. -/
def hashesUptoRow : OpenClaim := { program := "ytcmjlhcpoajbkaadoor", sum := "1c08ae18285fec74fb63a205c1176bed123dbf36f8023cfe9ff1b4732635f89f", func := "annal/annallaw.Hashes", spec := "hashes", named := ["annal/digest.start", "annal/digest.rounds"], apart := false, laid := [("annal/digest.start", laid_annal_digest_start), ("annal/digest.rounds", laid_annal_digest_rounds)], narrowed := true }
def HashesUptoSaid : Prop := hashesUptoRow.holds Tryd.pinned (OpenSpec.upto hashesSpec)

/-- 'annallaw.Climbs', WHERE WHAT IT READS IS OF BULK AT MOST 1048576: true; the input reads as it did. -/
def climbsUptoRow : OpenClaim := { program := "ytcmjlhcpoajbkaadoor", sum := "1c08ae18285fec74fb63a205c1176bed123dbf36f8023cfe9ff1b4732635f89f", func := "annal/annallaw.Climbs", spec := "climbs", unfollowed := true, recurses := true, named := ["annal/digest.start", "annal/digest.rounds"], apart := false, laid := [("annal/digest.start", laid_annal_digest_start), ("annal/digest.rounds", laid_annal_digest_rounds)], narrowed := true }
def ClimbsUptoSaid : Prop := climbsUptoRow.holds Tryd.pinned (OpenSpec.upto climbsSpec)

/-- 'annallaw.Signs', WHERE WHAT IT READS IS OF BULK AT MOST 1048576: true; the input reads as it did. -/
def signsUptoRow : OpenClaim := { program := "ytcmjlhcpoajbkaadoor", sum := "1c08ae18285fec74fb63a205c1176bed123dbf36f8023cfe9ff1b4732635f89f", func := "annal/annallaw.Signs", spec := "signs", named := ["annal/digest.start", "annal/digest.rounds"], apart := false, laid := [("annal/digest.start", laid_annal_digest_start), ("annal/digest.rounds", laid_annal_digest_rounds)], narrowed := true }
def SignsUptoSaid : Prop := signsUptoRow.holds Tryd.pinned (OpenSpec.upto signsSpec)

/-- 'annallaw.Links', WHERE WHAT IT READS IS OF BULK AT MOST 1048576: true; the input reads as it did. -/
def linksUptoRow : OpenClaim := { program := "ytcmjlhcpoajbkaadoor", sum := "1c08ae18285fec74fb63a205c1176bed123dbf36f8023cfe9ff1b4732635f89f", func := "annal/annallaw.Links", spec := "links", unfollowed := true, recurses := true, named := ["annal/digest.start", "annal/digest.rounds"], apart := false, laid := [("annal/digest.start", laid_annal_digest_start), ("annal/digest.rounds", laid_annal_digest_rounds)], narrowed := true }
def LinksUptoSaid : Prop := linksUptoRow.holds Tryd.pinned (OpenSpec.upto linksSpec)

/-- 'annallaw.Logs', WHERE WHAT IT READS IS OF BULK AT MOST 1048576: true; the input reads as it did. -/
def logsUptoRow : OpenClaim := { program := "ytcmjlhcpoajbkaadoor", sum := "1c08ae18285fec74fb63a205c1176bed123dbf36f8023cfe9ff1b4732635f89f", func := "annal/annallaw.Logs", spec := "logs", inPlace := ["internal/abi.NoEscape"], unfollowed := true, recurses := true, named := ["annal/digest.start", "annal/digest.rounds"], apart := false, laid := [("annal/digest.start", laid_annal_digest_start), ("annal/digest.rounds", laid_annal_digest_rounds)], narrowed := true }
def LogsUptoSaid : Prop := logsUptoRow.holds Tryd.pinned (OpenSpec.upto logsSpec)

/-- 'annallaw.Loads', WHERE WHAT IT READS IS OF BULK AT MOST 1048576: true; the input reads as it did. -/
def loadsUptoRow : OpenClaim := { program := "ytcmjlhcpoajbkaadoor", sum := "1c08ae18285fec74fb63a205c1176bed123dbf36f8023cfe9ff1b4732635f89f", func := "annal/annallaw.Loads", spec := "loads", inPlace := ["internal/abi.NoEscape"], unfollowed := true, recurses := true, named := ["annal/digest.start", "annal/digest.rounds"], apart := false, laid := [("annal/digest.start", laid_annal_digest_start), ("annal/digest.rounds", laid_annal_digest_rounds)], narrowed := true }
def LoadsUptoSaid : Prop := loadsUptoRow.holds Tryd.pinned (OpenSpec.upto loadsSpec)

/-- 'annallaw.Clashes', WHERE WHAT IT READS IS OF BULK AT MOST 1048576: true; the input reads as it did. -/
def clashesUptoRow : OpenClaim := { program := "ytcmjlhcpoajbkaadoor", sum := "1c08ae18285fec74fb63a205c1176bed123dbf36f8023cfe9ff1b4732635f89f", func := "annal/annallaw.Clashes", spec := "clashes", unfollowed := true, recurses := true, named := ["annal/digest.start", "annal/digest.rounds"], apart := false, laid := [("annal/digest.start", laid_annal_digest_start), ("annal/digest.rounds", laid_annal_digest_rounds)], narrowed := true }
def ClashesUptoSaid : Prop := clashesUptoRow.holds Tryd.pinned (OpenSpec.upto clashesSpec)

/-- 'annalkeep.Shown', WHERE WHAT IT READS IS OF BULK AT MOST 1048576: true; the input reads as it did. -/
def shownUptoRow : OpenClaim := { program := "ytcmjlhcpoajbkaadoor", sum := "1c08ae18285fec74fb63a205c1176bed123dbf36f8023cfe9ff1b4732635f89f", func := "annal/annalkeep.Shown", spec := "shown", unfollowed := true, recurses := true, named := ["annal/digest.start", "annal/digest.rounds"], apart := false, laid := [("annal/digest.start", laid_annal_digest_start), ("annal/digest.rounds", laid_annal_digest_rounds)], narrowed := true }
def ShownUptoSaid : Prop := shownUptoRow.holds Tryd.pinned (OpenSpec.upto shownSpec)

/-- 'annalkeep.Grown', WHERE WHAT IT READS IS OF BULK AT MOST 1048576: true; the input reads as it did. -/
def grownUptoRow : OpenClaim := { program := "ytcmjlhcpoajbkaadoor", sum := "1c08ae18285fec74fb63a205c1176bed123dbf36f8023cfe9ff1b4732635f89f", func := "annal/annalkeep.Grown", spec := "grown", unfollowed := true, recurses := true, named := ["annal/digest.start", "annal/digest.rounds"], apart := false, laid := [("annal/digest.start", laid_annal_digest_start), ("annal/digest.rounds", laid_annal_digest_rounds)], narrowed := true }
def GrownUptoSaid : Prop := grownUptoRow.holds Tryd.pinned (OpenSpec.upto grownSpec)

/-- 'annalkeep.Torn', WHERE WHAT IT READS IS OF BULK AT MOST 1048576: true; the input reads as it did. -/
def tornUptoRow : OpenClaim := { program := "ytcmjlhcpoajbkaadoor", sum := "1c08ae18285fec74fb63a205c1176bed123dbf36f8023cfe9ff1b4732635f89f", func := "annal/annalkeep.Torn", spec := "torn", inPlace := ["internal/abi.NoEscape"], unfollowed := true, recurses := true, named := ["annal/digest.start", "annal/digest.rounds"], apart := false, laid := [("annal/digest.start", laid_annal_digest_start), ("annal/digest.rounds", laid_annal_digest_rounds)], narrowed := true }
def TornUptoSaid : Prop := tornUptoRow.holds Tryd.pinned (OpenSpec.upto tornSpec)

/-- 'annalkeep.Keyed', WHERE WHAT IT READS IS OF BULK AT MOST 1048576: true; the input reads as it did. -/
def keyedUptoRow : OpenClaim := { program := "ytcmjlhcpoajbkaadoor", sum := "1c08ae18285fec74fb63a205c1176bed123dbf36f8023cfe9ff1b4732635f89f", func := "annal/annalkeep.Keyed", spec := "keyed", inPlace := ["internal/abi.NoEscape"], unfollowed := true, recurses := true, named := ["annal/digest.start", "annal/digest.rounds"], apart := false, laid := [("annal/digest.start", laid_annal_digest_start), ("annal/digest.rounds", laid_annal_digest_rounds)], narrowed := true }
def KeyedUptoSaid : Prop := keyedUptoRow.holds Tryd.pinned (OpenSpec.upto keyedSpec)

/-- 'annalkeep.Alike', WHERE WHAT IT READS IS OF BULK AT MOST 1048576: true; the input reads as it did. -/
def alikeUptoRow : OpenClaim := { program := "ytcmjlhcpoajbkaadoor", sum := "1c08ae18285fec74fb63a205c1176bed123dbf36f8023cfe9ff1b4732635f89f", func := "annal/annalkeep.Alike", spec := "alike", inPlace := ["internal/abi.NoEscape"], unfollowed := true, recurses := true, named := ["annal/digest.start", "annal/digest.rounds"], apart := false, laid := [("annal/digest.start", laid_annal_digest_start), ("annal/digest.rounds", laid_annal_digest_rounds)], narrowed := true }
def AlikeUptoSaid : Prop := alikeUptoRow.holds Tryd.pinned (OpenSpec.upto alikeSpec)

end Rows
end Go.Proofs.YtcmjlhcpoajbkaaDoor
