/-
  DERIVED. GIVEN WITH THE SEED: THE CARDS: each row of YtcmjlhcpoajbkaaDoorRows.lean that lists a variable, with what it lists TIED to the program's text (the seventh form; the later family's looks); each row that meets fmt, with fmt's text TOLD by the authors' own Lean function (tested against real Go, not proved from fmt's source: count such statements apart). THE CARD IS WHAT COUNTS. Prove the row's statement (the work); the ties are given (YtcmjlhcpoajbkaaDoorTie.lean); close each card by the builder's one call (the guide's Derived/Test/ToyasCard.lean, 'card_holds'). Laid BY PROGRAM, IN A SANDBOX (cutbox-door.mjs). By AI agents, Wed Nov 11 2026. No macro, syntax, notation, axiom, sorry.
-/
import Derived.Test.YtcmjlhcpoajbkaaDoorRows
import GoSem.ClaimSeven
namespace Go.Proofs.YtcmjlhcpoajbkaaDoor
namespace Rows

/-- THE TIED CARD OF 'annallaw.Hashes'. -/
def hashesCard : Claim7 := { stood := { row := hashesRow, standIns := [], harness := (true, "52b84f4dead2c98f5d91f03697ce96b245a1ac23cf2c4e28f6ecb637a75c930f"), looks := false }, kinds := [], alts := [], laidByText := true, laidKinds := [.wider, .data], laidTests := true, laidLooks := .later }
def HashesCardSaid : Prop := Claim7.holds Tryd.pinned (.plain (OpenSpec.ofChange hashesSpec)) hashesCard

/-- THE TIED CARD OF 'annallaw.Climbs'. -/
def climbsCard : Claim7 := { stood := { row := climbsRow, standIns := [], harness := (true, "52b84f4dead2c98f5d91f03697ce96b245a1ac23cf2c4e28f6ecb637a75c930f"), looks := false }, kinds := [], alts := [], laidByText := true, laidKinds := [.wider, .data], laidTests := true, laidLooks := .later }
def ClimbsCardSaid : Prop := Claim7.holds Tryd.pinned (.plain (OpenSpec.ofChange climbsSpec)) climbsCard

/-- THE TIED CARD OF 'annallaw.Signs'. -/
def signsCard : Claim7 := { stood := { row := signsRow, standIns := [], harness := (true, "52b84f4dead2c98f5d91f03697ce96b245a1ac23cf2c4e28f6ecb637a75c930f"), looks := false }, kinds := [], alts := [], laidByText := true, laidKinds := [.wider, .data], laidTests := true, laidLooks := .later }
def SignsCardSaid : Prop := Claim7.holds Tryd.pinned (.plain (OpenSpec.ofChange signsSpec)) signsCard

/-- THE TIED CARD OF 'annallaw.Links'. -/
def linksCard : Claim7 := { stood := { row := linksRow, standIns := [], harness := (true, "52b84f4dead2c98f5d91f03697ce96b245a1ac23cf2c4e28f6ecb637a75c930f"), looks := false }, kinds := [], alts := [], laidByText := true, laidKinds := [.wider, .data], laidTests := true, laidLooks := .later }
def LinksCardSaid : Prop := Claim7.holds Tryd.pinned (.plain (OpenSpec.ofChange linksSpec)) linksCard

/-- THE TIED CARD OF 'annallaw.Logs'. -/
def logsCard : Claim7 := { stood := { row := logsRow, standIns := [], harness := (true, "52b84f4dead2c98f5d91f03697ce96b245a1ac23cf2c4e28f6ecb637a75c930f"), looks := false }, kinds := [], alts := [], laidByText := true, laidKinds := [.wider, .data], laidTests := true, laidLooks := .later }
def LogsCardSaid : Prop := Claim7.holds Tryd.pinned (.plain (OpenSpec.ofChange logsSpec)) logsCard

/-- THE TIED CARD OF 'annallaw.Loads'. -/
def loadsCard : Claim7 := { stood := { row := loadsRow, standIns := [], harness := (true, "52b84f4dead2c98f5d91f03697ce96b245a1ac23cf2c4e28f6ecb637a75c930f"), looks := false }, kinds := [], alts := [], laidByText := true, laidKinds := [.wider, .data], laidTests := true, laidLooks := .later }
def LoadsCardSaid : Prop := Claim7.holds Tryd.pinned (.plain (OpenSpec.ofChange loadsSpec)) loadsCard

/-- THE TIED CARD OF 'annallaw.Clashes'. -/
def clashesCard : Claim7 := { stood := { row := clashesRow, standIns := [], harness := (true, "52b84f4dead2c98f5d91f03697ce96b245a1ac23cf2c4e28f6ecb637a75c930f"), looks := false }, kinds := [], alts := [], laidByText := true, laidKinds := [.wider, .data], laidTests := true, laidLooks := .later }
def ClashesCardSaid : Prop := Claim7.holds Tryd.pinned (.plain (OpenSpec.ofChange clashesSpec)) clashesCard

/-- THE TIED CARD OF 'annalkeep.Shown'. -/
def shownCard : Claim7 := { stood := { row := shownRow, standIns := [], harness := (true, "52b84f4dead2c98f5d91f03697ce96b245a1ac23cf2c4e28f6ecb637a75c930f"), looks := false }, kinds := [], alts := [], laidByText := true, laidKinds := [.wider, .data], laidTests := true, laidLooks := .later }
def ShownCardSaid : Prop := Claim7.holds Tryd.pinned (.plain (OpenSpec.ofChange shownSpec)) shownCard

/-- THE TIED CARD OF 'annalkeep.Grown'. -/
def grownCard : Claim7 := { stood := { row := grownRow, standIns := [], harness := (true, "52b84f4dead2c98f5d91f03697ce96b245a1ac23cf2c4e28f6ecb637a75c930f"), looks := false }, kinds := [], alts := [], laidByText := true, laidKinds := [.wider, .data], laidTests := true, laidLooks := .later }
def GrownCardSaid : Prop := Claim7.holds Tryd.pinned (.plain (OpenSpec.ofChange grownSpec)) grownCard

/-- THE TIED CARD OF 'annalkeep.Torn'. -/
def tornCard : Claim7 := { stood := { row := tornRow, standIns := [], harness := (true, "52b84f4dead2c98f5d91f03697ce96b245a1ac23cf2c4e28f6ecb637a75c930f"), looks := false }, kinds := [], alts := [], laidByText := true, laidKinds := [.wider, .data], laidTests := true, laidLooks := .later }
def TornCardSaid : Prop := Claim7.holds Tryd.pinned (.plain (OpenSpec.ofChange tornSpec)) tornCard

/-- THE TIED CARD OF 'annalkeep.Keyed'. -/
def keyedCard : Claim7 := { stood := { row := keyedRow, standIns := [], harness := (true, "52b84f4dead2c98f5d91f03697ce96b245a1ac23cf2c4e28f6ecb637a75c930f"), looks := false }, kinds := [], alts := [], laidByText := true, laidKinds := [.wider, .data], laidTests := true, laidLooks := .later }
def KeyedCardSaid : Prop := Claim7.holds Tryd.pinned (.plain (OpenSpec.ofChange keyedSpec)) keyedCard

/-- THE TIED CARD OF 'annalkeep.Alike'. -/
def alikeCard : Claim7 := { stood := { row := alikeRow, standIns := [], harness := (true, "52b84f4dead2c98f5d91f03697ce96b245a1ac23cf2c4e28f6ecb637a75c930f"), looks := false }, kinds := [], alts := [], laidByText := true, laidKinds := [.wider, .data], laidTests := true, laidLooks := .later }
def AlikeCardSaid : Prop := Claim7.holds Tryd.pinned (.plain (OpenSpec.ofChange alikeSpec)) alikeCard

/-- THE SECOND FORM's CARD OF 'annallaw.Hashes'. -/
def hashesUptoCard : Claim7 := { stood := { row := hashesUptoRow, standIns := [], harness := (true, "52b84f4dead2c98f5d91f03697ce96b245a1ac23cf2c4e28f6ecb637a75c930f"), looks := false }, kinds := [], alts := [], laidByText := true, laidKinds := [.wider, .data], laidTests := true, laidLooks := .later }
def HashesUptoCardSaid : Prop := Claim7.holds Tryd.pinned (.plain (OpenSpec.upto hashesSpec)) hashesUptoCard

/-- THE SECOND FORM's CARD OF 'annallaw.Climbs'. -/
def climbsUptoCard : Claim7 := { stood := { row := climbsUptoRow, standIns := [], harness := (true, "52b84f4dead2c98f5d91f03697ce96b245a1ac23cf2c4e28f6ecb637a75c930f"), looks := false }, kinds := [], alts := [], laidByText := true, laidKinds := [.wider, .data], laidTests := true, laidLooks := .later }
def ClimbsUptoCardSaid : Prop := Claim7.holds Tryd.pinned (.plain (OpenSpec.upto climbsSpec)) climbsUptoCard

/-- THE SECOND FORM's CARD OF 'annallaw.Signs'. -/
def signsUptoCard : Claim7 := { stood := { row := signsUptoRow, standIns := [], harness := (true, "52b84f4dead2c98f5d91f03697ce96b245a1ac23cf2c4e28f6ecb637a75c930f"), looks := false }, kinds := [], alts := [], laidByText := true, laidKinds := [.wider, .data], laidTests := true, laidLooks := .later }
def SignsUptoCardSaid : Prop := Claim7.holds Tryd.pinned (.plain (OpenSpec.upto signsSpec)) signsUptoCard

/-- THE SECOND FORM's CARD OF 'annallaw.Links'. -/
def linksUptoCard : Claim7 := { stood := { row := linksUptoRow, standIns := [], harness := (true, "52b84f4dead2c98f5d91f03697ce96b245a1ac23cf2c4e28f6ecb637a75c930f"), looks := false }, kinds := [], alts := [], laidByText := true, laidKinds := [.wider, .data], laidTests := true, laidLooks := .later }
def LinksUptoCardSaid : Prop := Claim7.holds Tryd.pinned (.plain (OpenSpec.upto linksSpec)) linksUptoCard

/-- THE SECOND FORM's CARD OF 'annallaw.Logs'. -/
def logsUptoCard : Claim7 := { stood := { row := logsUptoRow, standIns := [], harness := (true, "52b84f4dead2c98f5d91f03697ce96b245a1ac23cf2c4e28f6ecb637a75c930f"), looks := false }, kinds := [], alts := [], laidByText := true, laidKinds := [.wider, .data], laidTests := true, laidLooks := .later }
def LogsUptoCardSaid : Prop := Claim7.holds Tryd.pinned (.plain (OpenSpec.upto logsSpec)) logsUptoCard

/-- THE SECOND FORM's CARD OF 'annallaw.Loads'. -/
def loadsUptoCard : Claim7 := { stood := { row := loadsUptoRow, standIns := [], harness := (true, "52b84f4dead2c98f5d91f03697ce96b245a1ac23cf2c4e28f6ecb637a75c930f"), looks := false }, kinds := [], alts := [], laidByText := true, laidKinds := [.wider, .data], laidTests := true, laidLooks := .later }
def LoadsUptoCardSaid : Prop := Claim7.holds Tryd.pinned (.plain (OpenSpec.upto loadsSpec)) loadsUptoCard

/-- THE SECOND FORM's CARD OF 'annallaw.Clashes'. -/
def clashesUptoCard : Claim7 := { stood := { row := clashesUptoRow, standIns := [], harness := (true, "52b84f4dead2c98f5d91f03697ce96b245a1ac23cf2c4e28f6ecb637a75c930f"), looks := false }, kinds := [], alts := [], laidByText := true, laidKinds := [.wider, .data], laidTests := true, laidLooks := .later }
def ClashesUptoCardSaid : Prop := Claim7.holds Tryd.pinned (.plain (OpenSpec.upto clashesSpec)) clashesUptoCard

/-- THE SECOND FORM's CARD OF 'annalkeep.Shown'. -/
def shownUptoCard : Claim7 := { stood := { row := shownUptoRow, standIns := [], harness := (true, "52b84f4dead2c98f5d91f03697ce96b245a1ac23cf2c4e28f6ecb637a75c930f"), looks := false }, kinds := [], alts := [], laidByText := true, laidKinds := [.wider, .data], laidTests := true, laidLooks := .later }
def ShownUptoCardSaid : Prop := Claim7.holds Tryd.pinned (.plain (OpenSpec.upto shownSpec)) shownUptoCard

/-- THE SECOND FORM's CARD OF 'annalkeep.Grown'. -/
def grownUptoCard : Claim7 := { stood := { row := grownUptoRow, standIns := [], harness := (true, "52b84f4dead2c98f5d91f03697ce96b245a1ac23cf2c4e28f6ecb637a75c930f"), looks := false }, kinds := [], alts := [], laidByText := true, laidKinds := [.wider, .data], laidTests := true, laidLooks := .later }
def GrownUptoCardSaid : Prop := Claim7.holds Tryd.pinned (.plain (OpenSpec.upto grownSpec)) grownUptoCard

/-- THE SECOND FORM's CARD OF 'annalkeep.Torn'. -/
def tornUptoCard : Claim7 := { stood := { row := tornUptoRow, standIns := [], harness := (true, "52b84f4dead2c98f5d91f03697ce96b245a1ac23cf2c4e28f6ecb637a75c930f"), looks := false }, kinds := [], alts := [], laidByText := true, laidKinds := [.wider, .data], laidTests := true, laidLooks := .later }
def TornUptoCardSaid : Prop := Claim7.holds Tryd.pinned (.plain (OpenSpec.upto tornSpec)) tornUptoCard

/-- THE SECOND FORM's CARD OF 'annalkeep.Keyed'. -/
def keyedUptoCard : Claim7 := { stood := { row := keyedUptoRow, standIns := [], harness := (true, "52b84f4dead2c98f5d91f03697ce96b245a1ac23cf2c4e28f6ecb637a75c930f"), looks := false }, kinds := [], alts := [], laidByText := true, laidKinds := [.wider, .data], laidTests := true, laidLooks := .later }
def KeyedUptoCardSaid : Prop := Claim7.holds Tryd.pinned (.plain (OpenSpec.upto keyedSpec)) keyedUptoCard

/-- THE SECOND FORM's CARD OF 'annalkeep.Alike'. -/
def alikeUptoCard : Claim7 := { stood := { row := alikeUptoRow, standIns := [], harness := (true, "52b84f4dead2c98f5d91f03697ce96b245a1ac23cf2c4e28f6ecb637a75c930f"), looks := false }, kinds := [], alts := [], laidByText := true, laidKinds := [.wider, .data], laidTests := true, laidLooks := .later }
def AlikeUptoCardSaid : Prop := Claim7.holds Tryd.pinned (.plain (OpenSpec.upto alikeSpec)) alikeUptoCard
end Rows
end Go.Proofs.YtcmjlhcpoajbkaaDoor
