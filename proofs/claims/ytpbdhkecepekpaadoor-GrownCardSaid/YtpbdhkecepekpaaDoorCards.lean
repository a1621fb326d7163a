/-
  DERIVED. GIVEN WITH THE SEED: THE CARDS: each row of YtpbdhkecepekpaaDoorRows.lean that lists a variable, with what it lists TIED to the program's text (the seventh form; the later family's looks); each row that meets fmt, with fmt's text TOLD by the authors' own Lean function (tested against real Go, not proved from fmt's source: count such statements apart). THE CARD IS WHAT COUNTS. Prove the row's statement (the work); the ties are given (YtpbdhkecepekpaaDoorTie.lean); close each card by the builder's one call (the guide's Derived/Test/ToyasCard.lean, 'card_holds'). Laid BY PROGRAM, IN A SANDBOX (cutbox-door.mjs). By AI agents, Wed Nov 11 2026. No macro, syntax, notation, axiom, sorry.
-/
import Derived.Test.YtpbdhkecepekpaaDoorRows
import GoSem.ClaimSeven
namespace Go.Proofs.YtpbdhkecepekpaaDoor
namespace Rows

/-- THE TIED CARD OF 'annallaw.Hashes'. -/
def hashesCard : Claim7 := { stood := { row := hashesRow, standIns := [], harness := (true, "bf2d82cfa3a8a17bf380d0b05b317a316f10c0283a9a2c04e5f3fddd87d4dc55"), looks := false }, kinds := [], alts := [], laidByText := true, laidKinds := [.wider, .data], laidTests := true, laidLooks := .later }
def HashesCardSaid : Prop := Claim7.holds Tryd.pinned (.plain (OpenSpec.ofChange hashesSpec)) hashesCard

/-- THE TIED CARD OF 'annallaw.Climbs'. -/
def climbsCard : Claim7 := { stood := { row := climbsRow, standIns := [], harness := (true, "bf2d82cfa3a8a17bf380d0b05b317a316f10c0283a9a2c04e5f3fddd87d4dc55"), looks := false }, kinds := [], alts := [], laidByText := true, laidKinds := [.wider, .data], laidTests := true, laidLooks := .later }
def ClimbsCardSaid : Prop := Claim7.holds Tryd.pinned (.plain (OpenSpec.ofChange climbsSpec)) climbsCard

/-- THE TIED CARD OF 'annallaw.Signs'. -/
def signsCard : Claim7 := { stood := { row := signsRow, standIns := [], harness := (true, "bf2d82cfa3a8a17bf380d0b05b317a316f10c0283a9a2c04e5f3fddd87d4dc55"), looks := false }, kinds := [], alts := [], laidByText := true, laidKinds := [.wider, .data], laidTests := true, laidLooks := .later }
def SignsCardSaid : Prop := Claim7.holds Tryd.pinned (.plain (OpenSpec.ofChange signsSpec)) signsCard

/-- THE TIED CARD OF 'annallaw.Links'. -/
def linksCard : Claim7 := { stood := { row := linksRow, standIns := [], harness := (true, "bf2d82cfa3a8a17bf380d0b05b317a316f10c0283a9a2c04e5f3fddd87d4dc55"), looks := false }, kinds := [], alts := [], laidByText := true, laidKinds := [.wider, .data], laidTests := true, laidLooks := .later }
def LinksCardSaid : Prop := Claim7.holds Tryd.pinned (.plain (OpenSpec.ofChange linksSpec)) linksCard

/-- THE TIED CARD OF 'annalkeep.Grown'. -/
def grownCard : Claim7 := { stood := { row := grownRow, standIns := [], harness := (true, "bf2d82cfa3a8a17bf380d0b05b317a316f10c0283a9a2c04e5f3fddd87d4dc55"), looks := false }, kinds := [], alts := [], laidByText := true, laidKinds := [.wider, .data], laidTests := true, laidLooks := .later }
def GrownCardSaid : Prop := Claim7.holds Tryd.pinned (.plain (OpenSpec.ofChange grownSpec)) grownCard

/-- THE TIED CARD OF 'annalkeep.Alike'. -/
def alikeCard : Claim7 := { stood := { row := alikeRow, standIns := [], harness := (true, "bf2d82cfa3a8a17bf380d0b05b317a316f10c0283a9a2c04e5f3fddd87d4dc55"), looks := false }, kinds := [], alts := [], laidByText := true, laidKinds := [.wider, .data], laidTests := true, laidLooks := .later }
def AlikeCardSaid : Prop := Claim7.holds Tryd.pinned (.plain (OpenSpec.ofChange alikeSpec)) alikeCard

/-- THE SECOND FORM's CARD OF 'annallaw.Hashes'. -/
def hashesUptoCard : Claim7 := { stood := { row := hashesUptoRow, standIns := [], harness := (true, "bf2d82cfa3a8a17bf380d0b05b317a316f10c0283a9a2c04e5f3fddd87d4dc55"), looks := false }, kinds := [], alts := [], laidByText := true, laidKinds := [.wider, .data], laidTests := true, laidLooks := .later }
def HashesUptoCardSaid : Prop := Claim7.holds Tryd.pinned (.plain (OpenSpec.upto hashesSpec)) hashesUptoCard

/-- THE SECOND FORM's CARD OF 'annallaw.Climbs'. -/
def climbsUptoCard : Claim7 := { stood := { row := climbsUptoRow, standIns := [], harness := (true, "bf2d82cfa3a8a17bf380d0b05b317a316f10c0283a9a2c04e5f3fddd87d4dc55"), looks := false }, kinds := [], alts := [], laidByText := true, laidKinds := [.wider, .data], laidTests := true, laidLooks := .later }
def ClimbsUptoCardSaid : Prop := Claim7.holds Tryd.pinned (.plain (OpenSpec.upto climbsSpec)) climbsUptoCard

/-- THE SECOND FORM's CARD OF 'annallaw.Signs'. -/
def signsUptoCard : Claim7 := { stood := { row := signsUptoRow, standIns := [], harness := (true, "bf2d82cfa3a8a17bf380d0b05b317a316f10c0283a9a2c04e5f3fddd87d4dc55"), looks := false }, kinds := [], alts := [], laidByText := true, laidKinds := [.wider, .data], laidTests := true, laidLooks := .later }
def SignsUptoCardSaid : Prop := Claim7.holds Tryd.pinned (.plain (OpenSpec.upto signsSpec)) signsUptoCard

/-- THE SECOND FORM's CARD OF 'annallaw.Links'. -/
def linksUptoCard : Claim7 := { stood := { row := linksUptoRow, standIns := [], harness := (true, "bf2d82cfa3a8a17bf380d0b05b317a316f10c0283a9a2c04e5f3fddd87d4dc55"), looks := false }, kinds := [], alts := [], laidByText := true, laidKinds := [.wider, .data], laidTests := true, laidLooks := .later }
def LinksUptoCardSaid : Prop := Claim7.holds Tryd.pinned (.plain (OpenSpec.upto linksSpec)) linksUptoCard

/-- THE SECOND FORM's CARD OF 'annalkeep.Grown'. -/
def grownUptoCard : Claim7 := { stood := { row := grownUptoRow, standIns := [], harness := (true, "bf2d82cfa3a8a17bf380d0b05b317a316f10c0283a9a2c04e5f3fddd87d4dc55"), looks := false }, kinds := [], alts := [], laidByText := true, laidKinds := [.wider, .data], laidTests := true, laidLooks := .later }
def GrownUptoCardSaid : Prop := Claim7.holds Tryd.pinned (.plain (OpenSpec.upto grownSpec)) grownUptoCard

/-- THE SECOND FORM's CARD OF 'annalkeep.Alike'. -/
def alikeUptoCard : Claim7 := { stood := { row := alikeUptoRow, standIns := [], harness := (true, "bf2d82cfa3a8a17bf380d0b05b317a316f10c0283a9a2c04e5f3fddd87d4dc55"), looks := false }, kinds := [], alts := [], laidByText := true, laidKinds := [.wider, .data], laidTests := true, laidLooks := .later }
def AlikeUptoCardSaid : Prop := Claim7.holds Tryd.pinned (.plain (OpenSpec.upto alikeSpec)) alikeUptoCard
end Rows
end Go.Proofs.YtpbdhkecepekpaaDoor
