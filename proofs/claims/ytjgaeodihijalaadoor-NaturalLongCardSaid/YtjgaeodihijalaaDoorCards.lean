/-
  DERIVED. GIVEN WITH THE SEED: THE CARDS: each row of YtjgaeodihijalaaDoorRows.lean that lists a variable, with what it lists TIED to the program's text (the seventh form; the later family's looks); each row that meets fmt, with fmt's text TOLD by the authors' own Lean function (tested against real Go, not proved from fmt's source: count such statements apart). THE CARD IS WHAT COUNTS. Prove the row's statement (the work); the ties are given (YtjgaeodihijalaaDoorTie.lean); close each card by the builder's one call (the guide's Derived/Test/ToyasCard.lean, 'card_holds'). Laid BY PROGRAM, IN A SANDBOX (cutbox-door.mjs). By AI agents, Wed Nov 11 2026. No macro, syntax, notation, axiom, sorry.
-/
import Derived.Test.YtjgaeodihijalaaDoorRows
import GoSem.ClaimSeven
namespace Go.Proofs.YtjgaeodihijalaaDoor
namespace Rows

/-- THE TIED CARD OF 'drydocklaw01.NaturalExact'. -/
def naturalExactCard : Claim7 := { stood := { row := naturalExactRow, standIns := [], harness := (true, "187cbfb8a163d7429d660860e75072757a59d0b5f986267d1c24ece74826dbc0"), looks := false }, kinds := [], alts := [], laidByText := true, laidKinds := [.data, .pinned], laidTests := true, laidLooks := .later }
def NaturalExactCardSaid : Prop := Claim7.holds Tryd.pinned (.plain (OpenSpec.ofChange naturalExactSpec)) naturalExactCard

/-- THE TIED CARD OF 'drydocklaw01.NaturalLimits'. -/
def naturalLimitsCard : Claim7 := { stood := { row := naturalLimitsRow, standIns := [], harness := (true, "187cbfb8a163d7429d660860e75072757a59d0b5f986267d1c24ece74826dbc0"), looks := false }, kinds := [], alts := [], laidByText := true, laidKinds := [.data, .pinned], laidTests := true, laidLooks := .later }
def NaturalLimitsCardSaid : Prop := Claim7.holds Tryd.pinned (.plain (OpenSpec.ofChange naturalLimitsSpec)) naturalLimitsCard

/-- THE TIED CARD OF 'drydocklaw01.NaturalRing'. -/
def naturalRingCard : Claim7 := { stood := { row := naturalRingRow, standIns := [], harness := (true, "187cbfb8a163d7429d660860e75072757a59d0b5f986267d1c24ece74826dbc0"), looks := false }, kinds := [], alts := [], laidByText := true, laidKinds := [.data, .pinned], laidTests := true, laidLooks := .later }
def NaturalRingCardSaid : Prop := Claim7.holds Tryd.pinned (.plain (OpenSpec.ofChange naturalRingSpec)) naturalRingCard

/-- THE TIED CARD OF 'drydocklaw01.NaturalDivides'. -/
def naturalDividesCard : Claim7 := { stood := { row := naturalDividesRow, standIns := [], harness := (true, "187cbfb8a163d7429d660860e75072757a59d0b5f986267d1c24ece74826dbc0"), looks := false }, kinds := [], alts := [], laidByText := true, laidKinds := [.data, .pinned], laidTests := true, laidLooks := .later }
def NaturalDividesCardSaid : Prop := Claim7.holds Tryd.pinned (.plain (OpenSpec.ofChange naturalDividesSpec)) naturalDividesCard

/-- THE TIED CARD OF 'drydocklaw01.NaturalGcd'. -/
def naturalGcdCard : Claim7 := { stood := { row := naturalGcdRow, standIns := [], harness := (true, "187cbfb8a163d7429d660860e75072757a59d0b5f986267d1c24ece74826dbc0"), looks := false }, kinds := [], alts := [], laidByText := true, laidKinds := [.data, .pinned], laidTests := true, laidLooks := .later }
def NaturalGcdCardSaid : Prop := Claim7.holds Tryd.pinned (.plain (OpenSpec.ofChange naturalGcdSpec)) naturalGcdCard

/-- THE TIED CARD OF 'drydocklaw01.NaturalShifts'. -/
def naturalShiftsCard : Claim7 := { stood := { row := naturalShiftsRow, standIns := [], harness := (true, "187cbfb8a163d7429d660860e75072757a59d0b5f986267d1c24ece74826dbc0"), looks := false }, kinds := [], alts := [], laidByText := true, laidKinds := [.data, .pinned], laidTests := true, laidLooks := .later }
def NaturalShiftsCardSaid : Prop := Claim7.holds Tryd.pinned (.plain (OpenSpec.ofChange naturalShiftsSpec)) naturalShiftsCard

/-- THE TIED CARD OF 'drydocklaw01.NaturalText'. -/
def naturalTextCard : Claim7 := { stood := { row := naturalTextRow, standIns := [], harness := (true, "187cbfb8a163d7429d660860e75072757a59d0b5f986267d1c24ece74826dbc0"), looks := false }, kinds := [], alts := [], laidByText := true, laidKinds := [.data, .pinned], laidTests := true, laidLooks := .later }
def NaturalTextCardSaid : Prop := Claim7.holds Tryd.pinned (.plain (OpenSpec.ofChange naturalTextSpec)) naturalTextCard

/-- THE TIED CARD OF 'drydocklaw01.NaturalOrder'. -/
def naturalOrderCard : Claim7 := { stood := { row := naturalOrderRow, standIns := [], harness := (true, "187cbfb8a163d7429d660860e75072757a59d0b5f986267d1c24ece74826dbc0"), looks := false }, kinds := [], alts := [], laidByText := true, laidKinds := [.data, .pinned], laidTests := true, laidLooks := .later }
def NaturalOrderCardSaid : Prop := Claim7.holds Tryd.pinned (.plain (OpenSpec.ofChange naturalOrderSpec)) naturalOrderCard

/-- THE TIED CARD OF 'drydocklaw01.NaturalLong'. -/
def naturalLongCard : Claim7 := { stood := { row := naturalLongRow, standIns := [], harness := (true, "187cbfb8a163d7429d660860e75072757a59d0b5f986267d1c24ece74826dbc0"), looks := false }, kinds := [], alts := [], laidByText := true, laidKinds := [.data, .pinned], laidTests := true, laidLooks := .later }
def NaturalLongCardSaid : Prop := Claim7.holds Tryd.pinned (.plain (OpenSpec.ofChange naturalLongSpec)) naturalLongCard

/-- THE TIED CARD OF 'drydocklaw02.FractionMake'. -/
def fractionMakeCard : Claim7 := { stood := { row := fractionMakeRow, standIns := [], harness := (true, "187cbfb8a163d7429d660860e75072757a59d0b5f986267d1c24ece74826dbc0"), looks := false }, kinds := [], alts := [], laidByText := true, laidKinds := [.data, .data, .pinned], laidTests := true, laidLooks := .later }
def FractionMakeCardSaid : Prop := Claim7.holds Tryd.pinned (.plain (OpenSpec.ofChange fractionMakeSpec)) fractionMakeCard

/-- THE TIED CARD OF 'drydocklaw02.FractionReduced'. -/
def fractionReducedCard : Claim7 := { stood := { row := fractionReducedRow, standIns := [], harness := (true, "187cbfb8a163d7429d660860e75072757a59d0b5f986267d1c24ece74826dbc0"), looks := false }, kinds := [], alts := [], laidByText := true, laidKinds := [.data, .data, .pinned], laidTests := true, laidLooks := .later }
def FractionReducedCardSaid : Prop := Claim7.holds Tryd.pinned (.plain (OpenSpec.ofChange fractionReducedSpec)) fractionReducedCard

/-- THE SECOND FORM's CARD OF 'drydocklaw01.NaturalExact'. -/
def naturalExactUptoCard : Claim7 := { stood := { row := naturalExactUptoRow, standIns := [], harness := (true, "187cbfb8a163d7429d660860e75072757a59d0b5f986267d1c24ece74826dbc0"), looks := false }, kinds := [], alts := [], laidByText := true, laidKinds := [.data, .pinned], laidTests := true, laidLooks := .later }
def NaturalExactUptoCardSaid : Prop := Claim7.holds Tryd.pinned (.plain (OpenSpec.upto naturalExactSpec)) naturalExactUptoCard

/-- THE SECOND FORM's CARD OF 'drydocklaw01.NaturalLimits'. -/
def naturalLimitsUptoCard : Claim7 := { stood := { row := naturalLimitsUptoRow, standIns := [], harness := (true, "187cbfb8a163d7429d660860e75072757a59d0b5f986267d1c24ece74826dbc0"), looks := false }, kinds := [], alts := [], laidByText := true, laidKinds := [.data, .pinned], laidTests := true, laidLooks := .later }
def NaturalLimitsUptoCardSaid : Prop := Claim7.holds Tryd.pinned (.plain (OpenSpec.upto naturalLimitsSpec)) naturalLimitsUptoCard

/-- THE SECOND FORM's CARD OF 'drydocklaw01.NaturalRing'. -/
def naturalRingUptoCard : Claim7 := { stood := { row := naturalRingUptoRow, standIns := [], harness := (true, "187cbfb8a163d7429d660860e75072757a59d0b5f986267d1c24ece74826dbc0"), looks := false }, kinds := [], alts := [], laidByText := true, laidKinds := [.data, .pinned], laidTests := true, laidLooks := .later }
def NaturalRingUptoCardSaid : Prop := Claim7.holds Tryd.pinned (.plain (OpenSpec.upto naturalRingSpec)) naturalRingUptoCard

/-- THE SECOND FORM's CARD OF 'drydocklaw01.NaturalDivides'. -/
def naturalDividesUptoCard : Claim7 := { stood := { row := naturalDividesUptoRow, standIns := [], harness := (true, "187cbfb8a163d7429d660860e75072757a59d0b5f986267d1c24ece74826dbc0"), looks := false }, kinds := [], alts := [], laidByText := true, laidKinds := [.data, .pinned], laidTests := true, laidLooks := .later }
def NaturalDividesUptoCardSaid : Prop := Claim7.holds Tryd.pinned (.plain (OpenSpec.upto naturalDividesSpec)) naturalDividesUptoCard

/-- THE SECOND FORM's CARD OF 'drydocklaw01.NaturalGcd'. -/
def naturalGcdUptoCard : Claim7 := { stood := { row := naturalGcdUptoRow, standIns := [], harness := (true, "187cbfb8a163d7429d660860e75072757a59d0b5f986267d1c24ece74826dbc0"), looks := false }, kinds := [], alts := [], laidByText := true, laidKinds := [.data, .pinned], laidTests := true, laidLooks := .later }
def NaturalGcdUptoCardSaid : Prop := Claim7.holds Tryd.pinned (.plain (OpenSpec.upto naturalGcdSpec)) naturalGcdUptoCard

/-- THE SECOND FORM's CARD OF 'drydocklaw01.NaturalShifts'. -/
def naturalShiftsUptoCard : Claim7 := { stood := { row := naturalShiftsUptoRow, standIns := [], harness := (true, "187cbfb8a163d7429d660860e75072757a59d0b5f986267d1c24ece74826dbc0"), looks := false }, kinds := [], alts := [], laidByText := true, laidKinds := [.data, .pinned], laidTests := true, laidLooks := .later }
def NaturalShiftsUptoCardSaid : Prop := Claim7.holds Tryd.pinned (.plain (OpenSpec.upto naturalShiftsSpec)) naturalShiftsUptoCard

/-- THE SECOND FORM's CARD OF 'drydocklaw01.NaturalText'. -/
def naturalTextUptoCard : Claim7 := { stood := { row := naturalTextUptoRow, standIns := [], harness := (true, "187cbfb8a163d7429d660860e75072757a59d0b5f986267d1c24ece74826dbc0"), looks := false }, kinds := [], alts := [], laidByText := true, laidKinds := [.data, .pinned], laidTests := true, laidLooks := .later }
def NaturalTextUptoCardSaid : Prop := Claim7.holds Tryd.pinned (.plain (OpenSpec.upto naturalTextSpec)) naturalTextUptoCard

/-- THE SECOND FORM's CARD OF 'drydocklaw01.NaturalOrder'. -/
def naturalOrderUptoCard : Claim7 := { stood := { row := naturalOrderUptoRow, standIns := [], harness := (true, "187cbfb8a163d7429d660860e75072757a59d0b5f986267d1c24ece74826dbc0"), looks := false }, kinds := [], alts := [], laidByText := true, laidKinds := [.data, .pinned], laidTests := true, laidLooks := .later }
def NaturalOrderUptoCardSaid : Prop := Claim7.holds Tryd.pinned (.plain (OpenSpec.upto naturalOrderSpec)) naturalOrderUptoCard

/-- THE SECOND FORM's CARD OF 'drydocklaw01.NaturalLong'. -/
def naturalLongUptoCard : Claim7 := { stood := { row := naturalLongUptoRow, standIns := [], harness := (true, "187cbfb8a163d7429d660860e75072757a59d0b5f986267d1c24ece74826dbc0"), looks := false }, kinds := [], alts := [], laidByText := true, laidKinds := [.data, .pinned], laidTests := true, laidLooks := .later }
def NaturalLongUptoCardSaid : Prop := Claim7.holds Tryd.pinned (.plain (OpenSpec.upto naturalLongSpec)) naturalLongUptoCard

/-- THE SECOND FORM's CARD OF 'drydocklaw02.FractionMake'. -/
def fractionMakeUptoCard : Claim7 := { stood := { row := fractionMakeUptoRow, standIns := [], harness := (true, "187cbfb8a163d7429d660860e75072757a59d0b5f986267d1c24ece74826dbc0"), looks := false }, kinds := [], alts := [], laidByText := true, laidKinds := [.data, .data, .pinned], laidTests := true, laidLooks := .later }
def FractionMakeUptoCardSaid : Prop := Claim7.holds Tryd.pinned (.plain (OpenSpec.upto fractionMakeSpec)) fractionMakeUptoCard

/-- THE SECOND FORM's CARD OF 'drydocklaw02.FractionReduced'. -/
def fractionReducedUptoCard : Claim7 := { stood := { row := fractionReducedUptoRow, standIns := [], harness := (true, "187cbfb8a163d7429d660860e75072757a59d0b5f986267d1c24ece74826dbc0"), looks := false }, kinds := [], alts := [], laidByText := true, laidKinds := [.data, .data, .pinned], laidTests := true, laidLooks := .later }
def FractionReducedUptoCardSaid : Prop := Claim7.holds Tryd.pinned (.plain (OpenSpec.upto fractionReducedSpec)) fractionReducedUptoCard
end Rows
end Go.Proofs.YtjgaeodihijalaaDoor
