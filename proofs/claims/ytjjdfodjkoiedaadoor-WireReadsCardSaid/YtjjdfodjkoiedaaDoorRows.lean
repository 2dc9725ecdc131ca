/-
  NARROWER THAN 'FOR EVERY INPUT', by the rows' own cells (each row's printed sentence says how): WireWrites: laid · WireReads: laid · WireReturns: laid · WireOne: laid · WireStops: laid · WireNumbers: laid · WireNil: laid.
  DERIVED. THE GIVEN ROWS OF THIS SEAT. 7 by the template 'for every input the law returns true; each argument reads behind the call as it read before'; 0 by the template 'total and deterministic' (their statements: YtjjdfodjkoiedaaDoorTotals.lean).
  GIVEN WITH THE SEED: the statements are not yours to turn. If you find one false, say at which input.
  Laid BY PROGRAM, IN A SANDBOX (cutbox-rows.mjs): the forced cells as the released guide's own fill.sh prints them over the translation d4974513eaa13b6d… (all of the seat's roots in one cut). By AI agents, Wed Nov 11 2026. No macro, syntax, notation, axiom, sorry.
-/
import Derived.Test.YtjjdfodjkoiedaaDoorChecked
import GoSem.Claim
import GoSem.ClaimJoined
import GoSem.ClaimMapViews
import Derived.JoinedTies
import Derived.KernelRfl
namespace Go.Proofs.YtjjdfodjkoiedaaDoor
/- THE CELL 'sum', in the pinned program and in every row, IS THE sha256 OF THE DUMP (.gsa) THAT YtjjdfodjkoiedaaDoorProg.lean LOADS. Nothing in Lean hashes anything: it is a label: what it is worth is what the hold of that sum in a sandbox is worth. -/
noncomputable def Tryd.pinned : Pinned := { name := "ytjjdfodjkoiedaadoor", sum := "d4974513eaa13b6dedd28c3f8a11099ad8e2cc935e2ecb364597d8c046575659", checked := Tryd.checked }
namespace Rows
def none {H : Type} : Left H := { results := [], args := [] }

/- WHAT THE LISTED PACKAGE-LEVEL VARIABLES READ AS WHEN THE CALL BEGINS. Each datum BY PROGRAM (the guide's laid-datum.mjs) off the statement by which the dump's own 'gosem.cut.vars' lays the variable. In a bare row this is a premise. The card (YtjjdfodjkoiedaaDoorCards.lean) ties it to the program's text. -/
def laid_acheron_wire_shapes {H : Type} : DataW H := .agg [.agg [.lit (.int .i64 1), .lit (.int .i64 7), .lit (.int .u8 0), .lit (.int .u8 127)], .agg [.lit (.int .i64 2), .lit (.int .i64 14), .lit (.int .u8 128), .lit (.int .u8 63)], .agg [.lit (.int .i64 4), .lit (.int .i64 29), .lit (.int .u8 192), .lit (.int .u8 31)], .agg [.lit (.int .i64 9), .lit (.int .i64 64), .lit (.int .u8 224), .lit (.int .u8 0)]]

/-- 'acheronlaw02.WireWrites': WHATEVER THE INPUT: true; the input reads as it did. -/
def wireWritesSpec : ChangeSpec := { name := "wireWrites", fn := fun _ => fun
  | [d] => { results := [.lit (.bool true)], args := [d] }
  | _ => none }
def wireWritesRow : OpenClaim := { program := "ytjjdfodjkoiedaadoor", sum := "d4974513eaa13b6dedd28c3f8a11099ad8e2cc935e2ecb364597d8c046575659", func := "acheron/acheronlaw02.WireWrites", spec := "wireWrites", unfollowed := true, recurses := true, named := ["acheron/wire.shapes"], apart := false, laid := [("acheron/wire.shapes", laid_acheron_wire_shapes)] }
def WireWritesSaid : Prop := wireWritesRow.holds Tryd.pinned (OpenSpec.ofChange wireWritesSpec)

/-- ITS FALSE NEIGHBOUR: 'it returns false'. Refute it at one input. -/
def wireWritesWrong : ChangeSpec := { name := "wireWrites", fn := fun _ => fun
  | [d] => { results := [.lit (.bool false)], args := [d] }
  | _ => none }
def WireWritesWrongFalsely : Prop := wireWritesRow.holds Tryd.pinned (OpenSpec.ofChange wireWritesWrong)

/-- 'acheronlaw02.WireReads': WHATEVER THE INPUT: true; the input reads as it did. -/
def wireReadsSpec : ChangeSpec := { name := "wireReads", fn := fun _ => fun
  | [d1, d2] => { results := [.lit (.bool true)], args := [d1, d2] }
  | _ => none }
def wireReadsRow : OpenClaim := { program := "ytjjdfodjkoiedaadoor", sum := "d4974513eaa13b6dedd28c3f8a11099ad8e2cc935e2ecb364597d8c046575659", func := "acheron/acheronlaw02.WireReads", spec := "wireReads", unfollowed := true, recurses := true, named := ["acheron/wire.shapes"], apart := false, laid := [("acheron/wire.shapes", laid_acheron_wire_shapes)] }
def WireReadsSaid : Prop := wireReadsRow.holds Tryd.pinned (OpenSpec.ofChange wireReadsSpec)

/-- ITS FALSE NEIGHBOUR: 'it returns false'. Refute it at one input. -/
def wireReadsWrong : ChangeSpec := { name := "wireReads", fn := fun _ => fun
  | [d1, d2] => { results := [.lit (.bool false)], args := [d1, d2] }
  | _ => none }
def WireReadsWrongFalsely : Prop := wireReadsRow.holds Tryd.pinned (OpenSpec.ofChange wireReadsWrong)

/-- 'acheronlaw02.WireReturns': WHATEVER THE INPUT: true; the input reads as it did. -/
def wireReturnsSpec : ChangeSpec := { name := "wireReturns", fn := fun _ => fun
  | [d1, d2] => { results := [.lit (.bool true)], args := [d1, d2] }
  | _ => none }
def wireReturnsRow : OpenClaim := { program := "ytjjdfodjkoiedaadoor", sum := "d4974513eaa13b6dedd28c3f8a11099ad8e2cc935e2ecb364597d8c046575659", func := "acheron/acheronlaw02.WireReturns", spec := "wireReturns", unfollowed := true, recurses := true, named := ["acheron/wire.shapes"], apart := false, laid := [("acheron/wire.shapes", laid_acheron_wire_shapes)] }
def WireReturnsSaid : Prop := wireReturnsRow.holds Tryd.pinned (OpenSpec.ofChange wireReturnsSpec)

/-- ITS FALSE NEIGHBOUR: 'it returns false'. Refute it at one input. -/
def wireReturnsWrong : ChangeSpec := { name := "wireReturns", fn := fun _ => fun
  | [d1, d2] => { results := [.lit (.bool false)], args := [d1, d2] }
  | _ => none }
def WireReturnsWrongFalsely : Prop := wireReturnsRow.holds Tryd.pinned (OpenSpec.ofChange wireReturnsWrong)

/-- 'acheronlaw02.WireOne': WHATEVER THE INPUT: true; the input reads as it did. -/
def wireOneSpec : ChangeSpec := { name := "wireOne", fn := fun _ => fun
  | [d1, d2] => { results := [.lit (.bool true)], args := [d1, d2] }
  | _ => none }
def wireOneRow : OpenClaim := { program := "ytjjdfodjkoiedaadoor", sum := "d4974513eaa13b6dedd28c3f8a11099ad8e2cc935e2ecb364597d8c046575659", func := "acheron/acheronlaw02.WireOne", spec := "wireOne", unfollowed := true, recurses := true, named := ["acheron/wire.shapes"], apart := false, laid := [("acheron/wire.shapes", laid_acheron_wire_shapes)] }
def WireOneSaid : Prop := wireOneRow.holds Tryd.pinned (OpenSpec.ofChange wireOneSpec)

/-- ITS FALSE NEIGHBOUR: 'it returns false'. Refute it at one input. -/
def wireOneWrong : ChangeSpec := { name := "wireOne", fn := fun _ => fun
  | [d1, d2] => { results := [.lit (.bool false)], args := [d1, d2] }
  | _ => none }
def WireOneWrongFalsely : Prop := wireOneRow.holds Tryd.pinned (OpenSpec.ofChange wireOneWrong)

/-- 'acheronlaw02.WireStops': WHATEVER THE INPUT: true; the input reads as it did. -/
def wireStopsSpec : ChangeSpec := { name := "wireStops", fn := fun _ => fun
  | [d1, d2, d3] => { results := [.lit (.bool true)], args := [d1, d2, d3] }
  | _ => none }
def wireStopsRow : OpenClaim := { program := "ytjjdfodjkoiedaadoor", sum := "d4974513eaa13b6dedd28c3f8a11099ad8e2cc935e2ecb364597d8c046575659", func := "acheron/acheronlaw02.WireStops", spec := "wireStops", unfollowed := true, recurses := true, named := ["acheron/wire.shapes"], apart := false, laid := [("acheron/wire.shapes", laid_acheron_wire_shapes)] }
def WireStopsSaid : Prop := wireStopsRow.holds Tryd.pinned (OpenSpec.ofChange wireStopsSpec)

/-- ITS FALSE NEIGHBOUR: 'it returns false'. Refute it at one input. -/
def wireStopsWrong : ChangeSpec := { name := "wireStops", fn := fun _ => fun
  | [d1, d2, d3] => { results := [.lit (.bool false)], args := [d1, d2, d3] }
  | _ => none }
def WireStopsWrongFalsely : Prop := wireStopsRow.holds Tryd.pinned (OpenSpec.ofChange wireStopsWrong)

/-- 'acheronlaw02.WireNumbers': WHATEVER THE INPUT: true; the input reads as it did. -/
def wireNumbersSpec : ChangeSpec := { name := "wireNumbers", fn := fun _ => fun
  | [d1, d2] => { results := [.lit (.bool true)], args := [d1, d2] }
  | _ => none }
def wireNumbersRow : OpenClaim := { program := "ytjjdfodjkoiedaadoor", sum := "d4974513eaa13b6dedd28c3f8a11099ad8e2cc935e2ecb364597d8c046575659", func := "acheron/acheronlaw02.WireNumbers", spec := "wireNumbers", unfollowed := true, recurses := true, named := ["acheron/wire.shapes"], apart := false, laid := [("acheron/wire.shapes", laid_acheron_wire_shapes)] }
def WireNumbersSaid : Prop := wireNumbersRow.holds Tryd.pinned (OpenSpec.ofChange wireNumbersSpec)

/-- ITS FALSE NEIGHBOUR: 'it returns false'. Refute it at one input. -/
def wireNumbersWrong : ChangeSpec := { name := "wireNumbers", fn := fun _ => fun
  | [d1, d2] => { results := [.lit (.bool false)], args := [d1, d2] }
  | _ => none }
def WireNumbersWrongFalsely : Prop := wireNumbersRow.holds Tryd.pinned (OpenSpec.ofChange wireNumbersWrong)

/-- 'acheronlaw02.WireNil': WHATEVER THE INPUT: true; the input reads as it did. -/
def wireNilSpec : ChangeSpec := { name := "wireNil", fn := fun _ => fun
  | [d1, d2] => { results := [.lit (.bool true)], args := [d1, d2] }
  | _ => none }
def wireNilRow : OpenClaim := { program := "ytjjdfodjkoiedaadoor", sum := "d4974513eaa13b6dedd28c3f8a11099ad8e2cc935e2ecb364597d8c046575659", func := "acheron/acheronlaw02.WireNil", spec := "wireNil", unfollowed := true, recurses := true, named := ["acheron/wire.shapes"], apart := false, laid := [("acheron/wire.shapes", laid_acheron_wire_shapes)] }
def WireNilSaid : Prop := wireNilRow.holds Tryd.pinned (OpenSpec.ofChange wireNilSpec)

/-- ITS FALSE NEIGHBOUR: 'it returns false'. Refute it at one input. -/
def wireNilWrong : ChangeSpec := { name := "wireNil", fn := fun _ => fun
  | [d1, d2] => { results := [.lit (.bool false)], args := [d1, d2] }
  | _ => none }
def WireNilWrongFalsely : Prop := wireNilRow.holds Tryd.pinned (OpenSpec.ofChange wireNilWrong)

/- THE SECOND FORM. 'bulk': how many values and letters a reading holds, each counted each time it is reached (what is shared counts as often as it is met; a slice's spare places count too). A statement '..UptoSaid' is the law's where the arguments, and the package variables that the reading takes, are together of bulk at most 1048576: NARROWER than '..Said'. Prove '..Said' where nothing that the law and all that it calls make is longer than what came in: it says more and counts as full. Else prove '..UptoSaid'. A law counts once. -/
mutual
def uptoBulk {H : Type} : DataW H → Nat
  | .lit (.string bytes) => bytes.length + 1
  | .lit _ => 1
  | .nil => 1
  | .ptr d => uptoBulk d + 1
  | .slice elems spare => uptoBulkAll elems + uptoBulkAll spare + 1
  | .agg parts => uptoBulkAll parts + 1
  | .iface _ d => uptoBulk d + 1
  | .map entries => uptoBulkEntries entries + 1
  | .held _ => 1
def uptoBulkAll {H : Type} : List (DataW H) → Nat
  | [] => 0
  | d :: r => uptoBulk d + uptoBulkAll r
def uptoBulkEntries {H : Type} : List (Lit × DataW H) → Nat
  | [] => 0
  | x :: r => uptoBulkEntry x + uptoBulkEntries r
def uptoBulkEntry {H : Type} : Lit × DataW H → Nat
  | (.string bytes, d) => bytes.length + uptoBulk d + 1
  | (_, d) => uptoBulk d + 1
 end
def uptoSmall : (H : Type) → List (DataW H) → Bool := fun _ ds => decide (uptoBulkAll ds ≤ 1048576)
def OpenSpec.upto (s : _root_.Go.ChangeSpec) : _root_.Go.OpenSpec := { _root_.Go.OpenSpec.ofChange s with cond := some uptoSmall }

/-- 'acheronlaw02.WireWrites', WHERE WHAT IT READS IS OF BULK AT MOST 1048576: true; the input reads as it did. -/
def wireWritesUptoRow : OpenClaim := { program := "ytjjdfodjkoiedaadoor", sum := "d4974513eaa13b6dedd28c3f8a11099ad8e2cc935e2ecb364597d8c046575659", func := "acheron/acheronlaw02.WireWrites", spec := "wireWrites", unfollowed := true, recurses := true, named := ["acheron/wire.shapes"], apart := false, laid := [("acheron/wire.shapes", laid_acheron_wire_shapes)], narrowed := true }
def WireWritesUptoSaid : Prop := wireWritesUptoRow.holds Tryd.pinned (OpenSpec.upto wireWritesSpec)

/-- 'acheronlaw02.WireReads', WHERE WHAT IT READS IS OF BULK AT MOST 1048576: true; the input reads as it did. -/
def wireReadsUptoRow : OpenClaim := { program := "ytjjdfodjkoiedaadoor", sum := "d4974513eaa13b6dedd28c3f8a11099ad8e2cc935e2ecb364597d8c046575659", func := "acheron/acheronlaw02.WireReads", spec := "wireReads", unfollowed := true, recurses := true, named := ["acheron/wire.shapes"], apart := false, laid := [("acheron/wire.shapes", laid_acheron_wire_shapes)], narrowed := true }
def WireReadsUptoSaid : Prop := wireReadsUptoRow.holds Tryd.pinned (OpenSpec.upto wireReadsSpec)

/-- 'acheronlaw02.WireReturns', WHERE WHAT IT READS IS OF BULK AT MOST 1048576: true; the input reads as it did. -/
def wireReturnsUptoRow : OpenClaim := { program := "ytjjdfodjkoiedaadoor", sum := "d4974513eaa13b6dedd28c3f8a11099ad8e2cc935e2ecb364597d8c046575659", func := "acheron/acheronlaw02.WireReturns", spec := "wireReturns", unfollowed := true, recurses := true, named := ["acheron/wire.shapes"], apart := false, laid := [("acheron/wire.shapes", laid_acheron_wire_shapes)], narrowed := true }
def WireReturnsUptoSaid : Prop := wireReturnsUptoRow.holds Tryd.pinned (OpenSpec.upto wireReturnsSpec)

/-- 'acheronlaw02.WireOne', WHERE WHAT IT READS IS OF BULK AT MOST 1048576: true; the input reads as it did. -/
def wireOneUptoRow : OpenClaim := { program := "ytjjdfodjkoiedaadoor", sum := "d4974513eaa13b6dedd28c3f8a11099ad8e2cc935e2ecb364597d8c046575659", func := "acheron/acheronlaw02.WireOne", spec := "wireOne", unfollowed := true, recurses := true, named := ["acheron/wire.shapes"], apart := false, laid := [("acheron/wire.shapes", laid_acheron_wire_shapes)], narrowed := true }
def WireOneUptoSaid : Prop := wireOneUptoRow.holds Tryd.pinned (OpenSpec.upto wireOneSpec)

/-- 'acheronlaw02.WireStops', WHERE WHAT IT READS IS OF BULK AT MOST 1048576: true; the input reads as it did. -/
def wireStopsUptoRow : OpenClaim := { program := "ytjjdfodjkoiedaadoor", sum := "d4974513eaa13b6dedd28c3f8a11099ad8e2cc935e2ecb364597d8c046575659", func := "acheron/acheronlaw02.WireStops", spec := "wireStops", unfollowed := true, recurses := true, named := ["acheron/wire.shapes"], apart := false, laid := [("acheron/wire.shapes", laid_acheron_wire_shapes)], narrowed := true }
def WireStopsUptoSaid : Prop := wireStopsUptoRow.holds Tryd.pinned (OpenSpec.upto wireStopsSpec)

/-- 'acheronlaw02.WireNumbers', WHERE WHAT IT READS IS OF BULK AT MOST 1048576: true; the input reads as it did. -/
def wireNumbersUptoRow : OpenClaim := { program := "ytjjdfodjkoiedaadoor", sum := "d4974513eaa13b6dedd28c3f8a11099ad8e2cc935e2ecb364597d8c046575659", func := "acheron/acheronlaw02.WireNumbers", spec := "wireNumbers", unfollowed := true, recurses := true, named := ["acheron/wire.shapes"], apart := false, laid := [("acheron/wire.shapes", laid_acheron_wire_shapes)], narrowed := true }
def WireNumbersUptoSaid : Prop := wireNumbersUptoRow.holds Tryd.pinned (OpenSpec.upto wireNumbersSpec)

/-- 'acheronlaw02.WireNil', WHERE WHAT IT READS IS OF BULK AT MOST 1048576: true; the input reads as it did. -/
def wireNilUptoRow : OpenClaim := { program := "ytjjdfodjkoiedaadoor", sum := "d4974513eaa13b6dedd28c3f8a11099ad8e2cc935e2ecb364597d8c046575659", func := "acheron/acheronlaw02.WireNil", spec := "wireNil", unfollowed := true, recurses := true, named := ["acheron/wire.shapes"], apart := false, laid := [("acheron/wire.shapes", laid_acheron_wire_shapes)], narrowed := true }
def WireNilUptoSaid : Prop := wireNilUptoRow.holds Tryd.pinned (OpenSpec.upto wireNilSpec)

end Rows
end Go.Proofs.YtjjdfodjkoiedaaDoor
