/-
  NARROWER THAN 'FOR EVERY INPUT', by the rows' own cells (each row's printed sentence says how): DigestSums: laid · DigestHexes: laid · DigestMacs: laid · DigestStreams: laid · DigestChecks: laid · DigestGroup: laid · DigestKeys: laid · DigestSigns: laid.
  DERIVED. THE GIVEN ROWS OF THIS SEAT. 8 by the template 'for every input the law returns true; each argument reads behind the call as it read before'; 0 by the template 'total and deterministic' (their statements: YthhaofdnbemogaaDoorTotals.lean).
  GIVEN WITH THE SEED: the statements are not yours to turn. If you find one false, say at which input.
  Laid BY PROGRAM, IN A SANDBOX (cutbox-rows.mjs): the forced cells as the released guide's own fill.sh prints them over the translation 2874dbb72e78a05f… (all of the seat's roots in one cut). By AI agents, Wed Nov 11 2026. No macro, syntax, notation, axiom, sorry.
-/
import Derived.Test.YthhaofdnbemogaaDoorChecked
import GoSem.Claim
import GoSem.ClaimJoined
import GoSem.ClaimMapViews
import Derived.JoinedTies
import Derived.KernelRfl
namespace Go.Proofs.YthhaofdnbemogaaDoor
/- THE CELL 'sum', in the pinned program and in every row, IS THE sha256 OF THE DUMP (.gsa) THAT YthhaofdnbemogaaDoorProg.lean LOADS. Nothing in Lean hashes anything: it is a label: what it is worth is what the hold of that sum in a sandbox is worth. -/
noncomputable def Tryd.pinned : Pinned := { name := "ythhaofdnbemogaadoor", sum := "2874dbb72e78a05f3d6694189705afd09cacc124e0f247b50b069ec13a6d559f", checked := Tryd.checked }
namespace Rows
def none {H : Type} : Left H := { results := [], args := [] }

/- WHAT THE LISTED PACKAGE-LEVEL VARIABLES READ AS WHEN THE CALL BEGINS. Each datum BY PROGRAM (the guide's laid-datum.mjs) off the statement by which the dump's own 'gosem.cut.vars' lays the variable. In a bare row this is a premise. The card (YthhaofdnbemogaaDoorCards.lean) ties it to the program's text. -/
def laid_acheron_digest_squares {H : Type} : DataW H := .agg [.lit (.int .u32 1779033703), .lit (.int .u32 3144134277), .lit (.int .u32 1013904242), .lit (.int .u32 2773480762), .lit (.int .u32 1359893119), .lit (.int .u32 2600822924), .lit (.int .u32 528734635), .lit (.int .u32 1541459225)]
def laid_acheron_digest_cubes {H : Type} : DataW H := .agg [.lit (.int .u32 1116352408), .lit (.int .u32 1899447441), .lit (.int .u32 3049323471), .lit (.int .u32 3921009573), .lit (.int .u32 961987163), .lit (.int .u32 1508970993), .lit (.int .u32 2453635748), .lit (.int .u32 2870763221), .lit (.int .u32 3624381080), .lit (.int .u32 310598401), .lit (.int .u32 607225278), .lit (.int .u32 1426881987), .lit (.int .u32 1925078388), .lit (.int .u32 2162078206), .lit (.int .u32 2614888103), .lit (.int .u32 3248222580), .lit (.int .u32 3835390401), .lit (.int .u32 4022224774), .lit (.int .u32 264347078), .lit (.int .u32 604807628), .lit (.int .u32 770255983), .lit (.int .u32 1249150122), .lit (.int .u32 1555081692), .lit (.int .u32 1996064986), .lit (.int .u32 2554220882), .lit (.int .u32 2821834349), .lit (.int .u32 2952996808), .lit (.int .u32 3210313671), .lit (.int .u32 3336571891), .lit (.int .u32 3584528711), .lit (.int .u32 113926993), .lit (.int .u32 338241895), .lit (.int .u32 666307205), .lit (.int .u32 773529912), .lit (.int .u32 1294757372), .lit (.int .u32 1396182291), .lit (.int .u32 1695183700), .lit (.int .u32 1986661051), .lit (.int .u32 2177026350), .lit (.int .u32 2456956037), .lit (.int .u32 2730485921), .lit (.int .u32 2820302411), .lit (.int .u32 3259730800), .lit (.int .u32 3345764771), .lit (.int .u32 3516065817), .lit (.int .u32 3600352804), .lit (.int .u32 4094571909), .lit (.int .u32 275423344), .lit (.int .u32 430227734), .lit (.int .u32 506948616), .lit (.int .u32 659060556), .lit (.int .u32 883997877), .lit (.int .u32 958139571), .lit (.int .u32 1322822218), .lit (.int .u32 1537002063), .lit (.int .u32 1747873779), .lit (.int .u32 1955562222), .lit (.int .u32 2024104815), .lit (.int .u32 2227730452), .lit (.int .u32 2361852424), .lit (.int .u32 2428436474), .lit (.int .u32 2756734187), .lit (.int .u32 3204031479), .lit (.int .u32 3329325298)]

/-- 'acheronlaw03.DigestSums': WHATEVER THE INPUT: true; the input reads as it did. -/
def digestSumsSpec : ChangeSpec := { name := "digestSums", fn := fun _ => fun
  | [d1, d2] => { results := [.lit (.bool true)], args := [d1, d2] }
  | _ => none }
def digestSumsRow : OpenClaim := { program := "ythhaofdnbemogaadoor", sum := "2874dbb72e78a05f3d6694189705afd09cacc124e0f247b50b069ec13a6d559f", func := "acheron/acheronlaw03.DigestSums", spec := "digestSums", inPlace := ["internal/abi.NoEscape", "internal/bytealg.MakeNoZero"], named := ["acheron/digest.squares", "acheron/digest.cubes", "math/bits.divideError", "math/bits.overflowError"], apart := false, laid := [("acheron/digest.squares", laid_acheron_digest_squares), ("acheron/digest.cubes", laid_acheron_digest_cubes)] }
def DigestSumsSaid : Prop := digestSumsRow.holds Tryd.pinned (OpenSpec.ofChange digestSumsSpec)

/-- ITS FALSE NEIGHBOUR: 'it returns false'. Refute it at one input. -/
def digestSumsWrong : ChangeSpec := { name := "digestSums", fn := fun _ => fun
  | [d1, d2] => { results := [.lit (.bool false)], args := [d1, d2] }
  | _ => none }
def DigestSumsWrongFalsely : Prop := digestSumsRow.holds Tryd.pinned (OpenSpec.ofChange digestSumsWrong)

/-- 'acheronlaw03.DigestHexes': WHATEVER THE INPUT: true; the input reads as it did. -/
def digestHexesSpec : ChangeSpec := { name := "digestHexes", fn := fun _ => fun
  | [d1, d2] => { results := [.lit (.bool true)], args := [d1, d2] }
  | _ => none }
def digestHexesRow : OpenClaim := { program := "ythhaofdnbemogaadoor", sum := "2874dbb72e78a05f3d6694189705afd09cacc124e0f247b50b069ec13a6d559f", func := "acheron/acheronlaw03.DigestHexes", spec := "digestHexes", inPlace := ["internal/abi.NoEscape", "internal/bytealg.MakeNoZero", "internal/bytealg.IndexByteString"], named := ["acheron/digest.squares", "acheron/digest.cubes", "math/bits.divideError", "math/bits.overflowError"], apart := false, laid := [("acheron/digest.squares", laid_acheron_digest_squares), ("acheron/digest.cubes", laid_acheron_digest_cubes)] }
def DigestHexesSaid : Prop := digestHexesRow.holds Tryd.pinned (OpenSpec.ofChange digestHexesSpec)

/-- ITS FALSE NEIGHBOUR: 'it returns false'. Refute it at one input. -/
def digestHexesWrong : ChangeSpec := { name := "digestHexes", fn := fun _ => fun
  | [d1, d2] => { results := [.lit (.bool false)], args := [d1, d2] }
  | _ => none }
def DigestHexesWrongFalsely : Prop := digestHexesRow.holds Tryd.pinned (OpenSpec.ofChange digestHexesWrong)

/-- 'acheronlaw03.DigestMacs': WHATEVER THE INPUT: true; the input reads as it did. -/
def digestMacsSpec : ChangeSpec := { name := "digestMacs", fn := fun _ => fun
  | [d1, d2] => { results := [.lit (.bool true)], args := [d1, d2] }
  | _ => none }
def digestMacsRow : OpenClaim := { program := "ythhaofdnbemogaadoor", sum := "2874dbb72e78a05f3d6694189705afd09cacc124e0f247b50b069ec13a6d559f", func := "acheron/acheronlaw03.DigestMacs", spec := "digestMacs", inPlace := ["internal/abi.NoEscape", "internal/bytealg.MakeNoZero"], named := ["acheron/digest.squares", "acheron/digest.cubes", "math/bits.divideError", "math/bits.overflowError"], apart := false, laid := [("acheron/digest.squares", laid_acheron_digest_squares), ("acheron/digest.cubes", laid_acheron_digest_cubes)] }
def DigestMacsSaid : Prop := digestMacsRow.holds Tryd.pinned (OpenSpec.ofChange digestMacsSpec)

/-- ITS FALSE NEIGHBOUR: 'it returns false'. Refute it at one input. -/
def digestMacsWrong : ChangeSpec := { name := "digestMacs", fn := fun _ => fun
  | [d1, d2] => { results := [.lit (.bool false)], args := [d1, d2] }
  | _ => none }
def DigestMacsWrongFalsely : Prop := digestMacsRow.holds Tryd.pinned (OpenSpec.ofChange digestMacsWrong)

/-- 'acheronlaw03.DigestStreams': WHATEVER THE INPUT: true; the input reads as it did. -/
def digestStreamsSpec : ChangeSpec := { name := "digestStreams", fn := fun _ => fun
  | [d1, d2, d3] => { results := [.lit (.bool true)], args := [d1, d2, d3] }
  | _ => none }
def digestStreamsRow : OpenClaim := { program := "ythhaofdnbemogaadoor", sum := "2874dbb72e78a05f3d6694189705afd09cacc124e0f247b50b069ec13a6d559f", func := "acheron/acheronlaw03.DigestStreams", spec := "digestStreams", inPlace := ["internal/abi.NoEscape", "internal/bytealg.MakeNoZero"], named := ["acheron/digest.squares", "acheron/digest.cubes", "math/bits.divideError", "math/bits.overflowError"], apart := false, laid := [("acheron/digest.squares", laid_acheron_digest_squares), ("acheron/digest.cubes", laid_acheron_digest_cubes)] }
def DigestStreamsSaid : Prop := digestStreamsRow.holds Tryd.pinned (OpenSpec.ofChange digestStreamsSpec)

/-- ITS FALSE NEIGHBOUR: 'it returns false'. Refute it at one input. -/
def digestStreamsWrong : ChangeSpec := { name := "digestStreams", fn := fun _ => fun
  | [d1, d2, d3] => { results := [.lit (.bool false)], args := [d1, d2, d3] }
  | _ => none }
def DigestStreamsWrongFalsely : Prop := digestStreamsRow.holds Tryd.pinned (OpenSpec.ofChange digestStreamsWrong)

/-- 'acheronlaw03.DigestChecks': WHATEVER THE INPUT: true; the input reads as it did. -/
def digestChecksSpec : ChangeSpec := { name := "digestChecks", fn := fun _ => fun
  | [d1, d2, d3, d4] => { results := [.lit (.bool true)], args := [d1, d2, d3, d4] }
  | _ => none }
def digestChecksRow : OpenClaim := { program := "ythhaofdnbemogaadoor", sum := "2874dbb72e78a05f3d6694189705afd09cacc124e0f247b50b069ec13a6d559f", func := "acheron/acheronlaw03.DigestChecks", spec := "digestChecks", inPlace := ["internal/abi.NoEscape", "internal/bytealg.MakeNoZero"], named := ["acheron/digest.squares", "acheron/digest.cubes", "math/bits.divideError", "math/bits.overflowError"], apart := false, laid := [("acheron/digest.squares", laid_acheron_digest_squares), ("acheron/digest.cubes", laid_acheron_digest_cubes)] }
def DigestChecksSaid : Prop := digestChecksRow.holds Tryd.pinned (OpenSpec.ofChange digestChecksSpec)

/-- ITS FALSE NEIGHBOUR: 'it returns false'. Refute it at one input. -/
def digestChecksWrong : ChangeSpec := { name := "digestChecks", fn := fun _ => fun
  | [d1, d2, d3, d4] => { results := [.lit (.bool false)], args := [d1, d2, d3, d4] }
  | _ => none }
def DigestChecksWrongFalsely : Prop := digestChecksRow.holds Tryd.pinned (OpenSpec.ofChange digestChecksWrong)

/-- 'acheronlaw03.DigestGroup': WHATEVER THE INPUT: true; the input reads as it did. -/
def digestGroupSpec : ChangeSpec := { name := "digestGroup", fn := fun _ => fun
  | [d1, d2, d3, d4, d5] => { results := [.lit (.bool true)], args := [d1, d2, d3, d4, d5] }
  | _ => none }
def digestGroupRow : OpenClaim := { program := "ythhaofdnbemogaadoor", sum := "2874dbb72e78a05f3d6694189705afd09cacc124e0f247b50b069ec13a6d559f", func := "acheron/acheronlaw03.DigestGroup", spec := "digestGroup", inPlace := ["internal/abi.NoEscape", "internal/bytealg.MakeNoZero"], named := ["acheron/digest.squares", "acheron/digest.cubes", "math/bits.divideError", "math/bits.overflowError"], apart := false, laid := [("acheron/digest.squares", laid_acheron_digest_squares), ("acheron/digest.cubes", laid_acheron_digest_cubes)] }
def DigestGroupSaid : Prop := digestGroupRow.holds Tryd.pinned (OpenSpec.ofChange digestGroupSpec)

/-- ITS FALSE NEIGHBOUR: 'it returns false'. Refute it at one input. -/
def digestGroupWrong : ChangeSpec := { name := "digestGroup", fn := fun _ => fun
  | [d1, d2, d3, d4, d5] => { results := [.lit (.bool false)], args := [d1, d2, d3, d4, d5] }
  | _ => none }
def DigestGroupWrongFalsely : Prop := digestGroupRow.holds Tryd.pinned (OpenSpec.ofChange digestGroupWrong)

/-- 'acheronlaw03.DigestKeys': WHATEVER THE INPUT: true; the input reads as it did. -/
def digestKeysSpec : ChangeSpec := { name := "digestKeys", fn := fun _ => fun
  | [d1, d2, d3] => { results := [.lit (.bool true)], args := [d1, d2, d3] }
  | _ => none }
def digestKeysRow : OpenClaim := { program := "ythhaofdnbemogaadoor", sum := "2874dbb72e78a05f3d6694189705afd09cacc124e0f247b50b069ec13a6d559f", func := "acheron/acheronlaw03.DigestKeys", spec := "digestKeys", inPlace := ["internal/abi.NoEscape", "internal/bytealg.MakeNoZero"], named := ["acheron/digest.squares", "acheron/digest.cubes", "math/bits.divideError", "math/bits.overflowError"], apart := false, laid := [("acheron/digest.squares", laid_acheron_digest_squares), ("acheron/digest.cubes", laid_acheron_digest_cubes)] }
def DigestKeysSaid : Prop := digestKeysRow.holds Tryd.pinned (OpenSpec.ofChange digestKeysSpec)

/-- ITS FALSE NEIGHBOUR: 'it returns false'. Refute it at one input. -/
def digestKeysWrong : ChangeSpec := { name := "digestKeys", fn := fun _ => fun
  | [d1, d2, d3] => { results := [.lit (.bool false)], args := [d1, d2, d3] }
  | _ => none }
def DigestKeysWrongFalsely : Prop := digestKeysRow.holds Tryd.pinned (OpenSpec.ofChange digestKeysWrong)

/-- 'acheronlaw03.DigestSigns': WHATEVER THE INPUT: true; the input reads as it did. -/
def digestSignsSpec : ChangeSpec := { name := "digestSigns", fn := fun _ => fun
  | [d] => { results := [.lit (.bool true)], args := [d] }
  | _ => none }
def digestSignsRow : OpenClaim := { program := "ythhaofdnbemogaadoor", sum := "2874dbb72e78a05f3d6694189705afd09cacc124e0f247b50b069ec13a6d559f", func := "acheron/acheronlaw03.DigestSigns", spec := "digestSigns", inPlace := ["internal/abi.NoEscape", "internal/bytealg.MakeNoZero"], named := ["acheron/digest.squares", "acheron/digest.cubes", "math/bits.divideError", "math/bits.overflowError"], apart := false, laid := [("acheron/digest.squares", laid_acheron_digest_squares), ("acheron/digest.cubes", laid_acheron_digest_cubes)] }
def DigestSignsSaid : Prop := digestSignsRow.holds Tryd.pinned (OpenSpec.ofChange digestSignsSpec)

/-- ITS FALSE NEIGHBOUR: 'it returns false'. Refute it at one input. -/
def digestSignsWrong : ChangeSpec := { name := "digestSigns", fn := fun _ => fun
  | [d] => { results := [.lit (.bool false)], args := [d] }
  | _ => none }
def DigestSignsWrongFalsely : Prop := digestSignsRow.holds Tryd.pinned (OpenSpec.ofChange digestSignsWrong)

/- THE SECOND FORM. 'bulk': how many values and letters a reading holds, each counted each time it is reached (what is shared counts as often as it is met; a slice's spare places count too). A statement '..UptoSaid' is the law's where the arguments, and the package variables that the reading takes, are together of bulk at most 1048576: NARROWER than '..Said'. Prove '..Said' where nothing that the law and all that it calls make is longer than what came in: it says more and counts as full. Else prove '..UptoSaid'. A law counts once. -/
mutual
def uptoBulk {H : Type} : DataW H → Nat
  | .lit (.string bytes) => bytes.length + 1
  | .lit _ => 1
  | .nil => 1
  | .ptr d => uptoBulk d + 1
  | .slice elems spare => uptoBulkAll elems + uptoBulkAll spare + 1
  | .agg parts => uptoBulkAll parts + 1
  | .iface _ d => uptoBulk d + 1
  | .map entries => uptoBulkEntries entries + 1
  | .held _ => 1
def uptoBulkAll {H : Type} : List (DataW H) → Nat
  | [] => 0
  | d :: r => uptoBulk d + uptoBulkAll r
def uptoBulkEntries {H : Type} : List (Lit × DataW H) → Nat
  | [] => 0
  | x :: r => uptoBulkEntry x + uptoBulkEntries r
def uptoBulkEntry {H : Type} : Lit × DataW H → Nat
  | (.string bytes, d) => bytes.length + uptoBulk d + 1
  | (_, d) => uptoBulk d + 1
 end
def uptoSmall : (H : Type) → List (DataW H) → Bool := fun _ ds => decide (uptoBulkAll ds ≤ 1048576)
def OpenSpec.upto (s : _root_.Go.ChangeSpec) : _root_.Go.OpenSpec := { _root_.Go.OpenSpec.ofChange s with cond := some uptoSmall }

/-- 'acheronlaw03.DigestSums', WHERE WHAT IT READS IS OF BULK AT MOST 1048576: true; the input reads as it did. -/
def digestSumsUptoRow : OpenClaim := { program := "ythhaofdnbemogaadoor", sum := "2874dbb72e78a05f3d6694189705afd09cacc124e0f247b50b069ec13a6d559f", func := "acheron/acheronlaw03.DigestSums", spec := "digestSums", inPlace := ["internal/abi.NoEscape", "internal/bytealg.MakeNoZero"], named := ["acheron/digest.squares", "acheron/digest.cubes", "math/bits.divideError", "math/bits.overflowError"], apart := false, laid := [("acheron/digest.squares", laid_acheron_digest_squares), ("acheron/digest.cubes", laid_acheron_digest_cubes)], narrowed := true }
def DigestSumsUptoSaid : Prop := digestSumsUptoRow.holds Tryd.pinned (OpenSpec.upto digestSumsSpec)

/-- 'acheronlaw03.DigestHexes', WHERE WHAT IT READS IS OF BULK AT MOST 1048576: true; the input reads as it did. -/
def digestHexesUptoRow : OpenClaim := { program := "ythhaofdnbemogaadoor", sum := "2874dbb72e78a05f3d6694189705afd09cacc124e0f247b50b069ec13a6d559f", func := "acheron/acheronlaw03.DigestHexes", spec := "digestHexes", inPlace := ["internal/abi.NoEscape", "internal/bytealg.MakeNoZero", "internal/bytealg.IndexByteString"], named := ["acheron/digest.squares", "acheron/digest.cubes", "math/bits.divideError", "math/bits.overflowError"], apart := false, laid := [("acheron/digest.squares", laid_acheron_digest_squares), ("acheron/digest.cubes", laid_acheron_digest_cubes)], narrowed := true }
def DigestHexesUptoSaid : Prop := digestHexesUptoRow.holds Tryd.pinned (OpenSpec.upto digestHexesSpec)

/-- 'acheronlaw03.DigestMacs', WHERE WHAT IT READS IS OF BULK AT MOST 1048576: true; the input reads as it did. -/
def digestMacsUptoRow : OpenClaim := { program := "ythhaofdnbemogaadoor", sum := "2874dbb72e78a05f3d6694189705afd09cacc124e0f247b50b069ec13a6d559f", func := "acheron/acheronlaw03.DigestMacs", spec := "digestMacs", inPlace := ["internal/abi.NoEscape", "internal/bytealg.MakeNoZero"], named := ["acheron/digest.squares", "acheron/digest.cubes", "math/bits.divideError", "math/bits.overflowError"], apart := false, laid := [("acheron/digest.squares", laid_acheron_digest_squares), ("acheron/digest.cubes", laid_acheron_digest_cubes)], narrowed := true }
def DigestMacsUptoSaid : Prop := digestMacsUptoRow.holds Tryd.pinned (OpenSpec.upto digestMacsSpec)

/-- 'acheronlaw03.DigestStreams', WHERE WHAT IT READS IS OF BULK AT MOST 1048576: true; the input reads as it did. -/
def digestStreamsUptoRow : OpenClaim := { program := "ythhaofdnbemogaadoor", sum := "2874dbb72e78a05f3d6694189705afd09cacc124e0f247b50b069ec13a6d559f", func := "acheron/acheronlaw03.DigestStreams", spec := "digestStreams", inPlace := ["internal/abi.NoEscape", "internal/bytealg.MakeNoZero"], named := ["acheron/digest.squares", "acheron/digest.cubes", "math/bits.divideError", "math/bits.overflowError"], apart := false, laid := [("acheron/digest.squares", laid_acheron_digest_squares), ("acheron/digest.cubes", laid_acheron_digest_cubes)], narrowed := true }
def DigestStreamsUptoSaid : Prop := digestStreamsUptoRow.holds Tryd.pinned (OpenSpec.upto digestStreamsSpec)

/-- 'acheronlaw03.DigestChecks', WHERE WHAT IT READS IS OF BULK AT MOST 1048576: true; the input reads as it did. -/
def digestChecksUptoRow : OpenClaim := { program := "ythhaofdnbemogaadoor", sum := "2874dbb72e78a05f3d6694189705afd09cacc124e0f247b50b069ec13a6d559f", func := "acheron/acheronlaw03.DigestChecks", spec := "digestChecks", inPlace := ["internal/abi.NoEscape", "internal/bytealg.MakeNoZero"], named := ["acheron/digest.squares", "acheron/digest.cubes", "math/bits.divideError", "math/bits.overflowError"], apart := false, laid := [("acheron/digest.squares", laid_acheron_digest_squares), ("acheron/digest.cubes", laid_acheron_digest_cubes)], narrowed := true }
def DigestChecksUptoSaid : Prop := digestChecksUptoRow.holds Tryd.pinned (OpenSpec.upto digestChecksSpec)

/-- 'acheronlaw03.DigestGroup', WHERE WHAT IT READS IS OF BULK AT MOST 1048576: true; the input reads as it did. -/
def digestGroupUptoRow : OpenClaim := { program := "ythhaofdnbemogaadoor", sum := "2874dbb72e78a05f3d6694189705afd09cacc124e0f247b50b069ec13a6d559f", func := "acheron/acheronlaw03.DigestGroup", spec := "digestGroup", inPlace := ["internal/abi.NoEscape", "internal/bytealg.MakeNoZero"], named := ["acheron/digest.squares", "acheron/digest.cubes", "math/bits.divideError", "math/bits.overflowError"], apart := false, laid := [("acheron/digest.squares", laid_acheron_digest_squares), ("acheron/digest.cubes", laid_acheron_digest_cubes)], narrowed := true }
def DigestGroupUptoSaid : Prop := digestGroupUptoRow.holds Tryd.pinned (OpenSpec.upto digestGroupSpec)

/-- 'acheronlaw03.DigestKeys', WHERE WHAT IT READS IS OF BULK AT MOST 1048576: true; the input reads as it did. -/
def digestKeysUptoRow : OpenClaim := { program := "ythhaofdnbemogaadoor", sum := "2874dbb72e78a05f3d6694189705afd09cacc124e0f247b50b069ec13a6d559f", func := "acheron/acheronlaw03.DigestKeys", spec := "digestKeys", inPlace := ["internal/abi.NoEscape", "internal/bytealg.MakeNoZero"], named := ["acheron/digest.squares", "acheron/digest.cubes", "math/bits.divideError", "math/bits.overflowError"], apart := false, laid := [("acheron/digest.squares", laid_acheron_digest_squares), ("acheron/digest.cubes", laid_acheron_digest_cubes)], narrowed := true }
def DigestKeysUptoSaid : Prop := digestKeysUptoRow.holds Tryd.pinned (OpenSpec.upto digestKeysSpec)

/-- 'acheronlaw03.DigestSigns', WHERE WHAT IT READS IS OF BULK AT MOST 1048576: true; the input reads as it did. -/
def digestSignsUptoRow : OpenClaim := { program := "ythhaofdnbemogaadoor", sum := "2874dbb72e78a05f3d6694189705afd09cacc124e0f247b50b069ec13a6d559f", func := "acheron/acheronlaw03.DigestSigns", spec := "digestSigns", inPlace := ["internal/abi.NoEscape", "internal/bytealg.MakeNoZero"], named := ["acheron/digest.squares", "acheron/digest.cubes", "math/bits.divideError", "math/bits.overflowError"], apart := false, laid := [("acheron/digest.squares", laid_acheron_digest_squares), ("acheron/digest.cubes", laid_acheron_digest_cubes)], narrowed := true }
def DigestSignsUptoSaid : Prop := digestSignsUptoRow.holds Tryd.pinned (OpenSpec.upto digestSignsSpec)

end Rows
end Go.Proofs.YthhaofdnbemogaaDoor
