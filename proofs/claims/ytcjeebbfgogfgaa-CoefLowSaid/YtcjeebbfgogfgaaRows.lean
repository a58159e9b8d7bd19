/-
  No cell of these rows narrows 'for every input' (looked for: loops, veiled, ifaces, maps, wideKeys, modest, calm, conditions, laid).
  DERIVED. THE GIVEN ROWS OF THIS SEAT. 7 by the template 'for every input the law returns true; each argument reads behind the call as it read before'; 0 by the template 'total and deterministic' (their statements: YtcjeebbfgogfgaaTotals.lean).
  GIVEN WITH THE SEED: the statements are not yours to turn. If you find one false, say at which input.
  Laid BY PROGRAM, IN A SANDBOX (cutbox-rows.mjs): the forced cells as the released guide's own fill.sh prints them over the translation 5d2e7b453542d7c9… (all of the seat's roots in one cut). By AI agents, Wed Nov 11 2026. No macro, syntax, notation, axiom, sorry.
-/
import Derived.Test.YtcjeebbfgogfgaaChecked
import GoSem.Claim
import GoSem.ClaimJoined
import GoSem.ClaimMapViews
import Derived.JoinedTies
import Derived.KernelRfl
namespace Go.Proofs.Ytcjeebbfgogfgaa
/- THE CELL 'sum', in the pinned program and in every row, IS THE sha256 OF THE DUMP (.gsa) THAT YtcjeebbfgogfgaaProg.lean LOADS. Nothing in Lean hashes anything: it is a label: what it is worth is what the hold of that sum in a sandbox is worth. -/
noncomputable def Try.pinned : Pinned := { name := "ytcjeebbfgogfgaa", sum := "5d2e7b453542d7c9d9eac7be710c937dcc83251349bd2804db434a9e2e689742", checked := Try.checked }
namespace Rows
def none {H : Type} : Left H := { results := [], args := [] }

/-- 'envelopelaw7.CoefAll': WHATEVER THE INPUT: true; the input reads as it did. -/
def coefAllSpec : ChangeSpec := { name := "coefAll", fn := fun _ => fun
  | [d1, d2, d3] => { results := [.lit (.bool true)], args := [d1, d2, d3] }
  | _ => none }
def coefAllRow : OpenClaim := { program := "ytcjeebbfgogfgaa", sum := "5d2e7b453542d7c9d9eac7be710c937dcc83251349bd2804db434a9e2e689742", func := "envelope/envelopelaw7.CoefAll", spec := "coefAll", apart := false }
def CoefAllSaid : Prop := coefAllRow.holds Try.pinned (OpenSpec.ofChange coefAllSpec)

/-- ITS FALSE NEIGHBOUR: 'it returns false'. Refute it at one input. -/
def coefAllWrong : ChangeSpec := { name := "coefAll", fn := fun _ => fun
  | [d1, d2, d3] => { results := [.lit (.bool false)], args := [d1, d2, d3] }
  | _ => none }
def CoefAllWrongFalsely : Prop := coefAllRow.holds Try.pinned (OpenSpec.ofChange coefAllWrong)

/-- 'envelopelaw7.CoefMethods': WHATEVER THE INPUT: true; the input reads as it did. -/
def coefMethodsSpec : ChangeSpec := { name := "coefMethods", fn := fun _ => fun
  | [d1, d2] => { results := [.lit (.bool true)], args := [d1, d2] }
  | _ => none }
def coefMethodsRow : OpenClaim := { program := "ytcjeebbfgogfgaa", sum := "5d2e7b453542d7c9d9eac7be710c937dcc83251349bd2804db434a9e2e689742", func := "envelope/envelopelaw7.CoefMethods", spec := "coefMethods", apart := false }
def CoefMethodsSaid : Prop := coefMethodsRow.holds Try.pinned (OpenSpec.ofChange coefMethodsSpec)

/-- ITS FALSE NEIGHBOUR: 'it returns false'. Refute it at one input. -/
def coefMethodsWrong : ChangeSpec := { name := "coefMethods", fn := fun _ => fun
  | [d1, d2] => { results := [.lit (.bool false)], args := [d1, d2] }
  | _ => none }
def CoefMethodsWrongFalsely : Prop := coefMethodsRow.holds Try.pinned (OpenSpec.ofChange coefMethodsWrong)

/-- 'envelopelaw7.CoefLow': WHATEVER THE INPUT: true; the input reads as it did. -/
def coefLowSpec : ChangeSpec := { name := "coefLow", fn := fun _ => fun
  | [d1, d2] => { results := [.lit (.bool true)], args := [d1, d2] }
  | _ => none }
def coefLowRow : OpenClaim := { program := "ytcjeebbfgogfgaa", sum := "5d2e7b453542d7c9d9eac7be710c937dcc83251349bd2804db434a9e2e689742", func := "envelope/envelopelaw7.CoefLow", spec := "coefLow", apart := false }
def CoefLowSaid : Prop := coefLowRow.holds Try.pinned (OpenSpec.ofChange coefLowSpec)

/-- ITS FALSE NEIGHBOUR: 'it returns false'. Refute it at one input. -/
def coefLowWrong : ChangeSpec := { name := "coefLow", fn := fun _ => fun
  | [d1, d2] => { results := [.lit (.bool false)], args := [d1, d2] }
  | _ => none }
def CoefLowWrongFalsely : Prop := coefLowRow.holds Try.pinned (OpenSpec.ofChange coefLowWrong)

/-- 'envelopelaw7.CoefKnown': WHATEVER THE INPUT: true; the input reads as it did. -/
def coefKnownSpec : ChangeSpec := { name := "coefKnown", fn := fun _ => fun
  | [d] => { results := [.lit (.bool true)], args := [d] }
  | _ => none }
def coefKnownRow : OpenClaim := { program := "ytcjeebbfgogfgaa", sum := "5d2e7b453542d7c9d9eac7be710c937dcc83251349bd2804db434a9e2e689742", func := "envelope/envelopelaw7.CoefKnown", spec := "coefKnown", apart := false }
def CoefKnownSaid : Prop := coefKnownRow.holds Try.pinned (OpenSpec.ofChange coefKnownSpec)

/-- ITS FALSE NEIGHBOUR: 'it returns false'. Refute it at one input. -/
def coefKnownWrong : ChangeSpec := { name := "coefKnown", fn := fun _ => fun
  | [d] => { results := [.lit (.bool false)], args := [d] }
  | _ => none }
def CoefKnownWrongFalsely : Prop := coefKnownRow.holds Try.pinned (OpenSpec.ofChange coefKnownWrong)

/-- 'envelopelaw7.CoefSums': WHATEVER THE INPUT: true; the input reads as it did. -/
def coefSumsSpec : ChangeSpec := { name := "coefSums", fn := fun _ => fun
  | [d1, d2] => { results := [.lit (.bool true)], args := [d1, d2] }
  | _ => none }
def coefSumsRow : OpenClaim := { program := "ytcjeebbfgogfgaa", sum := "5d2e7b453542d7c9d9eac7be710c937dcc83251349bd2804db434a9e2e689742", func := "envelope/envelopelaw7.CoefSums", spec := "coefSums", inPlace := ["math.Float64bits", "math.Float64frombits"], apart := false }
def CoefSumsSaid : Prop := coefSumsRow.holds Try.pinned (OpenSpec.ofChange coefSumsSpec)

/-- ITS FALSE NEIGHBOUR: 'it returns false'. Refute it at one input. -/
def coefSumsWrong : ChangeSpec := { name := "coefSums", fn := fun _ => fun
  | [d1, d2] => { results := [.lit (.bool false)], args := [d1, d2] }
  | _ => none }
def CoefSumsWrongFalsely : Prop := coefSumsRow.holds Try.pinned (OpenSpec.ofChange coefSumsWrong)

/-- 'envelopelaw7.CoefOne': WHATEVER THE INPUT: true; the input reads as it did. -/
def coefOneSpec : ChangeSpec := { name := "coefOne", fn := fun _ => fun
  | [d] => { results := [.lit (.bool true)], args := [d] }
  | _ => none }
def coefOneRow : OpenClaim := { program := "ytcjeebbfgogfgaa", sum := "5d2e7b453542d7c9d9eac7be710c937dcc83251349bd2804db434a9e2e689742", func := "envelope/envelopelaw7.CoefOne", spec := "coefOne", apart := false }
def CoefOneSaid : Prop := coefOneRow.holds Try.pinned (OpenSpec.ofChange coefOneSpec)

/-- ITS FALSE NEIGHBOUR: 'it returns false'. Refute it at one input. -/
def coefOneWrong : ChangeSpec := { name := "coefOne", fn := fun _ => fun
  | [d] => { results := [.lit (.bool false)], args := [d] }
  | _ => none }
def CoefOneWrongFalsely : Prop := coefOneRow.holds Try.pinned (OpenSpec.ofChange coefOneWrong)

/-- 'envelopelaw7.CoefOwn': WHATEVER THE INPUT: true; the input reads as it did. -/
def coefOwnSpec : ChangeSpec := { name := "coefOwn", fn := fun _ => fun
  | [d1, d2, d3] => { results := [.lit (.bool true)], args := [d1, d2, d3] }
  | _ => none }
def coefOwnRow : OpenClaim := { program := "ytcjeebbfgogfgaa", sum := "5d2e7b453542d7c9d9eac7be710c937dcc83251349bd2804db434a9e2e689742", func := "envelope/envelopelaw7.CoefOwn", spec := "coefOwn", apart := false }
def CoefOwnSaid : Prop := coefOwnRow.holds Try.pinned (OpenSpec.ofChange coefOwnSpec)

/-- ITS FALSE NEIGHBOUR: 'it returns false'. Refute it at one input. -/
def coefOwnWrong : ChangeSpec := { name := "coefOwn", fn := fun _ => fun
  | [d1, d2, d3] => { results := [.lit (.bool false)], args := [d1, d2, d3] }
  | _ => none }
def CoefOwnWrongFalsely : Prop := coefOwnRow.holds Try.pinned (OpenSpec.ofChange coefOwnWrong)

/- THE SECOND FORM. 'bulk': how many values and letters a reading holds, each counted each time it is reached (what is shared counts as often as it is met; a slice's spare places count too). A statement '..UptoSaid' is the law's where the arguments, and the package variables that the reading takes, are together of bulk at most 1048576: NARROWER than '..Said'. Prove '..Said' where nothing that the law and all that it calls make is longer than what came in: it says more and counts as full. Else prove '..UptoSaid'. A law counts once. -/
mutual
def uptoBulk {H : Type} : DataW H → Nat
  | .lit (.string bytes) => bytes.length + 1
  | .lit _ => 1
  | .nil => 1
  | .ptr d => uptoBulk d + 1
  | .slice elems spare => uptoBulkAll elems + uptoBulkAll spare + 1
  | .agg parts => uptoBulkAll parts + 1
  | .iface _ d => uptoBulk d + 1
  | .map entries => uptoBulkEntries entries + 1
  | .held _ => 1
def uptoBulkAll {H : Type} : List (DataW H) → Nat
  | [] => 0
  | d :: r => uptoBulk d + uptoBulkAll r
def uptoBulkEntries {H : Type} : List (Lit × DataW H) → Nat
  | [] => 0
  | x :: r => uptoBulkEntry x + uptoBulkEntries r
def uptoBulkEntry {H : Type} : Lit × DataW H → Nat
  | (.string bytes, d) => bytes.length + uptoBulk d + 1
  | (_, d) => uptoBulk d + 1
 end
def uptoSmall : (H : Type) → List (DataW H) → Bool := fun _ ds => decide (uptoBulkAll ds ≤ 1048576)
def OpenSpec.upto (s : _root_.Go.ChangeSpec) : _root_.Go.OpenSpec := { _root_.Go.OpenSpec.ofChange s with cond := some uptoSmall }

/-- 'envelopelaw7.CoefAll', WHERE WHAT IT READS IS OF BULK AT MOST 1048576: true; the input reads as it did. -/
def coefAllUptoRow : OpenClaim := { program := "ytcjeebbfgogfgaa", sum := "5d2e7b453542d7c9d9eac7be710c937dcc83251349bd2804db434a9e2e689742", func := "envelope/envelopelaw7.CoefAll", spec := "coefAll", apart := false, narrowed := true }
def CoefAllUptoSaid : Prop := coefAllUptoRow.holds Try.pinned (OpenSpec.upto coefAllSpec)

/-- 'envelopelaw7.CoefMethods', WHERE WHAT IT READS IS OF BULK AT MOST 1048576: true; the input reads as it did. -/
def coefMethodsUptoRow : OpenClaim := { program := "ytcjeebbfgogfgaa", sum := "5d2e7b453542d7c9d9eac7be710c937dcc83251349bd2804db434a9e2e689742", func := "envelope/envelopelaw7.CoefMethods", spec := "coefMethods", apart := false, narrowed := true }
def CoefMethodsUptoSaid : Prop := coefMethodsUptoRow.holds Try.pinned (OpenSpec.upto coefMethodsSpec)

/-- 'envelopelaw7.CoefLow', WHERE WHAT IT READS IS OF BULK AT MOST 1048576: true; the input reads as it did. -/
def coefLowUptoRow : OpenClaim := { program := "ytcjeebbfgogfgaa", sum := "5d2e7b453542d7c9d9eac7be710c937dcc83251349bd2804db434a9e2e689742", func := "envelope/envelopelaw7.CoefLow", spec := "coefLow", apart := false, narrowed := true }
def CoefLowUptoSaid : Prop := coefLowUptoRow.holds Try.pinned (OpenSpec.upto coefLowSpec)

/-- 'envelopelaw7.CoefKnown', WHERE WHAT IT READS IS OF BULK AT MOST 1048576: true; the input reads as it did. -/
def coefKnownUptoRow : OpenClaim := { program := "ytcjeebbfgogfgaa", sum := "5d2e7b453542d7c9d9eac7be710c937dcc83251349bd2804db434a9e2e689742", func := "envelope/envelopelaw7.CoefKnown", spec := "coefKnown", apart := false, narrowed := true }
def CoefKnownUptoSaid : Prop := coefKnownUptoRow.holds Try.pinned (OpenSpec.upto coefKnownSpec)

/-- 'envelopelaw7.CoefSums', WHERE WHAT IT READS IS OF BULK AT MOST 1048576: true; the input reads as it did. -/
def coefSumsUptoRow : OpenClaim := { program := "ytcjeebbfgogfgaa", sum := "5d2e7b453542d7c9d9eac7be710c937dcc83251349bd2804db434a9e2e689742", func := "envelope/envelopelaw7.CoefSums", spec := "coefSums", inPlace := ["math.Float64bits", "math.Float64frombits"], apart := false, narrowed := true }
def CoefSumsUptoSaid : Prop := coefSumsUptoRow.holds Try.pinned (OpenSpec.upto coefSumsSpec)

/-- 'envelopelaw7.CoefOne', WHERE WHAT IT READS IS OF BULK AT MOST 1048576: true; the input reads as it did. -/
def coefOneUptoRow : OpenClaim := { program := "ytcjeebbfgogfgaa", sum := "5d2e7b453542d7c9d9eac7be710c937dcc83251349bd2804db434a9e2e689742", func := "envelope/envelopelaw7.CoefOne", spec := "coefOne", apart := false, narrowed := true }
def CoefOneUptoSaid : Prop := coefOneUptoRow.holds Try.pinned (OpenSpec.upto coefOneSpec)

/-- 'envelopelaw7.CoefOwn', WHERE WHAT IT READS IS OF BULK AT MOST 1048576: true; the input reads as it did. -/
def coefOwnUptoRow : OpenClaim := { program := "ytcjeebbfgogfgaa", sum := "5d2e7b453542d7c9d9eac7be710c937dcc83251349bd2804db434a9e2e689742", func := "envelope/envelopelaw7.CoefOwn", spec := "coefOwn", apart := false, narrowed := true }
def CoefOwnUptoSaid : Prop := coefOwnUptoRow.holds Try.pinned (OpenSpec.upto coefOwnSpec)

end Rows
end Go.Proofs.Ytcjeebbfgogfgaa
