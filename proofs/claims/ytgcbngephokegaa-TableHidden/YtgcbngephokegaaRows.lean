/-
  No cell of these rows narrows 'for every input' (looked for: loops, veiled, ifaces, maps, wideKeys, modest, calm, conditions, laid).
  DERIVED. THE GIVEN ROWS OF THIS SEAT. 5 by the template 'for every input the law returns true; each argument reads behind the call as it read before'; 0 by the template 'total and deterministic' (their statements: YtgcbngephokegaaTotals.lean).
  GIVEN WITH THE SEED: the statements are not yours to turn. If you find one false, say at which input.
  Laid BY PROGRAM, IN A SANDBOX (cutbox-rows.mjs): the forced cells as the released guide's own fill.sh prints them over the translation 830cdd97b7c1a4d8… (all of the seat's roots in one cut). By AI agents, Wed Nov 11 2026. No macro, syntax, notation, axiom, sorry.
-/
import Derived.Test.YtgcbngephokegaaChecked
import GoSem.Claim
import GoSem.ClaimJoined
import GoSem.ClaimMapViews
import Derived.JoinedTies
import Derived.KernelRfl
namespace Go.Proofs.Ytgcbngephokegaa
/- THE CELL 'sum', in the pinned program and in every row, IS THE sha256 OF THE DUMP (.gsa) THAT YtgcbngephokegaaProg.lean LOADS. Nothing in Lean hashes anything: it is a label: what it is worth is what the hold of that sum in a sandbox is worth. -/
noncomputable def Try.pinned : Pinned := { name := "ytgcbngephokegaa", sum := "830cdd97b7c1a4d894a588e7bf7796438f1d883383827563765cf879339b7b18", checked := Try.checked }
namespace Rows
def none {H : Type} : Left H := { results := [], args := [] }

/-- 'crossbucklaw10.TriePlays': WHATEVER THE INPUT: true; the input reads as it did. -/
def triePlaysSpec : ChangeSpec := { name := "triePlays", fn := fun _ => fun
  | [d1, d2, d3] => { results := [.lit (.bool true)], args := [d1, d2, d3] }
  | _ => none }
def triePlaysRow : OpenClaim := { program := "ytgcbngephokegaa", sum := "830cdd97b7c1a4d894a588e7bf7796438f1d883383827563765cf879339b7b18", func := "crossbuck/crossbucklaw10.TriePlays", spec := "triePlays", unfollowed := true, recurses := true, apart := false }
def TriePlaysSaid : Prop := triePlaysRow.holds Try.pinned (OpenSpec.ofChange triePlaysSpec)

/-- ITS FALSE NEIGHBOUR: 'it returns false'. Refute it at one input. -/
def triePlaysWrong : ChangeSpec := { name := "triePlays", fn := fun _ => fun
  | [d1, d2, d3] => { results := [.lit (.bool false)], args := [d1, d2, d3] }
  | _ => none }
def TriePlaysWrongFalsely : Prop := triePlaysRow.holds Try.pinned (OpenSpec.ofChange triePlaysWrong)

/-- 'crossbucklaw11.TablePlays': WHATEVER THE INPUT: true; the input reads as it did. -/
def tablePlaysSpec : ChangeSpec := { name := "tablePlays", fn := fun _ => fun
  | [d1, d2, d3] => { results := [.lit (.bool true)], args := [d1, d2, d3] }
  | _ => none }
def tablePlaysRow : OpenClaim := { program := "ytgcbngephokegaa", sum := "830cdd97b7c1a4d894a588e7bf7796438f1d883383827563765cf879339b7b18", func := "crossbuck/crossbucklaw11.TablePlays", spec := "tablePlays", unfollowed := true, recurses := true, apart := false }
def TablePlaysSaid : Prop := tablePlaysRow.holds Try.pinned (OpenSpec.ofChange tablePlaysSpec)

/-- ITS FALSE NEIGHBOUR: 'it returns false'. Refute it at one input. -/
def tablePlaysWrong : ChangeSpec := { name := "tablePlays", fn := fun _ => fun
  | [d1, d2, d3] => { results := [.lit (.bool false)], args := [d1, d2, d3] }
  | _ => none }
def TablePlaysWrongFalsely : Prop := tablePlaysRow.holds Try.pinned (OpenSpec.ofChange tablePlaysWrong)

/-- 'crossbucklaw11.TableHidden': WHATEVER THE INPUT: true; the input reads as it did. -/
def tableHiddenSpec : ChangeSpec := { name := "tableHidden", fn := fun _ => fun
  | [d1, d2, d3] => { results := [.lit (.bool true)], args := [d1, d2, d3] }
  | _ => none }
def tableHiddenRow : OpenClaim := { program := "ytgcbngephokegaa", sum := "830cdd97b7c1a4d894a588e7bf7796438f1d883383827563765cf879339b7b18", func := "crossbuck/crossbucklaw11.TableHidden", spec := "tableHidden", unfollowed := true, recurses := true, apart := false }
def TableHiddenSaid : Prop := tableHiddenRow.holds Try.pinned (OpenSpec.ofChange tableHiddenSpec)

/-- ITS FALSE NEIGHBOUR: 'it returns false'. Refute it at one input. -/
def tableHiddenWrong : ChangeSpec := { name := "tableHidden", fn := fun _ => fun
  | [d1, d2, d3] => { results := [.lit (.bool false)], args := [d1, d2, d3] }
  | _ => none }
def TableHiddenWrongFalsely : Prop := tableHiddenRow.holds Try.pinned (OpenSpec.ofChange tableHiddenWrong)

/-- 'crossbucklaw11.TableClones': WHATEVER THE INPUT: true; the input reads as it did. -/
def tableClonesSpec : ChangeSpec := { name := "tableClones", fn := fun _ => fun
  | [d1, d2, d3] => { results := [.lit (.bool true)], args := [d1, d2, d3] }
  | _ => none }
def tableClonesRow : OpenClaim := { program := "ytgcbngephokegaa", sum := "830cdd97b7c1a4d894a588e7bf7796438f1d883383827563765cf879339b7b18", func := "crossbuck/crossbucklaw11.TableClones", spec := "tableClones", unfollowed := true, recurses := true, apart := false }
def TableClonesSaid : Prop := tableClonesRow.holds Try.pinned (OpenSpec.ofChange tableClonesSpec)

/-- ITS FALSE NEIGHBOUR: 'it returns false'. Refute it at one input. -/
def tableClonesWrong : ChangeSpec := { name := "tableClones", fn := fun _ => fun
  | [d1, d2, d3] => { results := [.lit (.bool false)], args := [d1, d2, d3] }
  | _ => none }
def TableClonesWrongFalsely : Prop := tableClonesRow.holds Try.pinned (OpenSpec.ofChange tableClonesWrong)

/-- 'crossbucklaw11.TableBests': WHATEVER THE INPUT: true; the input reads as it did. -/
def tableBestsSpec : ChangeSpec := { name := "tableBests", fn := fun _ => fun
  | [d1, d2] => { results := [.lit (.bool true)], args := [d1, d2] }
  | _ => none }
def tableBestsRow : OpenClaim := { program := "ytgcbngephokegaa", sum := "830cdd97b7c1a4d894a588e7bf7796438f1d883383827563765cf879339b7b18", func := "crossbuck/crossbucklaw11.TableBests", spec := "tableBests", unfollowed := true, recurses := true, apart := false }
def TableBestsSaid : Prop := tableBestsRow.holds Try.pinned (OpenSpec.ofChange tableBestsSpec)

/-- ITS FALSE NEIGHBOUR: 'it returns false'. Refute it at one input. -/
def tableBestsWrong : ChangeSpec := { name := "tableBests", fn := fun _ => fun
  | [d1, d2] => { results := [.lit (.bool false)], args := [d1, d2] }
  | _ => none }
def TableBestsWrongFalsely : Prop := tableBestsRow.holds Try.pinned (OpenSpec.ofChange tableBestsWrong)

/- THE SECOND FORM. 'bulk': how many values and letters a reading holds, each counted each time it is reached (what is shared counts as often as it is met; a slice's spare places count too). A statement '..UptoSaid' is the law's where the arguments, and the package variables that the reading takes, are together of bulk at most 1048576: NARROWER than '..Said'. Prove '..Said' where nothing that the law and all that it calls make is longer than what came in: it says more and counts as full. Else prove '..UptoSaid'. A law counts once. -/
mutual
def uptoBulk {H : Type} : DataW H → Nat
  | .lit (.string bytes) => bytes.length + 1
  | .lit _ => 1
  | .nil => 1
  | .ptr d => uptoBulk d + 1
  | .slice elems spare => uptoBulkAll elems + uptoBulkAll spare + 1
  | .agg parts => uptoBulkAll parts + 1
  | .iface _ d => uptoBulk d + 1
  | .map entries => uptoBulkEntries entries + 1
  | .held _ => 1
def uptoBulkAll {H : Type} : List (DataW H) → Nat
  | [] => 0
  | d :: r => uptoBulk d + uptoBulkAll r
def uptoBulkEntries {H : Type} : List (Lit × DataW H) → Nat
  | [] => 0
  | x :: r => uptoBulkEntry x + uptoBulkEntries r
def uptoBulkEntry {H : Type} : Lit × DataW H → Nat
  | (.string bytes, d) => bytes.length + uptoBulk d + 1
  | (_, d) => uptoBulk d + 1
 end
def uptoSmall : (H : Type) → List (DataW H) → Bool := fun _ ds => decide (uptoBulkAll ds ≤ 1048576)
def OpenSpec.upto (s : _root_.Go.ChangeSpec) : _root_.Go.OpenSpec := { _root_.Go.OpenSpec.ofChange s with cond := some uptoSmall }

/-- 'crossbucklaw10.TriePlays', WHERE WHAT IT READS IS OF BULK AT MOST 1048576: true; the input reads as it did. -/
def triePlaysUptoRow : OpenClaim := { program := "ytgcbngephokegaa", sum := "830cdd97b7c1a4d894a588e7bf7796438f1d883383827563765cf879339b7b18", func := "crossbuck/crossbucklaw10.TriePlays", spec := "triePlays", unfollowed := true, recurses := true, apart := false, narrowed := true }
def TriePlaysUptoSaid : Prop := triePlaysUptoRow.holds Try.pinned (OpenSpec.upto triePlaysSpec)

/-- 'crossbucklaw11.TablePlays', WHERE WHAT IT READS IS OF BULK AT MOST 1048576: true; the input reads as it did. -/
def tablePlaysUptoRow : OpenClaim := { program := "ytgcbngephokegaa", sum := "830cdd97b7c1a4d894a588e7bf7796438f1d883383827563765cf879339b7b18", func := "crossbuck/crossbucklaw11.TablePlays", spec := "tablePlays", unfollowed := true, recurses := true, apart := false, narrowed := true }
def TablePlaysUptoSaid : Prop := tablePlaysUptoRow.holds Try.pinned (OpenSpec.upto tablePlaysSpec)

/-- 'crossbucklaw11.TableHidden', WHERE WHAT IT READS IS OF BULK AT MOST 1048576: true; the input reads as it did. -/
def tableHiddenUptoRow : OpenClaim := { program := "ytgcbngephokegaa", sum := "830cdd97b7c1a4d894a588e7bf7796438f1d883383827563765cf879339b7b18", func := "crossbuck/crossbucklaw11.TableHidden", spec := "tableHidden", unfollowed := true, recurses := true, apart := false, narrowed := true }
def TableHiddenUptoSaid : Prop := tableHiddenUptoRow.holds Try.pinned (OpenSpec.upto tableHiddenSpec)

/-- 'crossbucklaw11.TableClones', WHERE WHAT IT READS IS OF BULK AT MOST 1048576: true; the input reads as it did. -/
def tableClonesUptoRow : OpenClaim := { program := "ytgcbngephokegaa", sum := "830cdd97b7c1a4d894a588e7bf7796438f1d883383827563765cf879339b7b18", func := "crossbuck/crossbucklaw11.TableClones", spec := "tableClones", unfollowed := true, recurses := true, apart := false, narrowed := true }
def TableClonesUptoSaid : Prop := tableClonesUptoRow.holds Try.pinned (OpenSpec.upto tableClonesSpec)

/-- 'crossbucklaw11.TableBests', WHERE WHAT IT READS IS OF BULK AT MOST 1048576: true; the input reads as it did. -/
def tableBestsUptoRow : OpenClaim := { program := "ytgcbngephokegaa", sum := "830cdd97b7c1a4d894a588e7bf7796438f1d883383827563765cf879339b7b18", func := "crossbuck/crossbucklaw11.TableBests", spec := "tableBests", unfollowed := true, recurses := true, apart := false, narrowed := true }
def TableBestsUptoSaid : Prop := tableBestsUptoRow.holds Try.pinned (OpenSpec.upto tableBestsSpec)

end Rows
end Go.Proofs.Ytgcbngephokegaa
