/-
  No cell of these rows narrows 'for every input' (looked for: loops, veiled, ifaces, maps, wideKeys, modest, calm, conditions, laid).
  DERIVED. THE GIVEN ROWS OF THIS SEAT. 3 by the template 'for every input the law returns true; each argument reads behind the call as it read before'; 0 by the template 'total and deterministic' (their statements: YtpnjcflfnoamoaaGreatTotals.lean).
  GIVEN WITH THE SEED: the statements are not yours to turn. If you find one false, say at which input.
  Laid BY PROGRAM, IN A SANDBOX (cutbox-rows.mjs): the forced cells as the released guide's own fill.sh prints them over the translation d2923f2986038a22… (all of the seat's roots in one cut). By AI agents, Wed Nov 11 2026. No macro, syntax, notation, axiom, sorry.
-/
import Derived.Test.YtpnjcflfnoamoaaGreatChecked
import GoSem.Claim
import GoSem.ClaimJoined
import GoSem.ClaimMapViews
import Derived.JoinedTies
import Derived.KernelRfl
namespace Go.Proofs.YtpnjcflfnoamoaaGreat
/- THE CELL 'sum', in the pinned program and in every row, IS THE sha256 OF THE DUMP (.gsa) THAT YtpnjcflfnoamoaaGreatProg.lean LOADS. Nothing in Lean hashes anything: it is a label: what it is worth is what the hold of that sum in a sandbox is worth. -/
noncomputable def Tryz.pinned : Pinned := { name := "ytpnjcflfnoamoaagreat", sum := "d2923f2986038a22c5dff5e3e1a8726c4bd974491f27c0a0986db7945017f0d1", checked := Tryz.checked }
namespace Rows
def none {H : Type} : Left H := { results := [], args := [] }

/-- 'hourglasslaw15.CkptBytes': WHATEVER THE INPUT: true; the input reads as it did. -/
def ckptBytesSpec : ChangeSpec := { name := "ckptBytes", fn := fun _ => fun
  | [d1, d2, d3, d4] => { results := [.lit (.bool true)], args := [d1, d2, d3, d4] }
  | _ => none }
def ckptBytesRow : OpenClaim := { program := "ytpnjcflfnoamoaagreat", sum := "d2923f2986038a22c5dff5e3e1a8726c4bd974491f27c0a0986db7945017f0d1", func := "hourglass/hourglasslaw15.CkptBytes", spec := "ckptBytes", inPlace := ["internal/bytealg.Compare", "internal/bytealg.IndexByte", "slices.overlaps[hourglass/chain.Version]"], unfollowed := true, recurses := true, plainKeys := false, apart := false }
def CkptBytesSaid : Prop := ckptBytesRow.holds Tryz.pinned (OpenSpec.ofChange ckptBytesSpec)

/-- ITS FALSE NEIGHBOUR: 'it returns false'. Refute it at one input. -/
def ckptBytesWrong : ChangeSpec := { name := "ckptBytes", fn := fun _ => fun
  | [d1, d2, d3, d4] => { results := [.lit (.bool false)], args := [d1, d2, d3, d4] }
  | _ => none }
def CkptBytesWrongFalsely : Prop := ckptBytesRow.holds Tryz.pinned (OpenSpec.ofChange ckptBytesWrong)

/-- 'hourglasslaw15.CkptBack': WHATEVER THE INPUT: true; the input reads as it did. -/
def ckptBackSpec : ChangeSpec := { name := "ckptBack", fn := fun _ => fun
  | [d1, d2] => { results := [.lit (.bool true)], args := [d1, d2] }
  | _ => none }
def ckptBackRow : OpenClaim := { program := "ytpnjcflfnoamoaagreat", sum := "d2923f2986038a22c5dff5e3e1a8726c4bd974491f27c0a0986db7945017f0d1", func := "hourglass/hourglasslaw15.CkptBack", spec := "ckptBack", inPlace := ["internal/bytealg.Compare", "internal/bytealg.IndexByte", "slices.overlaps[hourglass/chain.Version]"], unfollowed := true, recurses := true, plainKeys := false, apart := false }
def CkptBackSaid : Prop := ckptBackRow.holds Tryz.pinned (OpenSpec.ofChange ckptBackSpec)

/-- ITS FALSE NEIGHBOUR: 'it returns false'. Refute it at one input. -/
def ckptBackWrong : ChangeSpec := { name := "ckptBack", fn := fun _ => fun
  | [d1, d2] => { results := [.lit (.bool false)], args := [d1, d2] }
  | _ => none }
def CkptBackWrongFalsely : Prop := ckptBackRow.holds Tryz.pinned (OpenSpec.ofChange ckptBackWrong)

/-- 'hourglasslaw15.CkptApart': WHATEVER THE INPUT: true; the input reads as it did. -/
def ckptApartSpec : ChangeSpec := { name := "ckptApart", fn := fun _ => fun
  | [d1, d2] => { results := [.lit (.bool true)], args := [d1, d2] }
  | _ => none }
def ckptApartRow : OpenClaim := { program := "ytpnjcflfnoamoaagreat", sum := "d2923f2986038a22c5dff5e3e1a8726c4bd974491f27c0a0986db7945017f0d1", func := "hourglass/hourglasslaw15.CkptApart", spec := "ckptApart", inPlace := ["internal/bytealg.Compare", "internal/bytealg.IndexByte", "slices.overlaps[hourglass/chain.Version]"], unfollowed := true, recurses := true, plainKeys := false, apart := false }
def CkptApartSaid : Prop := ckptApartRow.holds Tryz.pinned (OpenSpec.ofChange ckptApartSpec)

/-- ITS FALSE NEIGHBOUR: 'it returns false'. Refute it at one input. -/
def ckptApartWrong : ChangeSpec := { name := "ckptApart", fn := fun _ => fun
  | [d1, d2] => { results := [.lit (.bool false)], args := [d1, d2] }
  | _ => none }
def CkptApartWrongFalsely : Prop := ckptApartRow.holds Tryz.pinned (OpenSpec.ofChange ckptApartWrong)

/- THE SECOND FORM. 'bulk': how many values and letters a reading holds, each counted each time it is reached (what is shared counts as often as it is met; a slice's spare places count too). A statement '..UptoSaid' is the law's where the arguments, and the package variables that the reading takes, are together of bulk at most 1048576: NARROWER than '..Said'. Prove '..Said' where nothing that the law and all that it calls make is longer than what came in: it says more and counts as full. Else prove '..UptoSaid'. A law counts once. -/
mutual
def uptoBulk {H : Type} : DataW H → Nat
  | .lit (.string bytes) => bytes.length + 1
  | .lit _ => 1
  | .nil => 1
  | .ptr d => uptoBulk d + 1
  | .slice elems spare => uptoBulkAll elems + uptoBulkAll spare + 1
  | .agg parts => uptoBulkAll parts + 1
  | .iface _ d => uptoBulk d + 1
  | .map entries => uptoBulkEntries entries + 1
  | .held _ => 1
def uptoBulkAll {H : Type} : List (DataW H) → Nat
  | [] => 0
  | d :: r => uptoBulk d + uptoBulkAll r
def uptoBulkEntries {H : Type} : List (Lit × DataW H) → Nat
  | [] => 0
  | x :: r => uptoBulkEntry x + uptoBulkEntries r
def uptoBulkEntry {H : Type} : Lit × DataW H → Nat
  | (.string bytes, d) => bytes.length + uptoBulk d + 1
  | (_, d) => uptoBulk d + 1
 end
def uptoSmall : (H : Type) → List (DataW H) → Bool := fun _ ds => decide (uptoBulkAll ds ≤ 1048576)
def OpenSpec.upto (s : _root_.Go.ChangeSpec) : _root_.Go.OpenSpec := { _root_.Go.OpenSpec.ofChange s with cond := some uptoSmall }

/-- 'hourglasslaw15.CkptBytes', WHERE WHAT IT READS IS OF BULK AT MOST 1048576: true; the input reads as it did. -/
def ckptBytesUptoRow : OpenClaim := { program := "ytpnjcflfnoamoaagreat", sum := "d2923f2986038a22c5dff5e3e1a8726c4bd974491f27c0a0986db7945017f0d1", func := "hourglass/hourglasslaw15.CkptBytes", spec := "ckptBytes", inPlace := ["internal/bytealg.Compare", "internal/bytealg.IndexByte", "slices.overlaps[hourglass/chain.Version]"], unfollowed := true, recurses := true, plainKeys := false, apart := false, narrowed := true }
def CkptBytesUptoSaid : Prop := ckptBytesUptoRow.holds Tryz.pinned (OpenSpec.upto ckptBytesSpec)

/-- 'hourglasslaw15.CkptBack', WHERE WHAT IT READS IS OF BULK AT MOST 1048576: true; the input reads as it did. -/
def ckptBackUptoRow : OpenClaim := { program := "ytpnjcflfnoamoaagreat", sum := "d2923f2986038a22c5dff5e3e1a8726c4bd974491f27c0a0986db7945017f0d1", func := "hourglass/hourglasslaw15.CkptBack", spec := "ckptBack", inPlace := ["internal/bytealg.Compare", "internal/bytealg.IndexByte", "slices.overlaps[hourglass/chain.Version]"], unfollowed := true, recurses := true, plainKeys := false, apart := false, narrowed := true }
def CkptBackUptoSaid : Prop := ckptBackUptoRow.holds Tryz.pinned (OpenSpec.upto ckptBackSpec)

/-- 'hourglasslaw15.CkptApart', WHERE WHAT IT READS IS OF BULK AT MOST 1048576: true; the input reads as it did. -/
def ckptApartUptoRow : OpenClaim := { program := "ytpnjcflfnoamoaagreat", sum := "d2923f2986038a22c5dff5e3e1a8726c4bd974491f27c0a0986db7945017f0d1", func := "hourglass/hourglasslaw15.CkptApart", spec := "ckptApart", inPlace := ["internal/bytealg.Compare", "internal/bytealg.IndexByte", "slices.overlaps[hourglass/chain.Version]"], unfollowed := true, recurses := true, plainKeys := false, apart := false, narrowed := true }
def CkptApartUptoSaid : Prop := ckptApartUptoRow.holds Tryz.pinned (OpenSpec.upto ckptApartSpec)

end Rows
end Go.Proofs.YtpnjcflfnoamoaaGreat
