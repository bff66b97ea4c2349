/-
  NARROWER THAN 'FOR EVERY INPUT', by the rows' own cells (each row's printed sentence says how): MerkleExtends: laid · MerkleFrontiers: laid · MerkleLoads: laid · MerkleApart: laid · MerkleStays: laid · MerkleNil: laid.
  DERIVED. THE GIVEN ROWS OF THIS SEAT. 6 by the template 'for every input the law returns true; each argument reads behind the call as it read before'; 0 by the template 'total and deterministic' (their statements: YtdcninfbpmhojaaDoorTotals.lean).
  GIVEN WITH THE SEED: the statements are not yours to turn. If you find one false, say at which input.
  Laid BY PROGRAM, IN A SANDBOX (cutbox-rows.mjs): the forced cells as the released guide's own fill.sh prints them over the translation e8017e4ca8e7ac99… (all of the seat's roots in one cut). By AI agents, Wed Nov 11 2026. No macro, syntax, notation, axiom, sorry.
-/
import Derived.Test.YtdcninfbpmhojaaDoorChecked
import GoSem.Claim
import GoSem.ClaimJoined
import GoSem.ClaimMapViews
import Derived.JoinedTies
import Derived.KernelRfl
namespace Go.Proofs.YtdcninfbpmhojaaDoor
/- THE CELL 'sum', in the pinned program and in every row, IS THE sha256 OF THE DUMP (.gsa) THAT YtdcninfbpmhojaaDoorProg.lean LOADS. Nothing in Lean hashes anything: it is a label: what it is worth is what the hold of that sum in a sandbox is worth. -/
noncomputable def Tryd.pinned : Pinned := { name := "ytdcninfbpmhojaadoor", sum := "e8017e4ca8e7ac9993c8361610c6443f5e8f20e84c1b61c1328c998ba1275f6f", checked := Tryd.checked }
namespace Rows
def none {H : Type} : Left H := { results := [], args := [] }

/- WHAT THE LISTED PACKAGE-LEVEL VARIABLES READ AS WHEN THE CALL BEGINS. Each datum BY PROGRAM (the guide's laid-datum.mjs) off the statement by which the dump's own 'gosem.cut.vars' lays the variable. In a bare row this is a premise. The card (YtdcninfbpmhojaaDoorCards.lean) ties it to the program's text. -/
def laid_hallmark_digest_fractions {H : Type} : DataW H := .agg [.lit (.int .u32 1116352408), .lit (.int .u32 1899447441), .lit (.int .u32 3049323471), .lit (.int .u32 3921009573), .lit (.int .u32 961987163), .lit (.int .u32 1508970993), .lit (.int .u32 2453635748), .lit (.int .u32 2870763221), .lit (.int .u32 3624381080), .lit (.int .u32 310598401), .lit (.int .u32 607225278), .lit (.int .u32 1426881987), .lit (.int .u32 1925078388), .lit (.int .u32 2162078206), .lit (.int .u32 2614888103), .lit (.int .u32 3248222580), .lit (.int .u32 3835390401), .lit (.int .u32 4022224774), .lit (.int .u32 264347078), .lit (.int .u32 604807628), .lit (.int .u32 770255983), .lit (.int .u32 1249150122), .lit (.int .u32 1555081692), .lit (.int .u32 1996064986), .lit (.int .u32 2554220882), .lit (.int .u32 2821834349), .lit (.int .u32 2952996808), .lit (.int .u32 3210313671), .lit (.int .u32 3336571891), .lit (.int .u32 3584528711), .lit (.int .u32 113926993), .lit (.int .u32 338241895), .lit (.int .u32 666307205), .lit (.int .u32 773529912), .lit (.int .u32 1294757372), .lit (.int .u32 1396182291), .lit (.int .u32 1695183700), .lit (.int .u32 1986661051), .lit (.int .u32 2177026350), .lit (.int .u32 2456956037), .lit (.int .u32 2730485921), .lit (.int .u32 2820302411), .lit (.int .u32 3259730800), .lit (.int .u32 3345764771), .lit (.int .u32 3516065817), .lit (.int .u32 3600352804), .lit (.int .u32 4094571909), .lit (.int .u32 275423344), .lit (.int .u32 430227734), .lit (.int .u32 506948616), .lit (.int .u32 659060556), .lit (.int .u32 883997877), .lit (.int .u32 958139571), .lit (.int .u32 1322822218), .lit (.int .u32 1537002063), .lit (.int .u32 1747873779), .lit (.int .u32 1955562222), .lit (.int .u32 2024104815), .lit (.int .u32 2227730452), .lit (.int .u32 2361852424), .lit (.int .u32 2428436474), .lit (.int .u32 2756734187), .lit (.int .u32 3204031479), .lit (.int .u32 3329325298)]

/-- 'hallmarklaw03.MerkleExtends': WHATEVER THE INPUT: true; the input reads as it did. -/
def merkleExtendsSpec : ChangeSpec := { name := "merkleExtends", fn := fun _ => fun
  | [d1, d2, d3, d4] => { results := [.lit (.bool true)], args := [d1, d2, d3, d4] }
  | _ => none }
def merkleExtendsRow : OpenClaim := { program := "ytdcninfbpmhojaadoor", sum := "e8017e4ca8e7ac9993c8361610c6443f5e8f20e84c1b61c1328c998ba1275f6f", func := "hallmark/hallmarklaw03.MerkleExtends", spec := "merkleExtends", recurses := true, named := ["hallmark/digest.fractions"], apart := false, laid := [("hallmark/digest.fractions", laid_hallmark_digest_fractions)] }
def MerkleExtendsSaid : Prop := merkleExtendsRow.holds Tryd.pinned (OpenSpec.ofChange merkleExtendsSpec)

/-- ITS FALSE NEIGHBOUR: 'it returns false'. Refute it at one input. -/
def merkleExtendsWrong : ChangeSpec := { name := "merkleExtends", fn := fun _ => fun
  | [d1, d2, d3, d4] => { results := [.lit (.bool false)], args := [d1, d2, d3, d4] }
  | _ => none }
def MerkleExtendsWrongFalsely : Prop := merkleExtendsRow.holds Tryd.pinned (OpenSpec.ofChange merkleExtendsWrong)

/-- 'hallmarklaw03.MerkleFrontiers': WHATEVER THE INPUT: true; the input reads as it did. -/
def merkleFrontiersSpec : ChangeSpec := { name := "merkleFrontiers", fn := fun _ => fun
  | [d1, d2] => { results := [.lit (.bool true)], args := [d1, d2] }
  | _ => none }
def merkleFrontiersRow : OpenClaim := { program := "ytdcninfbpmhojaadoor", sum := "e8017e4ca8e7ac9993c8361610c6443f5e8f20e84c1b61c1328c998ba1275f6f", func := "hallmark/hallmarklaw03.MerkleFrontiers", spec := "merkleFrontiers", unfollowed := true, recurses := true, named := ["hallmark/digest.fractions"], apart := false, laid := [("hallmark/digest.fractions", laid_hallmark_digest_fractions)] }
def MerkleFrontiersSaid : Prop := merkleFrontiersRow.holds Tryd.pinned (OpenSpec.ofChange merkleFrontiersSpec)

/-- ITS FALSE NEIGHBOUR: 'it returns false'. Refute it at one input. -/
def merkleFrontiersWrong : ChangeSpec := { name := "merkleFrontiers", fn := fun _ => fun
  | [d1, d2] => { results := [.lit (.bool false)], args := [d1, d2] }
  | _ => none }
def MerkleFrontiersWrongFalsely : Prop := merkleFrontiersRow.holds Tryd.pinned (OpenSpec.ofChange merkleFrontiersWrong)

/-- 'hallmarklaw03.MerkleLoads': WHATEVER THE INPUT: true; the input reads as it did. -/
def merkleLoadsSpec : ChangeSpec := { name := "merkleLoads", fn := fun _ => fun
  | [d1, d2, d3] => { results := [.lit (.bool true)], args := [d1, d2, d3] }
  | _ => none }
def merkleLoadsRow : OpenClaim := { program := "ytdcninfbpmhojaadoor", sum := "e8017e4ca8e7ac9993c8361610c6443f5e8f20e84c1b61c1328c998ba1275f6f", func := "hallmark/hallmarklaw03.MerkleLoads", spec := "merkleLoads", unfollowed := true, recurses := true, named := ["hallmark/digest.fractions"], apart := false, laid := [("hallmark/digest.fractions", laid_hallmark_digest_fractions)] }
def MerkleLoadsSaid : Prop := merkleLoadsRow.holds Tryd.pinned (OpenSpec.ofChange merkleLoadsSpec)

/-- ITS FALSE NEIGHBOUR: 'it returns false'. Refute it at one input. -/
def merkleLoadsWrong : ChangeSpec := { name := "merkleLoads", fn := fun _ => fun
  | [d1, d2, d3] => { results := [.lit (.bool false)], args := [d1, d2, d3] }
  | _ => none }
def MerkleLoadsWrongFalsely : Prop := merkleLoadsRow.holds Tryd.pinned (OpenSpec.ofChange merkleLoadsWrong)

/-- 'hallmarklaw03.MerkleApart': WHATEVER THE INPUT: true; the input reads as it did. -/
def merkleApartSpec : ChangeSpec := { name := "merkleApart", fn := fun _ => fun
  | [d1, d2, d3, d4] => { results := [.lit (.bool true)], args := [d1, d2, d3, d4] }
  | _ => none }
def merkleApartRow : OpenClaim := { program := "ytdcninfbpmhojaadoor", sum := "e8017e4ca8e7ac9993c8361610c6443f5e8f20e84c1b61c1328c998ba1275f6f", func := "hallmark/hallmarklaw03.MerkleApart", spec := "merkleApart", recurses := true, named := ["hallmark/digest.fractions"], apart := false, laid := [("hallmark/digest.fractions", laid_hallmark_digest_fractions)] }
def MerkleApartSaid : Prop := merkleApartRow.holds Tryd.pinned (OpenSpec.ofChange merkleApartSpec)

/-- ITS FALSE NEIGHBOUR: 'it returns false'. Refute it at one input. -/
def merkleApartWrong : ChangeSpec := { name := "merkleApart", fn := fun _ => fun
  | [d1, d2, d3, d4] => { results := [.lit (.bool false)], args := [d1, d2, d3, d4] }
  | _ => none }
def MerkleApartWrongFalsely : Prop := merkleApartRow.holds Tryd.pinned (OpenSpec.ofChange merkleApartWrong)

/-- 'hallmarklaw03.MerkleStays': WHATEVER THE INPUT: true; the input reads as it did. -/
def merkleStaysSpec : ChangeSpec := { name := "merkleStays", fn := fun _ => fun
  | [d1, d2, d3] => { results := [.lit (.bool true)], args := [d1, d2, d3] }
  | _ => none }
def merkleStaysRow : OpenClaim := { program := "ytdcninfbpmhojaadoor", sum := "e8017e4ca8e7ac9993c8361610c6443f5e8f20e84c1b61c1328c998ba1275f6f", func := "hallmark/hallmarklaw03.MerkleStays", spec := "merkleStays", recurses := true, named := ["hallmark/digest.fractions"], apart := false, laid := [("hallmark/digest.fractions", laid_hallmark_digest_fractions)] }
def MerkleStaysSaid : Prop := merkleStaysRow.holds Tryd.pinned (OpenSpec.ofChange merkleStaysSpec)

/-- ITS FALSE NEIGHBOUR: 'it returns false'. Refute it at one input. -/
def merkleStaysWrong : ChangeSpec := { name := "merkleStays", fn := fun _ => fun
  | [d1, d2, d3] => { results := [.lit (.bool false)], args := [d1, d2, d3] }
  | _ => none }
def MerkleStaysWrongFalsely : Prop := merkleStaysRow.holds Tryd.pinned (OpenSpec.ofChange merkleStaysWrong)

/-- 'hallmarklaw03.MerkleNil': WHATEVER THE INPUT: true; the input reads as it did. -/
def merkleNilSpec : ChangeSpec := { name := "merkleNil", fn := fun _ => fun
  | [d] => { results := [.lit (.bool true)], args := [d] }
  | _ => none }
def merkleNilRow : OpenClaim := { program := "ytdcninfbpmhojaadoor", sum := "e8017e4ca8e7ac9993c8361610c6443f5e8f20e84c1b61c1328c998ba1275f6f", func := "hallmark/hallmarklaw03.MerkleNil", spec := "merkleNil", unfollowed := true, recurses := true, named := ["hallmark/digest.fractions"], apart := false, laid := [("hallmark/digest.fractions", laid_hallmark_digest_fractions)] }
def MerkleNilSaid : Prop := merkleNilRow.holds Tryd.pinned (OpenSpec.ofChange merkleNilSpec)

/-- ITS FALSE NEIGHBOUR: 'it returns false'. Refute it at one input. -/
def merkleNilWrong : ChangeSpec := { name := "merkleNil", fn := fun _ => fun
  | [d] => { results := [.lit (.bool false)], args := [d] }
  | _ => none }
def MerkleNilWrongFalsely : Prop := merkleNilRow.holds Tryd.pinned (OpenSpec.ofChange merkleNilWrong)

/- THE SECOND FORM. 'bulk': how many values and letters a reading holds, each counted each time it is reached (what is shared counts as often as it is met; a slice's spare places count too). A statement '..UptoSaid' is the law's where the arguments, and the package variables that the reading takes, are together of bulk at most 1048576: NARROWER than '..Said'. Prove '..Said' where nothing that the law and all that it calls make is longer than what came in: it says more and counts as full. Else prove '..UptoSaid'. A law counts once. -/
mutual
def uptoBulk {H : Type} : DataW H → Nat
  | .lit (.string bytes) => bytes.length + 1
  | .lit _ => 1
  | .nil => 1
  | .ptr d => uptoBulk d + 1
  | .slice elems spare => uptoBulkAll elems + uptoBulkAll spare + 1
  | .agg parts => uptoBulkAll parts + 1
  | .iface _ d => uptoBulk d + 1
  | .map entries => uptoBulkEntries entries + 1
  | .held _ => 1
def uptoBulkAll {H : Type} : List (DataW H) → Nat
  | [] => 0
  | d :: r => uptoBulk d + uptoBulkAll r
def uptoBulkEntries {H : Type} : List (Lit × DataW H) → Nat
  | [] => 0
  | x :: r => uptoBulkEntry x + uptoBulkEntries r
def uptoBulkEntry {H : Type} : Lit × DataW H → Nat
  | (.string bytes, d) => bytes.length + uptoBulk d + 1
  | (_, d) => uptoBulk d + 1
 end
def uptoSmall : (H : Type) → List (DataW H) → Bool := fun _ ds => decide (uptoBulkAll ds ≤ 1048576)
def OpenSpec.upto (s : _root_.Go.ChangeSpec) : _root_.Go.OpenSpec := { _root_.Go.OpenSpec.ofChange s with cond := some uptoSmall }

/-- 'hallmarklaw03.MerkleExtends', WHERE WHAT IT READS IS OF BULK AT MOST 1048576: true; the input reads as it did. -/
def merkleExtendsUptoRow : OpenClaim := { program := "ytdcninfbpmhojaadoor", sum := "e8017e4ca8e7ac9993c8361610c6443f5e8f20e84c1b61c1328c998ba1275f6f", func := "hallmark/hallmarklaw03.MerkleExtends", spec := "merkleExtends", recurses := true, named := ["hallmark/digest.fractions"], apart := false, laid := [("hallmark/digest.fractions", laid_hallmark_digest_fractions)], narrowed := true }
def MerkleExtendsUptoSaid : Prop := merkleExtendsUptoRow.holds Tryd.pinned (OpenSpec.upto merkleExtendsSpec)

/-- 'hallmarklaw03.MerkleFrontiers', WHERE WHAT IT READS IS OF BULK AT MOST 1048576: true; the input reads as it did. -/
def merkleFrontiersUptoRow : OpenClaim := { program := "ytdcninfbpmhojaadoor", sum := "e8017e4ca8e7ac9993c8361610c6443f5e8f20e84c1b61c1328c998ba1275f6f", func := "hallmark/hallmarklaw03.MerkleFrontiers", spec := "merkleFrontiers", unfollowed := true, recurses := true, named := ["hallmark/digest.fractions"], apart := false, laid := [("hallmark/digest.fractions", laid_hallmark_digest_fractions)], narrowed := true }
def MerkleFrontiersUptoSaid : Prop := merkleFrontiersUptoRow.holds Tryd.pinned (OpenSpec.upto merkleFrontiersSpec)

/-- 'hallmarklaw03.MerkleLoads', WHERE WHAT IT READS IS OF BULK AT MOST 1048576: true; the input reads as it did. -/
def merkleLoadsUptoRow : OpenClaim := { program := "ytdcninfbpmhojaadoor", sum := "e8017e4ca8e7ac9993c8361610c6443f5e8f20e84c1b61c1328c998ba1275f6f", func := "hallmark/hallmarklaw03.MerkleLoads", spec := "merkleLoads", unfollowed := true, recurses := true, named := ["hallmark/digest.fractions"], apart := false, laid := [("hallmark/digest.fractions", laid_hallmark_digest_fractions)], narrowed := true }
def MerkleLoadsUptoSaid : Prop := merkleLoadsUptoRow.holds Tryd.pinned (OpenSpec.upto merkleLoadsSpec)

/-- 'hallmarklaw03.MerkleApart', WHERE WHAT IT READS IS OF BULK AT MOST 1048576: true; the input reads as it did. -/
def merkleApartUptoRow : OpenClaim := { program := "ytdcninfbpmhojaadoor", sum := "e8017e4ca8e7ac9993c8361610c6443f5e8f20e84c1b61c1328c998ba1275f6f", func := "hallmark/hallmarklaw03.MerkleApart", spec := "merkleApart", recurses := true, named := ["hallmark/digest.fractions"], apart := false, laid := [("hallmark/digest.fractions", laid_hallmark_digest_fractions)], narrowed := true }
def MerkleApartUptoSaid : Prop := merkleApartUptoRow.holds Tryd.pinned (OpenSpec.upto merkleApartSpec)

/-- 'hallmarklaw03.MerkleStays', WHERE WHAT IT READS IS OF BULK AT MOST 1048576: true; the input reads as it did. -/
def merkleStaysUptoRow : OpenClaim := { program := "ytdcninfbpmhojaadoor", sum := "e8017e4ca8e7ac9993c8361610c6443f5e8f20e84c1b61c1328c998ba1275f6f", func := "hallmark/hallmarklaw03.MerkleStays", spec := "merkleStays", recurses := true, named := ["hallmark/digest.fractions"], apart := false, laid := [("hallmark/digest.fractions", laid_hallmark_digest_fractions)], narrowed := true }
def MerkleStaysUptoSaid : Prop := merkleStaysUptoRow.holds Tryd.pinned (OpenSpec.upto merkleStaysSpec)

/-- 'hallmarklaw03.MerkleNil', WHERE WHAT IT READS IS OF BULK AT MOST 1048576: true; the input reads as it did. -/
def merkleNilUptoRow : OpenClaim := { program := "ytdcninfbpmhojaadoor", sum := "e8017e4ca8e7ac9993c8361610c6443f5e8f20e84c1b61c1328c998ba1275f6f", func := "hallmark/hallmarklaw03.MerkleNil", spec := "merkleNil", unfollowed := true, recurses := true, named := ["hallmark/digest.fractions"], apart := false, laid := [("hallmark/digest.fractions", laid_hallmark_digest_fractions)], narrowed := true }
def MerkleNilUptoSaid : Prop := merkleNilUptoRow.holds Tryd.pinned (OpenSpec.upto merkleNilSpec)

end Rows
end Go.Proofs.YtdcninfbpmhojaaDoor
