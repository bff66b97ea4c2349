/-
  NARROWER THAN 'FOR EVERY INPUT', by the rows' own cells (each row's printed sentence says how): ChainSteps: laid · ChainClimbs: laid · ChainDigits: laid · ChainCrosses: laid · ChainSigns: laid · ChainRecovers: laid · ChainForges: laid · DigestPads: laid · DigestParts: laid · DigestSaves: laid · DigestLoads: laid.
  DERIVED. THE GIVEN ROWS OF THIS SEAT. 11 by the template 'for every input the law returns true; each argument reads behind the call as it read before'; 0 by the template 'total and deterministic' (their statements: YtealeefkeikcbabDoorTotals.lean).
  GIVEN WITH THE SEED: the statements are not yours to turn. If you find one false, say at which input.
  Laid BY PROGRAM, IN A SANDBOX (cutbox-rows.mjs): the forced cells as the released guide's own fill.sh prints them over the translation 8a55f955c77ef0be… (all of the seat's roots in one cut). By AI agents, Wed Nov 11 2026. No macro, syntax, notation, axiom, sorry.
-/
import Derived.Test.YtealeefkeikcbabDoorChecked
import GoSem.Claim
import GoSem.ClaimJoined
import GoSem.ClaimMapViews
import Derived.JoinedTies
import Derived.KernelRfl
namespace Go.Proofs.YtealeefkeikcbabDoor
/- THE CELL 'sum', in the pinned program and in every row, IS THE sha256 OF THE DUMP (.gsa) THAT YtealeefkeikcbabDoorProg.lean LOADS. Nothing in Lean hashes anything: it is a label: what it is worth is what the hold of that sum in a sandbox is worth. -/
noncomputable def Tryd.pinned : Pinned := { name := "ytealeefkeikcbabdoor", sum := "8a55f955c77ef0be5c0ea34482a7d13023f929ef8f6eb58b56680372be73743d", checked := Tryd.checked }
namespace Rows
def none {H : Type} : Left H := { results := [], args := [] }

/- WHAT THE LISTED PACKAGE-LEVEL VARIABLES READ AS WHEN THE CALL BEGINS. Each datum BY PROGRAM (the guide's laid-datum.mjs) off the statement by which the dump's own 'gosem.cut.vars' lays the variable. In a bare row this is a premise. The card (YtealeefkeikcbabDoorCards.lean) ties it to the program's text. -/
def laid_hallmark_digest_fractions {H : Type} : DataW H := .agg [.lit (.int .u32 1116352408), .lit (.int .u32 1899447441), .lit (.int .u32 3049323471), .lit (.int .u32 3921009573), .lit (.int .u32 961987163), .lit (.int .u32 1508970993), .lit (.int .u32 2453635748), .lit (.int .u32 2870763221), .lit (.int .u32 3624381080), .lit (.int .u32 310598401), .lit (.int .u32 607225278), .lit (.int .u32 1426881987), .lit (.int .u32 1925078388), .lit (.int .u32 2162078206), .lit (.int .u32 2614888103), .lit (.int .u32 3248222580), .lit (.int .u32 3835390401), .lit (.int .u32 4022224774), .lit (.int .u32 264347078), .lit (.int .u32 604807628), .lit (.int .u32 770255983), .lit (.int .u32 1249150122), .lit (.int .u32 1555081692), .lit (.int .u32 1996064986), .lit (.int .u32 2554220882), .lit (.int .u32 2821834349), .lit (.int .u32 2952996808), .lit (.int .u32 3210313671), .lit (.int .u32 3336571891), .lit (.int .u32 3584528711), .lit (.int .u32 113926993), .lit (.int .u32 338241895), .lit (.int .u32 666307205), .lit (.int .u32 773529912), .lit (.int .u32 1294757372), .lit (.int .u32 1396182291), .lit (.int .u32 1695183700), .lit (.int .u32 1986661051), .lit (.int .u32 2177026350), .lit (.int .u32 2456956037), .lit (.int .u32 2730485921), .lit (.int .u32 2820302411), .lit (.int .u32 3259730800), .lit (.int .u32 3345764771), .lit (.int .u32 3516065817), .lit (.int .u32 3600352804), .lit (.int .u32 4094571909), .lit (.int .u32 275423344), .lit (.int .u32 430227734), .lit (.int .u32 506948616), .lit (.int .u32 659060556), .lit (.int .u32 883997877), .lit (.int .u32 958139571), .lit (.int .u32 1322822218), .lit (.int .u32 1537002063), .lit (.int .u32 1747873779), .lit (.int .u32 1955562222), .lit (.int .u32 2024104815), .lit (.int .u32 2227730452), .lit (.int .u32 2361852424), .lit (.int .u32 2428436474), .lit (.int .u32 2756734187), .lit (.int .u32 3204031479), .lit (.int .u32 3329325298)]

/-- 'hallmarklaw04.ChainSteps': WHATEVER THE INPUT: true; the input reads as it did. -/
def chainStepsSpec : ChangeSpec := { name := "chainSteps", fn := fun _ => fun
  | [d1, d2, d3, d4] => { results := [.lit (.bool true)], args := [d1, d2, d3, d4] }
  | _ => none }
def chainStepsRow : OpenClaim := { program := "ytealeefkeikcbabdoor", sum := "8a55f955c77ef0be5c0ea34482a7d13023f929ef8f6eb58b56680372be73743d", func := "hallmark/hallmarklaw04.ChainSteps", spec := "chainSteps", named := ["hallmark/digest.fractions"], apart := false, laid := [("hallmark/digest.fractions", laid_hallmark_digest_fractions)] }
def ChainStepsSaid : Prop := chainStepsRow.holds Tryd.pinned (OpenSpec.ofChange chainStepsSpec)

/-- ITS FALSE NEIGHBOUR: 'it returns false'. Refute it at one input. -/
def chainStepsWrong : ChangeSpec := { name := "chainSteps", fn := fun _ => fun
  | [d1, d2, d3, d4] => { results := [.lit (.bool false)], args := [d1, d2, d3, d4] }
  | _ => none }
def ChainStepsWrongFalsely : Prop := chainStepsRow.holds Tryd.pinned (OpenSpec.ofChange chainStepsWrong)

/-- 'hallmarklaw04.ChainClimbs': WHATEVER THE INPUT: true; the input reads as it did. -/
def chainClimbsSpec : ChangeSpec := { name := "chainClimbs", fn := fun _ => fun
  | [d1, d2, d3, d4, d5] => { results := [.lit (.bool true)], args := [d1, d2, d3, d4, d5] }
  | _ => none }
def chainClimbsRow : OpenClaim := { program := "ytealeefkeikcbabdoor", sum := "8a55f955c77ef0be5c0ea34482a7d13023f929ef8f6eb58b56680372be73743d", func := "hallmark/hallmarklaw04.ChainClimbs", spec := "chainClimbs", named := ["hallmark/digest.fractions"], apart := false, laid := [("hallmark/digest.fractions", laid_hallmark_digest_fractions)] }
def ChainClimbsSaid : Prop := chainClimbsRow.holds Tryd.pinned (OpenSpec.ofChange chainClimbsSpec)

/-- ITS FALSE NEIGHBOUR: 'it returns false'. Refute it at one input. -/
def chainClimbsWrong : ChangeSpec := { name := "chainClimbs", fn := fun _ => fun
  | [d1, d2, d3, d4, d5] => { results := [.lit (.bool false)], args := [d1, d2, d3, d4, d5] }
  | _ => none }
def ChainClimbsWrongFalsely : Prop := chainClimbsRow.holds Tryd.pinned (OpenSpec.ofChange chainClimbsWrong)

/-- 'hallmarklaw04.ChainDigits': WHATEVER THE INPUT: true; the input reads as it did. -/
def chainDigitsSpec : ChangeSpec := { name := "chainDigits", fn := fun _ => fun
  | [d] => { results := [.lit (.bool true)], args := [d] }
  | _ => none }
def chainDigitsRow : OpenClaim := { program := "ytealeefkeikcbabdoor", sum := "8a55f955c77ef0be5c0ea34482a7d13023f929ef8f6eb58b56680372be73743d", func := "hallmark/hallmarklaw04.ChainDigits", spec := "chainDigits", named := ["hallmark/digest.fractions"], apart := false, laid := [("hallmark/digest.fractions", laid_hallmark_digest_fractions)] }
def ChainDigitsSaid : Prop := chainDigitsRow.holds Tryd.pinned (OpenSpec.ofChange chainDigitsSpec)

/-- ITS FALSE NEIGHBOUR: 'it returns false'. Refute it at one input. -/
def chainDigitsWrong : ChangeSpec := { name := "chainDigits", fn := fun _ => fun
  | [d] => { results := [.lit (.bool false)], args := [d] }
  | _ => none }
def ChainDigitsWrongFalsely : Prop := chainDigitsRow.holds Tryd.pinned (OpenSpec.ofChange chainDigitsWrong)

/-- 'hallmarklaw04.ChainCrosses': WHATEVER THE INPUT: true; the input reads as it did. -/
def chainCrossesSpec : ChangeSpec := { name := "chainCrosses", fn := fun _ => fun
  | [d1, d2] => { results := [.lit (.bool true)], args := [d1, d2] }
  | _ => none }
def chainCrossesRow : OpenClaim := { program := "ytealeefkeikcbabdoor", sum := "8a55f955c77ef0be5c0ea34482a7d13023f929ef8f6eb58b56680372be73743d", func := "hallmark/hallmarklaw04.ChainCrosses", spec := "chainCrosses", named := ["hallmark/digest.fractions"], apart := false, laid := [("hallmark/digest.fractions", laid_hallmark_digest_fractions)] }
def ChainCrossesSaid : Prop := chainCrossesRow.holds Tryd.pinned (OpenSpec.ofChange chainCrossesSpec)

/-- ITS FALSE NEIGHBOUR: 'it returns false'. Refute it at one input. -/
def chainCrossesWrong : ChangeSpec := { name := "chainCrosses", fn := fun _ => fun
  | [d1, d2] => { results := [.lit (.bool false)], args := [d1, d2] }
  | _ => none }
def ChainCrossesWrongFalsely : Prop := chainCrossesRow.holds Tryd.pinned (OpenSpec.ofChange chainCrossesWrong)

/-- 'hallmarklaw04.ChainSigns': WHATEVER THE INPUT: true; the input reads as it did. -/
def chainSignsSpec : ChangeSpec := { name := "chainSigns", fn := fun _ => fun
  | [d1, d2, d3] => { results := [.lit (.bool true)], args := [d1, d2, d3] }
  | _ => none }
def chainSignsRow : OpenClaim := { program := "ytealeefkeikcbabdoor", sum := "8a55f955c77ef0be5c0ea34482a7d13023f929ef8f6eb58b56680372be73743d", func := "hallmark/hallmarklaw04.ChainSigns", spec := "chainSigns", named := ["hallmark/digest.fractions"], apart := false, laid := [("hallmark/digest.fractions", laid_hallmark_digest_fractions)] }
def ChainSignsSaid : Prop := chainSignsRow.holds Tryd.pinned (OpenSpec.ofChange chainSignsSpec)

/-- ITS FALSE NEIGHBOUR: 'it returns false'. Refute it at one input. -/
def chainSignsWrong : ChangeSpec := { name := "chainSigns", fn := fun _ => fun
  | [d1, d2, d3] => { results := [.lit (.bool false)], args := [d1, d2, d3] }
  | _ => none }
def ChainSignsWrongFalsely : Prop := chainSignsRow.holds Tryd.pinned (OpenSpec.ofChange chainSignsWrong)

/-- 'hallmarklaw04.ChainRecovers': WHATEVER THE INPUT: true; the input reads as it did. -/
def chainRecoversSpec : ChangeSpec := { name := "chainRecovers", fn := fun _ => fun
  | [d1, d2, d3] => { results := [.lit (.bool true)], args := [d1, d2, d3] }
  | _ => none }
def chainRecoversRow : OpenClaim := { program := "ytealeefkeikcbabdoor", sum := "8a55f955c77ef0be5c0ea34482a7d13023f929ef8f6eb58b56680372be73743d", func := "hallmark/hallmarklaw04.ChainRecovers", spec := "chainRecovers", named := ["hallmark/digest.fractions"], apart := false, laid := [("hallmark/digest.fractions", laid_hallmark_digest_fractions)] }
def ChainRecoversSaid : Prop := chainRecoversRow.holds Tryd.pinned (OpenSpec.ofChange chainRecoversSpec)

/-- ITS FALSE NEIGHBOUR: 'it returns false'. Refute it at one input. -/
def chainRecoversWrong : ChangeSpec := { name := "chainRecovers", fn := fun _ => fun
  | [d1, d2, d3] => { results := [.lit (.bool false)], args := [d1, d2, d3] }
  | _ => none }
def ChainRecoversWrongFalsely : Prop := chainRecoversRow.holds Tryd.pinned (OpenSpec.ofChange chainRecoversWrong)

/-- 'hallmarklaw04.ChainForges': WHATEVER THE INPUT: true; the input reads as it did. -/
def chainForgesSpec : ChangeSpec := { name := "chainForges", fn := fun _ => fun
  | [d1, d2, d3, d4, d5] => { results := [.lit (.bool true)], args := [d1, d2, d3, d4, d5] }
  | _ => none }
def chainForgesRow : OpenClaim := { program := "ytealeefkeikcbabdoor", sum := "8a55f955c77ef0be5c0ea34482a7d13023f929ef8f6eb58b56680372be73743d", func := "hallmark/hallmarklaw04.ChainForges", spec := "chainForges", named := ["hallmark/digest.fractions"], apart := false, laid := [("hallmark/digest.fractions", laid_hallmark_digest_fractions)] }
def ChainForgesSaid : Prop := chainForgesRow.holds Tryd.pinned (OpenSpec.ofChange chainForgesSpec)

/-- ITS FALSE NEIGHBOUR: 'it returns false'. Refute it at one input. -/
def chainForgesWrong : ChangeSpec := { name := "chainForges", fn := fun _ => fun
  | [d1, d2, d3, d4, d5] => { results := [.lit (.bool false)], args := [d1, d2, d3, d4, d5] }
  | _ => none }
def ChainForgesWrongFalsely : Prop := chainForgesRow.holds Tryd.pinned (OpenSpec.ofChange chainForgesWrong)

/-- 'hallmarklaw02.DigestPads': WHATEVER THE INPUT: true; the input reads as it did. -/
def digestPadsSpec : ChangeSpec := { name := "digestPads", fn := fun _ => fun
  | [d1, d2] => { results := [.lit (.bool true)], args := [d1, d2] }
  | _ => none }
def digestPadsRow : OpenClaim := { program := "ytealeefkeikcbabdoor", sum := "8a55f955c77ef0be5c0ea34482a7d13023f929ef8f6eb58b56680372be73743d", func := "hallmark/hallmarklaw02.DigestPads", spec := "digestPads", named := ["hallmark/digest.fractions"], apart := false, laid := [("hallmark/digest.fractions", laid_hallmark_digest_fractions)] }
def DigestPadsSaid : Prop := digestPadsRow.holds Tryd.pinned (OpenSpec.ofChange digestPadsSpec)

/-- ITS FALSE NEIGHBOUR: 'it returns false'. Refute it at one input. -/
def digestPadsWrong : ChangeSpec := { name := "digestPads", fn := fun _ => fun
  | [d1, d2] => { results := [.lit (.bool false)], args := [d1, d2] }
  | _ => none }
def DigestPadsWrongFalsely : Prop := digestPadsRow.holds Tryd.pinned (OpenSpec.ofChange digestPadsWrong)

/-- 'hallmarklaw02.DigestParts': WHATEVER THE INPUT: true; the input reads as it did. -/
def digestPartsSpec : ChangeSpec := { name := "digestParts", fn := fun _ => fun
  | [d1, d2, d3] => { results := [.lit (.bool true)], args := [d1, d2, d3] }
  | _ => none }
def digestPartsRow : OpenClaim := { program := "ytealeefkeikcbabdoor", sum := "8a55f955c77ef0be5c0ea34482a7d13023f929ef8f6eb58b56680372be73743d", func := "hallmark/hallmarklaw02.DigestParts", spec := "digestParts", named := ["hallmark/digest.fractions"], apart := false, laid := [("hallmark/digest.fractions", laid_hallmark_digest_fractions)] }
def DigestPartsSaid : Prop := digestPartsRow.holds Tryd.pinned (OpenSpec.ofChange digestPartsSpec)

/-- ITS FALSE NEIGHBOUR: 'it returns false'. Refute it at one input. -/
def digestPartsWrong : ChangeSpec := { name := "digestParts", fn := fun _ => fun
  | [d1, d2, d3] => { results := [.lit (.bool false)], args := [d1, d2, d3] }
  | _ => none }
def DigestPartsWrongFalsely : Prop := digestPartsRow.holds Tryd.pinned (OpenSpec.ofChange digestPartsWrong)

/-- 'hallmarklaw02.DigestSaves': WHATEVER THE INPUT: true; the input reads as it did. -/
def digestSavesSpec : ChangeSpec := { name := "digestSaves", fn := fun _ => fun
  | [d1, d2] => { results := [.lit (.bool true)], args := [d1, d2] }
  | _ => none }
def digestSavesRow : OpenClaim := { program := "ytealeefkeikcbabdoor", sum := "8a55f955c77ef0be5c0ea34482a7d13023f929ef8f6eb58b56680372be73743d", func := "hallmark/hallmarklaw02.DigestSaves", spec := "digestSaves", named := ["hallmark/digest.fractions"], apart := false, laid := [("hallmark/digest.fractions", laid_hallmark_digest_fractions)] }
def DigestSavesSaid : Prop := digestSavesRow.holds Tryd.pinned (OpenSpec.ofChange digestSavesSpec)

/-- ITS FALSE NEIGHBOUR: 'it returns false'. Refute it at one input. -/
def digestSavesWrong : ChangeSpec := { name := "digestSaves", fn := fun _ => fun
  | [d1, d2] => { results := [.lit (.bool false)], args := [d1, d2] }
  | _ => none }
def DigestSavesWrongFalsely : Prop := digestSavesRow.holds Tryd.pinned (OpenSpec.ofChange digestSavesWrong)

/-- 'hallmarklaw02.DigestLoads': WHATEVER THE INPUT: true; the input reads as it did. -/
def digestLoadsSpec : ChangeSpec := { name := "digestLoads", fn := fun _ => fun
  | [d1, d2] => { results := [.lit (.bool true)], args := [d1, d2] }
  | _ => none }
def digestLoadsRow : OpenClaim := { program := "ytealeefkeikcbabdoor", sum := "8a55f955c77ef0be5c0ea34482a7d13023f929ef8f6eb58b56680372be73743d", func := "hallmark/hallmarklaw02.DigestLoads", spec := "digestLoads", named := ["hallmark/digest.fractions"], apart := false, laid := [("hallmark/digest.fractions", laid_hallmark_digest_fractions)] }
def DigestLoadsSaid : Prop := digestLoadsRow.holds Tryd.pinned (OpenSpec.ofChange digestLoadsSpec)

/-- ITS FALSE NEIGHBOUR: 'it returns false'. Refute it at one input. -/
def digestLoadsWrong : ChangeSpec := { name := "digestLoads", fn := fun _ => fun
  | [d1, d2] => { results := [.lit (.bool false)], args := [d1, d2] }
  | _ => none }
def DigestLoadsWrongFalsely : Prop := digestLoadsRow.holds Tryd.pinned (OpenSpec.ofChange digestLoadsWrong)

/- THE SECOND FORM. 'bulk': how many values and letters a reading holds, each counted each time it is reached (what is shared counts as often as it is met; a slice's spare places count too). A statement '..UptoSaid' is the law's where the arguments, and the package variables that the reading takes, are together of bulk at most 1048576: NARROWER than '..Said'. Prove '..Said' where nothing that the law and all that it calls make is longer than what came in: it says more and counts as full. Else prove '..UptoSaid'. A law counts once. -/
mutual
def uptoBulk {H : Type} : DataW H → Nat
  | .lit (.string bytes) => bytes.length + 1
  | .lit _ => 1
  | .nil => 1
  | .ptr d => uptoBulk d + 1
  | .slice elems spare => uptoBulkAll elems + uptoBulkAll spare + 1
  | .agg parts => uptoBulkAll parts + 1
  | .iface _ d => uptoBulk d + 1
  | .map entries => uptoBulkEntries entries + 1
  | .held _ => 1
def uptoBulkAll {H : Type} : List (DataW H) → Nat
  | [] => 0
  | d :: r => uptoBulk d + uptoBulkAll r
def uptoBulkEntries {H : Type} : List (Lit × DataW H) → Nat
  | [] => 0
  | x :: r => uptoBulkEntry x + uptoBulkEntries r
def uptoBulkEntry {H : Type} : Lit × DataW H → Nat
  | (.string bytes, d) => bytes.length + uptoBulk d + 1
  | (_, d) => uptoBulk d + 1
 end
def uptoSmall : (H : Type) → List (DataW H) → Bool := fun _ ds => decide (uptoBulkAll ds ≤ 1048576)
def OpenSpec.upto (s : _root_.Go.ChangeSpec) : _root_.Go.OpenSpec := { _root_.Go.OpenSpec.ofChange s with cond := some uptoSmall }

/-- 'hallmarklaw04.ChainSteps', WHERE WHAT IT READS IS OF BULK AT MOST 1048576: true; the input reads as it did. -/
def chainStepsUptoRow : OpenClaim := { program := "ytealeefkeikcbabdoor", sum := "8a55f955c77ef0be5c0ea34482a7d13023f929ef8f6eb58b56680372be73743d", func := "hallmark/hallmarklaw04.ChainSteps", spec := "chainSteps", named := ["hallmark/digest.fractions"], apart := false, laid := [("hallmark/digest.fractions", laid_hallmark_digest_fractions)], narrowed := true }
def ChainStepsUptoSaid : Prop := chainStepsUptoRow.holds Tryd.pinned (OpenSpec.upto chainStepsSpec)

/-- 'hallmarklaw04.ChainClimbs', WHERE WHAT IT READS IS OF BULK AT MOST 1048576: true; the input reads as it did. -/
def chainClimbsUptoRow : OpenClaim := { program := "ytealeefkeikcbabdoor", sum := "8a55f955c77ef0be5c0ea34482a7d13023f929ef8f6eb58b56680372be73743d", func := "hallmark/hallmarklaw04.ChainClimbs", spec := "chainClimbs", named := ["hallmark/digest.fractions"], apart := false, laid := [("hallmark/digest.fractions", laid_hallmark_digest_fractions)], narrowed := true }
def ChainClimbsUptoSaid : Prop := chainClimbsUptoRow.holds Tryd.pinned (OpenSpec.upto chainClimbsSpec)

/-- 'hallmarklaw04.ChainDigits', WHERE WHAT IT READS IS OF BULK AT MOST 1048576: true; the input reads as it did. -/
def chainDigitsUptoRow : OpenClaim := { program := "ytealeefkeikcbabdoor", sum := "8a55f955c77ef0be5c0ea34482a7d13023f929ef8f6eb58b56680372be73743d", func := "hallmark/hallmarklaw04.ChainDigits", spec := "chainDigits", named := ["hallmark/digest.fractions"], apart := false, laid := [("hallmark/digest.fractions", laid_hallmark_digest_fractions)], narrowed := true }
def ChainDigitsUptoSaid : Prop := chainDigitsUptoRow.holds Tryd.pinned (OpenSpec.upto chainDigitsSpec)

/-- 'hallmarklaw04.ChainCrosses', WHERE WHAT IT READS IS OF BULK AT MOST 1048576: true; the input reads as it did. -/
def chainCrossesUptoRow : OpenClaim := { program := "ytealeefkeikcbabdoor", sum := "8a55f955c77ef0be5c0ea34482a7d13023f929ef8f6eb58b56680372be73743d", func := "hallmark/hallmarklaw04.ChainCrosses", spec := "chainCrosses", named := ["hallmark/digest.fractions"], apart := false, laid := [("hallmark/digest.fractions", laid_hallmark_digest_fractions)], narrowed := true }
def ChainCrossesUptoSaid : Prop := chainCrossesUptoRow.holds Tryd.pinned (OpenSpec.upto chainCrossesSpec)

/-- 'hallmarklaw04.ChainSigns', WHERE WHAT IT READS IS OF BULK AT MOST 1048576: true; the input reads as it did. -/
def chainSignsUptoRow : OpenClaim := { program := "ytealeefkeikcbabdoor", sum := "8a55f955c77ef0be5c0ea34482a7d13023f929ef8f6eb58b56680372be73743d", func := "hallmark/hallmarklaw04.ChainSigns", spec := "chainSigns", named := ["hallmark/digest.fractions"], apart := false, laid := [("hallmark/digest.fractions", laid_hallmark_digest_fractions)], narrowed := true }
def ChainSignsUptoSaid : Prop := chainSignsUptoRow.holds Tryd.pinned (OpenSpec.upto chainSignsSpec)

/-- 'hallmarklaw04.ChainRecovers', WHERE WHAT IT READS IS OF BULK AT MOST 1048576: true; the input reads as it did. -/
def chainRecoversUptoRow : OpenClaim := { program := "ytealeefkeikcbabdoor", sum := "8a55f955c77ef0be5c0ea34482a7d13023f929ef8f6eb58b56680372be73743d", func := "hallmark/hallmarklaw04.ChainRecovers", spec := "chainRecovers", named := ["hallmark/digest.fractions"], apart := false, laid := [("hallmark/digest.fractions", laid_hallmark_digest_fractions)], narrowed := true }
def ChainRecoversUptoSaid : Prop := chainRecoversUptoRow.holds Tryd.pinned (OpenSpec.upto chainRecoversSpec)

/-- 'hallmarklaw04.ChainForges', WHERE WHAT IT READS IS OF BULK AT MOST 1048576: true; the input reads as it did. -/
def chainForgesUptoRow : OpenClaim := { program := "ytealeefkeikcbabdoor", sum := "8a55f955c77ef0be5c0ea34482a7d13023f929ef8f6eb58b56680372be73743d", func := "hallmark/hallmarklaw04.ChainForges", spec := "chainForges", named := ["hallmark/digest.fractions"], apart := false, laid := [("hallmark/digest.fractions", laid_hallmark_digest_fractions)], narrowed := true }
def ChainForgesUptoSaid : Prop := chainForgesUptoRow.holds Tryd.pinned (OpenSpec.upto chainForgesSpec)

/-- 'hallmarklaw02.DigestPads', WHERE WHAT IT READS IS OF BULK AT MOST 1048576: true; the input reads as it did. -/
def digestPadsUptoRow : OpenClaim := { program := "ytealeefkeikcbabdoor", sum := "8a55f955c77ef0be5c0ea34482a7d13023f929ef8f6eb58b56680372be73743d", func := "hallmark/hallmarklaw02.DigestPads", spec := "digestPads", named := ["hallmark/digest.fractions"], apart := false, laid := [("hallmark/digest.fractions", laid_hallmark_digest_fractions)], narrowed := true }
def DigestPadsUptoSaid : Prop := digestPadsUptoRow.holds Tryd.pinned (OpenSpec.upto digestPadsSpec)

/-- 'hallmarklaw02.DigestParts', WHERE WHAT IT READS IS OF BULK AT MOST 1048576: true; the input reads as it did. -/
def digestPartsUptoRow : OpenClaim := { program := "ytealeefkeikcbabdoor", sum := "8a55f955c77ef0be5c0ea34482a7d13023f929ef8f6eb58b56680372be73743d", func := "hallmark/hallmarklaw02.DigestParts", spec := "digestParts", named := ["hallmark/digest.fractions"], apart := false, laid := [("hallmark/digest.fractions", laid_hallmark_digest_fractions)], narrowed := true }
def DigestPartsUptoSaid : Prop := digestPartsUptoRow.holds Tryd.pinned (OpenSpec.upto digestPartsSpec)

/-- 'hallmarklaw02.DigestSaves', WHERE WHAT IT READS IS OF BULK AT MOST 1048576: true; the input reads as it did. -/
def digestSavesUptoRow : OpenClaim := { program := "ytealeefkeikcbabdoor", sum := "8a55f955c77ef0be5c0ea34482a7d13023f929ef8f6eb58b56680372be73743d", func := "hallmark/hallmarklaw02.DigestSaves", spec := "digestSaves", named := ["hallmark/digest.fractions"], apart := false, laid := [("hallmark/digest.fractions", laid_hallmark_digest_fractions)], narrowed := true }
def DigestSavesUptoSaid : Prop := digestSavesUptoRow.holds Tryd.pinned (OpenSpec.upto digestSavesSpec)

/-- 'hallmarklaw02.DigestLoads', WHERE WHAT IT READS IS OF BULK AT MOST 1048576: true; the input reads as it did. -/
def digestLoadsUptoRow : OpenClaim := { program := "ytealeefkeikcbabdoor", sum := "8a55f955c77ef0be5c0ea34482a7d13023f929ef8f6eb58b56680372be73743d", func := "hallmark/hallmarklaw02.DigestLoads", spec := "digestLoads", named := ["hallmark/digest.fractions"], apart := false, laid := [("hallmark/digest.fractions", laid_hallmark_digest_fractions)], narrowed := true }
def DigestLoadsUptoSaid : Prop := digestLoadsUptoRow.holds Tryd.pinned (OpenSpec.upto digestLoadsSpec)

end Rows
end Go.Proofs.YtealeefkeikcbabDoor
