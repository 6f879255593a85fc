/-
  NARROWER THAN 'FOR EVERY INPUT', by the rows' own cells (each row's printed sentence says how): ShapeSizes: loops · ShapeMembers: loops · ShapeLeaves: loops · ShapeSame: loops · ShapeLies: loops · ShapeArrays: loops · ShapePacked: loops · ImageSpots: loops · ImageMakes: loops · ImageGets: loops · ImageBack: loops · ImageSteps: loops · ImageSwaps: loops · ImageLeaves: loops.
  DERIVED. THE GIVEN ROWS OF THIS SEAT. 14 by the template 'for every input the law returns true; each argument reads behind the call as it read before'; 0 by the template 'total and deterministic' (their statements: YtkiebejidpebdaaTotals.lean).
  GIVEN WITH THE SEED: the statements are not yours to turn. If you find one false, say at which input.
  Laid BY PROGRAM, IN A SANDBOX (cutbox-rows.mjs): the forced cells as the released guide's own fill.sh prints them over the translation 4d9d0721a7e543e0… (all of the seat's roots in one cut). By AI agents, Wed Nov 11 2026. No macro, syntax, notation, axiom, sorry.
-/
import Derived.Test.YtkiebejidpebdaaChecked
import GoSem.Claim
import GoSem.ClaimJoined
import GoSem.ClaimMapViews
import Derived.JoinedTies
import Derived.KernelRfl
namespace Go.Proofs.Ytkiebejidpebdaa
/- THE CELL 'sum', in the pinned program and in every row, IS THE sha256 OF THE DUMP (.gsa) THAT YtkiebejidpebdaaProg.lean LOADS. Nothing in Lean hashes anything: it is a label: what it is worth is what the hold of that sum in a sandbox is worth. -/
noncomputable def Try.pinned : Pinned := { name := "ytkiebejidpebdaa", sum := "4d9d0721a7e543e090dfce441e2dab7bb9dc2514e667aee418e2800075edb6df", checked := Try.checked }
namespace Rows
def none {H : Type} : Left H := { results := [], args := [] }

/-- 'burinlaw10.ShapeSizes': WHATEVER THE INPUT: true; the input reads as it did. -/
def shapeSizesSpec : ChangeSpec := { name := "shapeSizes", fn := fun _ => fun
  | [d] => { results := [.lit (.bool true)], args := [d] }
  | _ => none }
def shapeSizesRow : OpenClaim := { program := "ytkiebejidpebdaa", sum := "4d9d0721a7e543e090dfce441e2dab7bb9dc2514e667aee418e2800075edb6df", func := "burin/burinlaw10.ShapeSizes", spec := "shapeSizes", unfollowed := true, recurses := true, loops := true, plainKeys := false, apart := false }
def ShapeSizesSaid : Prop := shapeSizesRow.holds Try.pinned (OpenSpec.ofChange shapeSizesSpec)

/-- ITS FALSE NEIGHBOUR: 'it returns false'. Refute it at one input. -/
def shapeSizesWrong : ChangeSpec := { name := "shapeSizes", fn := fun _ => fun
  | [d] => { results := [.lit (.bool false)], args := [d] }
  | _ => none }
def ShapeSizesWrongFalsely : Prop := shapeSizesRow.holds Try.pinned (OpenSpec.ofChange shapeSizesWrong)

/-- 'burinlaw10.ShapeMembers': WHATEVER THE INPUT: true; the input reads as it did. -/
def shapeMembersSpec : ChangeSpec := { name := "shapeMembers", fn := fun _ => fun
  | [d] => { results := [.lit (.bool true)], args := [d] }
  | _ => none }
def shapeMembersRow : OpenClaim := { program := "ytkiebejidpebdaa", sum := "4d9d0721a7e543e090dfce441e2dab7bb9dc2514e667aee418e2800075edb6df", func := "burin/burinlaw10.ShapeMembers", spec := "shapeMembers", unfollowed := true, recurses := true, loops := true, plainKeys := false, apart := false }
def ShapeMembersSaid : Prop := shapeMembersRow.holds Try.pinned (OpenSpec.ofChange shapeMembersSpec)

/-- ITS FALSE NEIGHBOUR: 'it returns false'. Refute it at one input. -/
def shapeMembersWrong : ChangeSpec := { name := "shapeMembers", fn := fun _ => fun
  | [d] => { results := [.lit (.bool false)], args := [d] }
  | _ => none }
def ShapeMembersWrongFalsely : Prop := shapeMembersRow.holds Try.pinned (OpenSpec.ofChange shapeMembersWrong)

/-- 'burinlaw10.ShapeLeaves': WHATEVER THE INPUT: true; the input reads as it did. -/
def shapeLeavesSpec : ChangeSpec := { name := "shapeLeaves", fn := fun _ => fun
  | [d] => { results := [.lit (.bool true)], args := [d] }
  | _ => none }
def shapeLeavesRow : OpenClaim := { program := "ytkiebejidpebdaa", sum := "4d9d0721a7e543e090dfce441e2dab7bb9dc2514e667aee418e2800075edb6df", func := "burin/burinlaw10.ShapeLeaves", spec := "shapeLeaves", unfollowed := true, recurses := true, loops := true, plainKeys := false, apart := false }
def ShapeLeavesSaid : Prop := shapeLeavesRow.holds Try.pinned (OpenSpec.ofChange shapeLeavesSpec)

/-- ITS FALSE NEIGHBOUR: 'it returns false'. Refute it at one input. -/
def shapeLeavesWrong : ChangeSpec := { name := "shapeLeaves", fn := fun _ => fun
  | [d] => { results := [.lit (.bool false)], args := [d] }
  | _ => none }
def ShapeLeavesWrongFalsely : Prop := shapeLeavesRow.holds Try.pinned (OpenSpec.ofChange shapeLeavesWrong)

/-- 'burinlaw10.ShapeSame': WHATEVER THE INPUT: true; the input reads as it did. -/
def shapeSameSpec : ChangeSpec := { name := "shapeSame", fn := fun _ => fun
  | [d1, d2] => { results := [.lit (.bool true)], args := [d1, d2] }
  | _ => none }
def shapeSameRow : OpenClaim := { program := "ytkiebejidpebdaa", sum := "4d9d0721a7e543e090dfce441e2dab7bb9dc2514e667aee418e2800075edb6df", func := "burin/burinlaw10.ShapeSame", spec := "shapeSame", unfollowed := true, recurses := true, loops := true, plainKeys := false, apart := false }
def ShapeSameSaid : Prop := shapeSameRow.holds Try.pinned (OpenSpec.ofChange shapeSameSpec)

/-- ITS FALSE NEIGHBOUR: 'it returns false'. Refute it at one input. -/
def shapeSameWrong : ChangeSpec := { name := "shapeSame", fn := fun _ => fun
  | [d1, d2] => { results := [.lit (.bool false)], args := [d1, d2] }
  | _ => none }
def ShapeSameWrongFalsely : Prop := shapeSameRow.holds Try.pinned (OpenSpec.ofChange shapeSameWrong)

/-- 'burinlaw10.ShapeLies': WHATEVER THE INPUT: true; the input reads as it did. -/
def shapeLiesSpec : ChangeSpec := { name := "shapeLies", fn := fun _ => fun
  | [d] => { results := [.lit (.bool true)], args := [d] }
  | _ => none }
def shapeLiesRow : OpenClaim := { program := "ytkiebejidpebdaa", sum := "4d9d0721a7e543e090dfce441e2dab7bb9dc2514e667aee418e2800075edb6df", func := "burin/burinlaw10.ShapeLies", spec := "shapeLies", unfollowed := true, recurses := true, loops := true, plainKeys := false, apart := false }
def ShapeLiesSaid : Prop := shapeLiesRow.holds Try.pinned (OpenSpec.ofChange shapeLiesSpec)

/-- ITS FALSE NEIGHBOUR: 'it returns false'. Refute it at one input. -/
def shapeLiesWrong : ChangeSpec := { name := "shapeLies", fn := fun _ => fun
  | [d] => { results := [.lit (.bool false)], args := [d] }
  | _ => none }
def ShapeLiesWrongFalsely : Prop := shapeLiesRow.holds Try.pinned (OpenSpec.ofChange shapeLiesWrong)

/-- 'burinlaw10.ShapeArrays': WHATEVER THE INPUT: true; the input reads as it did. -/
def shapeArraysSpec : ChangeSpec := { name := "shapeArrays", fn := fun _ => fun
  | [d1, d2] => { results := [.lit (.bool true)], args := [d1, d2] }
  | _ => none }
def shapeArraysRow : OpenClaim := { program := "ytkiebejidpebdaa", sum := "4d9d0721a7e543e090dfce441e2dab7bb9dc2514e667aee418e2800075edb6df", func := "burin/burinlaw10.ShapeArrays", spec := "shapeArrays", unfollowed := true, recurses := true, loops := true, plainKeys := false, apart := false }
def ShapeArraysSaid : Prop := shapeArraysRow.holds Try.pinned (OpenSpec.ofChange shapeArraysSpec)

/-- ITS FALSE NEIGHBOUR: 'it returns false'. Refute it at one input. -/
def shapeArraysWrong : ChangeSpec := { name := "shapeArrays", fn := fun _ => fun
  | [d1, d2] => { results := [.lit (.bool false)], args := [d1, d2] }
  | _ => none }
def ShapeArraysWrongFalsely : Prop := shapeArraysRow.holds Try.pinned (OpenSpec.ofChange shapeArraysWrong)

/-- 'burinlaw10.ShapePacked': WHATEVER THE INPUT: true; the input reads as it did. -/
def shapePackedSpec : ChangeSpec := { name := "shapePacked", fn := fun _ => fun
  | [d] => { results := [.lit (.bool true)], args := [d] }
  | _ => none }
def shapePackedRow : OpenClaim := { program := "ytkiebejidpebdaa", sum := "4d9d0721a7e543e090dfce441e2dab7bb9dc2514e667aee418e2800075edb6df", func := "burin/burinlaw10.ShapePacked", spec := "shapePacked", unfollowed := true, recurses := true, loops := true, plainKeys := false, apart := false }
def ShapePackedSaid : Prop := shapePackedRow.holds Try.pinned (OpenSpec.ofChange shapePackedSpec)

/-- ITS FALSE NEIGHBOUR: 'it returns false'. Refute it at one input. -/
def shapePackedWrong : ChangeSpec := { name := "shapePacked", fn := fun _ => fun
  | [d] => { results := [.lit (.bool false)], args := [d] }
  | _ => none }
def ShapePackedWrongFalsely : Prop := shapePackedRow.holds Try.pinned (OpenSpec.ofChange shapePackedWrong)

/-- 'burinlaw11.ImageSpots': WHATEVER THE INPUT: true; the input reads as it did. -/
def imageSpotsSpec : ChangeSpec := { name := "imageSpots", fn := fun _ => fun
  | [d1, d2] => { results := [.lit (.bool true)], args := [d1, d2] }
  | _ => none }
def imageSpotsRow : OpenClaim := { program := "ytkiebejidpebdaa", sum := "4d9d0721a7e543e090dfce441e2dab7bb9dc2514e667aee418e2800075edb6df", func := "burin/burinlaw11.ImageSpots", spec := "imageSpots", unfollowed := true, recurses := true, loops := true, plainKeys := false, apart := false }
def ImageSpotsSaid : Prop := imageSpotsRow.holds Try.pinned (OpenSpec.ofChange imageSpotsSpec)

/-- ITS FALSE NEIGHBOUR: 'it returns false'. Refute it at one input. -/
def imageSpotsWrong : ChangeSpec := { name := "imageSpots", fn := fun _ => fun
  | [d1, d2] => { results := [.lit (.bool false)], args := [d1, d2] }
  | _ => none }
def ImageSpotsWrongFalsely : Prop := imageSpotsRow.holds Try.pinned (OpenSpec.ofChange imageSpotsWrong)

/-- 'burinlaw11.ImageMakes': WHATEVER THE INPUT: true; the input reads as it did. -/
def imageMakesSpec : ChangeSpec := { name := "imageMakes", fn := fun _ => fun
  | [d1, d2] => { results := [.lit (.bool true)], args := [d1, d2] }
  | _ => none }
def imageMakesRow : OpenClaim := { program := "ytkiebejidpebdaa", sum := "4d9d0721a7e543e090dfce441e2dab7bb9dc2514e667aee418e2800075edb6df", func := "burin/burinlaw11.ImageMakes", spec := "imageMakes", unfollowed := true, recurses := true, loops := true, plainKeys := false, apart := false }
def ImageMakesSaid : Prop := imageMakesRow.holds Try.pinned (OpenSpec.ofChange imageMakesSpec)

/-- ITS FALSE NEIGHBOUR: 'it returns false'. Refute it at one input. -/
def imageMakesWrong : ChangeSpec := { name := "imageMakes", fn := fun _ => fun
  | [d1, d2] => { results := [.lit (.bool false)], args := [d1, d2] }
  | _ => none }
def ImageMakesWrongFalsely : Prop := imageMakesRow.holds Try.pinned (OpenSpec.ofChange imageMakesWrong)

/-- 'burinlaw11.ImageGets': WHATEVER THE INPUT: true; the input reads as it did. -/
def imageGetsSpec : ChangeSpec := { name := "imageGets", fn := fun _ => fun
  | [d1, d2, d3, d4] => { results := [.lit (.bool true)], args := [d1, d2, d3, d4] }
  | _ => none }
def imageGetsRow : OpenClaim := { program := "ytkiebejidpebdaa", sum := "4d9d0721a7e543e090dfce441e2dab7bb9dc2514e667aee418e2800075edb6df", func := "burin/burinlaw11.ImageGets", spec := "imageGets", unfollowed := true, recurses := true, loops := true, plainKeys := false, apart := false }
def ImageGetsSaid : Prop := imageGetsRow.holds Try.pinned (OpenSpec.ofChange imageGetsSpec)

/-- ITS FALSE NEIGHBOUR: 'it returns false'. Refute it at one input. -/
def imageGetsWrong : ChangeSpec := { name := "imageGets", fn := fun _ => fun
  | [d1, d2, d3, d4] => { results := [.lit (.bool false)], args := [d1, d2, d3, d4] }
  | _ => none }
def ImageGetsWrongFalsely : Prop := imageGetsRow.holds Try.pinned (OpenSpec.ofChange imageGetsWrong)

/-- 'burinlaw11.ImageBack': WHATEVER THE INPUT: true; the input reads as it did. -/
def imageBackSpec : ChangeSpec := { name := "imageBack", fn := fun _ => fun
  | [d1, d2, d3, d4, d5] => { results := [.lit (.bool true)], args := [d1, d2, d3, d4, d5] }
  | _ => none }
def imageBackRow : OpenClaim := { program := "ytkiebejidpebdaa", sum := "4d9d0721a7e543e090dfce441e2dab7bb9dc2514e667aee418e2800075edb6df", func := "burin/burinlaw11.ImageBack", spec := "imageBack", unfollowed := true, recurses := true, loops := true, plainKeys := false, apart := false }
def ImageBackSaid : Prop := imageBackRow.holds Try.pinned (OpenSpec.ofChange imageBackSpec)

/-- ITS FALSE NEIGHBOUR: 'it returns false'. Refute it at one input. -/
def imageBackWrong : ChangeSpec := { name := "imageBack", fn := fun _ => fun
  | [d1, d2, d3, d4, d5] => { results := [.lit (.bool false)], args := [d1, d2, d3, d4, d5] }
  | _ => none }
def ImageBackWrongFalsely : Prop := imageBackRow.holds Try.pinned (OpenSpec.ofChange imageBackWrong)

/-- 'burinlaw11.ImageSteps': WHATEVER THE INPUT: true; the input reads as it did. -/
def imageStepsSpec : ChangeSpec := { name := "imageSteps", fn := fun _ => fun
  | [d1, d2] => { results := [.lit (.bool true)], args := [d1, d2] }
  | _ => none }
def imageStepsRow : OpenClaim := { program := "ytkiebejidpebdaa", sum := "4d9d0721a7e543e090dfce441e2dab7bb9dc2514e667aee418e2800075edb6df", func := "burin/burinlaw11.ImageSteps", spec := "imageSteps", unfollowed := true, recurses := true, loops := true, plainKeys := false, apart := false }
def ImageStepsSaid : Prop := imageStepsRow.holds Try.pinned (OpenSpec.ofChange imageStepsSpec)

/-- ITS FALSE NEIGHBOUR: 'it returns false'. Refute it at one input. -/
def imageStepsWrong : ChangeSpec := { name := "imageSteps", fn := fun _ => fun
  | [d1, d2] => { results := [.lit (.bool false)], args := [d1, d2] }
  | _ => none }
def ImageStepsWrongFalsely : Prop := imageStepsRow.holds Try.pinned (OpenSpec.ofChange imageStepsWrong)

/-- 'burinlaw11.ImageSwaps': WHATEVER THE INPUT: true; the input reads as it did. -/
def imageSwapsSpec : ChangeSpec := { name := "imageSwaps", fn := fun _ => fun
  | [d1, d2, d3, d4, d5, d6] => { results := [.lit (.bool true)], args := [d1, d2, d3, d4, d5, d6] }
  | _ => none }
def imageSwapsRow : OpenClaim := { program := "ytkiebejidpebdaa", sum := "4d9d0721a7e543e090dfce441e2dab7bb9dc2514e667aee418e2800075edb6df", func := "burin/burinlaw11.ImageSwaps", spec := "imageSwaps", unfollowed := true, recurses := true, loops := true, plainKeys := false, apart := false }
def ImageSwapsSaid : Prop := imageSwapsRow.holds Try.pinned (OpenSpec.ofChange imageSwapsSpec)

/-- ITS FALSE NEIGHBOUR: 'it returns false'. Refute it at one input. -/
def imageSwapsWrong : ChangeSpec := { name := "imageSwaps", fn := fun _ => fun
  | [d1, d2, d3, d4, d5, d6] => { results := [.lit (.bool false)], args := [d1, d2, d3, d4, d5, d6] }
  | _ => none }
def ImageSwapsWrongFalsely : Prop := imageSwapsRow.holds Try.pinned (OpenSpec.ofChange imageSwapsWrong)

/-- 'burinlaw11.ImageLeaves': WHATEVER THE INPUT: true; the input reads as it did. -/
def imageLeavesSpec : ChangeSpec := { name := "imageLeaves", fn := fun _ => fun
  | [d1, d2] => { results := [.lit (.bool true)], args := [d1, d2] }
  | _ => none }
def imageLeavesRow : OpenClaim := { program := "ytkiebejidpebdaa", sum := "4d9d0721a7e543e090dfce441e2dab7bb9dc2514e667aee418e2800075edb6df", func := "burin/burinlaw11.ImageLeaves", spec := "imageLeaves", unfollowed := true, recurses := true, loops := true, plainKeys := false, apart := false }
def ImageLeavesSaid : Prop := imageLeavesRow.holds Try.pinned (OpenSpec.ofChange imageLeavesSpec)

/-- ITS FALSE NEIGHBOUR: 'it returns false'. Refute it at one input. -/
def imageLeavesWrong : ChangeSpec := { name := "imageLeaves", fn := fun _ => fun
  | [d1, d2] => { results := [.lit (.bool false)], args := [d1, d2] }
  | _ => none }
def ImageLeavesWrongFalsely : Prop := imageLeavesRow.holds Try.pinned (OpenSpec.ofChange imageLeavesWrong)

/- THE SECOND FORM. 'bulk': how many values and letters a reading holds, each counted each time it is reached (what is shared counts as often as it is met; a slice's spare places count too). A statement '..UptoSaid' is the law's where the arguments, and the package variables that the reading takes, are together of bulk at most 1048576: NARROWER than '..Said'. Prove '..Said' where nothing that the law and all that it calls make is longer than what came in: it says more and counts as full. Else prove '..UptoSaid'. A law counts once. -/
mutual
def uptoBulk {H : Type} : DataW H → Nat
  | .lit (.string bytes) => bytes.length + 1
  | .lit _ => 1
  | .nil => 1
  | .ptr d => uptoBulk d + 1
  | .slice elems spare => uptoBulkAll elems + uptoBulkAll spare + 1
  | .agg parts => uptoBulkAll parts + 1
  | .iface _ d => uptoBulk d + 1
  | .map entries => uptoBulkEntries entries + 1
  | .held _ => 1
def uptoBulkAll {H : Type} : List (DataW H) → Nat
  | [] => 0
  | d :: r => uptoBulk d + uptoBulkAll r
def uptoBulkEntries {H : Type} : List (Lit × DataW H) → Nat
  | [] => 0
  | x :: r => uptoBulkEntry x + uptoBulkEntries r
def uptoBulkEntry {H : Type} : Lit × DataW H → Nat
  | (.string bytes, d) => bytes.length + uptoBulk d + 1
  | (_, d) => uptoBulk d + 1
 end
def uptoSmall : (H : Type) → List (DataW H) → Bool := fun _ ds => decide (uptoBulkAll ds ≤ 1048576)
def OpenSpec.upto (s : _root_.Go.ChangeSpec) : _root_.Go.OpenSpec := { _root_.Go.OpenSpec.ofChange s with cond := some uptoSmall }

/-- 'burinlaw10.ShapeSizes', WHERE WHAT IT READS IS OF BULK AT MOST 1048576: true; the input reads as it did. -/
def shapeSizesUptoRow : OpenClaim := { program := "ytkiebejidpebdaa", sum := "4d9d0721a7e543e090dfce441e2dab7bb9dc2514e667aee418e2800075edb6df", func := "burin/burinlaw10.ShapeSizes", spec := "shapeSizes", unfollowed := true, recurses := true, loops := true, plainKeys := false, apart := false, narrowed := true }
def ShapeSizesUptoSaid : Prop := shapeSizesUptoRow.holds Try.pinned (OpenSpec.upto shapeSizesSpec)

/-- 'burinlaw10.ShapeMembers', WHERE WHAT IT READS IS OF BULK AT MOST 1048576: true; the input reads as it did. -/
def shapeMembersUptoRow : OpenClaim := { program := "ytkiebejidpebdaa", sum := "4d9d0721a7e543e090dfce441e2dab7bb9dc2514e667aee418e2800075edb6df", func := "burin/burinlaw10.ShapeMembers", spec := "shapeMembers", unfollowed := true, recurses := true, loops := true, plainKeys := false, apart := false, narrowed := true }
def ShapeMembersUptoSaid : Prop := shapeMembersUptoRow.holds Try.pinned (OpenSpec.upto shapeMembersSpec)

/-- 'burinlaw10.ShapeLeaves', WHERE WHAT IT READS IS OF BULK AT MOST 1048576: true; the input reads as it did. -/
def shapeLeavesUptoRow : OpenClaim := { program := "ytkiebejidpebdaa", sum := "4d9d0721a7e543e090dfce441e2dab7bb9dc2514e667aee418e2800075edb6df", func := "burin/burinlaw10.ShapeLeaves", spec := "shapeLeaves", unfollowed := true, recurses := true, loops := true, plainKeys := false, apart := false, narrowed := true }
def ShapeLeavesUptoSaid : Prop := shapeLeavesUptoRow.holds Try.pinned (OpenSpec.upto shapeLeavesSpec)

/-- 'burinlaw10.ShapeSame', WHERE WHAT IT READS IS OF BULK AT MOST 1048576: true; the input reads as it did. -/
def shapeSameUptoRow : OpenClaim := { program := "ytkiebejidpebdaa", sum := "4d9d0721a7e543e090dfce441e2dab7bb9dc2514e667aee418e2800075edb6df", func := "burin/burinlaw10.ShapeSame", spec := "shapeSame", unfollowed := true, recurses := true, loops := true, plainKeys := false, apart := false, narrowed := true }
def ShapeSameUptoSaid : Prop := shapeSameUptoRow.holds Try.pinned (OpenSpec.upto shapeSameSpec)

/-- 'burinlaw10.ShapeLies', WHERE WHAT IT READS IS OF BULK AT MOST 1048576: true; the input reads as it did. -/
def shapeLiesUptoRow : OpenClaim := { program := "ytkiebejidpebdaa", sum := "4d9d0721a7e543e090dfce441e2dab7bb9dc2514e667aee418e2800075edb6df", func := "burin/burinlaw10.ShapeLies", spec := "shapeLies", unfollowed := true, recurses := true, loops := true, plainKeys := false, apart := false, narrowed := true }
def ShapeLiesUptoSaid : Prop := shapeLiesUptoRow.holds Try.pinned (OpenSpec.upto shapeLiesSpec)

/-- 'burinlaw10.ShapeArrays', WHERE WHAT IT READS IS OF BULK AT MOST 1048576: true; the input reads as it did. -/
def shapeArraysUptoRow : OpenClaim := { program := "ytkiebejidpebdaa", sum := "4d9d0721a7e543e090dfce441e2dab7bb9dc2514e667aee418e2800075edb6df", func := "burin/burinlaw10.ShapeArrays", spec := "shapeArrays", unfollowed := true, recurses := true, loops := true, plainKeys := false, apart := false, narrowed := true }
def ShapeArraysUptoSaid : Prop := shapeArraysUptoRow.holds Try.pinned (OpenSpec.upto shapeArraysSpec)

/-- 'burinlaw10.ShapePacked', WHERE WHAT IT READS IS OF BULK AT MOST 1048576: true; the input reads as it did. -/
def shapePackedUptoRow : OpenClaim := { program := "ytkiebejidpebdaa", sum := "4d9d0721a7e543e090dfce441e2dab7bb9dc2514e667aee418e2800075edb6df", func := "burin/burinlaw10.ShapePacked", spec := "shapePacked", unfollowed := true, recurses := true, loops := true, plainKeys := false, apart := false, narrowed := true }
def ShapePackedUptoSaid : Prop := shapePackedUptoRow.holds Try.pinned (OpenSpec.upto shapePackedSpec)

/-- 'burinlaw11.ImageSpots', WHERE WHAT IT READS IS OF BULK AT MOST 1048576: true; the input reads as it did. -/
def imageSpotsUptoRow : OpenClaim := { program := "ytkiebejidpebdaa", sum := "4d9d0721a7e543e090dfce441e2dab7bb9dc2514e667aee418e2800075edb6df", func := "burin/burinlaw11.ImageSpots", spec := "imageSpots", unfollowed := true, recurses := true, loops := true, plainKeys := false, apart := false, narrowed := true }
def ImageSpotsUptoSaid : Prop := imageSpotsUptoRow.holds Try.pinned (OpenSpec.upto imageSpotsSpec)

/-- 'burinlaw11.ImageMakes', WHERE WHAT IT READS IS OF BULK AT MOST 1048576: true; the input reads as it did. -/
def imageMakesUptoRow : OpenClaim := { program := "ytkiebejidpebdaa", sum := "4d9d0721a7e543e090dfce441e2dab7bb9dc2514e667aee418e2800075edb6df", func := "burin/burinlaw11.ImageMakes", spec := "imageMakes", unfollowed := true, recurses := true, loops := true, plainKeys := false, apart := false, narrowed := true }
def ImageMakesUptoSaid : Prop := imageMakesUptoRow.holds Try.pinned (OpenSpec.upto imageMakesSpec)

/-- 'burinlaw11.ImageGets', WHERE WHAT IT READS IS OF BULK AT MOST 1048576: true; the input reads as it did. -/
def imageGetsUptoRow : OpenClaim := { program := "ytkiebejidpebdaa", sum := "4d9d0721a7e543e090dfce441e2dab7bb9dc2514e667aee418e2800075edb6df", func := "burin/burinlaw11.ImageGets", spec := "imageGets", unfollowed := true, recurses := true, loops := true, plainKeys := false, apart := false, narrowed := true }
def ImageGetsUptoSaid : Prop := imageGetsUptoRow.holds Try.pinned (OpenSpec.upto imageGetsSpec)

/-- 'burinlaw11.ImageBack', WHERE WHAT IT READS IS OF BULK AT MOST 1048576: true; the input reads as it did. -/
def imageBackUptoRow : OpenClaim := { program := "ytkiebejidpebdaa", sum := "4d9d0721a7e543e090dfce441e2dab7bb9dc2514e667aee418e2800075edb6df", func := "burin/burinlaw11.ImageBack", spec := "imageBack", unfollowed := true, recurses := true, loops := true, plainKeys := false, apart := false, narrowed := true }
def ImageBackUptoSaid : Prop := imageBackUptoRow.holds Try.pinned (OpenSpec.upto imageBackSpec)

/-- 'burinlaw11.ImageSteps', WHERE WHAT IT READS IS OF BULK AT MOST 1048576: true; the input reads as it did. -/
def imageStepsUptoRow : OpenClaim := { program := "ytkiebejidpebdaa", sum := "4d9d0721a7e543e090dfce441e2dab7bb9dc2514e667aee418e2800075edb6df", func := "burin/burinlaw11.ImageSteps", spec := "imageSteps", unfollowed := true, recurses := true, loops := true, plainKeys := false, apart := false, narrowed := true }
def ImageStepsUptoSaid : Prop := imageStepsUptoRow.holds Try.pinned (OpenSpec.upto imageStepsSpec)

/-- 'burinlaw11.ImageSwaps', WHERE WHAT IT READS IS OF BULK AT MOST 1048576: true; the input reads as it did. -/
def imageSwapsUptoRow : OpenClaim := { program := "ytkiebejidpebdaa", sum := "4d9d0721a7e543e090dfce441e2dab7bb9dc2514e667aee418e2800075edb6df", func := "burin/burinlaw11.ImageSwaps", spec := "imageSwaps", unfollowed := true, recurses := true, loops := true, plainKeys := false, apart := false, narrowed := true }
def ImageSwapsUptoSaid : Prop := imageSwapsUptoRow.holds Try.pinned (OpenSpec.upto imageSwapsSpec)

/-- 'burinlaw11.ImageLeaves', WHERE WHAT IT READS IS OF BULK AT MOST 1048576: true; the input reads as it did. -/
def imageLeavesUptoRow : OpenClaim := { program := "ytkiebejidpebdaa", sum := "4d9d0721a7e543e090dfce441e2dab7bb9dc2514e667aee418e2800075edb6df", func := "burin/burinlaw11.ImageLeaves", spec := "imageLeaves", unfollowed := true, recurses := true, loops := true, plainKeys := false, apart := false, narrowed := true }
def ImageLeavesUptoSaid : Prop := imageLeavesUptoRow.holds Try.pinned (OpenSpec.upto imageLeavesSpec)

end Rows
end Go.Proofs.Ytkiebejidpebdaa
