/-
  strings.ContainsAny on bytes below 128, by the shelf's contract, at this translation.
-/
import Derived.Shelf.Strings.IndexAnyAll
import Derived.Shelf.Lay
import Derived.Ground.NamesProg
import Derived.Test.YtmpkgjonbjpohaaGreatDoorChecked
namespace Go.Proofs
open Go.Shelf
shelf_lay Lays.n150 Nm 150 at Tryz as Tryz.lays150
open Go.RowKit in
theorem Tryz.strings_ContainsAny (s chars : ByteArray) (w : World) (hs : s.size < 4294967281) (hcs : chars.size < 4294967281)
    (has : ∀ (j : Nat) b, s.data.toList[j]? = some b → b.toNat < 128) (hac : ∀ (j : Nat) b, chars.data.toList[j]? = some b → b.toNat < 128) :
    Calls Tryz.prog 160 #[.string s, .string chars] w fun e w' => e = .returned (.bool (Lib.containsAny s.data.toList chars.data.toList)) ∧ Below w.heap.size w w' :=
  Any.strings_ContainsAny_laid Tryz.lays150 (by kernel_rfl) s chars w hs hcs has hac
end Go.Proofs
