/-
  strconv.ParseUint at 8 bits; readCode.
-/
import Derived.Test.YtfghfohlcofdpaaDoorC4
import Derived.Test.YtfghfohlcofdpaaDoorC8
namespace Go.Proofs.YtfghfohlcofdpaaDoor
open Go Go.RowKit
set_option linter.unusedVariables false
set_option linter.unusedSimpArgs false

def puSB (base : Int) (t : List UInt8) : Int × Int := if t = [] then (0, 2) else puB base 0 t
theorem puB_err (base : Int) : ∀ (l : List UInt8) (a : Int), (puB base a l).2 = 0 ∨ (puB base a l).2 = 1 ∨ (puB base a l).2 = 2
  | [], a => .inl rfl
  | c :: r, a => by
    rw [puB]
    split
    · exact .inr (.inr rfl)
    · split
      · exact .inr (.inl rfl)
      · exact puB_err base r _
set_option maxRecDepth 100000 in
theorem pu_nilB (base : Int) (w : World) : Calls Tryd.prog 41 #[.string ⟨#[]⟩, .int .i64 base, .int .i64 8] w fun e w' => e = .returned (.tuple #[.int .u64 0, .iface 102 (.int .i64 2)]) ∧ Below w.heap.size w w' := by
  go_enter Tryd.func41, Tryd.ntmps41
  go_wp2
  go_ret2
  exact ⟨rfl, Below.refl _ _⟩
theorem puIB_any (base : Int) (hb : base = 16 ∨ base = 8) (t : List UInt8) (hmax : t.length ≤ 140737488355328) (w : World) :
    Calls Tryd.prog 41 #[.string ⟨t.toArray⟩, .int .i64 base, .int .i64 8] w fun e w' => e = .returned (.tuple #[.int .u64 (puSB base t).1, errI (puSB base t).2]) ∧ Below w.heap.size w w' := by
  by_cases ht : t = []
  · subst ht
    exact pu_nilB base w
  · unfold puSB
    rw [if_neg ht]
    rcases hb with rfl | rfl
    · exact pu16b_any t ht hmax w
    · exact pu8b_any t ht hmax w
set_option maxRecDepth 100000 in
set_option maxHeartbeats 4000000 in
theorem ParseUintB_any (base : Int) (hb : base = 16 ∨ base = 8) (t : List UInt8) (hmax : t.length ≤ 140737488355328) (w : World) (hw : 1 < w.heap.size) (hg : Eg w) :
    Calls Tryd.prog 29 #[.string ⟨t.toArray⟩, .int .i64 base, .int .i64 8] w fun e w' => PuP w (puSB base t) e w' := by
  have HI := hide (puIB_any base hb t hmax w)
  have HE : Hid (∀ k W, (k = 1 ∨ k = 2) → Below w.heap.size w W → Calls Tryd.prog 42 #[.string ⟨#[80, 97, 114, 115, 101, 85, 105, 110, 116]⟩, .string ⟨t.toArray⟩, .int .i64 base, .int .i64 8, .iface 102 (.int .i64 k)] W fun e w' => (∃ v, e = .returned (.iface 105 v)) ∧ Below W.heap.size W w') := fun k W hk hB =>
    toError_any clone_str _ _ base 8 k W hk (by show t.toArray.size ≤ _; simp; omega) (Nat.lt_of_lt_of_le hw hB.size) (hg.below hB hw)
  have hz : (puSB base t).2 = 0 ∨ (puSB base t).2 = 1 ∨ (puSB base t).2 = 2 := by
    unfold puSB
    split
    · exact .inr (.inr rfl)
    · exact puB_err _ _ _
  generalize puSB base t = Z at *
  obtain ⟨n, k⟩ := Z
  simp only at hz HI
  have h1 := neI
  have h2 := neN
  clear hg hw hmax hb
  rcases hz with rfl | hk
  · rw [show errI 0 = .nilIface from rfl] at HI
    go_enter Tryd.func29, Tryd.ntmps29
    go_wp2_with fail
    refine (unhide HI).mono ?_
    rintro e W1 ⟨rfl, hb1⟩
    have HB := hide hb1
    clear hb1
    go_wp2
    go_ret2
    exact ⟨⟨_, rfl, .inl ⟨rfl, rfl⟩⟩, unhide HB⟩
  · have hk0 : k ≠ 0 := by omega
    rw [show errI k = .iface 102 (.int .i64 k) by rw [errI, if_neg hk0]] at HI
    have HE2 := hide (fun W => unhide HE k W hk)
    have HK0 := hide hk0
    clear hk hk0
    go_enter Tryd.func29, Tryd.ntmps29
    go_wp2_with fail
    refine (unhide HI).mono ?_
    rintro e W1 ⟨rfl, hb1⟩
    have HB := hide hb1
    have H3 := hide (unhide HE2 W1 hb1)
    clear hb1
    go_wp2_with fail
    refine (unhide H3).mono ?_
    rintro e W2 ⟨⟨v, rfl⟩, hb2⟩
    have HB2 := hide ((unhide HB).trans (hb2.mono (unhide HB).size))
    clear hb2
    go_wp2
    go_ret2
    exact ⟨⟨_, rfl, .inr ⟨unhide HK0, _, rfl⟩⟩, unhide HB2⟩
end Go.Proofs.YtfghfohlcofdpaaDoor
