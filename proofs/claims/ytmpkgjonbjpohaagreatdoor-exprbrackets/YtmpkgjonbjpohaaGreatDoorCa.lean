/-
  strconv.ParseUint: its errors.
  strconv.ParseUint.
  Package cond: readNumber, Number.
-/
import Derived.Test.YtmpkgjonbjpohaaGreatDoorBc
import Derived.Deep.RegionWith
import Derived.Test.YtmpkgjonbjpohaaGreatDoorC1
import Derived.Shelf.Lay
import Derived.Shelf.Pu.Clone
import Derived.Ground.MpProg
namespace Go.Proofs.YtmpkgjonbjpohaaGreatDoor
open Go Go.RowKit
set_option linter.unusedVariables false
set_option linter.unusedSimpArgs false

/-- The two errors of the package are there to be read. -/
def Eg (w : World) : Prop := (∃ t v, w.cell? ⟨6, 0, none⟩ = some (.iface t v)) ∧ ∃ t v, w.cell? ⟨7, 0, none⟩ = some (.iface t v)
theorem Eg.below {w w' : World} {B : Nat} (h : Eg w) (hb : Below B w w') (hB : 10 < B) : Eg w' := by
  obtain ⟨⟨t, v, h0⟩, ⟨t', u, h1⟩⟩ := h
  exact ⟨⟨t, v, (hb.cell (p := ⟨6, 0, none⟩) (by show 6 < B; omega)).trans h0⟩, ⟨t', u, (hb.cell (p := ⟨7, 0, none⟩) (by show 7 < B; omega)).trans h1⟩⟩
/-- strconv's toError, handed one of its two errors: an error that is not nil. -/
theorem eqI (a b : Int) (w : World) : (binOp .eql 182 (.iface 240 (.int .i64 a)) (.iface 240 (.int .i64 b))).run Tryz.prog w = .ok (.bool (a == b)) w := by
  kernel_rfl
set_option maxRecDepth 100000 in
theorem syntaxError_any (HC : ∀ (s : ByteArray) (w : World), s.size ≤ 281474976710656 → Calls Tryz.prog 207 #[.string s] w fun e w' => e = .returned (.string s) ∧ Below w.heap.size w w')
    (f s : ByteArray) (w : World) (hs : s.size ≤ 281474976710656) (hw : 10 < w.heap.size) (hg : Eg w) :
    Calls Tryz.prog 203 #[.string f, .string s] w fun e w' => (∃ b, e = .returned (.pointer (some ⟨b, 0, none⟩))) ∧ Below w.heap.size w w' := by
  obtain ⟨⟨ti, v, g0⟩, _⟩ := hg
  have H := hide (HC s w.drew hs)
  have g0' : w.drew.cell? ⟨6, 0, none⟩ = some (.iface ti v) := g0
  go_enter Tryz.func203, Tryz.ntmps203
  go_upto_region 1 with fail
  go_region_with (
    (go_at_call 207
     refine (unhide H).mono ?_
     rintro e W1 ⟨rfl, hb1⟩
     have g1 : W1.cell? ⟨6, 0, none⟩ = some (.iface ti v) := (hb1.cell (p := ⟨6, 0, none⟩) (by show 6 < w.heap.size; omega)).trans g0
     have HB1 : Hid (Below w.heap.size w W1) := Below.trans (b := w.drew) (drewB (Below.refl _ w)) hb1))
  all_goals (
    have HB2 := hide ((unhide HB1).alloc (unhide HB1).size (.cells #[.string f, .string s, .iface ti v] 247))
    go_wp2
    go_ret
    exact ⟨⟨_, rfl⟩, unhide HB2⟩)
set_option maxRecDepth 100000 in
theorem rangeError_any (HC : ∀ (s : ByteArray) (w : World), s.size ≤ 281474976710656 → Calls Tryz.prog 207 #[.string s] w fun e w' => e = .returned (.string s) ∧ Below w.heap.size w w')
    (f s : ByteArray) (w : World) (hs : s.size ≤ 281474976710656) (hw : 10 < w.heap.size) (hg : Eg w) :
    Calls Tryz.prog 204 #[.string f, .string s] w fun e w' => (∃ b, e = .returned (.pointer (some ⟨b, 0, none⟩))) ∧ Below w.heap.size w w' := by
  obtain ⟨_, ⟨ti, v, g0⟩⟩ := hg
  have H := hide (HC s w.drew hs)
  have g0' : w.drew.cell? ⟨7, 0, none⟩ = some (.iface ti v) := g0
  go_enter Tryz.func204, Tryz.ntmps204
  go_upto_region 1 with fail
  go_region_with (
    (go_at_call 207
     refine (unhide H).mono ?_
     rintro e W1 ⟨rfl, hb1⟩
     have g1 : W1.cell? ⟨7, 0, none⟩ = some (.iface ti v) := (hb1.cell (p := ⟨7, 0, none⟩) (by show 7 < w.heap.size; omega)).trans g0
     have HB1 : Hid (Below w.heap.size w W1) := Below.trans (b := w.drew) (drewB (Below.refl _ w)) hb1))
  all_goals (
    have HB2 := hide ((unhide HB1).alloc (unhide HB1).size (.cells #[.string f, .string s, .iface ti v] 247))
    go_wp2
    go_ret
    exact ⟨⟨_, rfl⟩, unhide HB2⟩)
set_option maxRecDepth 100000 in
theorem toError_any (HC : ∀ (s : ByteArray) (w : World), s.size ≤ 281474976710656 → Calls Tryz.prog 207 #[.string s] w fun e w' => e = .returned (.string s) ∧ Below w.heap.size w w')
    (f s : ByteArray) (b z k : Int) (w : World) (hk : k = 1 ∨ k = 2) (hs : s.size ≤ 281474976710656) (hw : 10 < w.heap.size) (hg : Eg w) :
    Calls Tryz.prog 200 #[.string f, .string s, .int .i64 b, .int .i64 z, .iface 240 (.int .i64 k)] w fun e w' => (∃ v, e = .returned (.iface 242 v)) ∧ Below w.heap.size w w' := by
  have H1 := hide (syntaxError_any HC f s w hs hw hg)
  have H2 := hide (rangeError_any HC f s w hs hw hg)
  have heq := eqI
  rcases hk with rfl | rfl
  · go_enter Tryz.func200, Tryz.ntmps200
    go_wp2_with fail
    refine (unhide H2).mono ?_
    rintro e W1 ⟨⟨p, rfl⟩, hb1⟩
    have HB := hide hb1
    go_wp2
    go_ret
    exact ⟨⟨_, rfl⟩, unhide HB⟩
  · go_enter Tryz.func200, Tryz.ntmps200
    go_wp2_with fail
    refine (unhide H1).mono ?_
    rintro e W1 ⟨⟨p, rfl⟩, hb1⟩
    have HB := hide hb1
    go_wp2
    go_ret
    exact ⟨⟨_, rfl⟩, unhide HB⟩
end Go.Proofs.YtmpkgjonbjpohaaGreatDoor
namespace Go.Proofs.YtmpkgjonbjpohaaGreatDoor
open Go Go.RowKit Go.Shelf
set_option linter.unusedVariables false
set_option linter.unusedSimpArgs false

shelf_lay LaysPu.n25 Mp 25 at Tryz as Tryz.laysPu25
theorem clone_str (s : ByteArray) (w : World) (hs : s.size ≤ 281474976710656) : Calls Tryz.prog 207 #[.string s] w fun e w' => e = .returned (.string s) ∧ Below w.heap.size w w' :=
  AnyPu.stringslite_Clone Tryz.laysPu25 s w hs
/-- The number that a text is in a base, and its error; an empty text is none. -/
def puS (base cut : Int) (t : List UInt8) : Int × Int := if t = [] then (0, 2) else puM base cut 0 t
theorem puM_err (base cut : Int) : ∀ (l : List UInt8) (a : Int), (puM base cut a l).2 = 0 ∨ (puM base cut a l).2 = 1 ∨ (puM base cut a l).2 = 2
  | [], a => .inl rfl
  | c :: r, a => by
    rw [puM]
    split
    · exact .inr (.inr rfl)
    · split
      · exact .inr (.inl rfl)
      · split
        · exact .inr (.inl rfl)
        · exact puM_err base cut r _
set_option maxRecDepth 100000 in
theorem pu_nil (base : Int) (w : World) : Calls Tryz.prog 199 #[.string ⟨#[]⟩, .int .i64 base, .int .i64 64] w fun e w' => e = .returned (.tuple #[.int .u64 0, .iface 240 (.int .i64 2)]) ∧ Below w.heap.size w w' := by
  go_enter Tryz.func199, Tryz.ntmps199
  go_wp2
  go_ret2
  exact ⟨rfl, Below.refl _ _⟩
/-- Which bases, and their cuts. -/
def baseC (base : Int) : Int := if base = 16 then 1152921504606846976 else if base = 8 then 2305843009213693952 else 1844674407370955162
theorem puI_any (base : Int) (hb : base = 16 ∨ base = 8 ∨ base = 10) (t : List UInt8) (hmax : t.length ≤ 140737488355328) (w : World) :
    Calls Tryz.prog 199 #[.string ⟨t.toArray⟩, .int .i64 base, .int .i64 64] w fun e w' => e = .returned (.tuple #[.int .u64 (puS base (baseC base) t).1, errI (puS base (baseC base) t).2]) ∧ Below w.heap.size w w' := by
  by_cases ht : t = []
  · subst ht
    exact pu_nil base w
  · unfold puS
    rw [if_neg ht]
    rcases hb with rfl | rfl | rfl
    · exact pu16_any t ht hmax w
    · exact pu8_any t ht hmax w
    · exact pu10_any t ht hmax w
/-- What ParseUint tells. -/
def PuP (w : World) (Z : Int × Int) (e : Ending) (w' : World) : Prop := (∃ er, e = .returned (.tuple #[.int .u64 Z.1, er]) ∧ ((Z.2 = 0 ∧ er = .nilIface) ∨ (Z.2 ≠ 0 ∧ ∃ v, er = .iface 242 v))) ∧ Below w.heap.size w w'
theorem neI (v : Value) (w : World) : (binOp .neq 182 (.iface 240 v) .nilIface).run Tryz.prog w = .ok (.bool true) w := by kernel_rfl
theorem neN (w : World) : (binOp .neq 182 .nilIface .nilIface).run Tryz.prog w = .ok (.bool false) w := by kernel_rfl
set_option maxRecDepth 100000 in
set_option maxHeartbeats 4000000 in
theorem ParseUint_any (base : Int) (hb : base = 16 ∨ base = 8 ∨ base = 10) (t : List UInt8) (hmax : t.length ≤ 140737488355328) (w : World) (hw : 10 < w.heap.size) (hg : Eg w) :
    Calls Tryz.prog 190 #[.string ⟨t.toArray⟩, .int .i64 base, .int .i64 64] w fun e w' => PuP w (puS base (baseC base) t) e w' := by
  have HI := hide (puI_any base hb t hmax w)
  have HE : Hid (∀ k W, (k = 1 ∨ k = 2) → Below w.heap.size w W → Calls Tryz.prog 200 #[.string ⟨#[80, 97, 114, 115, 101, 85, 105, 110, 116]⟩, .string ⟨t.toArray⟩, .int .i64 base, .int .i64 64, .iface 240 (.int .i64 k)] W fun e w' => (∃ v, e = .returned (.iface 242 v)) ∧ Below W.heap.size W w') := fun k W hk hB =>
    toError_any clone_str _ _ base 64 k W hk (by show t.toArray.size ≤ _; simp; omega) (Nat.lt_of_lt_of_le hw hB.size) (hg.below hB hw)
  have hz : (puS base (baseC base) t).2 = 0 ∨ (puS base (baseC base) t).2 = 1 ∨ (puS base (baseC base) t).2 = 2 := by
    unfold puS
    split
    · exact .inr (.inr rfl)
    · exact puM_err _ _ _ _
  generalize puS base (baseC base) t = Z at *
  obtain ⟨n, k⟩ := Z
  simp only at hz HI
  have h1 := neI
  have h2 := neN
  clear hg hw hmax hb
  rcases hz with rfl | hk
  · rw [show errI 0 = .nilIface from rfl] at HI
    go_enter Tryz.func190, Tryz.ntmps190
    go_wp2_with fail
    refine (unhide HI).mono ?_
    rintro e W1 ⟨rfl, hb1⟩
    have HB := hide hb1
    clear hb1
    go_wp2
    go_ret2
    exact ⟨⟨_, rfl, .inl ⟨rfl, rfl⟩⟩, unhide HB⟩
  · have hk0 : k ≠ 0 := by omega
    rw [show errI k = .iface 240 (.int .i64 k) by rw [errI, if_neg hk0]] at HI
    have HE2 := hide (fun W => unhide HE k W hk)
    have HK0 := hide hk0
    clear hk hk0
    go_enter Tryz.func190, Tryz.ntmps190
    go_wp2_with fail
    refine (unhide HI).mono ?_
    rintro e W1 ⟨rfl, hb1⟩
    have HB := hide hb1
    have H3 := hide (unhide HE2 W1 hb1)
    clear hb1
    go_wp2_with fail
    refine (unhide H3).mono ?_
    rintro e W2 ⟨⟨v, rfl⟩, hb2⟩
    have HB2 := hide ((unhide HB).trans (hb2.mono (unhide HB).size))
    clear hb2
    go_wp2
    go_ret2
    exact ⟨⟨_, rfl, .inr ⟨unhide HK0, _, rfl⟩⟩, unhide HB2⟩
end Go.Proofs.YtmpkgjonbjpohaaGreatDoor
namespace Go.Proofs.YtmpkgjonbjpohaaGreatDoor
open Go Go.RowKit
set_option linter.unusedVariables false
set_option linter.unusedSimpArgs false

theorem ext_list (l : List UInt8) (a b : Nat) : (⟨l.toArray⟩ : ByteArray).extract a b = ⟨((l.take b).drop a).toArray⟩ := by
  apply ByteArray.ext
  rw [ByteArray.data_extract]
  apply Array.toList_inj.1
  rw [Array.toList_extract]
  simp [List.extract, List.drop_take]
/-- How many digits of a base a text begins with. -/
def digN (base : Int) : List UInt8 → Nat
  | [] => 0
  | c :: r => if digM c.toNat base then digN base r + 1 else 0
theorem digN_le (base : Int) : ∀ l, digN base l ≤ l.length
  | [] => Nat.le_refl _
  | c :: r => by
    rw [digN]
    split
    · have := digN_le base r; simp; omega
    · simp
/-- A text without what a base opens it with. -/
def restM (s : List UInt8) : List UInt8 := if baseM s == 16 then s.drop 2 else s
/-- The number that a text is, and whether it is one. -/
def numM (s : List UInt8) : Vl × Bool :=
  let b := baseM s
  let r := restM s
  let n := digN b r
  if (puS b (baseC b) (r.take n)).2 ≠ 0 then (⟨0, false⟩, false)
  else (⟨(puS b (baseC b) (r.take n)).1, (sufM (r.drop n)).1 || (decide (9223372036854775808 ≤ (puS b (baseC b) (r.take n)).1) && b != 10)⟩, (sufM (r.drop n)).2)
theorem baseM_is (s : List UInt8) : baseM s = 16 ∨ baseM s = 8 ∨ baseM s = 10 := by
  unfold baseM
  split
  · exact .inl rfl
  · split
    · exact .inl rfl
    · split
      · exact .inr (.inl rfl)
      · exact .inr (.inr rfl)
theorem pre2_len {a b : UInt8} {s : List UInt8} (h : Tk.pre [a, b] s = true) : 2 ≤ s.length := by
  match s, h with
  | [], h => simp [Tk.pre] at h
  | [x], h => simp [Tk.pre] at h
  | x :: y :: r, _ => simp
theorem base16_len {s : List UInt8} (h : baseM s = 16) : 2 ≤ s.length := by
  unfold baseM at h
  split at h
  · rename_i h1; exact pre2_len h1
  · split at h
    · rename_i h1; exact pre2_len h1
    · split at h
      · cases h
      · cases h
end Go.Proofs.YtmpkgjonbjpohaaGreatDoor
