/-
  Package shape: types in memory; kinds' sizes; what is plain arithmetic.
  Package shape: aligns, fieldFormed, formed; the document's own isAlign, bareField.
  Package shape: formed.
  Package shape: named, fieldsFormed.
  Package shape: fieldsFormed; formed.
-/
import Derived.Test.YtkiebejidpebdaaProg
import Derived.WalkKit
import Derived.Below
import Derived.Deep.QuietTactic
import Derived.BigQuiet
import Derived.Deep.CutRange
import Derived.Deep.DeepCutAuto
import Derived.Maps.OwnOps
import Derived.Maps.OwnSet
import Derived.Maps.Views
namespace Go.Proofs.Ytkiebejidpebdaa
open Go Go.RowKit
set_option linter.unusedVariables false
set_option linter.unusedSimpArgs false

theorem veil {p : Prop} (h : p) : Hid p := h
theorem unveil {p : Prop} (h : Hid p) : p := h
/-- A member; a type as it lies in memory, with the headers of its slices. -/
structure FdOf (T : Type) where
  nm : List UInt8
  t : T
  bits : Int
inductive ShT where
  | mk (sh k n : Int) (op : Option Addr) (oc : Nat) (of : List ShT) (fp : Option Addr) (fc : Nat) (fs : List (FdOf ShT)) (pk : Bool) (al : Int)
namespace ShT
def sh : ShT → Int | .mk sh _ _ _ _ _ _ _ _ _ _ => sh
def k : ShT → Int | .mk _ k _ _ _ _ _ _ _ _ _ => k
def n : ShT → Int | .mk _ _ n _ _ _ _ _ _ _ _ => n
def op : ShT → Option Addr | .mk _ _ _ op _ _ _ _ _ _ _ => op
def oc : ShT → Nat | .mk _ _ _ _ oc _ _ _ _ _ _ => oc
def of : ShT → List ShT | .mk _ _ _ _ _ of _ _ _ _ _ => of
def fp : ShT → Option Addr | .mk _ _ _ _ _ _ fp _ _ _ _ => fp
def fc : ShT → Nat | .mk _ _ _ _ _ _ _ fc _ _ _ => fc
def fs : ShT → List (FdOf ShT) | .mk _ _ _ _ _ _ _ _ fs _ _ => fs
def pk : ShT → Bool | .mk _ _ _ _ _ _ _ _ _ pk _ => pk
def al : ShT → Int | .mk _ _ _ _ _ _ _ _ _ _ al => al
def cs (t : ShT) : Array Value := #[.int .i64 t.sh, .int .i64 t.k, .int .i64 t.n, .slice t.op t.of.length t.oc, .slice t.fp t.fs.length t.fc, .bool t.pk, .int .i64 t.al]
def v (t : ShT) : Value := .agg t.cs
end ShT
def FdOf.cs (f : FdOf ShT) : Array Value := #[.string ⟨f.nm.toArray⟩, .int .i64 f.t.sh, .int .i64 f.t.k, .int .i64 f.t.n, .slice f.t.op f.t.of.length f.t.oc, .slice f.t.fp f.t.fs.length f.t.fc, .bool f.t.pk, .int .i64 f.t.al, .int .i64 f.bits]
def FdOf.v (f : FdOf ShT) : Value := .agg f.cs
/-- What lies within it lies in the blocks below B, to so much depth. -/
def ShT.InD (B : Nat) (W : World) : Nat → ShT → Prop
  | 0, _ => True
  | d + 1, t => (∀ (i : Nat) (h : i < t.of.length), ∃ g o, t.op = some ⟨g, o, none⟩ ∧ g < B ∧ (∀ (j : Nat), j < 7 → W.cell? ⟨g, o + i * 7 + j, none⟩ = t.of[i].cs[j]?) ∧ ShT.InD B W d t.of[i]) ∧
      (∀ (i : Nat) (h : i < t.fs.length), ∃ g o, t.fp = some ⟨g, o, none⟩ ∧ g < B ∧ (∀ (j : Nat), j < 9 → W.cell? ⟨g, o + i * 9 + j, none⟩ = t.fs[i].cs[j]?) ∧ t.fs[i].nm.length ≤ maxLen ∧ ShT.InD B W d t.fs[i].t)
def ShT.In (B : Nat) (W : World) (t : ShT) : Prop := ∀ d, t.InD B W d
theorem ShT.InD.below {B : Nat} {W W' : World} (hb : Below B W W') : ∀ (d : Nat) (t : ShT), t.InD B W d → t.InD B W' d
  | 0, _, _ => trivial
  | d + 1, t, ⟨h1, h2⟩ => ⟨fun i hi => by
      obtain ⟨g, o, e, hg, hc, hd⟩ := h1 i hi
      exact ⟨g, o, e, hg, fun j hj => (hb.cell (p := ⟨g, o + i * 7 + j, none⟩) hg).trans (hc j hj), InD.below hb d _ hd⟩, fun i hi => by
      obtain ⟨g, o, e, hg, hc, hn, hd⟩ := h2 i hi
      exact ⟨g, o, e, hg, fun j hj => (hb.cell (p := ⟨g, o + i * 9 + j, none⟩) hg).trans (hc j hj), hn, InD.below hb d _ hd⟩⟩
theorem ShT.InD.mono {B B' : Nat} {W : World} (hb : B ≤ B') : ∀ (d : Nat) (t : ShT), t.InD B W d → t.InD B' W d
  | 0, _, _ => trivial
  | d + 1, t, ⟨h1, h2⟩ => ⟨fun i hi => by
      obtain ⟨g, o, e, hg, hc, hd⟩ := h1 i hi
      exact ⟨g, o, e, Nat.lt_of_lt_of_le hg hb, hc, InD.mono hb d _ hd⟩, fun i hi => by
      obtain ⟨g, o, e, hg, hc, hn, hd⟩ := h2 i hi
      exact ⟨g, o, e, Nat.lt_of_lt_of_le hg hb, hc, hn, InD.mono hb d _ hd⟩⟩
theorem ShT.In.below {B : Nat} {W W' : World} {t : ShT} (h : t.In B W) (hb : Below B W W') : t.In B W' := fun d => (h d).below hb
theorem ShT.In.mono {B B' : Nat} {W : World} {t : ShT} (h : t.In B W) (hb : B ≤ B') : t.In B' W := fun d => (h d).mono hb
theorem ShT.In.of {B : Nat} {W : World} {t : ShT} (h : t.In B W) (i : Nat) (hi : i < t.of.length) : ∃ g o, t.op = some ⟨g, o, none⟩ ∧ g < B ∧ (∀ (j : Nat), j < 7 → W.cell? ⟨g, o + i * 7 + j, none⟩ = t.of[i].cs[j]?) ∧ t.of[i].In B W := by
  obtain ⟨g, o, e, hg, hc, _⟩ := (h 1).1 i hi
  refine ⟨g, o, e, hg, hc, fun d => ?_⟩
  obtain ⟨_, _, _, _, _, hd⟩ := (h (d + 1)).1 i hi
  exact hd
theorem ShT.In.fs {B : Nat} {W : World} {t : ShT} (h : t.In B W) (i : Nat) (hi : i < t.fs.length) : ∃ g o, t.fp = some ⟨g, o, none⟩ ∧ g < B ∧ (∀ (j : Nat), j < 9 → W.cell? ⟨g, o + i * 9 + j, none⟩ = t.fs[i].cs[j]?) ∧ t.fs[i].nm.length ≤ maxLen ∧ t.fs[i].t.In B W := by
  obtain ⟨g, o, e, hg, hc, hn, _⟩ := (h 1).2 i hi
  refine ⟨g, o, e, hg, hc, hn, fun d => ?_⟩
  obtain ⟨_, _, _, _, _, _, hd⟩ := (h (d + 1)).2 i hi
  exact hd
/-- Where a value reaches: a type's headers alone. -/
theorem seven {W : World} {g o : Nat} {t : ShT} (hc : ∀ (j : Nat), j < 7 → W.cell? ⟨g, o + j, none⟩ = t.cs[j]?) :
    W.cell? ⟨g, o, none⟩ = some (.int .i64 t.sh) ∧ W.cell? ⟨g, o + 1, none⟩ = some (.int .i64 t.k) ∧ W.cell? ⟨g, o + 2, none⟩ = some (.int .i64 t.n) ∧ W.cell? ⟨g, o + 3, none⟩ = some (.slice t.op t.of.length t.oc) ∧
    W.cell? ⟨g, o + 4, none⟩ = some (.slice t.fp t.fs.length t.fc) ∧ W.cell? ⟨g, o + 5, none⟩ = some (.bool t.pk) ∧ W.cell? ⟨g, o + 6, none⟩ = some (.int .i64 t.al) :=
  ⟨hc 0 (by decide), hc 1 (by decide), hc 2 (by decide), hc 3 (by decide), hc 4 (by decide), hc 5 (by decide), hc 6 (by decide)⟩
theorem nine {W : World} {g o : Nat} {f : FdOf ShT} (hc : ∀ (j : Nat), j < 9 → W.cell? ⟨g, o + j, none⟩ = f.cs[j]?) :
    W.cell? ⟨g, o, none⟩ = some (.string ⟨f.nm.toArray⟩) ∧ W.cell? ⟨g, o + 1, none⟩ = some (.int .i64 f.t.sh) ∧ W.cell? ⟨g, o + 2, none⟩ = some (.int .i64 f.t.k) ∧ W.cell? ⟨g, o + 3, none⟩ = some (.int .i64 f.t.n) ∧ W.cell? ⟨g, o + 4, none⟩ = some (.slice f.t.op f.t.of.length f.t.oc) ∧
    W.cell? ⟨g, o + 5, none⟩ = some (.slice f.t.fp f.t.fs.length f.t.fc) ∧ W.cell? ⟨g, o + 6, none⟩ = some (.bool f.t.pk) ∧ W.cell? ⟨g, o + 7, none⟩ = some (.int .i64 f.t.al) ∧ W.cell? ⟨g, o + 8, none⟩ = some (.int .i64 f.bits) :=
  ⟨hc 0 (by decide), hc 1 (by decide), hc 2 (by decide), hc 3 (by decide), hc 4 (by decide), hc 5 (by decide), hc 6 (by decide), hc 7 (by decide), hc 8 (by decide)⟩

def sizM (k : Int) : Int := if k == 1 then 1 else if k == 2 then 1 else if k == 3 then 2 else if k == 4 then 2 else if k == 5 then 4 else if k == 6 then 4 else if k == 7 then 8 else if k == 8 then 8 else 0
def kiM (k : Int) : Bool := if k == 1 then true else if k == 2 then true else if k == 3 then true else if k == 4 then true else if k == 5 then true else if k == 6 then true else if k == 7 then true else if k == 8 then true else false
def NoK (k : Int) : Prop := (k == 1) = false ∧ (k == 2) = false ∧ (k == 3) = false ∧ (k == 4) = false ∧ (k == 5) = false ∧ (k == 6) = false ∧ (k == 7) = false ∧ (k == 8) = false
theorem kcases (k : Int) : k = 1 ∨ k = 2 ∨ k = 3 ∨ k = 4 ∨ k = 5 ∨ k = 6 ∨ k = 7 ∨ k = 8 ∨ NoK k := by
  unfold NoK
  simp only [beq_eq_false_iff_ne, ne_eq]
  omega
theorem siz_cases (k : Int) : (sizM k = 0 ∧ kiM k = false) ∨ ((sizM k = 1 ∨ sizM k = 2 ∨ sizM k = 4 ∨ sizM k = 8) ∧ kiM k = true) := by
  rcases kcases k with rfl | rfl | rfl | rfl | rfl | rfl | rfl | rfl | ⟨h1, h2, h3, h4, h5, h6, h7, h8⟩
  all_goals simp [sizM, kiM, *]
set_option maxRecDepth 100000 in
set_option maxHeartbeats 4000000 in
theorem Size_any (k : Int) (w : World) : Calls Try.prog 49 #[.int .i64 k] w fun e w' => e = .returned (.int .i64 (sizM k)) ∧ w' = w := by
  rcases kcases k with rfl | rfl | rfl | rfl | rfl | rfl | rfl | rfl | ⟨h1, h2, h3, h4, h5, h6, h7, h8⟩
  all_goals (
    go_enter Try.func49, Try.ntmps49
    go_wp2
    go_ret
    refine ⟨?_, rfl⟩
    first | rfl | simp [sizM, *])
set_option maxRecDepth 100000 in
set_option maxHeartbeats 4000000 in
theorem RIs_any (k : Int) (w : World) : Calls Try.prog 65 #[.int .i64 k] w fun e w' => e = .returned (.bool (kiM k)) ∧ w' = w := by
  by_cases h0 : 1 ≤ k
  · by_cases h9 : k ≤ 8
    · obtain rfl | rfl | rfl | rfl | rfl | rfl | rfl | rfl : k = 1 ∨ k = 2 ∨ k = 3 ∨ k = 4 ∨ k = 5 ∨ k = 6 ∨ k = 7 ∨ k = 8 := by omega
      all_goals (
        go_enter Try.func65, Try.ntmps65
        go_wp2
        go_ret
        exact ⟨rfl, rfl⟩)
    · go_enter Try.func65, Try.ntmps65
      go_wp2
      go_ret
      refine ⟨?_, rfl⟩
      rcases kcases k with rfl | rfl | rfl | rfl | rfl | rfl | rfl | rfl | ⟨i1, i2, i3, i4, i5, i6, i7, i8⟩ <;> first | omega | simp [kiM, *]
  · go_enter Try.func65, Try.ntmps65
    go_wp2
    go_ret
    refine ⟨?_, rfl⟩
    rcases kcases k with rfl | rfl | rfl | rfl | rfl | rfl | rfl | rfl | ⟨i1, i2, i3, i4, i5, i6, i7, i8⟩ <;> first | omega | simp [kiM, *]
set_option maxRecDepth 100000 in
set_option maxHeartbeats 4000000 in
theorem RSize_any (k : Int) (w : World) : Calls Try.prog 68 #[.int .i64 k] w fun e w' => e = .returned (.int .i64 (sizM k)) ∧ w' = w := by
  rcases kcases k with rfl | rfl | rfl | rfl | rfl | rfl | rfl | rfl | ⟨h1, h2, h3, h4, h5, h6, h7, h8⟩
  all_goals (
    go_enter Try.func68, Try.ntmps68
    go_wp2
    go_ret
    refine ⟨?_, rfl⟩
    first | rfl | simp [sizM, *])
/-- The next multiple. -/
def upM (n m : Int) : Int := (n + m - 1) / m * m
theorem upM_le {n m : Int} (h0 : 0 ≤ n) (hm : 1 ≤ m) : n ≤ upM n m ∧ upM n m ≤ n + m - 1 ∧ upM n m % m = 0 := by
  unfold upM
  have h1 := Int.mul_ediv_add_emod (n + m - 1) m
  have h2 := Int.emod_nonneg (n + m - 1) (show m ≠ 0 by omega)
  have h3 := Int.emod_lt_of_pos (n + m - 1) (show 0 < m by omega)
  rw [Int.mul_comm] at h1
  refine ⟨by omega, by omega, Int.mul_emod_left _ _⟩
set_option maxRecDepth 100000 in
set_option maxHeartbeats 4000000 in
theorem up_any (n m : Int) (w : World) (h0 : 0 ≤ n) (h1 : n ≤ 1099511627776) (hm : 1 ≤ m) (hm2 : m ≤ 1099511627776) :
    Calls Try.prog 87 #[.int .i64 n, .int .i64 m] w fun e w' => e = .returned (.int .i64 (upM n m)) ∧ w' = w := by
  have hz : ¬ m = 0 := by omega
  have hq : (n + m - 1).tdiv m = (n + m - 1) / m := Int.tdiv_eq_ediv_of_nonneg (by omega)
  obtain ⟨u1, u2, _⟩ := upM_le h0 hm
  unfold upM at *
  have hq0 : 0 ≤ (n + m - 1) / m := Int.ediv_nonneg (by omega) (by omega)
  have hq1 : (n + m - 1) / m ≤ n + m - 1 := Int.ediv_le_self _ (by omega)
  go_enter Try.func87, Try.ntmps87
  go_wp2
  go_ret
  refine ⟨?_, rfl⟩
  have e1 : wrap64 ((n + m - 1) / m * m) = (n + m - 1) / m * m := by unfold wrap64; omega
  first | (simp [hq, e1]; done) | (simp_all; done)
set_option maxRecDepth 100000 in
set_option maxHeartbeats 4000000 in
theorem Rup_any (n m : Int) (w : World) (h0 : 0 ≤ n) (h1 : n ≤ 1099511627776) (hm : 1 ≤ m) (hm2 : m ≤ 1099511627776) :
    Calls Try.prog 85 #[.int .i64 n, .int .i64 m] w fun e w' => e = .returned (.int .i64 (upM n m)) ∧ w' = w := by
  have hz : ¬ m = 0 := by omega
  have hq : (n + m - 1).tdiv m = (n + m - 1) / m := Int.tdiv_eq_ediv_of_nonneg (by omega)
  obtain ⟨u1, u2, _⟩ := upM_le h0 hm
  unfold upM at *
  have hq0 : 0 ≤ (n + m - 1) / m := Int.ediv_nonneg (by omega) (by omega)
  have hq1 : (n + m - 1) / m ≤ n + m - 1 := Int.ediv_le_self _ (by omega)
  go_enter Try.func85, Try.ntmps85
  go_wp2
  go_ret
  refine ⟨?_, rfl⟩
  have e1 : wrap64 ((n + m - 1) / m * m) = (n + m - 1) / m * m := by unfold wrap64; omega
  first | (simp [hq, e1]; done) | (simp_all; done)
end Go.Proofs.Ytkiebejidpebdaa
namespace Go.Proofs.Ytkiebejidpebdaa
open Go Go.RowKit
set_option linter.unusedVariables false
set_option linter.unusedSimpArgs false

theorem below_drewS {B : Nat} {w W : World} (h : Below B w W) (m : Nat) : Below B w (W.drewN m) := ⟨h.os, h.tape, h.output, h.size, h.block⟩
def aliM (n : Int) : Bool := n == 0 || n == 1 || n == 2 || n == 4 || n == 8 || n == 16 || n == 32 || n == 64
set_option maxRecDepth 100000 in
set_option maxHeartbeats 4000000 in
theorem aligns_any (n : Int) (w : World) : Calls Try.prog 91 #[.int .i64 n] w fun e w' => e = .returned (.bool (aliM n)) ∧ w' = w := by
  by_cases h0 : n = 0
  · subst h0
    go_enter Try.func91, Try.ntmps91
    go_wp2
    go_ret
    exact ⟨rfl, rfl⟩
  · by_cases h1 : 1 ≤ n
    · by_cases h2 : n ≤ 64
      · have hb : (n == 0) = false := by simpa using h0
        have h1' : n ≥ 1 := h1
        go_enter Try.func91, Try.ntmps91
        go_wp2
        go_ret
        refine ⟨?_, rfl⟩
        have key : (Go.bits BinOp.and IntKind.i64 n (n - 1) == 0) = aliM n := by
          have all : ∀ m : Nat, m < 65 → (m == 0 || (Go.bits BinOp.and IntKind.i64 (m : Int) ((m : Int) - 1) == 0) == aliM (m : Int)) = true := by decide +kernel
          have := all n.toNat (by omega)
          rw [show ((n.toNat : Nat) : Int) = n by omega] at this
          simp only [Bool.or_eq_true, beq_iff_eq] at this
          rcases this with h | h
          · omega
          · exact h
        rw [← key]
        rfl
      · have hb : (n == 0) = false := by simpa using h0
        go_enter Try.func91, Try.ntmps91
        go_wp2
        go_ret
        refine ⟨?_, rfl⟩
        have : aliM n = false := by unfold aliM; simp; omega
        first | simp [this] | simp_all
    · have hb : (n == 0) = false := by simpa using h0
      go_enter Try.func91, Try.ntmps91
      go_wp2
      go_ret
      refine ⟨?_, rfl⟩
      have : aliM n = false := by unfold aliM; simp; omega
      first | simp [this] | simp_all
def ffM (f : FdOf ShT) : Bool := if f.bits < 0 then !f.nm.isEmpty else if f.bits == 0 && !f.nm.isEmpty then false else f.t.sh == 1 && decide (f.bits ≤ 8 * sizM f.t.k)
set_option maxRecDepth 100000 in
set_option maxHeartbeats 4000000 in
theorem fieldFormed_any (f : FdOf ShT) (w : World) : Calls Try.prog 94 #[f.v] w fun e w' => e = .returned (.bool (ffM f)) ∧ Below w.heap.size w w' := by
  have HS := veil (Size_any f.t.k)
  have hsz := siz_cases f.t.k
  unfold ffM FdOf.v FdOf.cs
  generalize f.t.sh = sh
  generalize f.t.k = k at *
  generalize f.t.n = n
  generalize f.t.op = op
  generalize f.t.of.length = ol
  generalize f.t.oc = oc
  generalize f.t.fp = fp
  generalize f.t.fs.length = fl
  generalize f.t.fc = fc
  generalize f.t.pk = pk
  generalize f.t.al = al
  generalize f.bits = bi
  generalize f.nm = nm
  generalize sizM k = z at *
  have hz : 0 ≤ z ∧ z ≤ 8 := by omega
  clear hsz
  obtain ⟨hz0, hz8⟩ := hz
  have hbe : ∀ o, Below w.heap.size w (w.alloc o) := fun o => (Below.refl _ w).alloc (Nat.le_refl _) o
  have HBE := veil hbe
  clear hbe
  by_cases hb : bi < 0
  · go_enter Try.func94, Try.ntmps94
    go_wp2
    go_ret
    refine ⟨?_, unveil HBE _⟩
    simp [hb]
  · cases hn : nm.isEmpty
    · cases h0 : bi == 0
      · cases h1 : sh == 1
        · go_enter Try.func94, Try.ntmps94
          go_wp2
          go_quiet (fail)
          go_wp2
          go_ret
          refine ⟨?_, below_drewS (unveil HBE _) _⟩
          simp [hb]
        · go_enter Try.func94, Try.ntmps94
          go_wp2
          go_quiet ((go_at_call 49; exact Calls.quiet_of_same (unveil HS _)))
          go_wp2
          go_ret
          refine ⟨?_, below_drewS (unveil HBE _) _⟩
          simp [hb]
      · go_enter Try.func94, Try.ntmps94
        go_wp2
        go_ret
        refine ⟨?_, unveil HBE _⟩
        simp [hb]
    · cases h0 : bi == 0
      all_goals (
        cases h1 : sh == 1
        · go_enter Try.func94, Try.ntmps94
          go_wp2
          go_quiet (fail)
          go_wp2
          go_ret
          refine ⟨?_, below_drewS (unveil HBE _) _⟩
          simp [hb]
        · go_enter Try.func94, Try.ntmps94
          go_wp2
          go_quiet ((go_at_call 49; exact Calls.quiet_of_same (unveil HS _)))
          go_wp2
          go_ret
          refine ⟨?_, below_drewS (unveil HBE _) _⟩
          simp [hb])
end Go.Proofs.Ytkiebejidpebdaa
namespace Go.Proofs.Ytkiebejidpebdaa
open Go Go.RowKit
set_option linter.unusedVariables false
set_option linter.unusedSimpArgs false

/-- What formed tells, over what aligns and fieldsFormed tell. -/
def formW (t : ShT) (a g : Bool) : Bool :=
  if t.sh == 1 then (t.n == 0 && t.of.length == 0) && (t.fs.length == 0 && !t.pk && t.al == 0) && decide (0 < sizM t.k)
  else if t.sh == 2 then (t.n == 0 && t.of.length == 0) && (t.fs.length == 0 && !t.pk && t.al == 0) && t.k == 0
  else if t.sh == 3 then (t.fs.length == 0 && !t.pk && t.al == 0) && t.k == 0 && decide (1 ≤ t.n) && t.of.length == 1
  else if t.sh == 4 || t.sh == 5 then (t.n == 0 && t.of.length == 0) && t.k == 0 && a && g
  else false
theorem lenB0 (n : Nat) : ((n : Int) == 0) = (n == 0) := by
  cases h : n == 0
  · simp at h ⊢; omega
  · simp at h ⊢; omega
theorem lenB1 (n : Nat) : ((n : Int) == 1) = (n == 1) := by
  cases h : n == 1
  · simp at h ⊢; omega
  · simp at h ⊢; omega
set_option maxRecDepth 100000 in
set_option maxHeartbeats 8000000 in
theorem formed_any (t : ShT) (w : World) (g : Bool) (hg : ∀ W, Below w.heap.size w W → Calls Try.prog 92 #[.slice t.fp t.fs.length t.fc] W fun e w' => e = .returned (.bool g) ∧ Below W.heap.size W w') :
    Calls Try.prog 80 #[t.v] w fun e w' => e = .returned (.bool (formW t (aliM t.al) g)) ∧ Below w.heap.size w w' := by
  have HS := veil (Size_any t.k)
  have HA := veil (aligns_any t.al)
  have HG := veil hg
  have hsz := siz_cases t.k
  clear hg
  unfold formW ShT.v ShT.cs
  rw [← lenB0 t.of.length, ← lenB0 t.fs.length, ← lenB1 t.of.length]
  have HBE : Hid (∀ o, Below w.heap.size w (w.alloc o)) := fun o => (Below.refl _ w).alloc (Nat.le_refl _) o
  generalize t.sh = sh
  generalize t.k = k at *
  generalize t.n = n
  generalize t.op = op
  generalize t.of.length = ol
  generalize t.oc = oc
  generalize t.fp = fp at *
  generalize t.fs.length = fl at *
  generalize t.fc = fc at *
  generalize t.pk = pk
  generalize aliM t.al = a at *
  generalize t.al = al at *
  generalize sizM k = z at *
  obtain ⟨A, HAE⟩ : ∃ A, Hid ((n == 0 && (ol : Int) == 0) = A) := ⟨_, rfl⟩
  obtain ⟨S, HSE⟩ : ∃ S, Hid (((fl : Int) == 0 && !pk && al == 0) = S) := ⟨_, rfl⟩
  rw [unveil HAE, unveil HSE]
  have HB1 : Hid (∀ w', Below (w.alloc (.cells #[.int .i64 sh, .int .i64 k, .int .i64 n, .slice op ol oc, .slice fp fl fc, .bool pk, .int .i64 al] 25)).heap.size (w.alloc (.cells #[.int .i64 sh, .int .i64 k, .int .i64 n, .slice op ol oc, .slice fp fl fc, .bool pk, .int .i64 al] 25)) w' → Below w.heap.size w w') := fun w' h => (unveil HBE _).trans (h.mono (by simp))
  go_enter Try.func80, Try.ntmps80
  go_upto_region 1 with fail
  go_cut [3] (fun c wx => c = .bool A ∧ wx = w.alloc (.cells #[.int .i64 sh, .int .i64 k, .int .i64 n, .slice op ol oc, .slice fp fl fc, .bool pk, .int .i64 al] 25))
  case first =>
    cases hn : n == 0
    all_goals
      go_wp2_with fail
      go_meet
      case rel => exact ⟨by rw [← unveil HAE, hn]; simp, rfl⟩
  case rest =>
    obtain ⟨rfl, rfl⟩ := hcut
    clear HAE
    go_upto_region 2 with fail
    go_cut [4] (fun c wx => c = .bool S ∧ wx = w.alloc (.cells #[.int .i64 sh, .int .i64 k, .int .i64 n, .slice op ol oc, .slice fp fl fc, .bool pk, .int .i64 al] 25))
    case first =>
      cases hn : (fl : Int) == 0
      · go_wp2_with fail
        go_meet
        case rel => exact ⟨by rw [← unveil HSE, hn]; simp, rfl⟩
      · cases pk
        all_goals
          go_wp2_with fail
          go_meet
          case rel => exact ⟨by rw [← unveil HSE, hn]; simp, rfl⟩
    case rest =>
      obtain ⟨rfl, rfl⟩ := hcut
      clear HSE
      cases h1 : sh == 1
      · cases h2 : sh == 2
        · cases h3 : sh == 3
          · cases h4 : sh == 4
            · cases h5 : sh == 5
              · go_wp2_with fail
                go_ret
                exact ⟨by simp, unveil HBE _⟩
              · cases A
                · go_wp2_with fail
                  go_ret
                  exact ⟨by simp, unveil HBE _⟩
                · cases hk : k == 0
                  · go_wp2_with fail
                    go_ret
                    exact ⟨by simp, unveil HBE _⟩
                  · cases a
                    all_goals
                      go_wp2_with (first
                        | (go_at_call 91; refine (unveil HA _).mono ?_; rintro e w' ⟨rfl, hw'⟩; obtain rfl := hw'.symm)
                        | (go_at_call 92; refine (unveil HG _ (unveil HBE _)).mono ?_; rintro e w' ⟨rfl, hw'⟩))
                      go_ret
                      exact ⟨by simp, by first | exact unveil HBE _ | exact unveil HB1 _ hw'⟩
            · cases A
              · go_wp2_with fail
                go_ret
                exact ⟨by simp, unveil HBE _⟩
              · cases hk : k == 0
                · go_wp2_with fail
                  go_ret
                  exact ⟨by simp, unveil HBE _⟩
                · cases a
                  all_goals
                    go_wp2_with (first
                      | (go_at_call 91; refine (unveil HA _).mono ?_; rintro e w' ⟨rfl, hw'⟩; obtain rfl := hw'.symm)
                      | (go_at_call 92; refine (unveil HG _ (unveil HBE _)).mono ?_; rintro e w' ⟨rfl, hw'⟩))
                    go_ret
                    exact ⟨by simp, by first | exact unveil HBE _ | exact unveil HB1 _ hw'⟩
          · cases S
            · go_wp2_with fail
              go_ret
              exact ⟨by simp, unveil HBE _⟩
            · cases hk : k == 0
              · go_wp2_with fail
                go_ret
                exact ⟨by simp, unveil HBE _⟩
              · by_cases hn : 1 ≤ n
                · have hn' : n ≥ 1 := hn
                  go_wp2_with fail
                  go_ret
                  exact ⟨by simp [hn], unveil HBE _⟩
                · go_wp2_with fail
                  go_ret
                  exact ⟨by simp; omega, unveil HBE _⟩
        · cases A
          · go_wp2_with fail
            go_ret
            exact ⟨by simp, unveil HBE _⟩
          · cases S
            · go_wp2_with fail
              go_ret
              exact ⟨by simp, unveil HBE _⟩
            · go_wp2_with fail
              go_ret
              exact ⟨by simp, unveil HBE _⟩
      · cases A
        · go_wp2_with fail
          go_ret
          exact ⟨by simp, unveil HBE _⟩
        · cases S
          · go_wp2_with fail
            go_ret
            exact ⟨by simp, unveil HBE _⟩
          · go_wp2_with (go_at_call 49; refine (unveil HS _).mono ?_; rintro e w' ⟨rfl, hw'⟩; obtain rfl := hw'.symm)
            go_ret
            exact ⟨by simp, unveil HBE _⟩
end Go.Proofs.Ytkiebejidpebdaa
namespace Go.Proofs.Ytkiebejidpebdaa
open Go Go.RowKit
set_option linter.unusedVariables false
set_option linter.unusedSimpArgs false

/-- How many different ones. -/
def nds : List (List UInt8) → Nat
  | [] => 0
  | x :: r => if x ∈ r then nds r else nds r + 1
def namM (ns : List (List UInt8)) : Bool :=
  let s : Int := (nds ns.reverse : Int) - (if ([] : List UInt8) ∈ ns then 1 else 0)
  decide (0 < s) && (s + (ns.count [] : Nat) == (ns.length : Nat))
theorem nds_le : ∀ l : List (List UInt8), nds l ≤ l.length
  | [] => Nat.le_refl _
  | x :: r => by have := nds_le r; simp only [nds, List.length_cons]; split <;> omega
theorem undM : Try.prog.underlying 143 = some (.map 9 3) := by kernel_rfl
theorem undS : Try.prog.underlying 9 = some .string := by kernel_rfl
theorem undI : Try.prog.underlying 3 = some (.int .i64) := by kernel_rfl
theorem keyS (s : List UInt8) (hs : s.length ≤ maxLen) : keyOf Try.prog 9 (.string ⟨s.toArray⟩) = some (.string s) := WideMaps.keyOf_string_mk undS (s := ⟨s.toArray⟩) (by show s.toArray.size ≤ _; simpa using hs)
/-- The members of a list of fields, in memory. -/
def FdG (B : Nat) (W : World) (p : Option Addr) (l : List (FdOf ShT)) : Prop :=
  ∀ (i : Nat) (h : i < l.length), ∃ g o, p = some ⟨g, o, none⟩ ∧ g < B ∧ (∀ (j : Nat), j < 9 → W.cell? ⟨g, o + i * 9 + j, none⟩ = l[i].cs[j]?) ∧ l[i].nm.length ≤ maxLen
theorem FdG.below {B : Nat} {W W' : World} {p : Option Addr} {l : List (FdOf ShT)} (h : FdG B W p l) (hb : Below B W W') : FdG B W' p l := fun i hi => by
  obtain ⟨g, o, e, hg, hc, hn⟩ := h i hi
  exact ⟨g, o, e, hg, fun j hj => (hb.cell (p := ⟨g, o + i * 9 + j, none⟩) hg).trans (hc j hj), hn⟩
theorem FdG.of {B : Nat} {W : World} {t : ShT} (h : t.In B W) : FdG B W t.fp t.fs := fun i hi => by
  obtain ⟨g, o, e, hg, hc, hn, _⟩ := h.fs i hi
  exact ⟨g, o, e, hg, hc, hn⟩
/-- The map of names, after these. -/
structure NmI (w W : World) (ns : List (List UInt8)) : Prop where
  owns : ∃ D, W.ownsMap (H := Unit) Try.prog 9 (plainElem Try.prog 3) w.heap.size ns.length D ∧ Maps.Tidy D ∧ (∀ x, Maps.has D (.string x) = decide (x ∈ ns)) ∧ Maps.size D = nds ns.reverse ∧
    (∀ x, D.atKey (.string x) (.lit (.int .i64 0)) = .lit (.int .i64 (ns.count x : Nat)))
  be : Below w.heap.size w W
  lt : w.heap.size < W.heap.size
def NmD (D : DataW Unit) (ns : List (List UInt8)) : Prop :=
  Maps.Tidy D ∧ (∀ x, Maps.has D (.string x) = decide (x ∈ ns)) ∧ Maps.size D = nds ns.reverse ∧ (∀ x, D.atKey (.string x) (.lit (.int .i64 0)) = .lit (.int .i64 (ns.count x : Nat)))
theorem NmD.put {D : DataW Unit} {ns : List (List UInt8)} (h : NmD D ns) (x : List UInt8) : NmD (D.put (.string x) (.lit (.int .i64 ((ns.count x : Nat) + 1)))) (ns ++ [x]) := by
  obtain ⟨h1, h2, h3, h4⟩ := h
  have hk : WideAt.IsKeyLit (.string x) := by trivial
  refine ⟨h1.put hk _, fun y => ?_, ?_, fun y => ?_⟩
  · by_cases hy : y = x
    · subst hy; rw [Maps.has_put_same h1.isMap hk]; simp
    · rw [Maps.has_put_other (by simpa using hy), h2]; simp [hy]
  · rw [Maps.size_put h1, h2, h3]
    simp only [List.reverse_append, List.reverse_cons, List.reverse_nil, List.nil_append, List.cons_append, nds, List.mem_reverse, decide_eq_true_eq]
  · by_cases hy : y = x
    · subst hy; rw [Maps.atKey_put_same h1.isMap hk]; simp
    · rw [Maps.atKey_put_other (by simpa using hy), h4]; simp [List.count_append, List.count_singleton, Ne.symm hy, hy]
set_option maxRecDepth 100000 in
theorem zI (W : World) : (zeroValue 3).run Try.prog W = .ok (.int .i64 0) W := by rfl
set_option maxRecDepth 100000 in
set_option maxHeartbeats 8000000 in
theorem named_any (p : Option Addr) (cap : Nat) (l : List (FdOf ShT)) (w : World) (hl : l.length ≤ 40) (hT : FdG w.heap.size w p l) :
    Calls Try.prog 95 #[.slice p l.length cap] w fun e w' => e = .returned (.bool (namM (l.map FdOf.nm))) ∧ Below w.heap.size w w' := by
  have HT := veil hT
  clear hT
  have hmm := @run_makeMap Try.prog
  obtain ⟨R, HR⟩ : ∃ R, Hid (namM (l.map FdOf.nm) = R) := ⟨_, rfl⟩
  rw [unveil HR]
  go_enter Try.func95, Try.ntmps95
  go_wp2_with fail
  go_loopw [10] (fun i wr => ∃ (k : Nat), i = .int .i64 k ∧ k ≤ l.length ∧ (∃ D, Hid (wr.ownsMap (H := Unit) Try.prog 9 (plainElem Try.prog 3) w.heap.size k D) ∧ Hid (NmD D ((l.take k).map FdOf.nm))) ∧ Hid (Below w.heap.size w wr) ∧ w.heap.size < wr.heap.size)
    (fun i wr => l.length - (intOf i).toNat)
  case atStart => exact ⟨0, rfl, Nat.zero_le _, ⟨_, World.ownsMap_made w _ _ _, Maps.tidy_empty, fun x => by simp [Maps.has], rfl, fun x => by rfl⟩, (Below.refl _ w).alloc (Nat.le_refl _) _, by simp⟩
  case round =>
    obtain ⟨k, rfl, hk, ⟨D, hown, hD⟩, hbe, hlt⟩ := hrel
    by_cases hkl : k < l.length
    · obtain ⟨g, o, rfl, hg, hc, hnl⟩ := ((unveil HT).below (unveil hbe)) k hkl
      obtain ⟨c0, c1, c2, c3, c4, c5, c6, c7, c8⟩ := nine (f := l[k]) hc
      have HKY := veil (keyS l[k].nm hnl)
      have HCL : Hid (((l.take k).map FdOf.nm).count l[k].nm ≤ 40) := by
        have := List.count_le_length (l := (l.take k).map FdOf.nm) (a := l[k].nm)
        rw [List.length_map, List.length_take] at this
        unfold Hid
        omega
      have HTK : Hid ((l.take (k + 1)).map FdOf.nm = (l.take k).map FdOf.nm ++ [l[k].nm]) := by unfold Hid; rw [List.take_succ_eq_append_getElem hkl, List.map_append]; rfl
      clear hc hnl
      generalize l[k].nm = nm at *
      generalize (l.take k).map FdOf.nm = ns at *
      generalize l[k].t.sh = a1 at *
      generalize l[k].t.k = a2 at *
      generalize l[k].t.n = a3 at *
      generalize l[k].t.op = a4 at *
      generalize l[k].t.of.length = a4l at *
      generalize l[k].t.oc = a4c at *
      generalize l[k].t.fp = a5 at *
      generalize l[k].t.fs.length = a5l at *
      generalize l[k].t.fc = a5c at *
      generalize l[k].t.pk = a6 at *
      generalize l[k].t.al = a7 at *
      generalize l[k].bits = a8 at *
      have HD4 : Hid (∀ c : Int, D.atKey (.string nm) (.lit (.int .i64 0)) = .lit (.int .i64 c) → c = (ns.count nm : Nat)) := fun c hc => by
        have := hc.symm.trans ((unveil hD).2.2.2 nm)
        simpa using this
      generalize hCN : ns.count nm = CN at *
      have HPE : Hid (plainElem (H := Unit) Try.prog 3 (.int .i64 ((CN : Nat) + 1)) = some (.lit (.int .i64 ((CN : Nat) + 1)), [])) := plainElem_int undI (WalkArith.wf_i64 (by have := unveil HCL; omega))
      have hcl40 : CN ≤ 40 := unveil HCL
      have HCN := veil hCN
      clear hCN HCL
      go_wp2_with (first
        | (at_lookup; refine wpList_lookup_own_int (H := Unit) _ rfl _ _ 143 rfl 9 3 .i64 (Maps.string_keyed undS) undM undI (zI _) w.heap.size k D rfl ((unveil hown).alloc _) _ (.string nm) rfl (unveil HKY) ?_; intro c hc hwc; obtain rfl := unveil HD4 c hc)
        | (at_mapUpdate; refine wpList_mapUpdate_own (H := Unit) _ rfl _ _ _ 143 rfl 9 3 (Maps.string_keyed undS) undM (plainElem Try.prog 3) w.heap.size k D rfl ((unveil hown).alloc _) (by unfold maxLen; omega) _ _ (.string nm) rfl rfl (unveil HKY) _ [] (unveil HPE) ?_; intro w1 hown1 hg1))
      go_roundw
      case rel =>
        refine ⟨k + 1, by go_num, by omega, ⟨_, hown1, ?_⟩, ?_, ?_⟩
        · rw [unveil HTK, ← unveil HCN]; exact (unveil hD).put nm
        · exact (((unveil hbe).alloc (Nat.le_of_lt hlt) _)).grown hg1 (by simp; omega) (fun r e => by cases e; exact Nat.le_refl _)
        · have := hg1.size; simp at this; omega
      case measure => simp [intOf]; omega
    · obtain rfl : k = l.length := by omega
      rw [List.take_length] at hD
      have HK0 := veil (keyS [] (by unfold maxLen; simp))
      have HD4 : Hid (∀ c : Int, D.atKey (.string []) (.lit (.int .i64 0)) = .lit (.int .i64 c) → c = ((l.map FdOf.nm).count [] : Nat)) := fun c hc => by
        have := hc.symm.trans ((unveil hD).2.2.2 [])
        simpa using this
      have HSZ : Hid (((Maps.size (D.del (.string [])) : Nat) : Int) = (nds (l.map FdOf.nm).reverse : Int) - (if ([] : List UInt8) ∈ l.map FdOf.nm then 1 else 0)) := by
        have := Maps.size_del (k := .string []) (unveil hD).1
        rw [(unveil hD).2.1, (unveil hD).2.2.1] at this
        unfold Hid
        rw [← this]
        by_cases hm : ([] : List UInt8) ∈ l.map FdOf.nm <;> simp [hm]
      have HND := nds_le (l.map FdOf.nm).reverse
      have HCT := List.count_le_length (l := l.map FdOf.nm) (a := [])
      simp only [List.length_reverse, List.length_map] at HND HCT
      have hR := unveil HR
      unfold namM at hR
      simp only [List.length_map] at hR
      rw [← unveil HSZ] at hR
      have hsz1 : Maps.size (D.del (.string [])) ≤ 40 := by
        have := Maps.size_del (k := .string []) (unveil hD).1
        rw [(unveil hD).2.2.1] at this
        omega
      generalize (l.map FdOf.nm).count [] = CN at *
      have HRR := veil hR
      clear HSZ HND hR HR
      generalize hDD : D.del (.string []) = D1 at *
      have HDD := veil hDD
      clear hDD
      have HLEN : Hid (∀ W, W.ownsMap (H := Unit) Try.prog 9 (plainElem Try.prog 3) w.heap.size l.length D1 → ∀ ty, (Builtin.len_ #[143] ty #[.map (some w.heap.size)]).run Try.prog W = .ok (.int .i64 (Maps.size D1)) W) := fun W h ty => h.len undM ty
      go_upto_region 9 with (first
        | (at_lookup; refine wpList_lookup_own_int (H := Unit) _ rfl _ _ 143 rfl 9 3 .i64 (Maps.string_keyed undS) undM undI (zI _) w.heap.size l.length D rfl (unveil hown) _ (.string []) rfl (unveil HK0) ?_; intro c hc hwc; obtain rfl := unveil HD4 c hc)
        | (at_delete; refine wpList_delete_own _ rfl _ _ 143 9 rfl 3 (Maps.string_keyed undS) undM _ w.heap.size l.length D rfl (unveil hown) _ _ rfl (unveil HK0) ?_; intro w1 hown1 hturn1))
      rw [unveil HDD] at hown1
      have hlen := unveil HLEN _ hown1
      have HBE1 : Hid (Below w.heap.size w w1) := (unveil hbe).grown hturn1.grown (Nat.le_of_lt hlt) (fun r e => by cases e; exact Nat.le_refl _)
      generalize Maps.size D1 = S1 at *
      clear HLEN hown hD HD4 HK0 hown1 hturn1 HDD HT hbe
      cases S1 with
      | zero =>
        go_wp2_with fail
        go_ret
        exact ⟨by rw [← unveil HRR]; simp, unveil HBE1⟩
      | succ S1 =>
        have h0 : (((S1 + 1 : Nat) : Int) > 0) := by omega
        go_wp2_with fail
        go_ret
        refine ⟨?_, unveil HBE1⟩
        rw [← unveil HRR]
        simp [h0]
end Go.Proofs.Ytkiebejidpebdaa
namespace Go.Proofs.Ytkiebejidpebdaa
open Go Go.RowKit
set_option linter.unusedVariables false
set_option linter.unusedSimpArgs false

def ffsM (l : List (FdOf ShT)) : Bool := decide (1 ≤ l.length) && decide (l.length ≤ 40) && l.all ffM && namM (l.map FdOf.nm)
set_option maxRecDepth 100000 in
set_option maxHeartbeats 8000000 in
theorem fieldsFormed_any (p : Option Addr) (cap : Nat) (l : List (FdOf ShT)) (w : World) (hT : FdG w.heap.size w p l) :
    Calls Try.prog 92 #[.slice p l.length cap] w fun e w' => e = .returned (.bool (ffsM l)) ∧ Below w.heap.size w w' := by
  have HT := veil hT
  clear hT
  obtain ⟨R, HR⟩ : ∃ R, Hid (ffsM l = R) := ⟨_, rfl⟩
  rw [unveil HR]
  by_cases h1 : l.length < 1
  · have h1' : (l.length : Int) < 1 := by omega
    have hR := unveil HR
    unfold ffsM at hR
    rw [decide_eq_false (by omega)] at hR
    simp at hR
    subst hR
    go_enter Try.func92, Try.ntmps92
    go_wp2_with fail
    go_ret
    exact ⟨rfl, Below.refl _ _⟩
  · by_cases h2 : l.length > 40
    · have h1' : ¬ (l.length : Int) < 1 := by omega
      have h2' : (l.length : Int) > 40 := by omega
      have hR := unveil HR
      unfold ffsM at hR
      rw [decide_eq_false (show ¬ l.length ≤ 40 by omega)] at hR
      simp at hR
      subst hR
      go_enter Try.func92, Try.ntmps92
      go_wp2_with fail
      go_ret
      exact ⟨rfl, Below.refl _ _⟩
    · have h1' : ¬ (l.length : Int) < 1 := by omega
      have h2' : ¬ (l.length : Int) > 40 := by omega
      have hR := unveil HR
      unfold ffsM at hR
      rw [decide_eq_true (show 1 ≤ l.length by omega), decide_eq_true (show l.length ≤ 40 by omega)] at hR
      simp only [Bool.true_and] at hR
      have HRR := veil hR
      clear hR HR
      go_enter Try.func92, Try.ntmps92
      go_wp2_with fail
      go_loopw [15] (fun i wr => ∃ (k : Nat), i = .int .i64 k ∧ k ≤ l.length ∧ Hid (∀ x ∈ l.take k, ffM x = true) ∧ Hid (Below w.heap.size w wr))
        (fun i wr => l.length - (intOf i).toNat)
      case atStart => exact ⟨0, rfl, Nat.zero_le _, fun x hx => (by simp at hx), Below.refl _ _⟩
      case round =>
        obtain ⟨k, rfl, hk, hall, hbe⟩ := hrel
        by_cases hkl : k < l.length
        · obtain ⟨g, o, rfl, hg, hc, hnl⟩ := ((unveil HT).below (unveil hbe)) k hkl
          obtain ⟨c0, c1, c2, c3, c4, c5, c6, c7, c8⟩ := nine (f := l[k]) hc
          have HF := veil (fieldFormed_any l[k])
          have HBX : Hid (∀ o, Below w.heap.size w (wr.alloc o)) := fun o => (unveil hbe).alloc (unveil hbe).size o
          have HBY : Hid (∀ o W, Below (wr.alloc o).heap.size (wr.alloc o) W → Below w.heap.size w W) := fun o W h => ((unveil hbe).alloc (unveil hbe).size o).trans (h.mono (by have := (unveil hbe).size; simp; omega))
          have hff : ∃ F, ffM l[k] = F := ⟨_, rfl⟩
          obtain ⟨F, hff⟩ := hff
          have HFF := veil hff
          rw [hff] at HF
          unfold FdOf.v FdOf.cs at HF
          clear hc hnl hff
          generalize hx : l[k] = x at *
          have HX := veil hx
          clear hx
          generalize x.t.sh = a1 at *
          generalize x.t.k = a2 at *
          generalize x.t.n = a3 at *
          generalize x.t.op = a4 at *
          generalize x.t.of.length = a4l at *
          generalize x.t.oc = a4c at *
          generalize x.t.fp = a5 at *
          generalize x.t.fs.length = a5l at *
          generalize x.t.fc = a5c at *
          generalize x.t.pk = a6 at *
          generalize x.t.al = a7 at *
          generalize x.bits = a8 at *
          generalize x.nm = a9 at *
          cases F
          · go_wp2_with (go_at_call 94; refine (unveil HF _).mono ?_; rintro e w' ⟨rfl, hw'⟩)
            go_ret
            refine ⟨?_, unveil HBY _ _ hw'⟩
            have : l.all ffM = false := List.all_eq_false.2 ⟨x, by rw [← unveil HX]; exact List.getElem_mem _, by rw [unveil HFF]; simp⟩
            rw [← unveil HRR, this]
            rfl
          · go_wp2_with (go_at_call 94; refine (unveil HF _).mono ?_; rintro e w' ⟨rfl, hw'⟩)
            go_roundw
            case rel =>
              refine ⟨k + 1, by go_num, by omega, fun y hy => ?_, unveil HBY _ _ hw'⟩
              rw [List.take_succ_eq_append_getElem hkl, List.mem_append] at hy
              rcases hy with hy | hy
              · exact unveil hall y hy
              · obtain rfl := List.mem_singleton.1 hy
                rw [unveil HX]
                exact unveil HFF
            case measure => simp [intOf]; omega
        · obtain rfl : k = l.length := by omega
          rw [List.take_length] at hall
          have HN := veil (named_any p cap l wr (by omega) (fun i hi => by
            obtain ⟨g, o, e, hg, hc, hn⟩ := ((unveil HT).below (unveil hbe)) i hi
            exact ⟨g, o, e, Nat.lt_of_lt_of_le hg (unveil hbe).size, hc, hn⟩))
          have hRR := unveil HRR
          rw [List.all_eq_true.2 (unveil hall), Bool.true_and] at hRR
          rw [hRR] at HN
          clear hRR
          go_wp2_with (go_at_call 95; refine (unveil HN).mono ?_; rintro e w' ⟨rfl, hw'⟩)
          go_ret
          exact ⟨rfl, (unveil hbe).trans (hw'.mono (unveil hbe).size)⟩
def formM (t : ShT) : Bool := formW t (aliM t.al) (ffsM t.fs)
theorem formed_is (t : ShT) (w : World) (h : t.In w.heap.size w) :
    Calls Try.prog 80 #[t.v] w fun e w' => e = .returned (.bool (formM t)) ∧ Below w.heap.size w w' :=
  formed_any t w (ffsM t.fs) (fun W hb => fieldsFormed_any _ _ _ _ (fun i hi => by
    obtain ⟨g, o, e, hg, hc, hn⟩ := ((FdG.of h).below hb) i hi
    exact ⟨g, o, e, Nat.lt_of_lt_of_le hg hb.size, hc, hn⟩))
end Go.Proofs.Ytkiebejidpebdaa
