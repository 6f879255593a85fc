/-
  Package shape: types in memory; kinds' sizes; what is plain arithmetic.
-/
import Derived.Test.YtgomlfaekfabpaaProg
import Derived.WalkKit
import Derived.Below
import Derived.Deep.QuietTactic
import Derived.BigQuiet
namespace Go.Proofs.Ytgomlfaekfabpaa
open Go Go.RowKit
set_option linter.unusedVariables false
set_option linter.unusedSimpArgs false

theorem veil {p : Prop} (h : p) : Hid p := h
theorem unveil {p : Prop} (h : Hid p) : p := h
/-- A member; a type as it lies in memory, with the headers of its slices. -/
structure FdOf (T : Type) where
  nm : List UInt8
  t : T
  bits : Int
inductive ShT where
  | mk (sh k n : Int) (op : Option Addr) (oc : Nat) (of : List ShT) (fp : Option Addr) (fc : Nat) (fs : List (FdOf ShT)) (pk : Bool) (al : Int)
namespace ShT
def sh : ShT → Int | .mk sh _ _ _ _ _ _ _ _ _ _ => sh
def k : ShT → Int | .mk _ k _ _ _ _ _ _ _ _ _ => k
def n : ShT → Int | .mk _ _ n _ _ _ _ _ _ _ _ => n
def op : ShT → Option Addr | .mk _ _ _ op _ _ _ _ _ _ _ => op
def oc : ShT → Nat | .mk _ _ _ _ oc _ _ _ _ _ _ => oc
def of : ShT → List ShT | .mk _ _ _ _ _ of _ _ _ _ _ => of
def fp : ShT → Option Addr | .mk _ _ _ _ _ _ fp _ _ _ _ => fp
def fc : ShT → Nat | .mk _ _ _ _ _ _ _ fc _ _ _ => fc
def fs : ShT → List (FdOf ShT) | .mk _ _ _ _ _ _ _ _ fs _ _ => fs
def pk : ShT → Bool | .mk _ _ _ _ _ _ _ _ _ pk _ => pk
def al : ShT → Int | .mk _ _ _ _ _ _ _ _ _ _ al => al
def cs (t : ShT) : Array Value := #[.int .i64 t.sh, .int .i64 t.k, .int .i64 t.n, .slice t.op t.of.length t.oc, .slice t.fp t.fs.length t.fc, .bool t.pk, .int .i64 t.al]
def v (t : ShT) : Value := .agg t.cs
end ShT
def FdOf.cs (f : FdOf ShT) : Array Value := #[.string ⟨f.nm.toArray⟩, .int .i64 f.t.sh, .int .i64 f.t.k, .int .i64 f.t.n, .slice f.t.op f.t.of.length f.t.oc, .slice f.t.fp f.t.fs.length f.t.fc, .bool f.t.pk, .int .i64 f.t.al, .int .i64 f.bits]
def FdOf.v (f : FdOf ShT) : Value := .agg f.cs
/-- What lies within it lies in the blocks below B, to so much depth. -/
def ShT.InD (B : Nat) (W : World) : Nat → ShT → Prop
  | 0, _ => True
  | d + 1, t => (∀ (i : Nat) (h : i < t.of.length), ∃ g o, t.op = some ⟨g, o, none⟩ ∧ g < B ∧ (∀ (j : Nat), j < 7 → W.cell? ⟨g, o + i * 7 + j, none⟩ = t.of[i].cs[j]?) ∧ ShT.InD B W d t.of[i]) ∧
      (∀ (i : Nat) (h : i < t.fs.length), ∃ g o, t.fp = some ⟨g, o, none⟩ ∧ g < B ∧ (∀ (j : Nat), j < 9 → W.cell? ⟨g, o + i * 9 + j, none⟩ = t.fs[i].cs[j]?) ∧ t.fs[i].nm.length ≤ maxLen ∧ ShT.InD B W d t.fs[i].t)
def ShT.In (B : Nat) (W : World) (t : ShT) : Prop := ∀ d, t.InD B W d
theorem ShT.InD.below {B : Nat} {W W' : World} (hb : Below B W W') : ∀ (d : Nat) (t : ShT), t.InD B W d → t.InD B W' d
  | 0, _, _ => trivial
  | d + 1, t, ⟨h1, h2⟩ => ⟨fun i hi => by
      obtain ⟨g, o, e, hg, hc, hd⟩ := h1 i hi
      exact ⟨g, o, e, hg, fun j hj => (hb.cell (p := ⟨g, o + i * 7 + j, none⟩) hg).trans (hc j hj), InD.below hb d _ hd⟩, fun i hi => by
      obtain ⟨g, o, e, hg, hc, hn, hd⟩ := h2 i hi
      exact ⟨g, o, e, hg, fun j hj => (hb.cell (p := ⟨g, o + i * 9 + j, none⟩) hg).trans (hc j hj), hn, InD.below hb d _ hd⟩⟩
theorem ShT.InD.mono {B B' : Nat} {W : World} (hb : B ≤ B') : ∀ (d : Nat) (t : ShT), t.InD B W d → t.InD B' W d
  | 0, _, _ => trivial
  | d + 1, t, ⟨h1, h2⟩ => ⟨fun i hi => by
      obtain ⟨g, o, e, hg, hc, hd⟩ := h1 i hi
      exact ⟨g, o, e, Nat.lt_of_lt_of_le hg hb, hc, InD.mono hb d _ hd⟩, fun i hi => by
      obtain ⟨g, o, e, hg, hc, hn, hd⟩ := h2 i hi
      exact ⟨g, o, e, Nat.lt_of_lt_of_le hg hb, hc, hn, InD.mono hb d _ hd⟩⟩
theorem ShT.In.below {B : Nat} {W W' : World} {t : ShT} (h : t.In B W) (hb : Below B W W') : t.In B W' := fun d => (h d).below hb
theorem ShT.In.mono {B B' : Nat} {W : World} {t : ShT} (h : t.In B W) (hb : B ≤ B') : t.In B' W := fun d => (h d).mono hb
theorem ShT.In.of {B : Nat} {W : World} {t : ShT} (h : t.In B W) (i : Nat) (hi : i < t.of.length) : ∃ g o, t.op = some ⟨g, o, none⟩ ∧ g < B ∧ (∀ (j : Nat), j < 7 → W.cell? ⟨g, o + i * 7 + j, none⟩ = t.of[i].cs[j]?) ∧ t.of[i].In B W := by
  obtain ⟨g, o, e, hg, hc, _⟩ := (h 1).1 i hi
  refine ⟨g, o, e, hg, hc, fun d => ?_⟩
  obtain ⟨_, _, _, _, _, hd⟩ := (h (d + 1)).1 i hi
  exact hd
theorem ShT.In.fs {B : Nat} {W : World} {t : ShT} (h : t.In B W) (i : Nat) (hi : i < t.fs.length) : ∃ g o, t.fp = some ⟨g, o, none⟩ ∧ g < B ∧ (∀ (j : Nat), j < 9 → W.cell? ⟨g, o + i * 9 + j, none⟩ = t.fs[i].cs[j]?) ∧ t.fs[i].nm.length ≤ maxLen ∧ t.fs[i].t.In B W := by
  obtain ⟨g, o, e, hg, hc, hn, _⟩ := (h 1).2 i hi
  refine ⟨g, o, e, hg, hc, hn, fun d => ?_⟩
  obtain ⟨_, _, _, _, _, _, hd⟩ := (h (d + 1)).2 i hi
  exact hd
/-- Where a value reaches: a type's headers alone. -/
theorem seven {W : World} {g o : Nat} {t : ShT} (hc : ∀ (j : Nat), j < 7 → W.cell? ⟨g, o + j, none⟩ = t.cs[j]?) :
    W.cell? ⟨g, o, none⟩ = some (.int .i64 t.sh) ∧ W.cell? ⟨g, o + 1, none⟩ = some (.int .i64 t.k) ∧ W.cell? ⟨g, o + 2, none⟩ = some (.int .i64 t.n) ∧ W.cell? ⟨g, o + 3, none⟩ = some (.slice t.op t.of.length t.oc) ∧
    W.cell? ⟨g, o + 4, none⟩ = some (.slice t.fp t.fs.length t.fc) ∧ W.cell? ⟨g, o + 5, none⟩ = some (.bool t.pk) ∧ W.cell? ⟨g, o + 6, none⟩ = some (.int .i64 t.al) :=
  ⟨hc 0 (by decide), hc 1 (by decide), hc 2 (by decide), hc 3 (by decide), hc 4 (by decide), hc 5 (by decide), hc 6 (by decide)⟩
theorem nine {W : World} {g o : Nat} {f : FdOf ShT} (hc : ∀ (j : Nat), j < 9 → W.cell? ⟨g, o + j, none⟩ = f.cs[j]?) :
    W.cell? ⟨g, o, none⟩ = some (.string ⟨f.nm.toArray⟩) ∧ W.cell? ⟨g, o + 1, none⟩ = some (.int .i64 f.t.sh) ∧ W.cell? ⟨g, o + 2, none⟩ = some (.int .i64 f.t.k) ∧ W.cell? ⟨g, o + 3, none⟩ = some (.int .i64 f.t.n) ∧ W.cell? ⟨g, o + 4, none⟩ = some (.slice f.t.op f.t.of.length f.t.oc) ∧
    W.cell? ⟨g, o + 5, none⟩ = some (.slice f.t.fp f.t.fs.length f.t.fc) ∧ W.cell? ⟨g, o + 6, none⟩ = some (.bool f.t.pk) ∧ W.cell? ⟨g, o + 7, none⟩ = some (.int .i64 f.t.al) ∧ W.cell? ⟨g, o + 8, none⟩ = some (.int .i64 f.bits) :=
  ⟨hc 0 (by decide), hc 1 (by decide), hc 2 (by decide), hc 3 (by decide), hc 4 (by decide), hc 5 (by decide), hc 6 (by decide), hc 7 (by decide), hc 8 (by decide)⟩

def sizM (k : Int) : Int := if k == 1 then 1 else if k == 2 then 1 else if k == 3 then 2 else if k == 4 then 2 else if k == 5 then 4 else if k == 6 then 4 else if k == 7 then 8 else if k == 8 then 8 else 0
def kiM (k : Int) : Bool := if k == 1 then true else if k == 2 then true else if k == 3 then true else if k == 4 then true else if k == 5 then true else if k == 6 then true else if k == 7 then true else if k == 8 then true else false
def NoK (k : Int) : Prop := (k == 1) = false ∧ (k == 2) = false ∧ (k == 3) = false ∧ (k == 4) = false ∧ (k == 5) = false ∧ (k == 6) = false ∧ (k == 7) = false ∧ (k == 8) = false
theorem kcases (k : Int) : k = 1 ∨ k = 2 ∨ k = 3 ∨ k = 4 ∨ k = 5 ∨ k = 6 ∨ k = 7 ∨ k = 8 ∨ NoK k := by
  unfold NoK
  simp only [beq_eq_false_iff_ne, ne_eq]
  omega
theorem siz_cases (k : Int) : (sizM k = 0 ∧ kiM k = false) ∨ ((sizM k = 1 ∨ sizM k = 2 ∨ sizM k = 4 ∨ sizM k = 8) ∧ kiM k = true) := by
  rcases kcases k with rfl | rfl | rfl | rfl | rfl | rfl | rfl | rfl | ⟨h1, h2, h3, h4, h5, h6, h7, h8⟩
  all_goals simp [sizM, kiM, *]
set_option maxRecDepth 100000 in
set_option maxHeartbeats 4000000 in
theorem Size_any (k : Int) (w : World) : Calls Try.prog 49 #[.int .i64 k] w fun e w' => e = .returned (.int .i64 (sizM k)) ∧ w' = w := by
  rcases kcases k with rfl | rfl | rfl | rfl | rfl | rfl | rfl | rfl | ⟨h1, h2, h3, h4, h5, h6, h7, h8⟩
  all_goals (
    go_enter Try.func49, Try.ntmps49
    go_wp2
    go_ret
    refine ⟨?_, rfl⟩
    first | rfl | simp [sizM, *])
set_option maxRecDepth 100000 in
set_option maxHeartbeats 4000000 in
theorem RIs_any (k : Int) (w : World) : Calls Try.prog 65 #[.int .i64 k] w fun e w' => e = .returned (.bool (kiM k)) ∧ w' = w := by
  by_cases h0 : 1 ≤ k
  · by_cases h9 : k ≤ 8
    · obtain rfl | rfl | rfl | rfl | rfl | rfl | rfl | rfl : k = 1 ∨ k = 2 ∨ k = 3 ∨ k = 4 ∨ k = 5 ∨ k = 6 ∨ k = 7 ∨ k = 8 := by omega
      all_goals (
        go_enter Try.func65, Try.ntmps65
        go_wp2
        go_ret
        exact ⟨rfl, rfl⟩)
    · go_enter Try.func65, Try.ntmps65
      go_wp2
      go_ret
      refine ⟨?_, rfl⟩
      rcases kcases k with rfl | rfl | rfl | rfl | rfl | rfl | rfl | rfl | ⟨i1, i2, i3, i4, i5, i6, i7, i8⟩ <;> first | omega | simp [kiM, *]
  · go_enter Try.func65, Try.ntmps65
    go_wp2
    go_ret
    refine ⟨?_, rfl⟩
    rcases kcases k with rfl | rfl | rfl | rfl | rfl | rfl | rfl | rfl | ⟨i1, i2, i3, i4, i5, i6, i7, i8⟩ <;> first | omega | simp [kiM, *]
set_option maxRecDepth 100000 in
set_option maxHeartbeats 4000000 in
theorem RSize_any (k : Int) (w : World) : Calls Try.prog 68 #[.int .i64 k] w fun e w' => e = .returned (.int .i64 (sizM k)) ∧ w' = w := by
  rcases kcases k with rfl | rfl | rfl | rfl | rfl | rfl | rfl | rfl | ⟨h1, h2, h3, h4, h5, h6, h7, h8⟩
  all_goals (
    go_enter Try.func68, Try.ntmps68
    go_wp2
    go_ret
    refine ⟨?_, rfl⟩
    first | rfl | simp [sizM, *])
/-- The next multiple. -/
def upM (n m : Int) : Int := (n + m - 1) / m * m
theorem upM_le {n m : Int} (h0 : 0 ≤ n) (hm : 1 ≤ m) : n ≤ upM n m ∧ upM n m ≤ n + m - 1 ∧ upM n m % m = 0 := by
  unfold upM
  have h1 := Int.mul_ediv_add_emod (n + m - 1) m
  have h2 := Int.emod_nonneg (n + m - 1) (show m ≠ 0 by omega)
  have h3 := Int.emod_lt_of_pos (n + m - 1) (show 0 < m by omega)
  rw [Int.mul_comm] at h1
  refine ⟨by omega, by omega, Int.mul_emod_left _ _⟩
set_option maxRecDepth 100000 in
set_option maxHeartbeats 4000000 in
theorem up_any (n m : Int) (w : World) (h0 : 0 ≤ n) (h1 : n ≤ 1099511627776) (hm : 1 ≤ m) (hm2 : m ≤ 1099511627776) :
    Calls Try.prog 87 #[.int .i64 n, .int .i64 m] w fun e w' => e = .returned (.int .i64 (upM n m)) ∧ w' = w := by
  have hz : ¬ m = 0 := by omega
  have hq : (n + m - 1).tdiv m = (n + m - 1) / m := Int.tdiv_eq_ediv_of_nonneg (by omega)
  obtain ⟨u1, u2, _⟩ := upM_le h0 hm
  unfold upM at *
  have hq0 : 0 ≤ (n + m - 1) / m := Int.ediv_nonneg (by omega) (by omega)
  have hq1 : (n + m - 1) / m ≤ n + m - 1 := Int.ediv_le_self _ (by omega)
  go_enter Try.func87, Try.ntmps87
  go_wp2
  go_ret
  refine ⟨?_, rfl⟩
  have e1 : wrap64 ((n + m - 1) / m * m) = (n + m - 1) / m * m := by unfold wrap64; omega
  first | (simp [hq, e1]; done) | (simp_all; done)
set_option maxRecDepth 100000 in
set_option maxHeartbeats 4000000 in
theorem Rup_any (n m : Int) (w : World) (h0 : 0 ≤ n) (h1 : n ≤ 1099511627776) (hm : 1 ≤ m) (hm2 : m ≤ 1099511627776) :
    Calls Try.prog 85 #[.int .i64 n, .int .i64 m] w fun e w' => e = .returned (.int .i64 (upM n m)) ∧ w' = w := by
  have hz : ¬ m = 0 := by omega
  have hq : (n + m - 1).tdiv m = (n + m - 1) / m := Int.tdiv_eq_ediv_of_nonneg (by omega)
  obtain ⟨u1, u2, _⟩ := upM_le h0 hm
  unfold upM at *
  have hq0 : 0 ≤ (n + m - 1) / m := Int.ediv_nonneg (by omega) (by omega)
  have hq1 : (n + m - 1) / m ≤ n + m - 1 := Int.ediv_le_self _ (by omega)
  go_enter Try.func85, Try.ntmps85
  go_wp2
  go_ret
  refine ⟨?_, rfl⟩
  have e1 : wrap64 ((n + m - 1) / m * m) = (n + m - 1) / m * m := by unfold wrap64; omega
  first | (simp [hq, e1]; done) | (simp_all; done)
end Go.Proofs.Ytgomlfaekfabpaa
