/-
  Package shape: walkMember; the numbers and pointers of a type, on lists.
-/
import Derived.Test.YtgomlfaekfabpaaMa
import Derived.Test.YtgomlfaekfabpaaZze
namespace Go.Proofs.Ytgomlfaekfabpaa
open Go Go.RowKit Go.Shelf
attribute [local go_sem] Oper.semAt_some
set_option linter.unusedVariables false
set_option linter.unusedSimpArgs false

/-- The numbers and pointers of a right type that begins at a bit. -/
def leaM : Nat → ShT → Int → List Mb
  | 0, _, _ => []
  | d + 1, t, fr => if t.sh == 1 then [⟨fr, 8 * sizM t.k, t.k, 0⟩] else if t.sh == 2 then [⟨fr, 64, 8, 0⟩]
      else if t.sh == 3 then (match t.of with | [] => [] | x :: _ => (List.range t.n.toNat).flatMap (fun (i : Nat) => leaM d x (fr + (i : Int) * (8 * (meaM d x).1))))
      else (t.ml (meaM d)).flatMap (fun x => if x.1.bits == 0 then [] else if x.1.bits > 0 then [⟨x.2.bit + fr, x.2.bits, x.2.k, 0⟩] else leaM d x.1.t (x.2.bit + fr))
def mbL (d : Nat) (fr : Int) (x : FdOf ShT × Mb) : List Mb := if x.1.bits == 0 then [] else if x.1.bits > 0 then [⟨x.2.bit + fr, x.2.bits, x.2.k, 0⟩] else leaM d x.1.t (x.2.bit + fr)
/-- What walk asks of its rounds, and keeps itself. -/
structure YK (N0 B0 : Nat) (A B : World) : Prop where
  be : Below N0 A B
  bk : ∀ j T cs, (T = 77 ∨ T = 25 ∨ T = 2 ∨ T = 113 ∨ T = 4) → Bk A j T cs → Bk B j T cs
  kf : KeepsFrom B0 A B
theorem YK.trans {N0 B0 : Nat} {A B C : World} (h : YK N0 B0 A B) (k : YK N0 B0 B C) : YK N0 B0 A C := ⟨h.be.trans k.be, fun j T cs hT b => k.bk j T cs hT (h.bk j T cs hT b), h.kf.trans k.kf⟩
theorem YK.below {N0 B0 : Nat} {A B : World} (h : Below A.heap.size A B) (hN : N0 ≤ A.heap.size) : YK N0 B0 A B :=
  ⟨h.mono hN, fun j T cs _ b => b.below h, ⟨h.size, fun j o _ hj _ => (h.block j (Array.getElem?_eq_some_iff.1 hj).1).trans hj⟩⟩
/-- Blocks behind A may turn. -/
theorem YK.turn {N0 B0 : Nat} {A W W' : World} {row : Option Nat} (h : YK N0 B0 A W) (hN : N0 ≤ A.heap.size) (hg : W.grownBy W' row) (hr : ∀ r, row = some r → A.heap.size ≤ r) : YK N0 B0 A W' := by
  have hs := h.kf.size
  refine ⟨h.be.grown hg (Nat.le_trans hN hs) (fun r e => Nat.le_trans hN (hr r e)), fun j T cs hT b => (h.bk j T cs hT b).turn hg (fun r e => Nat.lt_of_lt_of_le b.lt (hr r e)), ⟨Nat.le_trans hs hg.size, fun j o hB hj ho => ?_⟩⟩
  have h1 := h.kf.same j o hB hj ho
  have hjl := (Array.getElem?_eq_some_iff.1 hj).1
  exact (hg.block j (by omega) (fun e => by have := hr j e.symm; omega)).trans h1
theorem YK.drew {N0 B0 : Nat} {A W : World} (h : YK N0 B0 A W) : YK N0 B0 A W.drew := ⟨h.be.drew, h.bk, ⟨h.kf.size, h.kf.same⟩⟩
theorem YK.size {N0 B0 : Nat} {A W : World} (h : YK N0 B0 A W) : A.heap.size ≤ W.heap.size := h.kf.size
theorem YK.kp {N0 B0 : Nat} {A W : World} (h : YK N0 B0 A W) : KpM N0 A W := ⟨h.be, fun j cs b => h.bk j _ cs (.inl rfl) b, fun j cs b => h.bk j _ cs (.inr (.inl rfl)) b⟩
/-- What walk tells: all, or stopped. -/
def WkP (J Jx : List Mb → World → Prop) (N0 B0 : Nat) (full : List Mb) (w : World) (out : List Mb) (e : Ending) (W' : World) : Prop :=
  (e = .returned (.bool true) ∧ J out W' ∧ YK N0 B0 w W') ∨ (e = .returned (.bool false) ∧ (∃ p, p <+: full ∧ Jx p W') ∧ YK N0 B0 w W')
def encS (x : Mb) : Array Value := #[.agg #[.int .i64 x.bit, .int .i64 x.bits, .int .i64 x.k]]
/-- What is known of yield. -/
structure Yd (l N0 B0 : Nat) (full : List Mb) (J Jx : List Mb → World → Prop) : Prop where
  aJ : AbT B0 4 J
  aX : AbT B0 4 Jx
  y : ∀ pre x W1, J pre W1 → B0 ≤ W1.heap.size → N0 ≤ W1.heap.size → pre ++ [x] <+: full → ∀ n, YieldAt Fence.wide n Try.prog l (encS x) W1 (WkP J Jx N0 B0 full W1 (pre ++ [x]))
theorem WkP.from {J Jx : List Mb → World → Prop} {N0 B0 : Nat} {full out : List Mb} {w W W' : World} {e : Ending} (h : WkP J Jx N0 B0 full W out e W') (hb : YK N0 B0 w W) : WkP J Jx N0 B0 full w out e W' := by
  rcases h with ⟨h1, h2, h3⟩ | ⟨h1, h2, h3⟩
  · exact .inl ⟨h1, h2, hb.trans h3⟩
  · exact .inr ⟨h1, h2, hb.trans h3⟩
set_option maxRecDepth 100000 in
set_option maxHeartbeats 8000000 in
theorem walkMember_any (d : Nat) (f : FdOf ShT) (m : Mb) (fr : Int) (l N0 B0 : Nat) (full pre : List Mb) (J Jx : List Mb → World → Prop) (w : World) (hy : Yd l N0 B0 full J Jx) (h0 : 0 ≤ fr) (h1 : fr ≤ 268435456) (hm0 : 0 ≤ m.bit) (hm1 : m.bit ≤ 20992320)
    (hJ : J pre w) (hB : B0 ≤ w.heap.size) (hN : N0 ≤ w.heap.size) (hpre : pre ++ mbL d fr (f, m) <+: full)
    (hw : f.bits < 0 → ∀ W, Below w.heap.size w W → J pre W → Calls Try.prog 73 #[f.t.v, .int .i64 (m.bit + fr), .func (.yield l) #[] #[]] W (WkP J Jx N0 B0 full W (pre ++ leaM d f.t (m.bit + fr)))) :
    Calls Try.prog 88 #[mbV f m, .int .i64 fr, .func (.yield l) #[] #[]] w (WkP J Jx N0 B0 full w (pre ++ mbL d fr (f, m))) := by
  have hbe : ∀ W, Below w.heap.size w W → J pre W ∧ YK N0 B0 w W ∧ B0 ≤ W.heap.size ∧ N0 ≤ W.heap.size := fun W h => ⟨hy.aJ.below h hJ, YK.below h hN, Nat.le_trans hB h.size, Nat.le_trans hN h.size⟩
  have HBE := veil hbe
  have HY := veil hy
  have HW := veil hw
  have HP := veil hpre
  obtain ⟨s, hs⟩ : ∃ s, m.bit + fr = s := ⟨_, rfl⟩
  unfold mbL at *
  simp only at *
  rw [hs] at HW HP ⊢
  have HNEW : Hid (Bk ((w.alloc (.cells (mbC f m) 77)).alloc (.cells #[.int .i64 s, .int .i64 m.bits, .int .i64 m.k] 42)) w.heap.size 77 (mbC f m) ∧ Bk ((w.alloc (.cells (mbC f m) 77)).alloc (.cells #[.int .i64 s, .int .i64 m.bits, .int .i64 m.k] 42)) (w.heap.size + 1) 42 #[.int .i64 s, .int .i64 m.bits, .int .i64 m.k] ∧ Below w.heap.size w ((w.alloc (.cells (mbC f m) 77)).alloc (.cells #[.int .i64 s, .int .i64 m.bits, .int .i64 m.k] 42))) := by
    have h2 := Bk.new (w.alloc (.cells (mbC f m) 77)) 42 #[.int .i64 s, .int .i64 m.bits, .int .i64 m.k]
    rw [World.size_alloc] at h2
    exact ⟨(Bk.new w _ _).alloc _, h2, below_new2 w _ _⟩
  have hs1 : s ≤ 289427776 := by omega
  have hs0 : 0 ≤ s := by omega
  clear hbe hw hpre hJ hB hN hy
  unfold mbV at *
  unfold mbC at *
  unfold ShT.v ShT.cs at HW
  rcases Int.lt_trichotomy f.bits 0 with hb | hb | hb
  · have b0 : (f.bits == 0) = false := by simp; omega
    have b1 : ¬ f.bits > 0 := by omega
    have HWW := veil (unveil HW hb)
    simp only [b0, Bool.false_eq_true, if_false, if_neg b1] at HP ⊢
    clear HW hb
    go_enter Try.func88, Try.ntmps88
    go_upto_region 3 with fail
    generalize ((w.alloc (.cells _ 77)).alloc (.cells #[.int .i64 s, .int .i64 m.bits, .int .i64 m.k] 42)) = W0 at HNEW ⊢
    obtain ⟨c0, c1, c2, c3, c4, c5, c6, c7, c8, c9, c10, c11, c12⟩ := (unveil HNEW).1.thirteen
    have s0 := (unveil HNEW).2.1.cell 0
    simp only [List.getElem?_toArray, List.getElem?_cons_zero] at s0
    go_wp2_with (go_at_call 73; refine (unveil HWW _ (unveil HNEW).2.2 (unveil HBE _ (unveil HNEW).2.2).1).mono ?_; rintro e W5 (⟨rfl, hJ5, hk5⟩ | ⟨rfl, hX5, hk5⟩))
    all_goals go_ret
    · exact .inl ⟨rfl, hJ5, (unveil HBE _ (unveil HNEW).2.2).2.1.trans hk5⟩
    · exact .inr ⟨rfl, hX5, (unveil HBE _ (unveil HNEW).2.2).2.1.trans hk5⟩
  · have b0 : (f.bits == 0) = true := by simp; omega
    simp only [b0, if_true, List.append_nil] at HP ⊢
    clear HW hb
    go_enter Try.func88, Try.ntmps88
    go_upto_region 3 with fail
    generalize ((w.alloc (.cells _ 77)).alloc (.cells #[.int .i64 s, .int .i64 m.bits, .int .i64 m.k] 42)) = W0 at HNEW ⊢
    obtain ⟨c0, c1, c2, c3, c4, c5, c6, c7, c8, c9, c10, c11, c12⟩ := (unveil HNEW).1.thirteen
    go_wp2_with fail
    go_ret
    exact .inl ⟨rfl, (unveil HBE _ (unveil HNEW).2.2).1, (unveil HBE _ (unveil HNEW).2.2).2.1⟩
  · have b0 : (f.bits == 0) = false := by simp; omega
    have b1 : f.bits > 0 := by omega
    simp only [b0, Bool.false_eq_true, if_false, if_pos b1] at HP ⊢
    clear HW hb
    go_enter Try.func88, Try.ntmps88
    go_upto_region 3 with fail
    generalize ((w.alloc (.cells _ 77)).alloc (.cells #[.int .i64 s, .int .i64 m.bits, .int .i64 m.k] 42)) = W0 at HNEW ⊢
    obtain ⟨c0, c1, c2, c3, c4, c5, c6, c7, c8, c9, c10, c11, c12⟩ := (unveil HNEW).1.thirteen
    have s0 := (unveil HNEW).2.1.cell 0
    have s1 := (unveil HNEW).2.1.cell 1
    have s2 := (unveil HNEW).2.1.cell 2
    simp only [List.getElem?_toArray, List.getElem?_cons_zero, List.getElem?_cons_succ] at s0 s1 s2
    obtain ⟨j1, j2, j3, j4⟩ := unveil HBE _ (unveil HNEW).2.2
    have HJ2 := veil j2
    obtain ⟨fn, tmps, assign, body, hyy, hRR⟩ := (unveil HY).y pre ⟨s, m.bits, m.k, 0⟩ W0 j1 j3 j4 (unveil HP) 3
    have HR := veil hRR
    clear hRR j1 j2 j3 j4
    unfold encS at hyy
    simp only at hyy
    go_upto_region 6 with fail
    refine (wpIn_wide (n := 4)).1 ?_
    gi_wp2
    refine (unveil HR).mono ?_
    rintro e W5 (⟨rfl, hJ5, hk5⟩ | ⟨rfl, hX5, hk5⟩)
    · gi_wp2
      go_wp2
      go_ret
      exact .inl ⟨rfl, hJ5, (unveil HJ2).trans hk5⟩
    · gi_wp2
      go_wp2
      go_ret
      exact .inr ⟨rfl, hX5, (unveil HJ2).trans hk5⟩
end Go.Proofs.Ytgomlfaekfabpaa
