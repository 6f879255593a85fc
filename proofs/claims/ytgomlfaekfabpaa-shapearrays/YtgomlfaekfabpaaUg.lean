/-
  Package shape: right.
-/
import Derived.Test.YtgomlfaekfabpaaUf
namespace Go.Proofs.Ytgomlfaekfabpaa
open Go Go.RowKit Go.Shelf
attribute [local go_sem] Oper.semAt_some
set_option linter.unusedVariables false
set_option linter.unusedSimpArgs false

/-- Right, but for sizes, and not deeper than so much. -/
def rigM : Nat → ShT → Bool
  | 0, _ => false
  | d + 1, t => formM t && t.parts.all (rigM d)
theorem parts_in {B : Nat} {W : World} {t : ShT} (h : t.In B W) {x : ShT} (hx : x ∈ t.parts) : x.In B W := by
  unfold ShT.parts at hx
  rcases List.mem_append.1 hx with hx | hx
  · obtain ⟨i, hi, rfl⟩ := List.getElem_of_mem hx
    obtain ⟨_, _, _, _, _, r⟩ := h.of i hi
    exact r
  · obtain ⟨f, hf, rfl⟩ := List.mem_map.1 hx
    obtain ⟨i, hi, rfl⟩ := List.getElem_of_mem hf
    obtain ⟨_, _, _, _, _, _, r⟩ := h.fs i hi
    exact r
theorem form_few {t : ShT} (h : formM t = true) : t.of.length ≤ 1 ∧ t.fs.length ≤ 40 := by
  unfold formM formW ffsM at h
  repeat' split at h
  all_goals first
    | cases h
    | (simp only [Bool.and_eq_true, beq_iff_eq, decide_eq_true_eq] at h; omega)
theorem BoxedS.turn {W W' : World} {row : Option Nat} {b : Nat} {t : TypeId} {v : Value} (h : Boxed W b t v) (hg : W.grownBy W' row) (hr : ∀ r, row = some r → b < r) : Boxed W' b t v :=
  (hg.block b h.lt (fun e => by have := hr b e.symm; omega)).trans h
/-- What a round of right hands on; what it leaves when it ends. -/
def RtI (w : World) (O d : Nat) (D : Int) (pre : List ShT) (W : World) : Prop :=
  Boxed W O 4 (.bool true) ∧ Boxed W (w.heap.size + 1) 3 (.int .i64 D) ∧ Below w.heap.size w W ∧ Hid (∀ x ∈ pre, rigM d x = true)
def RtX (w : World) (O d : Nat) (t : ShT) (c : Code) (W : World) : Prop :=
  c = .exit 0 ∧ Boxed W O 4 (.bool false) ∧ Below w.heap.size w W ∧ Hid (t.parts.all (rigM d) = false)
theorem RtI.abides (w : World) (O d : Nat) (D : Int) (B C : Nat) (h1 : O < B) (h2 : w.heap.size + 1 < B) : AbidesO B C 0 (RtI w O d D) := by
  refine ⟨fun pre X Y row hs hg hr => ?_, fun pre X hs => ?_⟩
  · obtain ⟨a, b, c, e⟩ := hs
    have hr' : ∀ r, row = some r → B ≤ r := fun r e => (hr r e).1
    exact ⟨BoxedS.turn a hg (fun r e => by have := hr' r e; omega), BoxedS.turn b hg (fun r e => by have := hr' r e; omega), c.grown hg c.size (fun r e => by have := hr' r e; omega), e⟩
  · obtain ⟨a, b, c, e⟩ := hs
    exact ⟨a, b, c.drew, e⟩
theorem RtX.abides (w : World) (O d : Nat) (t : ShT) (B C : Nat) (c : Code) (h1 : O < B) (h2 : w.heap.size + 1 < B) : AbidesO B C 0 (fun (_ : List ShT) W => RtX w O d t c W) := by
  refine ⟨fun pre X Y row hs hg hr => ?_, fun pre X hs => ?_⟩
  · obtain ⟨rfl, a, c, e⟩ := hs
    have hr' : ∀ r, row = some r → B ≤ r := fun r e => (hr r e).1
    exact ⟨rfl, BoxedS.turn a hg (fun r e => by have := hr' r e; omega), c.grown hg c.size (fun r e => by have := hr' r e; omega), e⟩
  · obtain ⟨rfl, a, c, e⟩ := hs
    exact ⟨rfl, a, c.drew, e⟩
set_option maxRecDepth 100000 in
set_option maxHeartbeats 8000000 in
theorem right_zero (t : ShT) (w : World) : Calls Try.prog 63 #[t.v, .int .i64 7] w fun e w' => e = .returned (.bool (rigM 0 t)) ∧ Below w.heap.size w w' := by
  unfold ShT.v ShT.cs rigM
  refine (callsIn_wide (n := 4)).1 ?_
  refine callsIn_of_wp_marks Try.func63 rfl trivial ?_ rfl
  simp only [Try.ntmps63, List.size_toArray, List.length_cons, List.length_nil, Nat.reduceAdd, Nat.reduceSub, Array.replicate_succ, Array.replicate_zero, List.push_toArray, List.append_toArray, List.nil_append, List.cons_append]
  gi_wp2
  refine wpIn_scope_straight ?_
  gi_wp2_with (refine ⟨trivial, ?_⟩)
  exact ⟨_, results_tmp rfl _ _ _, rfl, ((Below.refl _ w).alloc (Nat.le_refl _) _).alloc (by simp) _⟩
set_option maxRecDepth 100000 in
set_option maxHeartbeats 8000000 in
theorem right_succ (d : Nat) (hd : d < 6) (t : ShT) (w : World) (hin : t.In w.heap.size w)
    (ih : ∀ (x : ShT) (W : World), x.In W.heap.size W → Calls Try.prog 63 #[x.v, .int .i64 (7 - d)] W fun e w' => e = .returned (.bool (rigM d x)) ∧ Below W.heap.size W w') :
    Calls Try.prog 63 #[t.v, .int .i64 (6 - d)] w fun e w' => e = .returned (.bool (rigM (d + 1) t)) ∧ Below w.heap.size w w' := by
  have HIN := veil hin
  have IH := veil ih
  clear ih hin
  unfold rigM
  have HBE : Hid (∀ o o', Below w.heap.size w ((w.alloc o).alloc o')) := fun o o' => ((Below.refl _ w).alloc (Nat.le_refl _) _).alloc (by simp) _
  have HFO : Hid (∀ o o', Calls Try.prog 80 #[t.v] ((w.alloc o).alloc o') fun e w' => e = .returned (.bool (formM t)) ∧ Below ((w.alloc o).alloc o').heap.size ((w.alloc o).alloc o') w') :=
    fun o o' => formed_is t _ (((unveil HIN).below (unveil HBE o o')).mono (by simp; omega))
  have HFM := veil (form_few (t := t))
  have HWI := veil (within_any t)
  have HWS := veil (within_stops 3 (by decide))
  have hvt : t.v = .agg t.cs := rfl
  obtain ⟨FO, hFO⟩ : ∃ FO, formM t = FO := ⟨_, rfl⟩
  rw [hFO] at HFO HFM ⊢
  clear hFO
  have hD : (6 - (d : Int)) ≤ 6 := by omega
  have hD0 : 0 ≤ (6 - (d : Int)) := by omega
  have IH' : Hid (∀ (x : ShT) (W : World), x.In W.heap.size W → Calls Try.prog 63 #[x.v, .int .i64 (6 - d + 1)] W fun e w' => e = .returned (.bool (rigM d x)) ∧ Below W.heap.size W w') := by
    rw [show (6 - (d : Int) + 1) = 7 - d by omega]; exact IH
  clear IH hd
  generalize (6 - (d : Int)) = D at *
  cases FO
  · have h6 : ¬ D > 6 := by omega
    unfold ShT.v ShT.cs at HFO ⊢
    refine (callsIn_wide (n := 4)).1 ?_
    refine callsIn_of_wp_marks Try.func63 rfl trivial ?_ rfl
    simp only [Try.ntmps63, List.size_toArray, List.length_cons, List.length_nil, Nat.reduceAdd, Nat.reduceSub, Array.replicate_succ, Array.replicate_zero, List.push_toArray, List.append_toArray, List.nil_append, List.cons_append]
    gi_wp2
    refine wpIn_scope_straight ?_
    gi_wp2_with (refine ⟨trivial, ?_⟩; gi_at_call 80; refine (callsIn_wide.2 (unveil HFO _ _)).mono ?_; rintro e w' ⟨rfl, hw'⟩)
    exact ⟨_, results_tmp rfl _ _ _, rfl, (unveil HBE _ _).trans (hw'.mono (by simp; omega))⟩
  · have h6 : ¬ D > 6 := by omega
    obtain ⟨hol, hfl⟩ := unveil HFM rfl
    unfold ShT.v ShT.cs at HFO HWI ⊢
    refine (callsIn_wide (n := 4)).1 ?_
    refine callsIn_of_wp_marks Try.func63 rfl trivial ?_ rfl
    simp only [Try.ntmps63, List.size_toArray, List.length_cons, List.length_nil, Nat.reduceAdd, Nat.reduceSub, Array.replicate_succ, Array.replicate_zero, List.push_toArray, List.append_toArray, List.nil_append, List.cons_append]
    gi_wp2
    refine wpIn_scope_straight ?_
    have HX : Hid (∀ w1, Below ((w.alloc (.cells t.cs 25)).alloc (.cells #[.int .i64 D] 3)).heap.size ((w.alloc (.cells t.cs 25)).alloc (.cells #[.int .i64 D] 3)) w1 →
        TyB w1 w.heap.size t ∧ Boxed w1 (w.heap.size + 1) 3 (.int .i64 D) ∧ Below w.heap.size w w1 ∧ w.heap.size + 2 ≤ w1.heap.size) := fun w1 h =>
      ⟨((TyB.new w t).alloc _).below h, by
        have h1 := Boxed.new (w.alloc (.cells t.cs 25)) 3 (.int .i64 D)
        rw [World.size_alloc] at h1
        exact (h.block _ (by simp)).trans h1, (unveil HBE _ _).trans (h.mono (by simp; omega)), by have := h.size; simpa using this⟩
    unfold ShT.cs at HX
    gi_wp2_with (refine ⟨trivial, ?_⟩; gi_at_call 80; refine (callsIn_wide.2 (unveil HFO _ _)).mono ?_; rintro e w1 ⟨rfl, hb1⟩; obtain ⟨xt, xd, xb, xs⟩ := unveil HX w1 hb1; obtain ⟨x0, x1, x2, x3, x4, x5, x6⟩ := xt.seven; have hlx : w.heap.size < w1.heap.size := xt.lt)
    refine wpIn_label ?_
    gi_wp2_with (refine ⟨trivial, ?_⟩; gi_at_call 81; refine (callsIn_wide.2 (unveil HWI _)).mono ?_; rintro e w' ⟨rfl, rfl⟩)
    have hz : ((w1.alloc (.cells #[.bool true] 4)).alloc (.cells t.cs 25)).heap.size = w1.heap.size + 2 := by simp
    have hbe : Below w.heap.size w ((w1.alloc (.cells #[.bool true] 4)).alloc (.cells t.cs 25)) := (xb.alloc (by omega) _).alloc (by simp; omega) _
    have b0 : Boxed ((w1.alloc (.cells #[.bool true] 4)).alloc (.cells t.cs 25)) w1.heap.size 4 (.bool true) := (Boxed.new w1 _ _).alloc _
    have b1 : Boxed ((w1.alloc (.cells #[.bool true] 4)).alloc (.cells t.cs 25)) (w.heap.size + 1) 3 (.int .i64 D) := (xd.alloc _).alloc _
    have b2 : TyB ((w1.alloc (.cells #[.bool true] 4)).alloc (.cells t.cs 25)) (w1.heap.size + 1) t := by
      have := TyB.new (w1.alloc (.cells #[.bool true] 4)) t
      rwa [World.size_alloc] at this
    unfold ShT.cs at hz hbe b0 b1 b2
    have hW0 : ∃ W0, (w1.alloc (.cells #[.bool true] 4)).alloc (.cells #[.int .i64 t.sh, .int .i64 t.k, .int .i64 t.n, .slice t.op t.of.length t.oc, .slice t.fp t.fs.length t.fc, .bool t.pk, .int .i64 t.al] 25) = W0 := ⟨_, rfl⟩
    obtain ⟨W0, hW0⟩ := hW0
    rw [hW0] at hz hbe b0 b1 b2 ⊢
    clear hW0 x0 x1 x2 x3 x4 x5 x6 xt xd xb hb1
    refine wpIn_rangeFunc_ownA (k := 0) rfl (by decide) (gf := 93) (lb := #[.pointer (some ⟨w1.heap.size + 1, 0, none⟩)]) rfl trivial (enters_of Try.func93 (by kernel_rfl) rfl)
      (unveil HWS (w1.heap.size + 1) w.heap.size t (by omega) (by omega) W0 (by omega) b2 ((unveil HIN).below hbe)) KpS.trans (fun W lb o o' hlb hlo _ _ => ?kb) (fun W o hW => ?ka) (Below.refl _ _) (fun _ => rfl)
      (RtI w w1.heap.size d D) (fun c _ W => RtX w w1.heap.size d t c W) (RtI.abides w _ d D _ _ (by omega) (by omega)) (fun c => RtX.abides w _ d t _ _ c (by omega) (by omega))
      ⟨b0, b1, hbe, fun x hx => by cases hx⟩ (fun x => .cells x.cs 25)
      (fun x A => { tmps := #[.agg #[.int .i64 t.sh, .int .i64 t.k, .int .i64 t.n, .slice t.op t.of.length t.oc, .slice t.fp t.fs.length t.fc, .bool t.pk, .int .i64 t.al], .int .i64 D, .pointer (some ⟨w.heap.size, 0, none⟩), .pointer (some ⟨w.heap.size + 1, 0, none⟩), .bool false, .pointer (some ⟨w1.heap.size, 0, none⟩), .pointer (some ⟨A, 0, none⟩), .int .i64 D, .bool (decide (6 < D)), .bool (decide (6 < D)), .agg #[.int .i64 t.sh, .int .i64 t.k, .int .i64 t.n, .slice t.op t.of.length t.oc, .slice t.fp t.fs.length t.fc, .bool t.pk, .int .i64 t.al], .bool true, .bool false, .bool (decide (6 < D)), .agg #[.int .i64 t.sh, .int .i64 t.k, .int .i64 t.n, .slice t.op t.of.length t.oc, .slice t.fp t.fs.length t.fc, .bool t.pk, .int .i64 t.al], .func (.func 93) #[] #[.pointer (some ⟨w1.heap.size + 1, 0, none⟩)], .agg #[.int .i64 x.sh, .int .i64 x.k, .int .i64 x.n, .slice x.op x.of.length x.oc, .slice x.fp x.fs.length x.fc, .bool x.pk, .int .i64 x.al], undef, undef, undef, undef, undef, undef], defers := [] })
      ?assign ?body ?done ?stop
    case kb =>
      have hlt := (Array.getElem?_eq_some_iff.1 hlo).1
      exact ⟨(Below.refl _ W).grown (grownBy_putObj' W lb o') (by omega) (fun r e => by cases e; omega), World.putObj_heap_other (by omega)⟩
    case ka =>
      exact ⟨(Below.refl _ W).alloc (by omega) o, Below.heap_alloc W o _ (by omega)⟩
    case assign =>
      intro l' x W' K hK
      simp only [encT, ShT.v, ShT.cs] at hK ⊢
      gi_wp2
      simpa using hK
    case body =>
      rintro l' pre x W1 A hA hxA hno ⟨o0, o1, obe, oal⟩ hpre
      have hxt : TyB W1 A x := hxA
      obtain ⟨y0, y1, y2, y3, y4, y5, y6⟩ := hxt.seven
      have hmem : x ∈ t.parts := hpre.subset (by simp)
      have HC := veil (unveil IH' x W1 ((parts_in ((unveil HIN).below obe) hmem).mono obe.size))
      have hdc := o1.cell
      have HMEM := veil hmem
      have HO0 := veil o0
      have HO1 := veil o1
      have HOB := veil obe
      have HPR : Hid (∀ W2, Below W1.heap.size W1 W2 → Boxed W2 w1.heap.size 4 (.bool true) ∧ Boxed W2 (w.heap.size + 1) 3 (.int .i64 D) ∧ Below w.heap.size w W2 ∧ (∀ B k, KeepsO B k W1 W2) ∧ KpS w.heap.size (w1.heap.size + 1) W1 W2) := fun W2 h2 =>
        ⟨(h2.block _ o0.lt).trans o0, (h2.block _ o1.lt).trans o1, obe.trans (h2.mono obe.size), fun B k => KeepsO.grown (below_grown h2) (fun r e => by cases e), h2.mono obe.size, h2.block _ (by have := hxt.lt; omega)⟩
      obtain ⟨F, hF⟩ : ∃ F, rigM d x = F := ⟨_, rfl⟩
      have HFF := veil hF
      rw [hF] at HC
      unfold ShT.v ShT.cs at HC
      clear hF hmem o0 o1 obe hxA hxt hno
      cases F
      · gi_wp2_with (refine ⟨trivial, ?_⟩; gi_at_call 63; refine (callsIn_wide.2 (unveil HC)).mono ?_; rintro e W2 ⟨rfl, hb2⟩; obtain ⟨q0, q1, q2, q3, q4⟩ := unveil HPR W2 hb2; have q0c := q0.cell; have q0f := q0.frozen)
        refine ⟨((q3 _ 0).from (Nat.le_refl _)).trans ((KeepsOthers.setCell _ _ _).from _), (q3 _ _).trans (KeepsO.setCell (.inl (by omega))), rfl, Boxed.set _ q0, q2.setCell (p := ⟨w1.heap.size, 0, none⟩) (by show _ ≤ w1.heap.size; omega) _, ?_⟩
        exact List.all_eq_false.2 ⟨x, unveil HMEM, by rw [unveil HFF]; simp⟩
      · gi_wp2_with (refine ⟨trivial, ?_⟩; gi_at_call 63; refine (callsIn_wide.2 (unveil HC)).mono ?_; rintro e W2 ⟨rfl, hb2⟩; obtain ⟨q0, q1, q2, q3, q4⟩ := unveil HPR W2 hb2)
        refine ⟨(q3 _ 0).from (Nat.le_refl _), q3 _ _, q4, q0, q1, q2, fun z hz => ?_⟩
        rcases List.mem_append.1 hz with hz | hz
        · exact unveil oal z hz
        · obtain rfl := List.mem_singleton.1 hz
          exact unveil HFF
    case done =>
      rintro D' W' hD' ⟨c0, c1, cbe, cal⟩ hK
      have d0 := c0.cell
      gi_wp2
      refine ⟨by simp, .inl ⟨_, _, rfl, run_takeDeferred hK, ?_⟩⟩
      refine ⟨_, results_tmp rfl _ _ _, ?_, cbe.grown (grownBy_putObj' W' D' _) cbe.size (fun r e => by cases e; omega)⟩
      rw [List.all_eq_true.2 (unveil cal)]
      rfl
    case stop =>
      rintro D' c pre W' hD' _ ⟨rfl, c0, cbe, cal⟩ hK
      have d0 := c0.cell
      gi_wp2
      refine ⟨by simp, .inl ⟨_, _, rfl, run_takeDeferred hK, ?_⟩⟩
      refine ⟨_, results_tmp rfl _ _ _, ?_, cbe.grown (grownBy_putObj' W' D' _) cbe.size (fun r e => by cases e; omega)⟩
      rw [unveil cal]
      rfl
theorem right_any : ∀ (d : Nat), d ≤ 6 → ∀ (t : ShT) (w : World), t.In w.heap.size w →
    Calls Try.prog 63 #[t.v, .int .i64 (7 - d)] w fun e w' => e = .returned (.bool (rigM d t)) ∧ Below w.heap.size w w'
  | 0, _, t, w, _ => right_zero t w
  | d + 1, hd, t, w, h => by
    rw [show ((7 : Int) - ((d + 1 : Nat) : Int)) = 6 - d by omega]
    exact right_succ d (by omega) t w h (fun x W hx => right_any d (by omega) x W hx)
end Go.Proofs.Ytgomlfaekfabpaa
