/-
  Package lex: first.
  Package lex: words, the iterator over the words of tokens.
  Package lex: Words.
  The statements' own lexed and shown of layer 7; words in memory.
-/
import Derived.Test.YtmpkgjonbjpohaaGreatDoorXg
import Derived.Test.YtmpkgjonbjpohaaGreatDoorY1
namespace Go.Proofs.YtmpkgjonbjpohaaGreatDoor
open Go Go.RowKit
set_option linter.unusedVariables false
set_option linter.unusedSimpArgs false

/-- The word that tokens begin with, of how many it comes, and whether it is one. -/
def fiM : List Gt → Wd × Nat × Bool
  | [] => (zW, 0, false)
  | t :: r => if t.kind == 4 then txM t [] (t :: r) else (plM (siM t).1 t, 1, (siM t).2)
set_option maxRecDepth 100000 in
set_option maxHeartbeats 8000000 in
theorem first_any (p : Option Addr) (cap : Nat) (a : Gt) (tl : List Gt) (w : World) (hl : (a :: tl).length ≤ 1000000) (hT : TkG w.heap.size w (.slice p (a :: tl).length cap) (a :: tl)) (hok : ∀ t ∈ a :: tl, TokOK t) (hw : 10 < w.heap.size) (hg : Eg w) (hsg : Sg w) :
    Calls Tryz.prog 107 #[.slice p (a :: tl).length cap] w fun e w' => e = .returned (.tuple #[wdV (fiM (a :: tl)).1, .int .i64 ((fiM (a :: tl)).2.1 : Nat), .bool (fiM (a :: tl)).2.2]) ∧ Below w.heap.size w w' := by
  obtain ⟨R, hR⟩ : ∃ R, fiM (a :: tl) = R := ⟨_, rfl⟩
  rw [hR]
  rw [fiM] at hR
  have HR := hide hR.symm
  have hb0 : Below w.heap.size w (w.alloc (.cells (wdC zW).toArray 42)) := below_new w _
  have HW0 : Hid (WBox (w.alloc (.cells (wdC zW).toArray 42)) w.heap.size zW) := WBox.new w zW
  have hz0 : (w.alloc (.cells (wdC zW).toArray 42)).heap.size = w.heap.size + 1 := by simp
  have hT0 := hT.below hb0
  have hg0 := hg.below hb0 hw
  have hsg0 := Sg.below hsg hb0 hw
  have hoa := hok a (by simp)
  have HB0 := hide hb0
  simp only [wdC, zW] at HW0 hz0 hT0 hg0 hsg0 HB0
  obtain ⟨n, hn⟩ : ∃ n, (a :: tl).length = n := ⟨_, rfl⟩
  have hn0 : 0 < n := by rw [← hn]; simp
  have hlen : (0 : Int) < (n : Int) := by omega
  have HN := hide hn
  rw [hn]
  clear hR hb0 hg hsg hT hn
  go_enter Tryz.func107, Tryz.ntmps107
  go_upto_region 1 with fail
  generalize (w.alloc _ : World) = W0 at *
  have HT0 := hide hT0
  obtain ⟨p', cap', hp, hc⟩ := hT0
  obtain ⟨g, o, hp2, hgB, a0, a1, a2, a3, a4, a5⟩ := hc 0 (by simp)
  simp only [List.getElem_cons_zero, Nat.zero_mul, Nat.add_zero] at a0 a1 a2 a3 a4 a5
  obtain rfl : p = some ⟨g, o, none⟩ := by simp at hp; rw [hp.1, hp2]
  have hZ0 := hide hz0
  have HTX := hide (text_any (some ⟨g, o, none⟩) cap a tl W0 hl ((unhide HT0).mono (by omega)) hok (by omega) hg0 hsg0)
  rw [unhide HN] at HTX
  have HSI := hide (single_any a hoa W0 (by omega) hg0 hsg0)
  have hpl := fun W => placed_any (siM a).1 a W
  have hgw : w.heap.size + 1 ≤ W0.heap.size := by omega
  clear hz0 hc hp hp2 hok hoa hg0 hsg0 hl HT0
  cases h4 : a.kind == 4
  · have HR2 := unhide HR
    simp only [h4, Bool.false_eq_true, if_false] at HR2
    have HR3 := hide HR2
    clear HR2 HR HTX
    generalize siM a = S at *
    obtain ⟨⟨sk, ss, sv, st, sf, sl⟩, ok⟩ := S
    simp only [wdV, wdC, gtV, gtC, plM] at hpl HSI HR3
    have HPL := hide hpl
    have HA := hide (And.intro a0 (And.intro a1 (And.intro a2 (And.intro a3 (And.intro a4 a5)))))
    clear hpl
    go_upto_region 3 with fail
    go_upto_region 4 with (go_at_call 131; refine (unhide HSI).mono ?_; rintro e W1 ⟨rfl, hb1⟩)
    have hq1 : WBox (W1.alloc (.cells #[.int .i64 sk, .string ⟨ss.toArray⟩, .int .i64 sv, .int .i64 st, .string ⟨sf.toArray⟩, .int .i64 sl] 42)) W1.heap.size ⟨sk, ss, sv, st, sf, sl⟩ := WBox.new W1 ⟨sk, ss, sv, st, sf, sl⟩
    have hb2 : Below W0.heap.size W0 (W1.alloc (.cells #[.int .i64 sk, .string ⟨ss.toArray⟩, .int .i64 sv, .int .i64 st, .string ⟨sf.toArray⟩, .int .i64 sl] 42)) := hb1.alloc hb1.size _
    have hz1 := hb1.size
    clear hb1
    generalize (W1.alloc _ : World) = W2 at *
    generalize W1.heap.size = m at *
    have e0 := (hb2.cell (p := ⟨g, o, none⟩) (by show g < _; omega)).trans (unhide HA).1
    have e1 := (hb2.cell (p := ⟨g, o + 1, none⟩) (by show g < _; omega)).trans (unhide HA).2.1
    have e2 := (hb2.cell (p := ⟨g, o + 2, none⟩) (by show g < _; omega)).trans (unhide HA).2.2.1
    have e3 := (hb2.cell (p := ⟨g, o + 3, none⟩) (by show g < _; omega)).trans (unhide HA).2.2.2.1
    have e4 := (hb2.cell (p := ⟨g, o + 4, none⟩) (by show g < _; omega)).trans (unhide HA).2.2.2.2.1
    have e5 := (hb2.cell (p := ⟨g, o + 5, none⟩) (by show g < _; omega)).trans (unhide HA).2.2.2.2.2
    have HQW := hide ((unhide HW0).below hb2 (by have := (unhide HW0).lt; omega))
    have HB2 := hide ((unhide HB0).trans (hb2.mono (by omega)))
    obtain ⟨m0, m1, m2, m3, m4, m5⟩ := WBox.six hq1
    clear a0 a1 a2 a3 a4 a5 hb2 HSI hq1 HA HW0 HB0
    go_region_with (go_at_call 132; refine (unhide HPL _).mono ?_; rintro e W3 ⟨rfl, hb3⟩; have q := (show WBox W2.drew _ _ from unhide HQW).below hb3 (unhide HQW).lt; have qz0 := WBox.frozen q 0; have qz1 := WBox.frozen q 1; have qz2 := WBox.frozen q 2; have qz3 := WBox.frozen q 3; have qz4 := WBox.frozen q 4; have qz5 := WBox.frozen q 5; obtain ⟨q0, q1, q2, q3, q4, q5⟩ := WBox.six q; have Q := hide q; have QB := hide ((drewB (unhide HB2)).trans (hb3.mono (drewB (unhide HB2)).size)); clear q hb3)
    all_goals (
      go_wp2
      refine bodyPost_ret (res_wtt (f := Tryz.f107) rfl rfl (sixw_set (unhide Q) _ _ _ _ _ _) rfl) rfl ⟨by rw [unhide HR3]; rfl, below_put6 (unhide QB) (Nat.le_refl _) _ _ _ _ _ _⟩)
  · have HR2 := unhide HR
    simp only [h4, if_true] at HR2
    have HR3 := hide HR2
    clear HR2 HR HSI hpl
    generalize txM a [] (a :: tl) = S at *
    obtain ⟨⟨sk, ss, sv, st, sf, sl⟩, nn, ok⟩ := S
    simp only [wdV, wdC] at HTX HR3
    go_wp2_with (go_at_call 130; refine (unhide HTX).mono ?_; rintro e W3 ⟨rfl, hb3⟩; have q := (unhide HW0).below hb3 (unhide HW0).lt; have qz0 := WBox.frozen q 0; have qz1 := WBox.frozen q 1; have qz2 := WBox.frozen q 2; have qz3 := WBox.frozen q 3; have qz4 := WBox.frozen q 4; have qz5 := WBox.frozen q 5; obtain ⟨q0, q1, q2, q3, q4, q5⟩ := WBox.six q; have Q := hide q; have QB := hide ((unhide HB0).trans (hb3.mono (unhide HB0).size)); clear q hb3)
    refine bodyPost_ret (res_wtt (f := Tryz.f107) rfl rfl (sixw_set (unhide Q) _ _ _ _ _ _) rfl) rfl ⟨by rw [unhide HR3]; rfl, below_put6 (unhide QB) (Nat.le_refl _) _ _ _ _ _ _⟩
end Go.Proofs.YtmpkgjonbjpohaaGreatDoor
namespace Go.Proofs.YtmpkgjonbjpohaaGreatDoor
open Go Go.RowKit Go.Shelf
attribute [local go_sem] Oper.semAt_some
set_option linter.unusedVariables false
set_option linter.unusedSimpArgs false

/-- The package variables that are read: the two errors, the table of signs. -/
structure Gl (w : World) : Prop where
  size : 10 < w.heap.size
  eg : Eg w
  sg : Sg w
theorem Gl.below {w w' : World} {B : Nat} (h : Gl w) (hb : Below B w w') (hB : 10 < B) : Gl w' :=
  ⟨Nat.lt_of_lt_of_le h.size hb.size, h.eg.below hb hB, Sg.below h.sg hb hB⟩
theorem Gl.next {w w' : World} (h : Gl w) (hb : Below w.heap.size w w') : Gl w' := h.below hb h.size
/-- What is told of tokens, one by one. -/
def wevF : Nat → List Gt → List (Wd × Bool)
  | 0, _ => []
  | f + 1, [] => []
  | f + 1, t :: r => ((fiM (t :: r)).1, (fiM (t :: r)).2.2) :: (if (fiM (t :: r)).2.2 then wevF f ((t :: r).drop (fiM (t :: r)).2.1) else [])
def wev (l : List Gt) : List (Wd × Bool) := wevF l.length l
theorem txM_le (a : Gt) : ∀ (l : List Gt) (acc : List UInt8), (txM a acc l).2.1 ≤ l.length
  | [], acc => by simp [txM]
  | t :: r, acc => by
    rw [txM_step]
    have ih := txM_le a r (acc ++ (unqM t.s).1)
    repeat' split
    all_goals (simp; try omega)
theorem fiM_pos (a : Gt) (tl : List Gt) (h : (fiM (a :: tl)).2.2 = true) : 1 ≤ (fiM (a :: tl)).2.1 ∧ (fiM (a :: tl)).2.1 ≤ (a :: tl).length := by
  rw [fiM] at h ⊢
  split
  · rename_i h4
    rw [if_pos h4] at h
    refine ⟨?_, txM_le _ _ _⟩
    rw [txM_step, if_pos h4] at h ⊢
    split
    · rename_i hu
      rw [if_pos hu] at h
      split
      · rename_i hb
        rw [if_pos hb] at h
        cases h
      · rename_i hb
        rw [if_neg hb] at h
        simp only at h ⊢
        rw [if_pos h]; omega
    · rename_i hu
      rw [if_neg hu] at h
      cases h
  · simp
theorem wevF_more : ∀ (f g : Nat) (l : List Gt), l.length ≤ f → l.length ≤ g → wevF f l = wevF g l
  | 0, 0, _, _, _ => rfl
  | 0, g + 1, l, h, _ => by
    obtain rfl : l = [] := List.length_eq_zero_iff.1 (by omega)
    rfl
  | f + 1, 0, l, _, h => by
    obtain rfl : l = [] := List.length_eq_zero_iff.1 (by omega)
    rfl
  | f + 1, g + 1, [], _, _ => rfl
  | f + 1, g + 1, t :: r, hf, hg => by
    rw [wevF, wevF]
    cases hk : (fiM (t :: r)).2.2
    · simp
    · have hp := fiM_pos t r hk
      have := wevF_more f g ((t :: r).drop (fiM (t :: r)).2.1) (by simp at *; omega) (by simp at *; omega)
      simp only [if_true, this]
theorem wev_step (t : Gt) (r : List Gt) : wev (t :: r) = ((fiM (t :: r)).1, (fiM (t :: r)).2.2) :: (if (fiM (t :: r)).2.2 then wev ((t :: r).drop (fiM (t :: r)).2.1) else []) := by
  show wevF (r.length + 1) (t :: r) = _
  rw [wevF]
  cases hk : (fiM (t :: r)).2.2
  · simp
  · have hp := fiM_pos t r hk
    simp only [if_true]
    rw [wevF_more r.length ((t :: r).drop (fiM (t :: r)).2.1).length _ (by simp at *; omega) (Nat.le_refl _)]
    rfl
def encW (x : Wd × Bool) : Array Value := #[wdV x.1, .bool x.2]
theorem below_grown {w w' : World} (h : Below w.heap.size w w') : w.grownBy w' none := ⟨h.os, h.tape, h.output, h.size, fun k hk _ => h.block k hk⟩
theorem abides_below {β : Type} {B C : Nat} {J : β → World → Prop} (hJ : AbidesO B C 0 J) {s : β} {w w' : World} (hs : J s w) (h : Below w.heap.size w w') : J s w' :=
  hJ.turn s w w' none hs (below_grown h) (fun r e => by cases e)
theorem TkG.drop {B : Nat} {W : World} {p : Option Addr} {cap cap' : Nat} {l : List Gt} (h : TkG B W (.slice p l.length cap) l) (k : Nat) (hk : k ≤ l.length) :
    TkG B W (.slice (p.map fun q => ⟨q.block, q.off + k * 6, none⟩) (l.drop k).length cap') (l.drop k) := by
  obtain ⟨p', c', hp, hc⟩ := h
  refine ⟨_, _, rfl, fun i hi => ?_⟩
  have hi' : k + i < l.length := by simp at hi; omega
  obtain ⟨g, o, hp2, hg, c0, c1, c2, c3, c4, c5⟩ := hc (k + i) hi'
  obtain ⟨rfl, _⟩ : p = p' ∧ cap = c' := by simpa using hp
  subst hp2
  have e : o + k * 6 + i * 6 = o + (k + i) * 6 := by omega
  refine ⟨g, o + k * 6, rfl, hg, ?_⟩
  rw [List.getElem_drop, e]
  exact ⟨c0, c1, c2, c3, c4, c5⟩
set_option maxRecDepth 100000 in
set_option maxHeartbeats 400000 in
theorem words_any (p : Option Addr) (len cap : Nat) (w : World) :
    Calls Tryz.prog 72 #[.slice p len cap] w fun e w' => e = .returned (.func (.func 106) #[] #[.pointer (some ⟨w.heap.size, 0, none⟩)]) ∧ w' = w.alloc (.cells #[.slice p len cap] 74) := by
  go_enter Tryz.func72, Tryz.ntmps72
  go_wp2
  go_ret
  exact ⟨rfl, rfl⟩
set_option maxRecDepth 100000 in
set_option maxHeartbeats 4000000 in
theorem words1_in (n : Nat) (h1 : 1 ≤ n) (lp Bd B0 : Nat) (p : Option Addr) (cap : Nat) (l : List Gt) (hl : l.length ≤ 1000000) (hcap : l.length ≤ cap) (hok : ∀ t ∈ l, TokOK t) (J Jx : List (Wd × Bool) → World → Prop) (W : World)
    (hJ : AbidesO W.heap.size W.heap.size 0 J) (hJx : AbidesO W.heap.size W.heap.size 0 Jx)
    (hY : ∀ pre x W1, J pre W1 → W.heap.size + 0 ≤ W1.heap.size → noRow 5 W.heap.size 0 W1 → pre ++ [x] <+: wev l → YieldAt Fence.wide (n - 1) Tryz.prog lp (encW x) W1 fun e W' =>
      (e = .returned (.bool true) ∧ J (pre ++ [x]) W' ∧ KeepsO W.heap.size 0 W1 W' ∧ Below B0 W1 W') ∨ (e = .returned (.bool false) ∧ Jx (pre ++ [x]) W' ∧ KeepsO W.heap.size 0 W1 W'))
    (hB0 : 10 < B0) (hBW : B0 ≤ W.heap.size) (hBd : Boxed W Bd 74 (.slice p l.length cap)) (hT : TkG B0 W (.slice p l.length cap) l) (hgl : Gl W) (h0 : J [] W) :
    CallsIn Fence.wide n Tryz.prog 106 #[.func (.yield lp) #[] #[], .pointer (some ⟨Bd, 0, none⟩)] W fun e W' => (∃ v, e = .returned v) ∧
      (J (wev l) W' ∨ (∃ pre, pre <+: wev l ∧ Jx pre W')) := by
  have hc := hBd.cell
  obtain ⟨full, hfull⟩ : ∃ full, wev l = full := ⟨_, rfl⟩
  rw [hfull]
  rw [hfull] at hY
  have HFU := hide hfull
  have HT := hide hT
  have HOK := hide hok
  have HGL := hide hgl
  clear hfull hT hok hgl
  refine callsIn_of_wp Tryz.func106 rfl trivial ?_ rfl
  simp only [Tryz.ntmps106, List.size_toArray, List.length_cons, List.length_nil, Nat.reduceAdd, Nat.reduceSub, Array.replicate_succ, Array.replicate_zero, List.push_toArray, List.append_toArray, List.nil_append, List.cons_append]
  gi_wp2
  gi_loopw [3] (fun i wr => ∃ (pre : List (Wd × Bool)) (q : Option Addr) (cq : Nat) (rest : List Gt), i = .slice q rest.length cq ∧ rest.length ≤ 1000000 ∧ Hid (∀ t ∈ rest, TokOK t) ∧ Hid (TkG B0 wr (.slice q rest.length cq) rest) ∧ rest.length ≤ cq ∧ Hid (pre ++ wev rest = full) ∧ J pre wr ∧ W.heap.size ≤ wr.heap.size ∧ Hid (Below B0 W wr))
    (fun i wr => match i with | .slice _ n _ => n | _ => 0)
  case atStart => exact ⟨[], p, cap, l, rfl, hl, HOK, HT, hcap, HFU, h0, Nat.le_refl _, Below.refl _ _⟩
  case round =>
    obtain ⟨pre, q, cq, rest, rfl, hr, hrok, hrT, hrc, hpre, hJp, hsz, hbe⟩ := hrel
    match rest, hr, hrok, hrT, hrc, hpre with
    | [], hr, hrok, hrT, hrc, hpre =>
      have hfin : Hid (pre = full) := by
        have := unhide hpre
        rw [Hid]
        simpa [wev, wevF] using this
      gi_wp2
      refine bodyPost_end (results_none (fn := Tryz.f106) rfl _ _ _) rfl ?_
      exact ⟨⟨_, rfl⟩, .inl (unhide hfin ▸ hJp)⟩
    | t :: r, hr, hrok, hrT, hrc, hpre =>
      have hgl2 := (unhide HGL).below (unhide hbe) hB0
      have HF := hide (first_any q cq t r wr hr ((unhide hrT).mono (by omega)) (unhide hrok) hgl2.size hgl2.eg hgl2.sg)
      have hpr := unhide hpre
      rw [wev_step] at hpr
      have hpos := fiM_pos t r
      have HP := hide hpos
      obtain ⟨k, hk⟩ : ∃ k, (t :: r).length = k := ⟨_, rfl⟩
      have hk0 : 0 < k := by rw [← hk]; simp
      have HK := hide hk
      obtain ⟨x, m, ok, hfi⟩ : ∃ x m ok, fiM (t :: r) = (x, m, ok) := ⟨_, _, _, rfl⟩
      rw [hfi] at hpr HF HP
      rw [hk] at HF HP hrT ⊢
      simp only at hpr HF HP
      have HPR := hide hpr
      clear hpos hfi hpr hgl2 hk
      obtain ⟨xk, xs, xv, xt, xf, xl⟩ := x
      simp only [wdV, wdC] at HF
      gi_wp2_with fail
      refine ⟨trivial, ?_⟩
      refine (callsIn_wide.2 (unhide HF)).mono ?_
      rintro e W2 ⟨rfl, hb2⟩
      have hb3 : Below wr.heap.size wr (W2.alloc (.cells #[.int .i64 xk, .string ⟨xs.toArray⟩, .int .i64 xv, .int .i64 xt, .string ⟨xf.toArray⟩, .int .i64 xl] 42)) := hb2.alloc hb2.size _
      have hz3 := hb3.size
      have hJ3 := abides_below hJ hJp hb3
      obtain ⟨fn, tmps, assign, body, hy, hRR⟩ := hY pre (⟨xk, xs, xv, xt, xf, xl⟩, ok) (W2.alloc (.cells #[.int .i64 xk, .string ⟨xs.toArray⟩, .int .i64 xv, .int .i64 xt, .string ⟨xf.toArray⟩, .int .i64 xl] 42)) hJ3 (by omega) (fun j c fz h1 h2 => by omega) ⟨if ok = true then wev ((t :: r).drop m) else [], by rw [← unhide HPR]; simp⟩
      simp only [encW, wdV, wdC] at hy
      have HRR := hide hRR
      have HB3 := hide ((unhide hbe).trans (hb3.mono (by omega)))
      have HBW := hide (hb3.mono (show B0 ≤ wr.heap.size by omega))
      clear hRR hb2 hb3 hJ3
      cases ok
      · have HFI : Hid (pre ++ [(⟨xk, xs, xv, xt, xf, xl⟩, false)] = full) := by simpa [Hid] using unhide HPR
        gi_wp2_with fail
        refine (unhide HRR).mono ?_
        rintro e W5 (⟨rfl, hJ5, hk5, hb5⟩ | ⟨rfl, hJx5, hk5⟩)
        · gi_wp2
          refine bodyPost_ret (results_none rfl _ _ _) rfl ?_
          exact ⟨⟨_, rfl⟩, .inl (by rw [← unhide HFI]; exact hJ5)⟩
        · gi_wp2
          refine bodyPost_ret (results_none rfl _ _ _) rfl ?_
          exact ⟨⟨_, rfl⟩, .inr ⟨_, ⟨[], by rw [List.append_nil]; exact unhide HFI⟩, hJx5⟩⟩
      · have hp2 := unhide HP rfl
        have hm1 : 1 ≤ m := hp2.1
        have hm2 : m ≤ k := hp2.2
        have HFI : Hid (pre ++ [(⟨xk, xs, xv, xt, xf, xl⟩, true)] ++ wev ((t :: r).drop m) = full) := by
          have := unhide HPR
          simp only [if_true] at this
          rw [Hid, ← this]; simp
        clear HP HPR
        gi_wp2_with fail
        refine (unhide HRR).mono ?_
        rintro e W5 (⟨rfl, hJ5, hk5, hb5⟩ | ⟨rfl, hJx5, hk5⟩)
        · have HB5 := hide ((unhide HB3).trans hb5)
          have HBR := hide ((unhide HBW).trans hb5)
          have hz5 := hk5.size
          clear hb5 hk5
          have HTD : Hid (TkG B0 W5 (.slice (if cq = m then q else Option.map (fun x => x.add (m * 6)) q) ((t :: r).drop m).length (cq - m)) ((t :: r).drop m)) := by
            have hT5 : TkG B0 W5 (.slice q (t :: r).length cq) (t :: r) := by
              have e1 := (unhide hrT)
              rw [← unhide HK] at e1
              exact e1.below (unhide HBR)
            by_cases hcm : cq = m
            · have hd : (t :: r).drop m = [] := List.drop_eq_nil_of_le (by omega)
              rw [Hid, hd]
              exact ⟨_, _, rfl, fun i hi => by simp at hi⟩
            · rw [Hid, if_neg hcm]
              have e2 := hT5.drop (cap' := cq - m) m (by have := unhide HK; omega)
              have e3 : (Option.map (fun x : Addr => x.add (m * 6)) q) = (q.map fun q => (⟨q.block, q.off + m * 6, none⟩ : Addr)) := by
                cases hq : q with
                | none => rfl
                | some a =>
                  obtain ⟨p', c', hp, hc'⟩ := hT5
                  obtain ⟨g, o, hp2, _⟩ := hc' 0 (by simp)
                  rw [hq] at hp
                  simp at hp
                  rw [← hp.1] at hp2
                  simp at hp2
                  subst hp2
                  simp [Addr.add]
                  try omega
              rw [e3]
              exact e2
          have hdl : ((t :: r).drop m).length = k - m := by rw [List.length_drop, unhide HK]
          have hkk := unhide HK
          have hr2 : k ≤ 1000000 := by omega
          have hrc2 : k ≤ cq := by omega
          clear hkk
          gi_wp2
          refine ⟨⟨pre ++ [(⟨xk, xs, xv, xt, xf, xl⟩, true)], _, _, (t :: r).drop m, by rw [hdl], by rw [hdl]; omega, fun y hy => unhide hrok y (List.mem_of_mem_drop hy), HTD, by rw [hdl]; omega, HFI, hJ5, by omega, HB5⟩, ?_⟩
          show k - m < k
          omega
        · gi_wp2
          refine bodyPost_ret (results_none rfl _ _ _) rfl ?_
          exact ⟨⟨_, rfl⟩, .inr ⟨_, ⟨_, unhide HFI⟩, hJx5⟩⟩
end Go.Proofs.YtmpkgjonbjpohaaGreatDoor
namespace Go.Proofs.YtmpkgjonbjpohaaGreatDoor
open Go Go.RowKit Go.Shelf
attribute [local go_sem] Oper.semAt_some
set_option linter.unusedVariables false
set_option linter.unusedSimpArgs false

def wdCells (l : List Wd) : List Value := l.flatMap wdC
theorem wdCells_snoc (l : List Wd) (t : Wd) : wdCells (l ++ [t]) = wdCells l ++ wdC t := by simp [wdCells]
theorem wdCells_length (l : List Wd) : (wdCells l).length = l.length * 6 := by
  induction l with
  | nil => rfl
  | cons x l ih => simp [wdCells, wdC] at ih ⊢; omega
theorem Tryz.infoW : (Tryz.prog.info? 42).map (fun i => (i.zero, i.size, i.bytes)) = some (some (.agg #[.int .i64 0, .string ⟨#[]⟩, .int .i64 0, .int .i64 0, .string ⟨#[]⟩, .int .i64 0]), 6, 64) := by kernel_rfl
theorem sixw_cells (W : World) (t : Wd) (ty : TypeId) : ∀ (j : Nat) (u : Value), (wdC t)[j]? = some u → (W.alloc (.cells (wdC t).toArray ty)).cell? ((⟨W.heap.size, 0, none⟩ : Addr).add j) = some u := by
  intro j u h
  unfold wdC at *
  match j, h with
  | 0, h => simp at h; subst h; simp [Addr.add]
  | 1, h => simp at h; subst h; simp [Addr.add]
  | 2, h => simp at h; subst h; simp [Addr.add]
  | 3, h => simp at h; subst h; simp [Addr.add]
  | 4, h => simp at h; subst h; simp [Addr.add]
  | 5, h => simp at h; subst h; simp [Addr.add]
theorem wevF_len : ∀ (f : Nat) (l : List Gt), (wevF f l).length ≤ f
  | 0, _ => by simp [wevF]
  | f + 1, [] => by simp [wevF]
  | f + 1, t :: r => by
    rw [wevF]
    have := wevF_len f ((t :: r).drop (fiM (t :: r)).2.1)
    split
    · simp; omega
    · simp
theorem wev_len (l : List Gt) : (wev l).length ≤ l.length := wevF_len _ _
/-- The words that were told, the error and its place. -/
def wcol : List Wd → List (Wd × Bool) → List Wd × Int × List UInt8 × Int
  | out, [] => (out, 0, [], 0)
  | out, (x, ok) :: r => if ok then wcol (out ++ [x]) r else ([], 70, x.f, x.line)
/-- What Words tells of tokens. -/
def wsM (l : List Gt) : List Wd × Int × List UInt8 × Int := wcol [] (wev l)
theorem words_stops (n : Nat) (h1 : 1 ≤ n) (Bd B0 : Nat) (p : Option Addr) (cap : Nat) (l : List Gt) (hl : l.length ≤ 1000000) (hcap : l.length ≤ cap) (hok : ∀ t ∈ l, TokOK t) (w : World) (hB0 : 10 < B0) (hBw : B0 ≤ w.heap.size) (hb : Boxed w Bd 74 (.slice p l.length cap)) (hT : TkG B0 w (.slice p l.length cap) l) (hgl : Gl w) :
    SeqStopsO Fence.wide n 0 Tryz.prog 106 #[.pointer (some ⟨Bd, 0, none⟩)] encW (Below B0) (wev l) w :=
  fun lp J Jx W hW hJ hJx hY h0 => words1_in n h1 lp Bd B0 p cap l hl hcap hok J Jx W hJ hJx hY hB0 (Nat.le_trans hBw hW.size) (Boxed.below hb hW hb.lt) (hT.below (hW.mono hBw)) (hgl.next hW) h0
/-- What a round of Words hands on; what it leaves when it ends. -/
def WrI (w : World) (full : List (Wd × Bool)) (R : List Wd × Int × List UInt8 × Int) (pre : List (Wd × Bool)) (W : World) : Prop :=
  (∃ v, Boxed W w.heap.size 26 v ∧ W.ownsRow (w.heap.size + 6) 42 6 v pre.length (wdCells (pre.map Prod.fst))) ∧ WBox W (w.heap.size + 1) zW ∧ Boxed W (w.heap.size + 2) 27 (.int .i64 0) ∧
    Below w.heap.size w W ∧ pre.length ≤ 1000000 ∧ Hid (∀ rest, pre ++ rest = full → wcol (pre.map Prod.fst) rest = R)
def WrX (w : World) (R : List Wd × Int × List UInt8 × Int) (id : Nat) (c : Code) (W : World) : Prop :=
  c = .exit id ∧ ∃ x : Wd, Boxed W w.heap.size 26 (.slice none 0 0) ∧ WBox W (w.heap.size + 1) x ∧ Boxed W (w.heap.size + 2) 27 (.int .i64 70) ∧ Below w.heap.size w W ∧ Hid (R = ([], 70, x.f, x.line))
theorem WBox.turn {W W' : World} {row : Option Nat} {b : Nat} {x : Wd} (h : WBox W b x) (hg : W.grownBy W' row) (hr : ∀ r, row = some r → b < r) : WBox W' b x :=
  (hg.block b h.lt (fun e => by have := hr b e.symm; omega)).trans h
theorem Boxed.drewB {W : World} {b : Nat} {t : TypeId} {v : Value} (h : Boxed W b t v) : Boxed W.drew b t v := h
theorem WBox.drewB {W : World} {b : Nat} {x : Wd} (h : WBox W b x) : WBox W.drew b x := h
theorem Boxed.put6 {W : World} {j b : Nat} {t : TypeId} {v : Value} (h : Boxed W j t v) (hne : j ≠ b) (a0 a1 a2 a3 a4 a5 : Value) : Boxed (put6 W b a0 a1 a2 a3 a4 a5) j t v := by
  unfold Go.Proofs.YtmpkgjonbjpohaaGreatDoor.put6
  exact Boxed.setCell (Boxed.setCell (Boxed.setCell (Boxed.setCell (Boxed.setCell (Boxed.setCell h hne _) hne _) hne _) hne _) hne _) hne _
theorem WBox.put6 {W : World} {b : Nat} {z x : Wd} (h : WBox W b z) : WBox (put6 W b (.int .i64 x.kind) (.string ⟨x.s.toArray⟩) (.int .i64 x.v) (.int .i64 x.t) (.string ⟨x.f.toArray⟩) (.int .i64 x.line)) b x := sixw_set h _ _ _ _ _ _
theorem keepsO_put6 {B k b : Nat} (W : World) (hb : b < B) (a0 a1 a2 a3 a4 a5 : Value) : KeepsO B k W (put6 W b a0 a1 a2 a3 a4 a5) := by
  have h : ∀ (W : World) (i : Nat) (v : Value), KeepsO B k W (W.setCell ⟨b, i, none⟩ v) := fun W i v => KeepsO.grown (grown_set W b i v) (fun r e => .inl (by cases e; omega))
  unfold Go.Proofs.YtmpkgjonbjpohaaGreatDoor.put6
  exact (((((h _ 0 _).trans (h _ 1 _)).trans (h _ 2 _)).trans (h _ 3 _)).trans (h _ 4 _)).trans (h _ 5 _)
theorem keepsFrom_put6 {B b : Nat} (W : World) (a0 a1 a2 a3 a4 a5 : Value) : KeepsFrom B W (put6 W b a0 a1 a2 a3 a4 a5) := by
  have h : ∀ (W : World) (i : Nat) (v : Value), KeepsFrom B W (W.setCell ⟨b, i, none⟩ v) := fun W i v => (KeepsOthers.setCell _ _ _).from _
  unfold Go.Proofs.YtmpkgjonbjpohaaGreatDoor.put6
  exact (((((h _ 0 _).trans (h _ 1 _)).trans (h _ 2 _)).trans (h _ 3 _)).trans (h _ 4 _)).trans (h _ 5 _)
theorem results_tmp4 {fn : Func} {t u v x : Tmp} (h : fn.results = #[.tmp t, .tmp u, .tmp v, .tmp x]) (tmps : Array Value) (P : Program) (w : World) :
    (results fn tmps).run P w = .ok (.tuple #[tmps.getD t undef, tmps.getD u undef, tmps.getD v undef, tmps.getD x undef]) w := by
  simp [results, h]
theorem WrI.abides (w : World) (full : List (Wd × Bool)) (R : List Wd × Int × List UInt8 × Int) : AbidesO (w.heap.size + 4) (w.heap.size + 6) 0 (WrI w full R) := by
  refine ⟨fun pre X Y row hs hg hr => ?_, fun pre X hs => ?_⟩
  · obtain ⟨⟨v, h1, h2⟩, h3, h4, h6, h7, h8⟩ := hs
    have hr' : ∀ r, row = some r → w.heap.size + 4 ≤ r := fun r e => (hr r e).1
    refine ⟨⟨v, Boxed.turn h1 hg (fun r e => by have := hr' r e; omega), h2.kept hg ?_⟩, h3.turn hg (fun r e => by have := hr' r e; omega), Boxed.turn h4 hg (fun r e => by have := hr' r e; omega), h6.grown hg h6.size (fun r e => by have := hr' r e; omega), h7, h8⟩
    rcases h2.2 with ⟨rfl, _⟩ | ⟨g, cap, cur, rfl, hbg, hgb, _⟩
    · exact .inl rfl
    · refine .inr fun e' => ?_
      rcases (hr g (by simpa [Value.ownBlock] using e'.symm)).2 with h | ⟨o, ho, hc⟩
      · omega
      · rw [hgb] at ho; cases ho; cases hc
  · obtain ⟨⟨v, h1, h2⟩, h3, h4, h6, h7, h8⟩ := hs
    exact ⟨⟨v, h1, h2.drew⟩, h3, h4, h6.drew, h7, h8⟩
theorem WrX.abides (w : World) (R : List Wd × Int × List UInt8 × Int) (id : Nat) (c : Code) : AbidesO (w.heap.size + 4) (w.heap.size + 6) 0 (fun (_ : List (Wd × Bool)) W => WrX w R id c W) := by
  refine ⟨fun pre X Y row hs hg hr => ?_, fun pre X hs => ?_⟩
  · obtain ⟨rfl, x, h3, h4, h5, h6, h7⟩ := hs
    have hr' : ∀ r, row = some r → w.heap.size + 4 ≤ r := fun r e => (hr r e).1
    exact ⟨rfl, x, Boxed.turn h3 hg (fun r e => by have := hr' r e; omega), h4.turn hg (fun r e => by have := hr' r e; omega), Boxed.turn h5 hg (fun r e => by have := hr' r e; omega), h6.grown hg h6.size (fun r e => by have := hr' r e; omega), h7⟩
  · obtain ⟨rfl, x, h3, h4, h5, h6, h7⟩ := hs
    exact ⟨rfl, x, h3, h4, h5, h6.drew, h7⟩
set_option maxRecDepth 100000 in
set_option maxHeartbeats 4000000 in
theorem Words_any (p : Option Addr) (cap : Nat) (l : List Gt) (w : World) (hl : l.length ≤ 1000000) (hcap : l.length ≤ cap) (hT : TkG w.heap.size w (.slice p l.length cap) l) (hok : ∀ t ∈ l, TokOK t) (hgl : Gl w) :
    Calls Tryz.prog 37 #[.slice p l.length cap] w fun e w' => ∃ v', e = .returned (.tuple #[v', .int .i64 (wsM l).2.1, .string ⟨(wsM l).2.2.1.toArray⟩, .int .i64 (wsM l).2.2.2]) ∧
      w'.ownsRow w.heap.size 42 6 v' (wsM l).1.length (wdCells (wsM l).1) ∧ Below w.heap.size w w' := by
  have HT := hide hT
  have HOK := hide hok
  have HGL := hide hgl
  have hgs := hgl.size
  obtain ⟨R, hR0⟩ : ∃ R, wsM l = R := ⟨_, rfl⟩
  rw [hR0]
  have HR0 := hide hR0
  clear hR0 hT hok hgl
  refine (callsIn_wide (n := 4)).1 ?_
  refine callsIn_of_wp_marks Tryz.func37 rfl trivial ?_ rfl
  simp only [Tryz.ntmps37, List.size_toArray, List.length_cons, List.length_nil, Nat.reduceAdd, Nat.reduceSub, Array.replicate_succ, Array.replicate_zero, List.push_toArray, List.append_toArray, List.nil_append, List.cons_append]
  gi_wp2
  refine wpIn_scope_straight ?_
  gi_wp2
  refine wpIn_label ?_
  gi_wp2_with (refine ⟨trivial, ?_⟩; gi_at_call 72; refine (callsIn_wide.2 (words_any p l.length cap _)).mono ?_; rintro e w' ⟨rfl, rfl⟩)
  have b0 : Boxed ((((w.alloc (.cells #[.slice none 0 0] 26)).alloc (.cells #[.int .i64 0, .string ⟨#[]⟩, .int .i64 0, .int .i64 0, .string ⟨#[]⟩, .int .i64 0] 42)).alloc (.cells #[.int .i64 0] 27)).alloc (.cells #[.slice p l.length cap] 74)) w.heap.size 26 (.slice none 0 0) := (((Boxed.new w 26 _).alloc _).alloc _).alloc _
  have b1 : WBox ((((w.alloc (.cells #[.slice none 0 0] 26)).alloc (.cells #[.int .i64 0, .string ⟨#[]⟩, .int .i64 0, .int .i64 0, .string ⟨#[]⟩, .int .i64 0] 42)).alloc (.cells #[.int .i64 0] 27)).alloc (.cells #[.slice p l.length cap] 74)) (w.heap.size + 1) zW := by
    have := (WBox.below (WBox.below (WBox.new (w.alloc (.cells #[.slice none 0 0] 26)) zW) (below_new _ (.cells #[.int .i64 0] 27)) (by simp)) (below_new _ (.cells #[.slice p l.length cap] 74)) (by simp))
    rwa [World.size_alloc] at this
  have b2 : Boxed ((((w.alloc (.cells #[.slice none 0 0] 26)).alloc (.cells #[.int .i64 0, .string ⟨#[]⟩, .int .i64 0, .int .i64 0, .string ⟨#[]⟩, .int .i64 0] 42)).alloc (.cells #[.int .i64 0] 27)).alloc (.cells #[.slice p l.length cap] 74)) (w.heap.size + 2) 27 (.int .i64 0) := by
    have := (Boxed.new ((w.alloc (.cells #[.slice none 0 0] 26)).alloc (.cells #[.int .i64 0, .string ⟨#[]⟩, .int .i64 0, .int .i64 0, .string ⟨#[]⟩, .int .i64 0] 42)) 27 (.int .i64 0)).alloc (.cells #[.slice p l.length cap] 74)
    rwa [World.size_alloc, World.size_alloc] at this
  have b3 : Boxed ((((w.alloc (.cells #[.slice none 0 0] 26)).alloc (.cells #[.int .i64 0, .string ⟨#[]⟩, .int .i64 0, .int .i64 0, .string ⟨#[]⟩, .int .i64 0] 42)).alloc (.cells #[.int .i64 0] 27)).alloc (.cells #[.slice p l.length cap] 74)) (w.heap.size + 3) 74 (.slice p l.length cap) := by
    have := Boxed.new (((w.alloc (.cells #[.slice none 0 0] 26)).alloc (.cells #[.int .i64 0, .string ⟨#[]⟩, .int .i64 0, .int .i64 0, .string ⟨#[]⟩, .int .i64 0] 42)).alloc (.cells #[.int .i64 0] 27)) 74 (.slice p l.length cap)
    rwa [World.size_alloc, World.size_alloc, World.size_alloc] at this
  have hz : ((((w.alloc (.cells #[.slice none 0 0] 26)).alloc (.cells #[.int .i64 0, .string ⟨#[]⟩, .int .i64 0, .int .i64 0, .string ⟨#[]⟩, .int .i64 0] 42)).alloc (.cells #[.int .i64 0] 27)).alloc (.cells #[.slice p l.length cap] 74)).heap.size = w.heap.size + 4 := by simp
  have hbe : Below w.heap.size w ((((w.alloc (.cells #[.slice none 0 0] 26)).alloc (.cells #[.int .i64 0, .string ⟨#[]⟩, .int .i64 0, .int .i64 0, .string ⟨#[]⟩, .int .i64 0] 42)).alloc (.cells #[.int .i64 0] 27)).alloc (.cells #[.slice p l.length cap] 74)) := ((((Below.refl _ w).alloc (Nat.le_refl _) _).alloc (by simp) _).alloc (by simp; omega) _).alloc (by simp; omega) _
  generalize ((((w.alloc (.cells #[.slice none 0 0] 26)).alloc (.cells #[.int .i64 0, .string ⟨#[]⟩, .int .i64 0, .int .i64 0, .string ⟨#[]⟩, .int .i64 0] 42)).alloc (.cells #[.int .i64 0] 27)).alloc (.cells #[.slice p l.length cap] 74)) = W0 at *
  refine wpIn_rangeFunc_ownA (k := 0) rfl (by decide) (gf := 106) (lb := #[.pointer (some ⟨w.heap.size + 1 + 1 + 1, 0, none⟩)]) rfl trivial (enters_of Tryz.func106 (by kernel_rfl) rfl)
    (words_stops 3 (by decide) (w.heap.size + 3) w.heap.size p cap l hl hcap (unhide HOK) W0 hgs (by omega) b3 ((unhide HT).below hbe) ((unhide HGL).below hbe hgs)) Below.trans (fun W lb o o' hlb hlo _ _ => ?kb)
    (fun W o hW => (Below.refl _ W).alloc (by omega) o) (Below.refl _ _) (fun _ => rfl)
    (WrI w (wev l) R) (fun c _ W => WrX w R 0 c W) (by rw [hz]; exact WrI.abides w _ R) (fun c => by rw [hz]; exact WrX.abides w R 0 c)
    ⟨⟨_, b0, World.ownsRow_nil _ _ _ _⟩, b1, b2, hbe, by simp, fun rest h => by rw [List.nil_append] at h; rw [h]; exact unhide HR0⟩
    (fun x => .cells (wdC x.1).toArray 42)
    (fun x A => { tmps := #[.slice p l.length cap, undef, .slice none 0 0, .int .i64 0, .string ⟨#[]⟩, .int .i64 0, .pointer (some ⟨w.heap.size, 0, none⟩), .pointer (some ⟨w.heap.size + 1, 0, none⟩), .pointer (some ⟨w.heap.size + 1 + 1, 0, none⟩), .pointer (some ⟨A, 0, none⟩), .bool x.2, .slice p l.length cap, .func (.func 106) #[] #[.pointer (some ⟨w.heap.size + 1 + 1 + 1, 0, none⟩)], wdV x.1, .bool x.2, undef, undef, undef, undef, undef, undef, undef, undef, undef, undef, undef, undef, undef], defers := [] })
    ?assign ?body ?done ?stop
  case kb =>
    have hlt := (Array.getElem?_eq_some_iff.1 hlo).1
    exact (Below.refl _ W).grown (grownBy_putObj' W lb o') (by omega) (fun r e => by cases e; omega)
  case assign =>
    intro l' x W' K hK
    simp only [encW, wdV, wdC] at hK ⊢
    gi_wp2
    simpa using hK
  case body =>
    rintro l' pre ⟨⟨xk, xs, xv, xt, xf, xl⟩, ok⟩ W1 A hA hAo hno ⟨⟨v, c0, hrow⟩, c1, c2, hbe1, hlen, hcol⟩ hpre
    rw [hz] at hA hno
    obtain ⟨rest, hrest⟩ := hpre
    have hcol1 := unhide hcol ((⟨xk, xs, xv, xt, xf, xl⟩, ok) :: rest) (by rw [← hrest]; simp)
    have hAw : WBox W1 A ⟨xk, xs, xv, xt, xf, xl⟩ := hAo
    obtain ⟨a0, a1, a2, a3, a4, a5⟩ := WBox.six hAw
    have hAlt := hAw.lt
    have hplen : pre.length + 1 ≤ 1000000 := by
      have h1 := congrArg List.length hrest
      have h2 := wev_len l
      simp at h1
      omega
    have HCO := hide hcol1
    have HRE := hide hrest
    clear hcol1 hrest hcol
    have d0 := c0.cell
    have e0 := c0.frozen
    have d2 := c2.cell
    have e2 := c2.frozen
    obtain ⟨y0, y1, y2, y3, y4, y5⟩ := WBox.six c1
    have z0 := WBox.frozen c1 0
    have z1 := WBox.frozen c1 1
    have z2 := WBox.frozen c1 2
    have z3 := WBox.frozen c1 3
    have z4 := WBox.frozen c1 4
    have z5 := WBox.frozen c1 5
    have hzl : ∃ q cp, v = .slice q pre.length cp := by
      rcases hrow.2 with ⟨rfl, h0⟩ | ⟨g, cp, cur, rfl, _⟩
      · exact ⟨none, 0, by rw [h0]⟩
      · exact ⟨_, _, rfl⟩
    obtain ⟨q, cp, rfl⟩ := hzl
    have hK0 : KeepsO (W0.heap.size + 2) 0 W1 ((put6 (W1.setCell ⟨w.heap.size, 0, none⟩ (.slice none 0 0)) (w.heap.size + 1) (.int .i64 xk) (.string ⟨xs.toArray⟩) (.int .i64 xv) (.int .i64 xt) (.string ⟨xf.toArray⟩) (.int .i64 xl)).setCell ⟨w.heap.size + 1 + 1, 0, none⟩ (.int .i64 70)).drew := KeepsO.trans (KeepsO.trans (KeepsO.trans (KeepsO.setCell (.inl (by omega))) (keepsO_put6 _ (by omega) _ _ _ _ _ _)) (KeepsO.setCell (.inl (by omega)))) (KeepsO.drew _)
    have hKF : KeepsFrom W0.heap.size W1 ((put6 (W1.setCell ⟨w.heap.size, 0, none⟩ (.slice none 0 0)) (w.heap.size + 1) (.int .i64 xk) (.string ⟨xs.toArray⟩) (.int .i64 xv) (.int .i64 xt) (.string ⟨xf.toArray⟩) (.int .i64 xl)).setCell ⟨w.heap.size + 1 + 1, 0, none⟩ (.int .i64 70)).drew := KeepsFrom.trans (KeepsFrom.trans (KeepsFrom.trans ((KeepsOthers.setCell _ _ _).from _) (keepsFrom_put6 _ _ _ _ _ _ _)) ((KeepsOthers.setCell _ _ _).from _)) ((KeepsOthers.drew _).from _)
    have x0 : Boxed ((put6 (W1.setCell ⟨w.heap.size, 0, none⟩ (.slice none 0 0)) (w.heap.size + 1) (.int .i64 xk) (.string ⟨xs.toArray⟩) (.int .i64 xv) (.int .i64 xt) (.string ⟨xf.toArray⟩) (.int .i64 xl)).setCell ⟨w.heap.size + 1 + 1, 0, none⟩ (.int .i64 70)) w.heap.size 26 (.slice none 0 0) := Boxed.setCell (Boxed.put6 (Boxed.set _ c0) (by omega) _ _ _ _ _ _) (by omega) _
    have x1 : WBox ((put6 (W1.setCell ⟨w.heap.size, 0, none⟩ (.slice none 0 0)) (w.heap.size + 1) (.int .i64 xk) (.string ⟨xs.toArray⟩) (.int .i64 xv) (.int .i64 xt) (.string ⟨xf.toArray⟩) (.int .i64 xl)).setCell ⟨w.heap.size + 1 + 1, 0, none⟩ (.int .i64 70)) (w.heap.size + 1) ⟨xk, xs, xv, xt, xf, xl⟩ := WBox.setCell (WBox.put6 (x := ⟨xk, xs, xv, xt, xf, xl⟩) (WBox.setCell c1 (by omega) _)) (by omega) _
    have x2 : Boxed ((put6 (W1.setCell ⟨w.heap.size, 0, none⟩ (.slice none 0 0)) (w.heap.size + 1) (.int .i64 xk) (.string ⟨xs.toArray⟩) (.int .i64 xv) (.int .i64 xt) (.string ⟨xf.toArray⟩) (.int .i64 xl)).setCell ⟨w.heap.size + 1 + 1, 0, none⟩ (.int .i64 70)) (w.heap.size + 2) 27 (.int .i64 70) := Boxed.set _ (Boxed.put6 (Boxed.setCell c2 (by omega) _) (by omega) _ _ _ _ _ _)
    have x3 : Below w.heap.size w ((put6 (W1.setCell ⟨w.heap.size, 0, none⟩ (.slice none 0 0)) (w.heap.size + 1) (.int .i64 xk) (.string ⟨xs.toArray⟩) (.int .i64 xv) (.int .i64 xt) (.string ⟨xf.toArray⟩) (.int .i64 xl)).setCell ⟨w.heap.size + 1 + 1, 0, none⟩ (.int .i64 70)) := (below_put6 (hbe1.setCell (p := ⟨w.heap.size, 0, none⟩) (Nat.le_refl _) _) (by omega) _ _ _ _ _ _).setCell (p := ⟨w.heap.size + 1 + 1, 0, none⟩) (by show _ ≤ w.heap.size + 1 + 1; omega) _
    have hX : ok = false → WrX w R 0 (.exit 0) ((put6 (W1.setCell ⟨w.heap.size, 0, none⟩ (.slice none 0 0)) (w.heap.size + 1) (.int .i64 xk) (.string ⟨xs.toArray⟩) (.int .i64 xv) (.int .i64 xt) (.string ⟨xf.toArray⟩) (.int .i64 xl)).setCell ⟨w.heap.size + 1 + 1, 0, none⟩ (.int .i64 70)).drew := fun hok => by
      refine ⟨rfl, ⟨xk, xs, xv, xt, xf, xl⟩, Boxed.drewB x0, WBox.drewB x1, Boxed.drewB x2, drewB x3, ?_⟩
      have := unhide HCO
      rw [hok, wcol] at this
      simpa [Hid] using this.symm
    clear x0 x1 x2 x3
    unfold put6 at hK0 hKF hX
    have HK0 := hide hK0
    have HKF := hide hKF
    have HX := hide hX
    clear hK0 hKF hX
    cases ok
    · gi_wp2
      gi_region
      all_goals (
        gi_wp2
        exact ⟨unhide HKF, unhide HK0, unhide HX trivial⟩)
    · have hcolN : Hid (∀ rest', (pre ++ [((⟨xk, xs, xv, xt, xf, xl⟩ : Wd), true)]) ++ rest' = wev l → wcol ((pre ++ [((⟨xk, xs, xv, xt, xf, xl⟩ : Wd), true)]).map Prod.fst) rest' = R) := by
        intro rest' h
        have e1 := unhide HRE
        rw [← e1] at h
        have e2 := List.append_cancel_left h
        subst e2
        have := unhide HCO
        rw [wcol, if_pos rfl] at this
        simpa using this
      obtain ⟨i0, hi, hz0, hz1, hz2'⟩ := info_parts Tryz.infoW
      have hrowa : (W1.alloc (.cells (wdC ⟨xk, xs, xv, xt, xf, xl⟩).toArray 42)).ownsRow (w.heap.size + 6) 42 6 (.slice q pre.length cp) pre.length (wdCells (pre.map Prod.fst)) := hrow.alloc _
      have hzW : w.heap.size + 6 ≤ W1.heap.size := by omega
      simp only [wdV, wdC]
      gi_wp2_with (gi_at_builtin; refine wpListIn_append_own _ rfl _ _ 26 rfl (w.heap.size + 6) 42 i0 _ 6 64 Tryz.underlying26 hi hz0 hz1 hz2' rfl (by decide) _ _ _ rfl hrowa ⟨W1.heap.size, 0, none⟩ 1 1 (wdC ⟨xk, xs, xv, xt, xf, xl⟩) rfl rfl (sixw_cells W1 ⟨xk, xs, xv, xt, xf, xl⟩ 42) ?c2 ?c3 ?c4 ?c5 ?_)
      case c2 => intro u hu; simp [wdC] at hu; rcases hu with rfl | rfl | rfl | rfl | rfl | rfl <;> rfl
      case c3 => unfold maxLen; omega
      case c4 => omega
      case c5 => omega
      intro v' W5 hown' hgrow _
      obtain ⟨g', cap', rfl⟩ := ownsRow_succ hown'
      have p0 : Boxed W5 w.heap.size 26 (.slice q pre.length cp) := Boxed.row (c0.alloc _) hrowa hgrow (by omega)
      have p2 : Boxed W5 (w.heap.size + 2) 27 (.int .i64 0) := Boxed.row (c2.alloc _) hrowa hgrow (by omega)
      have p1 : WBox W5 (w.heap.size + 1) zW := (WBox.below c1 (below_new W1 _) c1.lt).turn hgrow (fun r e => by have := (row_turn hrowa r e).1; omega)
      have pb : Below w.heap.size w W5 := (hbe1.alloc hbe1.size _).grown hgrow (by simp; omega) (fun r e => by have := (row_turn hrowa r e).1; omega)
      have pko : KeepsO (W0.heap.size + 2) 0 W1 W5 := (KeepsO.alloc W1 _).trans (KeepsO.rowG hrowa hgrow (by omega))
      have pkf : KeepsFrom W0.heap.size W1 W5 := ((KeepsOthers.alloc W1 _).from _).trans (KeepsFrom.rowG hrowa hgrow)
      have pk : Below w.heap.size W1 W5 := ((Below.refl _ W1).alloc (by omega) _).grown hgrow (by simp; omega) (fun r e => by have := (row_turn hrowa r e).1; omega)
      have p0c := p0.cell
      have p0f := p0.frozen
      gi_wp2
      refine ⟨pkf.trans ((KeepsOthers.setCell _ _ _).from _), pko.trans (KeepsO.setCell (.inl (by omega))), pk.setCell (p := ⟨w.heap.size, 0, none⟩) (Nat.le_refl _) _, ⟨_, Boxed.set _ p0, ?_⟩, p1.setCell (by omega) _, Boxed.setCell p2 (by omega) _, pb.setCell (p := ⟨w.heap.size, 0, none⟩) (Nat.le_refl _) _, by simp; omega, hcolN⟩
      have := ownsRow_setCell (b := w.heap.size) (i := 0) hown' (by omega) (.slice (some ⟨g', 0, none⟩) (pre.length + 1) cap')
      rw [List.map_append, List.map_cons, List.map_nil, wdCells_snoc]
      simpa using this
  case done =>
    rintro D W' hD ⟨⟨v, c0, hrow⟩, c1, c2, hbe1, hlen, hcol⟩ hK
    have hRR := hide (unhide hcol [] (by simp))
    have d0 := c0.cell
    have d2 := c2.cell
    obtain ⟨y0, y1, y2, y3, y4, y5⟩ := WBox.six c1
    have hzl : ∃ q cp n, v = .slice q n cp := by
      rcases hrow.2 with ⟨rfl, h0⟩ | ⟨g, cp, cur, rfl, _⟩
      · exact ⟨none, 0, 0, rfl⟩
      · exact ⟨_, _, _, rfl⟩
    obtain ⟨q, cp, nn, rfl⟩ := hzl
    have hKlt := (Array.getElem?_eq_some_iff.1 hK).1
    simp only [zW] at y4 y5
    have HQ := hide hrow
    have HBB := hide hbe1
    have HK := hide hK
    gi_wp2
    gi_region
    all_goals (
      gi_wp2
      have hK' : W'.drew.heap[D]? = some (.deferred (some [])) := unhide HK
      have hr' : W'.drew.ownsRow (w.heap.size + 6) 42 6 (.slice q nn cp) _ _ := (unhide HQ).drew
      have hb' : Below w.heap.size w W'.drew := drewB (unhide HBB)
      generalize W'.drew = W6 at *
      refine ⟨by simp, .inl ⟨_, _, rfl, run_takeDeferred hK', ?_⟩⟩
      rw [← unhide hRR, wcol]
      refine ⟨_, results_tmp4 (fn := Tryz.f37) rfl _ _ _, .slice q nn cp, rfl, ?_, ?_⟩
      · have := ownsRow_base (ownsRow_putObj hr' (.deferred none) hK' rfl) (by omega : w.heap.size ≤ w.heap.size + 6)
        simpa using this
      · exact hb'.grown (grownBy_putObj' W6 D _) hb'.size (fun r e => by cases e; omega))
  case stop =>
    rintro D c pre W' hD _ ⟨rfl, x, c0, c1, c2, hbe1, hR⟩ hK
    have d0 := c0.cell
    have d2 := c2.cell
    obtain ⟨y0, y1, y2, y3, y4, y5⟩ := WBox.six c1
    have hKlt := (Array.getElem?_eq_some_iff.1 hK).1
    have HBB := hide hbe1
    have HK := hide hK
    gi_wp2
    gi_region
    all_goals (
      gi_wp2
      have hK' : W'.drew.heap[D]? = some (.deferred (some [])) := unhide HK
      have hb' : Below w.heap.size w W'.drew := drewB (unhide HBB)
      generalize W'.drew = W6 at *
      refine ⟨by simp, .inl ⟨_, _, rfl, run_takeDeferred hK', ?_⟩⟩
      rw [unhide hR]
      refine ⟨_, results_tmp4 (fn := Tryz.f37) rfl _ _ _, .slice none 0 0, rfl, World.ownsRow_nil _ _ _ _, ?_⟩
      exact hb'.grown (grownBy_putObj' W6 D _) hb'.size (fun r e => by cases e; omega))
end Go.Proofs.YtmpkgjonbjpohaaGreatDoor
namespace Go.Proofs.YtmpkgjonbjpohaaGreatDoor
open Go Go.RowKit
set_option linter.unusedVariables false
set_option linter.unusedSimpArgs false

/-- A slice value that reads as these words, in a block below B. -/
def WdG (B : Nat) (W : World) (v : Value) (l : List Wd) : Prop :=
  ∃ p cap, v = .slice p l.length cap ∧ ∀ (i : Nat) (h : i < l.length), ∃ g o, p = some ⟨g, o, none⟩ ∧ g < B ∧
    W.cell? ⟨g, o + i * 6, none⟩ = some (.int .i64 l[i].kind) ∧ W.cell? ⟨g, o + i * 6 + 1, none⟩ = some (.string ⟨l[i].s.toArray⟩) ∧ W.cell? ⟨g, o + i * 6 + 2, none⟩ = some (.int .i64 l[i].v) ∧
    W.cell? ⟨g, o + i * 6 + 3, none⟩ = some (.int .i64 l[i].t) ∧ W.cell? ⟨g, o + i * 6 + 4, none⟩ = some (.string ⟨l[i].f.toArray⟩) ∧ W.cell? ⟨g, o + i * 6 + 5, none⟩ = some (.int .i64 l[i].line)
theorem WdG.below {B : Nat} {W W' : World} {v : Value} {l : List Wd} (h : WdG B W v l) (hb : Below B W W') : WdG B W' v l := by
  obtain ⟨p, cap, rfl, hc⟩ := h
  refine ⟨p, cap, rfl, fun i hi => ?_⟩
  obtain ⟨g, o, rfl, h1, c0, c1, c2, c3, c4, c5⟩ := hc i hi
  have key : ∀ j u, W.cell? ⟨g, j, none⟩ = some u → W'.cell? ⟨g, j, none⟩ = some u := fun j u hu => (hb.cell (p := ⟨g, j, none⟩) h1).trans hu
  exact ⟨g, o, rfl, h1, key _ _ c0, key _ _ c1, key _ _ c2, key _ _ c3, key _ _ c4, key _ _ c5⟩
theorem WdG.mono {B B' : Nat} {W : World} {v : Value} {l : List Wd} (h : WdG B W v l) (hb : B ≤ B') : WdG B' W v l := by
  obtain ⟨p, cap, rfl, hc⟩ := h
  refine ⟨p, cap, rfl, fun i hi => ?_⟩
  obtain ⟨g, o, rfl, h1, hr⟩ := hc i hi
  exact ⟨g, o, rfl, by omega, hr⟩
theorem wdCells_at : ∀ (l : List Wd) (i : Nat) (h : i < l.length) (j : Nat), j < 6 → (wdCells l)[i * 6 + j]? = (wdC l[i])[j]?
  | [], i, h, _, _ => by simp at h
  | x :: r, 0, h, j, hj => by
    show (wdC x ++ wdCells r)[0 * 6 + j]? = (wdC x)[j]?
    rw [Nat.zero_mul, Nat.zero_add]
    exact List.getElem?_append_left hj
  | x :: r, i + 1, h, j, hj => by
    have hi : i < r.length := by simpa using h
    have := wdCells_at r i hi j hj
    show (wdC x ++ wdCells r)[(i + 1) * 6 + j]? = (wdC r[i])[j]?
    rw [← this, show (i + 1) * 6 + j = (wdC x).length + (i * 6 + j) by simp [wdC]; omega, List.getElem?_append_right (by omega)]
    congr 1
    omega
theorem WdG.of {W : World} {base n : Nat} {v : Value} {L : List Wd} (h : W.ownsRow base 42 6 v n (wdCells L)) (hn : n = L.length) : WdG W.heap.size W v L := by
  subst hn
  have hc : ∀ {g : Nat}, v.ownBlock = some g → ∀ j u, (wdCells L)[j]? = some u → W.cell? ((⟨g, 0, none⟩ : Addr).add j) = some u := fun hg => h.cells hg
  have hlt := h.lt
  rcases h.2 with ⟨rfl, h0⟩ | ⟨g, cap, cur, rfl, hbg, _⟩
  · exact ⟨none, 0, by rw [h0], fun i hi => by omega⟩
  · refine ⟨some ⟨g, 0, none⟩, cap, rfl, fun i hi => ⟨g, 0, rfl, (hlt g rfl).2, ?_⟩⟩
    have key : ∀ j u, j < 6 → (wdC L[i])[j]? = some u → W.cell? ⟨g, 0 + i * 6 + j, none⟩ = some u := fun j u hj hu => by
      have := hc (g := g) rfl (i * 6 + j) u (by rw [wdCells_at L i hi j hj]; exact hu)
      rw [add_row'] at this; rw [Nat.zero_add]; exact this
    exact ⟨key 0 _ (by decide) rfl, key 1 _ (by decide) rfl, key 2 _ (by decide) rfl, key 3 _ (by decide) rfl, key 4 _ (by decide) rfl, key 5 _ (by decide) rfl⟩
/-- A line's tokens. -/
def lx (s : List UInt8) : List Gt := (Tk.lex [(1, s)]).1.map Tk.T.g
theorem lx_len (s : List UInt8) : (lx s).length ≤ 1000000 := by
  have := Tk.lex_len [(1, s)]
  unfold lx; simp; omega
theorem lx_bytes (s : List UInt8) : ∀ t ∈ lx s, t.s.length ≤ s.length ∧ ∀ c ∈ t.s, c ∈ s := by
  intro t ht
  obtain ⟨x, hx, rfl⟩ := List.mem_map.1 ht
  have := Tk.lex_infix hx
  exact ⟨this.length_le, fun c hc => this.subset hc⟩
theorem numM_ne {s : List UInt8} (h : (numM s).2 = true) : s ≠ [] := by
  rintro rfl
  exact absurd h (by decide)
theorem tokOK_ascii (t : Gt) (hl : t.s.length < 4294967281) (h : ∀ c ∈ t.s, c.toNat < 128) : TokOK t :=
  ⟨by omega, fun _ _ => caOK_ascii _ _ _ hl h (by decide) (by decide), fun _ hn => ⟨numM_ne hn, caOK_ascii _ _ _ hl h (by decide) (by decide), caOK_ascii _ _ _ hl h (by decide) (by decide)⟩⟩
end Go.Proofs.YtmpkgjonbjpohaaGreatDoor
