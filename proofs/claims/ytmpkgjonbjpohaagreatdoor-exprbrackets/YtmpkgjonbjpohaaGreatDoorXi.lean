/-
  Package lex: words, the iterator over the words of tokens.
-/
import Derived.Test.YtmpkgjonbjpohaaGreatDoorXh
import Derived.Test.YtmpkgjonbjpohaaGreatDoorQ6
namespace Go.Proofs.YtmpkgjonbjpohaaGreatDoor
open Go Go.RowKit Go.Shelf
attribute [local go_sem] Oper.semAt_some
set_option linter.unusedVariables false
set_option linter.unusedSimpArgs false

/-- The package variables that are read: the two errors, the table of signs. -/
structure Gl (w : World) : Prop where
  size : 10 < w.heap.size
  eg : Eg w
  sg : Sg w
theorem Gl.below {w w' : World} {B : Nat} (h : Gl w) (hb : Below B w w') (hB : 10 < B) : Gl w' :=
  ⟨Nat.lt_of_lt_of_le h.size hb.size, h.eg.below hb hB, Sg.below h.sg hb hB⟩
theorem Gl.next {w w' : World} (h : Gl w) (hb : Below w.heap.size w w') : Gl w' := h.below hb h.size
/-- What is told of tokens, one by one. -/
def wevF : Nat → List Gt → List (Wd × Bool)
  | 0, _ => []
  | f + 1, [] => []
  | f + 1, t :: r => ((fiM (t :: r)).1, (fiM (t :: r)).2.2) :: (if (fiM (t :: r)).2.2 then wevF f ((t :: r).drop (fiM (t :: r)).2.1) else [])
def wev (l : List Gt) : List (Wd × Bool) := wevF l.length l
theorem txM_le (a : Gt) : ∀ (l : List Gt) (acc : List UInt8), (txM a acc l).2.1 ≤ l.length
  | [], acc => by simp [txM]
  | t :: r, acc => by
    rw [txM_step]
    have ih := txM_le a r (acc ++ (unqM t.s).1)
    repeat' split
    all_goals (simp; try omega)
theorem fiM_pos (a : Gt) (tl : List Gt) (h : (fiM (a :: tl)).2.2 = true) : 1 ≤ (fiM (a :: tl)).2.1 ∧ (fiM (a :: tl)).2.1 ≤ (a :: tl).length := by
  rw [fiM] at h ⊢
  split
  · rename_i h4
    rw [if_pos h4] at h
    refine ⟨?_, txM_le _ _ _⟩
    rw [txM_step, if_pos h4] at h ⊢
    split
    · rename_i hu
      rw [if_pos hu] at h
      split
      · rename_i hb
        rw [if_pos hb] at h
        cases h
      · rename_i hb
        rw [if_neg hb] at h
        simp only at h ⊢
        rw [if_pos h]; omega
    · rename_i hu
      rw [if_neg hu] at h
      cases h
  · simp
theorem wevF_more : ∀ (f g : Nat) (l : List Gt), l.length ≤ f → l.length ≤ g → wevF f l = wevF g l
  | 0, 0, _, _, _ => rfl
  | 0, g + 1, l, h, _ => by
    obtain rfl : l = [] := List.length_eq_zero_iff.1 (by omega)
    rfl
  | f + 1, 0, l, _, h => by
    obtain rfl : l = [] := List.length_eq_zero_iff.1 (by omega)
    rfl
  | f + 1, g + 1, [], _, _ => rfl
  | f + 1, g + 1, t :: r, hf, hg => by
    rw [wevF, wevF]
    cases hk : (fiM (t :: r)).2.2
    · simp
    · have hp := fiM_pos t r hk
      have := wevF_more f g ((t :: r).drop (fiM (t :: r)).2.1) (by simp at *; omega) (by simp at *; omega)
      simp only [if_true, this]
theorem wev_step (t : Gt) (r : List Gt) : wev (t :: r) = ((fiM (t :: r)).1, (fiM (t :: r)).2.2) :: (if (fiM (t :: r)).2.2 then wev ((t :: r).drop (fiM (t :: r)).2.1) else []) := by
  show wevF (r.length + 1) (t :: r) = _
  rw [wevF]
  cases hk : (fiM (t :: r)).2.2
  · simp
  · have hp := fiM_pos t r hk
    simp only [if_true]
    rw [wevF_more r.length ((t :: r).drop (fiM (t :: r)).2.1).length _ (by simp at *; omega) (Nat.le_refl _)]
    rfl
def encW (x : Wd × Bool) : Array Value := #[wdV x.1, .bool x.2]
theorem below_grown {w w' : World} (h : Below w.heap.size w w') : w.grownBy w' none := ⟨h.os, h.tape, h.output, h.size, fun k hk _ => h.block k hk⟩
theorem abides_below {β : Type} {B C : Nat} {J : β → World → Prop} (hJ : AbidesO B C 0 J) {s : β} {w w' : World} (hs : J s w) (h : Below w.heap.size w w') : J s w' :=
  hJ.turn s w w' none hs (below_grown h) (fun r e => by cases e)
theorem TkG.drop {B : Nat} {W : World} {p : Option Addr} {cap cap' : Nat} {l : List Gt} (h : TkG B W (.slice p l.length cap) l) (k : Nat) (hk : k ≤ l.length) :
    TkG B W (.slice (p.map fun q => ⟨q.block, q.off + k * 6, none⟩) (l.drop k).length cap') (l.drop k) := by
  obtain ⟨p', c', hp, hc⟩ := h
  refine ⟨_, _, rfl, fun i hi => ?_⟩
  have hi' : k + i < l.length := by simp at hi; omega
  obtain ⟨g, o, hp2, hg, c0, c1, c2, c3, c4, c5⟩ := hc (k + i) hi'
  obtain ⟨rfl, _⟩ : p = p' ∧ cap = c' := by simpa using hp
  subst hp2
  have e : o + k * 6 + i * 6 = o + (k + i) * 6 := by omega
  refine ⟨g, o + k * 6, rfl, hg, ?_⟩
  rw [List.getElem_drop, e]
  exact ⟨c0, c1, c2, c3, c4, c5⟩
set_option maxRecDepth 100000 in
set_option maxHeartbeats 400000 in
theorem words_any (p : Option Addr) (len cap : Nat) (w : World) :
    Calls Tryz.prog 72 #[.slice p len cap] w fun e w' => e = .returned (.func (.func 106) #[] #[.pointer (some ⟨w.heap.size, 0, none⟩)]) ∧ w' = w.alloc (.cells #[.slice p len cap] 74) := by
  go_enter Tryz.func72, Tryz.ntmps72
  go_wp2
  go_ret
  exact ⟨rfl, rfl⟩
set_option maxRecDepth 100000 in
set_option maxHeartbeats 4000000 in
theorem words1_in (n : Nat) (h1 : 1 ≤ n) (lp Bd B0 : Nat) (p : Option Addr) (cap : Nat) (l : List Gt) (hl : l.length ≤ 1000000) (hcap : l.length ≤ cap) (hok : ∀ t ∈ l, TokOK t) (J Jx : List (Wd × Bool) → World → Prop) (W : World)
    (hJ : AbidesO W.heap.size W.heap.size 0 J) (hJx : AbidesO W.heap.size W.heap.size 0 Jx)
    (hY : ∀ pre x W1, J pre W1 → W.heap.size + 0 ≤ W1.heap.size → noRow 5 W.heap.size 0 W1 → pre ++ [x] <+: wev l → YieldAt Fence.wide (n - 1) Tryz.prog lp (encW x) W1 fun e W' =>
      (e = .returned (.bool true) ∧ J (pre ++ [x]) W' ∧ KeepsO W.heap.size 0 W1 W' ∧ Below B0 W1 W') ∨ (e = .returned (.bool false) ∧ Jx (pre ++ [x]) W' ∧ KeepsO W.heap.size 0 W1 W'))
    (hB0 : 10 < B0) (hBW : B0 ≤ W.heap.size) (hBd : Boxed W Bd 74 (.slice p l.length cap)) (hT : TkG B0 W (.slice p l.length cap) l) (hgl : Gl W) (h0 : J [] W) :
    CallsIn Fence.wide n Tryz.prog 106 #[.func (.yield lp) #[] #[], .pointer (some ⟨Bd, 0, none⟩)] W fun e W' => (∃ v, e = .returned v) ∧
      (J (wev l) W' ∨ (∃ pre, pre <+: wev l ∧ Jx pre W')) := by
  have hc := hBd.cell
  obtain ⟨full, hfull⟩ : ∃ full, wev l = full := ⟨_, rfl⟩
  rw [hfull]
  rw [hfull] at hY
  have HFU := hide hfull
  have HT := hide hT
  have HOK := hide hok
  have HGL := hide hgl
  clear hfull hT hok hgl
  refine callsIn_of_wp Tryz.func106 rfl trivial ?_ rfl
  simp only [Tryz.ntmps106, List.size_toArray, List.length_cons, List.length_nil, Nat.reduceAdd, Nat.reduceSub, Array.replicate_succ, Array.replicate_zero, List.push_toArray, List.append_toArray, List.nil_append, List.cons_append]
  gi_wp2
  gi_loopw [3] (fun i wr => ∃ (pre : List (Wd × Bool)) (q : Option Addr) (cq : Nat) (rest : List Gt), i = .slice q rest.length cq ∧ rest.length ≤ 1000000 ∧ Hid (∀ t ∈ rest, TokOK t) ∧ Hid (TkG B0 wr (.slice q rest.length cq) rest) ∧ rest.length ≤ cq ∧ Hid (pre ++ wev rest = full) ∧ J pre wr ∧ W.heap.size ≤ wr.heap.size ∧ Hid (Below B0 W wr))
    (fun i wr => match i with | .slice _ n _ => n | _ => 0)
  case atStart => exact ⟨[], p, cap, l, rfl, hl, HOK, HT, hcap, HFU, h0, Nat.le_refl _, Below.refl _ _⟩
  case round =>
    obtain ⟨pre, q, cq, rest, rfl, hr, hrok, hrT, hrc, hpre, hJp, hsz, hbe⟩ := hrel
    match rest, hr, hrok, hrT, hrc, hpre with
    | [], hr, hrok, hrT, hrc, hpre =>
      have hfin : Hid (pre = full) := by
        have := unhide hpre
        rw [Hid]
        simpa [wev, wevF] using this
      gi_wp2
      refine bodyPost_end (results_none (fn := Tryz.f106) rfl _ _ _) rfl ?_
      exact ⟨⟨_, rfl⟩, .inl (unhide hfin ▸ hJp)⟩
    | t :: r, hr, hrok, hrT, hrc, hpre =>
      have hgl2 := (unhide HGL).below (unhide hbe) hB0
      have HF := hide (first_any q cq t r wr hr ((unhide hrT).mono (by omega)) (unhide hrok) hgl2.size hgl2.eg hgl2.sg)
      have hpr := unhide hpre
      rw [wev_step] at hpr
      have hpos := fiM_pos t r
      have HP := hide hpos
      obtain ⟨k, hk⟩ : ∃ k, (t :: r).length = k := ⟨_, rfl⟩
      have hk0 : 0 < k := by rw [← hk]; simp
      have HK := hide hk
      obtain ⟨x, m, ok, hfi⟩ : ∃ x m ok, fiM (t :: r) = (x, m, ok) := ⟨_, _, _, rfl⟩
      rw [hfi] at hpr HF HP
      rw [hk] at HF HP hrT ⊢
      simp only at hpr HF HP
      have HPR := hide hpr
      clear hpos hfi hpr hgl2 hk
      obtain ⟨xk, xs, xv, xt, xf, xl⟩ := x
      simp only [wdV, wdC] at HF
      gi_wp2_with fail
      refine ⟨trivial, ?_⟩
      refine (callsIn_wide.2 (unhide HF)).mono ?_
      rintro e W2 ⟨rfl, hb2⟩
      have hb3 : Below wr.heap.size wr (W2.alloc (.cells #[.int .i64 xk, .string ⟨xs.toArray⟩, .int .i64 xv, .int .i64 xt, .string ⟨xf.toArray⟩, .int .i64 xl] 42)) := hb2.alloc hb2.size _
      have hz3 := hb3.size
      have hJ3 := abides_below hJ hJp hb3
      obtain ⟨fn, tmps, assign, body, hy, hRR⟩ := hY pre (⟨xk, xs, xv, xt, xf, xl⟩, ok) (W2.alloc (.cells #[.int .i64 xk, .string ⟨xs.toArray⟩, .int .i64 xv, .int .i64 xt, .string ⟨xf.toArray⟩, .int .i64 xl] 42)) hJ3 (by omega) (fun j c fz h1 h2 => by omega) ⟨if ok = true then wev ((t :: r).drop m) else [], by rw [← unhide HPR]; simp⟩
      simp only [encW, wdV, wdC] at hy
      have HRR := hide hRR
      have HB3 := hide ((unhide hbe).trans (hb3.mono (by omega)))
      have HBW := hide (hb3.mono (show B0 ≤ wr.heap.size by omega))
      clear hRR hb2 hb3 hJ3
      cases ok
      · have HFI : Hid (pre ++ [(⟨xk, xs, xv, xt, xf, xl⟩, false)] = full) := by simpa [Hid] using unhide HPR
        gi_wp2_with fail
        refine (unhide HRR).mono ?_
        rintro e W5 (⟨rfl, hJ5, hk5, hb5⟩ | ⟨rfl, hJx5, hk5⟩)
        · gi_wp2
          refine bodyPost_ret (results_none rfl _ _ _) rfl ?_
          exact ⟨⟨_, rfl⟩, .inl (by rw [← unhide HFI]; exact hJ5)⟩
        · gi_wp2
          refine bodyPost_ret (results_none rfl _ _ _) rfl ?_
          exact ⟨⟨_, rfl⟩, .inr ⟨_, ⟨[], by rw [List.append_nil]; exact unhide HFI⟩, hJx5⟩⟩
      · have hp2 := unhide HP rfl
        have hm1 : 1 ≤ m := hp2.1
        have hm2 : m ≤ k := hp2.2
        have HFI : Hid (pre ++ [(⟨xk, xs, xv, xt, xf, xl⟩, true)] ++ wev ((t :: r).drop m) = full) := by
          have := unhide HPR
          simp only [if_true] at this
          rw [Hid, ← this]; simp
        clear HP HPR
        gi_wp2_with fail
        refine (unhide HRR).mono ?_
        rintro e W5 (⟨rfl, hJ5, hk5, hb5⟩ | ⟨rfl, hJx5, hk5⟩)
        · have HB5 := hide ((unhide HB3).trans hb5)
          have HBR := hide ((unhide HBW).trans hb5)
          have hz5 := hk5.size
          clear hb5 hk5
          have HTD : Hid (TkG B0 W5 (.slice (if cq = m then q else Option.map (fun x => x.add (m * 6)) q) ((t :: r).drop m).length (cq - m)) ((t :: r).drop m)) := by
            have hT5 : TkG B0 W5 (.slice q (t :: r).length cq) (t :: r) := by
              have e1 := (unhide hrT)
              rw [← unhide HK] at e1
              exact e1.below (unhide HBR)
            by_cases hcm : cq = m
            · have hd : (t :: r).drop m = [] := List.drop_eq_nil_of_le (by omega)
              rw [Hid, hd]
              exact ⟨_, _, rfl, fun i hi => by simp at hi⟩
            · rw [Hid, if_neg hcm]
              have e2 := hT5.drop (cap' := cq - m) m (by have := unhide HK; omega)
              have e3 : (Option.map (fun x : Addr => x.add (m * 6)) q) = (q.map fun q => (⟨q.block, q.off + m * 6, none⟩ : Addr)) := by
                cases hq : q with
                | none => rfl
                | some a =>
                  obtain ⟨p', c', hp, hc'⟩ := hT5
                  obtain ⟨g, o, hp2, _⟩ := hc' 0 (by simp)
                  rw [hq] at hp
                  simp at hp
                  rw [← hp.1] at hp2
                  simp at hp2
                  subst hp2
                  simp [Addr.add]
                  try omega
              rw [e3]
              exact e2
          have hdl : ((t :: r).drop m).length = k - m := by rw [List.length_drop, unhide HK]
          have hkk := unhide HK
          have hr2 : k ≤ 1000000 := by omega
          have hrc2 : k ≤ cq := by omega
          clear hkk
          gi_wp2
          refine ⟨⟨pre ++ [(⟨xk, xs, xv, xt, xf, xl⟩, true)], _, _, (t :: r).drop m, by rw [hdl], by rw [hdl]; omega, fun y hy => unhide hrok y (List.mem_of_mem_drop hy), HTD, by rw [hdl]; omega, HFI, hJ5, by omega, HB5⟩, ?_⟩
          show k - m < k
          omega
        · gi_wp2
          refine bodyPost_ret (results_none rfl _ _ _) rfl ?_
          exact ⟨⟨_, rfl⟩, .inr ⟨_, ⟨_, unhide HFI⟩, hJx5⟩⟩
end Go.Proofs.YtmpkgjonbjpohaaGreatDoor
