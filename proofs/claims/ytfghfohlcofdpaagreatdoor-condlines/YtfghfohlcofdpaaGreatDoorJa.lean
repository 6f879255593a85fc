/-
  The document's parser: its box; what reads it; levels and truth.
-/
import Derived.Test.YtfghfohlcofdpaaGreatDoorG1
import Derived.Test.YtfghfohlcofdpaaGreatDoorAa
import Derived.BigQuiet
namespace Go.Proofs.YtfghfohlcofdpaaGreatDoor
open Go Go.RowKit
set_option linter.unusedVariables false
set_option linter.unusedSimpArgs false

theorem set_blockJ {W : World} {M : Nat} {cs : Array Value} {t : TypeId} {fr : Nat × Nat} (h : W.heap[M]? = some (.cells cs t fr)) (i : Nat) (v : Value) : (W.setCell ⟨M, i, none⟩ v).heap[M]? = some (.cells (cs.setIfInBounds i v) t fr) := by
  obtain ⟨hlt, hk⟩ := Array.getElem?_eq_some_iff.1 h
  show (W.heap.modify M _)[M]? = _
  rw [Array.getElem?_eq_getElem (by rw [Array.size_modify]; exact hlt), Array.getElem_modify_self, hk]
  rfl
/-- The document's parser in its box. -/
def Pb (W : World) (b : Nat) (v : Value) (k : Int) (ok : Bool) : Prop := W.heap[b]? = some (.cells #[v, .int .i64 k, .bool ok] 42 (0, 0))
section
variable {W W' : World} {b n M i : Nat} {v u : Value} {k : Int} {ok : Bool}
theorem Pb.lt (h : Pb W b v k ok) : b < W.heap.size := (Array.getElem?_eq_some_iff.1 h).1
theorem Pb.three (h : Pb W b v k ok) : W.cell? ⟨b, 0, none⟩ = some v ∧ W.cell? ⟨b, 1, none⟩ = some (.int .i64 k) ∧ W.cell? ⟨b, 2, none⟩ = some (.bool ok) := by
  refine ⟨?_, ?_, ?_⟩ <;> (rw [World.cell?, show W.heap[b]? = _ from h]; rfl)
theorem Pb.frozen (h : Pb W b v k ok) (i : Nat) : W.frozen? ⟨b, i, none⟩ = false := by simp [World.frozen?, show W.heap[b]? = _ from h]
theorem Pb.set1 (h : Pb W b v k ok) (k' : Int) : Pb (W.setCell ⟨b, 1, none⟩ (.int .i64 k')) b v k' ok := set_blockJ h 1 _
theorem Pb.set2 (h : Pb W b v k ok) (o : Bool) : Pb (W.setCell ⟨b, 2, none⟩ (.bool o)) b v k o := set_blockJ h 2 _
theorem Pb.below (h : Pb W b v k ok) (hb : Below n W W') (hn : b < n) : Pb W' b v k ok := (hb.block b hn).trans h
theorem Pb.next (h : Pb W b v k ok) (hb : Below W.heap.size W W') : Pb W' b v k ok := h.below hb h.lt
theorem Pb.other (h : Pb W b v k ok) (hne : b ≠ M) : Pb (W.setCell ⟨M, i, none⟩ u) b v k ok := (Below.heap_setCell W ⟨M, i, none⟩ u b hne).trans h
end
/-- Does a sign stand at this place? -/
def seesM (s : List UInt8) (l : List Gt) (k : Nat) : Bool := match l[k]? with
  | none => false
  | some t => t.kind == 5 && t.s == s
theorem drewNB (w : World) : ∀ n, Below w.heap.size w (w.drewN n)
  | 0 => Below.refl _ w
  | n + 1 => ⟨(drewNB w n).os, (drewNB w n).tape, (drewNB w n).output, (drewNB w n).size, (drewNB w n).block⟩
set_option maxRecDepth 100000 in
set_option maxHeartbeats 4000000 in
theorem sees_no (s : List UInt8) (b : Nat) (v : Value) (k : Int) (w : World) (hP : Pb w b v k false) :
    Calls Tryz.prog 35 #[.pointer (some ⟨b, 0, none⟩), .string ⟨s.toArray⟩] w fun e w' => e = .returned (.bool false) ∧ Below w.heap.size w w' := by
  obtain ⟨c0, c1, c2⟩ := hP.three
  go_enter Tryz.func35, Tryz.ntmps35
  go_upto_region 1 with fail
  go_quiet (fail)
  go_wp2
  go_ret
  exact ⟨rfl, drewNB _ _⟩
set_option maxRecDepth 100000 in
set_option maxHeartbeats 4000000 in
theorem sees_any (s : List UInt8) (b : Nat) (p : Option Addr) (cap : Nat) (l : List Gt) (k : Nat) (w : World) (hl : l.length ≤ 1000000) (hP : Pb w b (.slice p l.length cap) k true) (hT : TkG b w (.slice p l.length cap) l) :
    Calls Tryz.prog 35 #[.pointer (some ⟨b, 0, none⟩), .string ⟨s.toArray⟩] w fun e w' => e = .returned (.bool (seesM s l k)) ∧ Below w.heap.size w w' := by
  obtain ⟨c0, c1, c2⟩ := hP.three
  by_cases hk : k < l.length
  · obtain ⟨p', cap', hp', hcs⟩ := hT
    obtain ⟨g, o, rfl, hg, t0, t1, _⟩ := hcs k hk
    obtain ⟨rfl, rfl⟩ : p = some ⟨g, o, none⟩ ∧ cap = cap' := by simpa using hp'
    have HR : Hid (seesM s l k = (l[k].kind == 5 && l[k].s == s)) := by
      unfold seesM; rw [List.getElem?_eq_getElem hk]; rfl
    generalize seesM s l k = R at *
    generalize l[k] = t at *
    obtain ⟨kind, ts, f, line, sp, fi⟩ := t
    simp only at t0 t1 HR
    have i1 : (k : Int) < (l.length : Int) := by omega
    have hd : decide ((k : Int) < (l.length : Int)) = true := by simpa using hk
    clear hcs hp' hP
    cases h5 : kind == 5
    · rw [h5] at HR
      obtain rfl := unhide HR
      go_enter Tryz.func35, Tryz.ntmps35
      go_upto_region 1 with fail
      go_quiet (fail)
      go_wp2
      go_ret
      exact ⟨rfl, drewNB _ _⟩
    · cases hs : ts == s
      all_goals (
        rw [h5, hs] at HR
        obtain rfl := unhide HR
        go_enter Tryz.func35, Tryz.ntmps35
        go_upto_region 1 with fail
        go_quiet (fail)
        go_wp2
        go_ret
        exact ⟨rfl, drewNB _ _⟩)
  · have HR : seesM s l k = false := by
      unfold seesM; rw [List.getElem?_eq_none (by omega)]
    rw [HR]
    have hd : decide ((k : Int) < (l.length : Int)) = false := by simpa using hk
    clear hT hP HR
    go_enter Tryz.func35, Tryz.ntmps35
    go_upto_region 1 with fail
    go_quiet (fail)
    go_wp2
    go_ret
    exact ⟨rfl, drewNB _ _⟩
set_option maxRecDepth 100000 in
theorem takes_no (s : List UInt8) (b : Nat) (v : Value) (k : Int) (w : World) (hP : Pb w b v k false) :
    Calls Tryz.prog 19 #[.pointer (some ⟨b, 0, none⟩), .string ⟨s.toArray⟩] w fun e w' => e = .returned (.bool false) ∧ Below w.heap.size w w' := by
  have H := hide (sees_no s b v k w hP)
  clear hP
  go_enter Tryz.func19, Tryz.ntmps19
  go_wp2_with fail
  refine (unhide H).mono ?_
  rintro e W1 ⟨rfl, hb1⟩
  go_wp2
  go_ret
  exact ⟨rfl, hb1⟩
set_option maxRecDepth 100000 in
theorem takes_not (s : List UInt8) (b : Nat) (p : Option Addr) (cap : Nat) (l : List Gt) (k : Nat) (w : World) (hl : l.length ≤ 1000000) (hP : Pb w b (.slice p l.length cap) k true) (hT : TkG b w (.slice p l.length cap) l) (hs : seesM s l k = false) :
    Calls Tryz.prog 19 #[.pointer (some ⟨b, 0, none⟩), .string ⟨s.toArray⟩] w fun e w' => e = .returned (.bool false) ∧ Below w.heap.size w w' := by
  have H := hide (sees_any s b p cap l k w hl hP hT)
  rw [hs] at H
  clear hP hT hs
  go_enter Tryz.func19, Tryz.ntmps19
  go_wp2_with fail
  refine (unhide H).mono ?_
  rintro e W1 ⟨rfl, hb1⟩
  go_wp2
  go_ret
  exact ⟨rfl, hb1⟩
/-- All blocks that were there but one are as they were. -/
structure Fb (R : Nat) (W W' : World) : Prop where
  below : Below R W W'
  keep : ∀ b, b < W.heap.size → b ≠ R → W'.heap[b]? = W.heap[b]?
theorem Fb.of {R : Nat} {W W' : World} (hb : Below W.heap.size W W') (hR : R ≤ W.heap.size) : Fb R W W' := ⟨hb.mono hR, fun b h _ => hb.block b h⟩
theorem Fb.trans {R : Nat} {W W' W'' : World} (h : Fb R W W') (h' : Fb R W' W'') : Fb R W W'' :=
  ⟨h.below.trans h'.below, fun b hb hne => (h'.keep b (Nat.lt_of_lt_of_le hb h.below.size) hne).trans (h.keep b hb hne)⟩
theorem Fb.setCell {R M i : Nat} {W W' : World} (h : Fb R W W') (hM : M = R ∨ W.heap.size ≤ M) (hR : R ≤ W.heap.size) (v : Value) : Fb R W (W'.setCell ⟨M, i, none⟩ v) :=
  ⟨h.below.setCell (p := ⟨M, i, none⟩) (by show R ≤ M; omega) v, fun b hb hne => (Below.heap_setCell W' ⟨M, i, none⟩ v b (by show b ≠ M; omega)).trans (h.keep b hb hne)⟩
theorem TkG.fb {b : Nat} {W W' : World} {v : Value} {l : List Gt} (h : TkG b W v l) (hf : Fb b W W') : TkG b W' v l := h.below hf.below
set_option maxRecDepth 100000 in
theorem takes_yes (s : List UInt8) (b : Nat) (p : Option Addr) (cap : Nat) (l : List Gt) (k : Nat) (w : World) (hl : l.length ≤ 1000000) (hP : Pb w b (.slice p l.length cap) k true) (hT : TkG b w (.slice p l.length cap) l) (hs : seesM s l k = true) :
    Calls Tryz.prog 19 #[.pointer (some ⟨b, 0, none⟩), .string ⟨s.toArray⟩] w fun e w' => e = .returned (.bool true) ∧ Pb w' b (.slice p l.length cap) ((k + 1 : Nat) : Int) true ∧ Fb b w w' := by
  have H := hide (sees_any s b p cap l k w hl hP hT)
  have hk : k < l.length := by
    unfold seesM at hs
    rcases Nat.lt_or_ge k l.length with h | h
    · exact h
    · rw [List.getElem?_eq_none h] at hs; cases hs
  rw [hs] at H
  have HP := hide hP
  have hlt := hP.lt
  clear hP hT hs
  go_enter Tryz.func19, Tryz.ntmps19
  go_wp2_with fail
  refine (unhide H).mono ?_
  rintro e W1 ⟨rfl, hb1⟩
  have hP1 := (unhide HP).next hb1
  obtain ⟨c0, c1, c2⟩ := hP1.three
  have f1 := hP1.frozen 1
  have HP1 := hide hP1
  have HB1 := hide hb1
  clear hP1 hb1
  go_wp2
  go_ret
  refine ⟨rfl, ?_, (Fb.of (unhide HB1) (by omega)).setCell (.inl rfl) (by omega) _⟩
  have := (unhide HP1).set1 ((k : Int) + 1)
  simpa using this
set_option maxRecDepth 100000 in
set_option maxHeartbeats 8000000 in
theorem level_any (s : List UInt8) (w : World) : Calls Tryz.prog 32 #[.string ⟨s.toArray⟩] w fun e w' => e = .returned (.int .i64 (if levM s = 0 then 0 else levM s - 1)) ∧ w' = w := by
  go_enter Tryz.func32, Tryz.ntmps32
  go_wp2
  all_goals go_ret
  all_goals (refine ⟨?_, rfl⟩; first | (simp [levM, *]; done) | (simp_all [levM]; done))
theorem res_x {f : Func} {k : Nat} {tmps : Array Value} {w : World} {R : Nat} {cs : Array Value} (hr : f.results = #[.cell k 44]) (hp : tmps.getD k undef = .pointer (some ⟨R, 0, none⟩)) (hg : w.heap[R]? = some (.cells cs 44 (0, 0))) (hz : cs.size = 2) :
    (results f tmps).run Tryz.prog w = .ok (.agg cs) w := by
  have hi : (Tryz.prog.info? 44).map (·.size) = some cs.size := by rw [hz]; kernel_rfl
  have hp' : tmps[k]?.getD undef = .pointer (some ⟨R, 0, none⟩) := by simpa using hp
  simp [results, hr, hp', asAddr, run_loadVar_row w R 44 44 cs (0, 0) _ hg Tryz.underlying44 rfl hi]
set_option maxRecDepth 100000 in
theorem rtruth_any (b : Bool) (w : World) : Calls Tryz.prog 33 #[.bool b] w fun e w' => e = .returned (truthM b).v ∧ Below w.heap.size w w' := by
  cases b
  · go_enter Tryz.func33, Tryz.ntmps33
    go_wp2
    refine bodyPost_ret (res_x (f := Tryz.f33) rfl rfl (World.alloc_heap_new w _) rfl) rfl ⟨rfl, below_new w _⟩
  · go_enter Tryz.func33, Tryz.ntmps33
    go_wp2
    refine bodyPost_ret (res_x (f := Tryz.f33) rfl rfl (World.alloc_heap_new w _) rfl) rfl ⟨rfl, below_new w _⟩
end Go.Proofs.YtfghfohlcofdpaaGreatDoor
