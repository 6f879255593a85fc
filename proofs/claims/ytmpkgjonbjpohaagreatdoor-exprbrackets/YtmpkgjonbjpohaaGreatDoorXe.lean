/-
  Package lex: unquoted.
-/
import Derived.Test.YtmpkgjonbjpohaaGreatDoorXd
import Derived.Lib.AppendStr
import Derived.Laws.BytesArg
namespace Go.Proofs.YtmpkgjonbjpohaaGreatDoor
open Go Go.RowKit
set_option linter.unusedVariables false
set_option linter.unusedSimpArgs false

theorem quL_wf (q : UInt8) (hq : q ≠ 92) : ∀ (e : Bool) (r : List UInt8), 0 < r.length → Tk.quL q e r = r.length → wfQ e (r.take (r.length - 1)) = true ∧ r.getLast? = some q
  | _, [], h, _ => by simp at h
  | true, c :: r, _, h => by
    rw [Tk.quL] at h
    have hp := Tk.up_pos (m := Tk.quL q false r) (by rw [h]; simp)
    have h2 : Tk.quL q false r = r.length := by rw [hp.2] at h; simpa using h
    have ih := quL_wf q hq false r (by omega) h2
    match r, ih, hp with
    | d :: r, ih, _ =>
      refine ⟨?_, by simpa using ih.2⟩
      simpa [wfQ] using ih.1
    | [], _, hp => simp [Tk.quL] at hp
  | false, c :: r, _, h => by
    rw [Tk.quL] at h
    split at h
    · rename_i hc
      have hp := Tk.up_pos (m := Tk.quL q true r) (by rw [h]; simp)
      have h2 : Tk.quL q true r = r.length := by rw [hp.2] at h; simpa using h
      have ih := quL_wf q hq true r (by omega) h2
      match r, ih, hp with
      | d :: r, ih, _ =>
        refine ⟨?_, by simpa using ih.2⟩
        have h3 : wfQ false (c :: (d :: r).take r.length) = true := by rw [wfQ, hc]; simpa using ih.1
        simpa using h3
      | [], _, hp => simp [Tk.quL] at hp
    · rename_i hc
      split at h
      · rename_i hcq
        have : r = [] := List.length_eq_zero_iff.1 (by have h9 : (c :: r).length = r.length + 1 := rfl; omega)
        subst this
        have : c = q := by simpa using hcq
        subst this
        exact ⟨rfl, rfl⟩
      · have hp := Tk.up_pos (m := Tk.quL q false r) (by rw [h]; simp)
        have h2 : Tk.quL q false r = r.length := by rw [hp.2] at h; simpa using h
        have ih := quL_wf q hq false r (by omega) h2
        match r, ih, hp with
        | d :: r, ih, _ =>
          refine ⟨?_, by simpa using ih.2⟩
          have hc' : (c == 92) = false := by simpa using hc
          have h3 : wfQ false (c :: (d :: r).take r.length) = true := by rw [wfQ, hc']; simpa using ih.1
          simpa using h3
        | [], _, hp => simp [Tk.quL] at hp
/-- What a text that is a token alone is. -/
theorem spelt_ms {s : List UInt8} {k : Int} (h : speltM s k = true) : s ≠ [] ∧ Tk.isT s = true ∧ ((Tk.ms s).1 : Int) = k ∧ (Tk.ms s).2 = s.length := by
  unfold speltM at h
  generalize hL : (Tk.lex [(1, s)]).1 = L at h
  match L, h with
  | [t], h =>
    simp only [Bool.and_eq_true, decide_eq_true_eq, beq_iff_eq] at h
    have hm : t ∈ (Tk.lex [(1, s)]).1 := by rw [hL]; simp
    have ha := (Tk.col_mem _ _ _ hm).resolve_left (by simp)
    obtain ⟨s', h1, h2, h3, h4⟩ := Tk.ev_all _ _ _ _ _ ha rfl
    simp only at h3 h4
    have hne := Tk.isT_ne h1
    have ht := Tk.ms_take hne h2
    have hle := Tk.ms_le hne
    have hs : s = s'.take (Tk.ms s').2 := by rw [← h.1]; exact h4
    have hsl : s.length = (Tk.ms s').2 := by rw [hs, List.length_take]; omega
    refine ⟨?_, ?_, ?_, ?_⟩
    · intro e; rw [e] at hsl; simp at hsl; omega
    · have hsn : s ≠ [] := fun e => by rw [e] at hsl; simp at hsl; omega
      have := Tk.isT_swap (u := s) (v := s'.drop (Tk.ms s').2) (v' := []) hsn rfl (by rw [hs, List.take_append_drop]; exact h1)
      simpa using this
    · rw [hs, ht, ← h3]; exact h.2
    · rw [hsl, hs, ht]
theorem spelt_text {s : List UInt8} (h : speltM s 4 = true) : 2 ≤ s.length ∧ wfQ false (innM s) = true ∧ s.head? = some 34 ∧ s.getLast? = some 34 := by
  obtain ⟨hne, _, h1, h2⟩ := spelt_ms h
  match s, hne with
  | c :: r, _ =>
    have hk : (Tk.ms (c :: r)).1 = 4 := by omega
    rw [Tk.ms] at hk h2
    split at hk
    · cases hk
    · split at hk
      · cases hk
      · split at hk
        · cases hk
        · split at hk
          · rename_i g1 g2 g3 g4
            rw [if_neg g1, if_neg g2, if_neg g3, if_pos g4] at h2
            simp only at h2
            have hp := Tk.up_pos (m := Tk.quL 34 false r) (by rw [h2]; simp)
            have h3 : Tk.quL 34 false r = r.length := by rw [hp.2] at h2; simpa using h2
            have hr : 0 < r.length := by omega
            have hw := quL_wf 34 (by decide) false r hr h3
            have hc : c = 34 := by simpa using g4
            refine ⟨by simp; omega, ?_, by rw [hc]; rfl, ?_⟩
            · have : innM (c :: r) = r.take (r.length - 1) := by simp [innM]
              rw [this]; exact hw.1
            · rw [List.getLast?_cons]
              rw [hw.2]; rfl
          · split at hk <;> cases hk
/-- The bytes that a text stands for, and whether it is one. -/
def unqM (s : List UInt8) : List UInt8 × Bool :=
  if speltM s 4 && !hasM 13 10 s then (if (unM (innM s).length (innM s)).2 then unM (innM s).length (innM s) else ([], false)) else ([], false)
theorem byteC_app (a b : List UInt8) : Lib.byteCells (a ++ b) = Lib.byteCells a ++ Lib.byteCells b := by simp [Lib.byteCells]
theorem isB_fresh (w : World) : Lib.IsBuilderF 178 5 w.heap.size w.heap.size (Lib.byteCells []) (w.alloc (.cells #[.pointer none, .slice none 0 0] 178)) :=
  .inl ⟨Nat.le_refl _, .slice none 0 0, World.alloc_heap_new w _, World.ownsRowF_nil _ _ _ _, by simp [Value.ownBlock]⟩
theorem isB_alloc {B b : Nat} {bs : List Value} {w : World} (h : Lib.IsBuilderF 178 5 B b bs w) (o : Obj) : Lib.IsBuilderF 178 5 B b bs (w.alloc o) := h.imp (fun x => x.alloc o) (fun x => x.alloc o)
theorem isB_lt {B b : Nat} {bs : List Value} {w : World} (h : Lib.IsBuilderF 178 5 B b bs w) : b < w.heap.size := by rcases h with h | h <;> exact h.lt
theorem isB_below {B b : Nat} {bs : List Value} {w w' : World} (h : Lib.IsBuilderF 178 5 B b bs w) (hb : Below w.heap.size w w') : Lib.IsBuilderF 178 5 B b bs w' := by
  have hg : w.grownBy w' none := ⟨hb.os, hb.tape, hb.output, hb.size, fun k hk _ => hb.block k hk⟩
  have key : ∀ p, Lib.BuilderAtF 178 5 B b p bs w → Lib.BuilderAtF 178 5 B b p bs w' := by
    rintro p ⟨h1, v, h2, h3, h4⟩
    refine ⟨h1, v, (hb.block b (Array.getElem?_eq_some_iff.1 h2).1).trans h2, h3.kept hg ?_, h4⟩
    cases v.ownBlock with
    | none => exact .inl rfl
    | some k => exact .inr (by simp)
  exact h.imp (key _) (key _)
theorem unM_len : ∀ (f : Nat) (s : List UInt8), (unM f s).1.length ≤ f
  | 0, s => by simp [unM]
  | f + 1, [] => by simp [unM]
  | f + 1, c :: r => by
    rw [unM]
    split
    · have := unM_len f ((c :: r).drop (fbM (c :: r)).2.1); simp; omega
    · simp
set_option maxRecDepth 100000 in
set_option maxHeartbeats 4000000 in
theorem unq_go (s : List UInt8) (hs : s.length ≤ 140737488355320) (hsp : speltM s 4 = true) (hh : hasM 13 10 s = false) (w : World) (hw : 10 < w.heap.size) (hg : Eg w) (hsg : Sg w) (hC : CaOK s 13 10) :
    Calls Tryz.prog 146 #[.string ⟨s.toArray⟩] w fun e w' => e = .returned (.tuple #[.string ⟨(unqM s).1.toArray⟩, .bool (unqM s).2]) ∧ Below w.heap.size w w' := by
  obtain ⟨h2, hwf, _, _⟩ := spelt_text hsp
  have HSP := hide (spelt_any s 4 w (by omega) hw hsg)
  have HC := hide hC
  have hil := innM_len s
  obtain ⟨B, hB⟩ : ∃ B : ByteArray, (⟨s.toArray⟩ : ByteArray) = B := ⟨_, rfl⟩
  have hz : B.size = s.length := by rw [← hB, len_toArray]
  have hsl : ∀ W : World, (Instr.slice 9 (.string B) (some (.int .i64 1)) (some (.int .i64 ((B.size : Int) - 1))) none).run Tryz.prog W = .ok (.string ⟨(innM s).toArray⟩) W := fun W => by
    have := run_slice_string (P := Tryz.prog) (w := W) 9 B .i64 .i64 1 ((B.size : Int) - 1) Tryz.underlying9 (by omega) (by omega) (by omega)
    rw [this]
    have e1 : ((B.size : Int) - 1).toNat = s.length - 1 := by omega
    rw [e1, ← hB, ext_list]
    congr 3
    unfold innM
    rw [show Int.toNat 1 = 1 from rfl, List.drop_take]
    congr 1
  rw [hsp] at HSP
  unfold CaOK at HC
  rw [hh, hB] at HC
  rw [hB] at HSP ⊢
  have HU : Hid (unqM s = if (unM (innM s).length (innM s)).2 then unM (innM s).length (innM s) else ([], false)) := by rw [Hid, unqM, hsp, hh]; rfl
  obtain ⟨U, hU⟩ : ∃ U, unqM s = U := ⟨_, rfl⟩
  rw [hU] at HU ⊢
  have hI : (innM s).length ≤ 140737488355320 := by omega
  have HWF := hide hwf
  generalize innM s = I at *
  clear hU hsp hh hC hwf hsg
  have HG := hide hg
  clear hg
  go_enter Tryz.func146, Tryz.ntmps146
  go_upto_region 3 with (first
    | (go_at_call 77; refine (unhide HSP).mono ?_; rintro e W1 ⟨rfl, hb1⟩)
    | (go_at_call 160; refine (unhide HC _).mono ?_; rintro e W2 ⟨rfl, hb2⟩))
  have HB2 := hide (hb1.trans (hb2.mono hb1.size))
  have hz2 := Nat.le_trans hb1.size hb2.size
  clear hb1 hb2 HSP HC
  have hBu := isB_fresh W2
  have HBe : Hid (Below w.heap.size w (W2.alloc (.cells #[.pointer none, .slice none 0 0] 178))) := (unhide HB2).alloc hz2 _
  go_upto_region 4 with fail
  generalize (W2.alloc _ : World) = W3 at *
  have hb3 : W2.heap.size < W3.heap.size := isB_lt hBu
  generalize W2.heap.size = b at *
  have i1 : (1 : Int) ≤ (B.size : Int) - 1 := by omega
  have i2 : (1 : Int) ≤ (B.size : Int) := by omega
  have i3 : (B.size : Int) - 1 < (B.size : Int) := by omega
  have i4 : B.size ≤ 140737488355328 := by omega
  clear HB2 hz hB hil h2 hs
  go_wp2
  go_loopg [5] I.length (fun gk i wr => ∃ (rest done : List UInt8), gk = rest.length ∧ i = .string ⟨rest.toArray⟩ ∧ rest.length ≤ 140737488355320 ∧ done.length + rest.length ≤ I.length ∧ Hid (wfQ false rest = true) ∧
    Lib.IsBuilderF 178 5 b b (Lib.byteCells done) wr ∧ Hid (Below w.heap.size w wr) ∧ Hid (U = if (unM rest.length rest).2 then (done ++ (unM rest.length rest).1, true) else ([], false)))
  case atStart =>
    refine ⟨I, [], rfl, rfl, hI, by simp, HWF, hBu, HBe, ?_⟩
    rw [Hid, unhide HU]
    split
    · rename_i h
      rw [List.nil_append]
      generalize unM I.length I = Z at *
      obtain ⟨a, c⟩ := Z
      simp only at h
      rw [h]
    · rfl
  case round =>
    clear hBu HBe HU hsl i1 i2 i3 i4 HWF
    obtain ⟨rest, done, rfl, rfl, hr, hd, hwf, hBu, hbe, hU⟩ := hrel
    have hzr := (unhide hbe).size
    have hlen := len_toArray rest
    match rest, hwf, hU, hr, hd, hlen with
    | [], hwf, hU, hr, hd, hlen =>
      have HST := hide (Tryz.Builder_String_any_k b b done wr hBu (by have := isB_lt hBu; omega))
      go_wp2_with fail
      refine (unhide HST).mono ?_
      rintro e w' ⟨rfl, hB', hb', _⟩
      go_wp2
      go_ret2
      refine ⟨?_, (unhide hbe).trans (hb'.mono ?_)⟩
      · rw [unhide hU]; simp [unM]
      · omega
    | c :: r, hwf, hU, hr, hd, hlen =>
      have hpos := fbM_pos (c :: r) (by simp) (wfQ_head (unhide hwf))
      have HWF2 := hide (wfQ_fb (c :: r) (unhide hwf) (by simp))
      have HFB := hide (firstByte_any (c :: r) hr (by simp) (wfQ_head (unhide hwf)) wr (by omega) ((unhide HG).below (unhide hbe) hw))
      obtain ⟨X, hX⟩ : ∃ X : ByteArray, (⟨(c :: r).toArray⟩ : ByteArray) = X := ⟨_, rfl⟩
      have hXs : X.size = r.length + 1 := by rw [← hX, hlen]; rfl
      have hUr := unhide hU
      rw [show (c :: r).length = r.length + 1 from rfl, unM] at hUr
      obtain ⟨fc, n, ok, hfb⟩ : ∃ fc n ok, fbM (c :: r) = (fc, n, ok) := ⟨_, _, _, rfl⟩
      rw [hfb] at hpos hUr HFB HWF2
      simp only at hpos hUr HFB HWF2
      have hsl : ∀ W : World, (Instr.slice 9 (.string X) (some (.int .i64 (n : Int))) none none).run Tryz.prog W = .ok (.string ⟨((c :: r).drop n).toArray⟩) W := fun W => by
        have := run_slice_string_from_if (P := Tryz.prog) (w := W) 9 X .i64 (n : Int) Tryz.underlying9
        rw [this, if_pos (by have := hpos.2; simp at this; omega)]
        rw [show (n : Int).toNat = n from rfl, ← hX, len_toArray, ext_list, List.take_of_length_le (Nat.le_refl _)]
      rw [hX] at HFB ⊢
      have hX0 : ((0 : Int) < (X.size : Int)) := by omega
      have HL : Hid (done.length + 1 + ((c :: r).drop n).length ≤ I.length ∧ ((c :: r).drop n).length ≤ 140737488355320 ∧ ((c :: r).drop n).length < r.length + 1) := by
        rw [Hid, List.length_drop]; simp at hpos hd hr ⊢; omega
      cases ok
      · simp only [Bool.false_eq_true, if_false] at hUr
        have HU2 := hide hUr
        clear hUr hX hU hsl hXs hlen hpos hr hd hfb
        go_wp2_with (go_at_call 161; refine (unhide HFB).mono ?_; rintro e W1 ⟨rfl, hb1⟩)
        go_ret2
        exact ⟨by rw [unhide HU2]; rfl, (unhide hbe).trans (hb1.mono hzr)⟩
      · simp only [if_true] at hUr
        have HU2 : Hid (U = if (unM ((c :: r).drop n).length ((c :: r).drop n)).2 then (done ++ [fc] ++ (unM ((c :: r).drop n).length ((c :: r).drop n)).1, true) else ([], false)) := by
          rw [Hid, hUr, unM_more ((c :: r).drop n).length r.length _ (Nat.le_refl _) (by have := (unhide HL).2.2; omega) (unhide HWF2)]
          simp
        have HX := hide hX
        have HBU := hide hBu
        generalize (c :: r).drop n = rest2 at *
        clear hUr hX hU hXs hlen hpos hfb hBu
        go_upto_region 9 with (go_at_call 161; refine (unhide HFB).mono ?_; rintro e W1 ⟨rfl, hb1⟩)
        have hB1 := isB_below (unhide HBU) hb1
        have HWB := hide (Tryz.Builder_WriteByte_k b b _ (fc.toNat : Int) W1 hB1 (by rw [Lib.byteCells_length]; have := (unhide HL).1; omega) (by have := isB_lt hB1; omega))
        have HB1 := hide ((unhide hbe).trans (hb1.mono hzr))
        clear hb1 hB1 HBU HFB
        go_upto_region 10 with (go_at_call 162; refine (unhide HWB).mono ?_; rintro e W4 ⟨rfl, hB4, hb4, _⟩)
        have hB5 : Lib.IsBuilderF 178 5 b b (Lib.byteCells (done ++ [fc])) W4 := by rw [byteC_app]; exact .inr hB4
        have HB5 : Hid (Below w.heap.size w W4) := (unhide HB1).trans (hb4.mono (by omega))
        clear hB4 hb4 HWB
        go_wp2
        go_roundg rest2.length
        case measure => have := (unhide HL).2.2; simpa using this
        case rel => exact ⟨rest2, done ++ [fc], rfl, rfl, (unhide HL).2.1, by have := (unhide HL).1; simp; omega, HWF2, hB5, HB5, HU2⟩
end Go.Proofs.YtmpkgjonbjpohaaGreatDoor
