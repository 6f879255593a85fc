/-
  The statements' own read of layer 13, at the text of shown.
  The statements' own shown of layer 13.
-/
import Derived.Test.YtmpkgjonbjpohaaGreatDoorAf
namespace Go.Proofs.YtmpkgjonbjpohaaGreatDoor
open Go Go.RowKit
set_option linter.unusedVariables false
set_option linter.unusedSimpArgs false

def shE : List UInt8 := [49, 32, 43, 32, 50, 32, 42, 32, 120]
def wsE : List Wd := [⟨3, [], 1, 5, [], 1⟩, ⟨5, [43], 0, 0, [], 1⟩, ⟨3, [], 2, 5, [], 1⟩, ⟨5, [42], 0, 0, [], 1⟩, ⟨2, [120], 0, 0, [], 1⟩]
set_option maxRecDepth 100000 in
theorem shE_is : wsM (lx shE) = (wsE, 0, [], 0) := by kernel_rfl
theorem shE_ascii : ∀ c ∈ shE, c.toNat < 128 := by decide
def exE : PE := .mk 4 1 0 0 [] [.mk 1 0 5 1 [] [] 1, .mk 4 3 0 0 [] [.mk 1 0 5 2 [] [] 1, .mk 2 0 0 0 [120] [] 1] 1] 1
set_option maxRecDepth 100000 in
theorem gmE : gM (nxt wsE) 60 .exp 0 [] = some (some [exE], 5, []) := by kernel_rfl
theorem dpE : dpP exE 1 = false := by kernel_rfl
theorem lx_okE (s : List UInt8) (hs : s.length < 4294967281) (h : ∀ c ∈ s, c.toNat < 128) : ∀ t ∈ lx s, TokOK t := fun t ht =>
  tokOK_ascii t (Nat.lt_of_le_of_lt (lx_bytes s t ht).1 hs) (fun c hc => h c ((lx_bytes s t ht).2 c hc))
set_option maxRecDepth 100000 in
set_option maxHeartbeats 4000000 in
theorem readE_any (w : World) (hg : Gl w) :
    Calls Tryz.prog 21 #[.string ⟨#[49, 32, 43, 32, 50, 32, 42, 32, 120]⟩] w fun e w' => ∃ v', e = .returned v' ∧ WdG w'.heap.size w' v' wsE ∧ Below w.heap.size w w' := by
  obtain ⟨s, hs⟩ : ∃ s, s = shE := ⟨_, rfl⟩
  have hb1 := below_new w (.cells #[.int .i64 1, .string ⟨s.toArray⟩] 78)
  have hnew : (w.alloc (.cells #[.int .i64 1, .string ⟨s.toArray⟩] 78)).heap[w.heap.size]? = some (.cells #[.int .i64 1, .string ⟨s.toArray⟩] 78 (0, 0)) := World.alloc_heap_new w _
  have hl : LnB (w.alloc (.cells #[.int .i64 1, .string ⟨s.toArray⟩] 78)).heap.size (w.alloc (.cells #[.int .i64 1, .string ⟨s.toArray⟩] 78)) (.slice (some ⟨w.heap.size, 0, none⟩) 1 1) [(1, ⟨s.toArray⟩)] := by
    refine ⟨some ⟨w.heap.size, 0, none⟩, 1, rfl, fun i hi => ⟨w.heap.size, 0, rfl, by simp, ?_, ?_⟩⟩
    · obtain rfl : i = 0 := by simpa using hi
      rw [World.cell?, hnew]; rfl
    · obtain rfl : i = 0 := by simpa using hi
      rw [World.cell?, hnew]; rfl
  have hf : Fits [(1, (⟨s.toArray⟩ : ByteArray))] := ⟨by simp, fun x hx => by simp at hx; subst hx; rw [len_toArray, hs]; decide⟩
  have HLX := hide (Lex_any _ _ _ hf (by have := hg.size; simp; omega) hl (Sg.below hg.sg hb1 hg.size))
  have has : asL [(1, (⟨s.toArray⟩ : ByteArray))] = [(1, s)] := by simp [asL]
  rw [has] at HLX
  have HB := hide hb1
  have hlen := lx_len shE
  have hok := lx_okE shE (by decide) shE_ascii
  have HW : Hid (∀ p cap W, (lx shE).length ≤ cap → TkG W.heap.size W (.slice p (lx shE).length cap) (lx shE) → Gl W → Calls Tryz.prog 37 #[.slice p (lx shE).length cap] W fun e w' => ∃ v', e = .returned (.tuple #[v', .int .i64 0, .string ⟨#[]⟩, .int .i64 0]) ∧
      WdG w'.heap.size w' v' wsE ∧ Below W.heap.size W w') := fun p cap W hc hT hG => by
    refine (Words_any p cap (lx shE) W hlen hc hT hok hG).mono ?_
    rintro e w' ⟨v', rfl, hrow, hb⟩
    rw [shE_is] at hrow ⊢
    exact ⟨v', rfl, WdG.of hrow rfl, hb⟩
  have hR : (Tk.lex [(1, s)]).1.map Tk.T.g = lx shE := by rw [hs]; rfl
  have HG := hide hg
  generalize Tk.lex [(1, s)] = R at *
  generalize lx shE = L at *
  subst hs
  unfold shE at *
  clear hb1 hl hf hnew has hlen hok hg
  go_enter Tryz.func21, Tryz.ntmps21
  go_wp2_with fail
  refine (unhide HLX).mono ?_
  rintro e W1 ⟨v', rfl, hrow, hb1⟩
  have hb2 : Below w.heap.size w W1 := (unhide HB).trans (hb1.mono (unhide HB).size)
  have hT := (TkS.of hrow rfl).toG
  rw [hR] at hT
  have hLL : R.1.length = L.length := by rw [← hR, List.length_map]
  rw [hLL] at hrow
  have HC : Hid (∃ p cap, v' = .slice p L.length cap ∧ L.length ≤ cap) := by
    rcases hrow.2 with ⟨rfl, h0⟩ | ⟨g, cap, cur, rfl, hbg, hg', hn, _⟩
    · exact ⟨none, 0, by rw [h0], by omega⟩
    · exact ⟨_, _, rfl, hn⟩
  obtain ⟨p, cap, rfl, hcp⟩ := unhide HC
  have HW1 := hide (unhide HW p cap W1 hcp hT ((unhide HG).next hb2))
  have HB2 := hide hb2
  clear HLX HB hrow hb1 HC hT hb2 HW
  go_wp2_with fail
  refine (unhide HW1).mono ?_
  rintro e W2 ⟨v', rfl, hT2, hb2⟩
  have HT2 := hide hT2
  have HB3 := hide ((unhide HB2).trans (hb2.mono (unhide HB2).size))
  clear hT2 hb2
  go_wp2
  go_ret
  exact ⟨v', rfl, unhide HT2, unhide HB3⟩
end Go.Proofs.YtmpkgjonbjpohaaGreatDoor
namespace Go.Proofs.YtmpkgjonbjpohaaGreatDoor
open Go Go.RowKit
set_option linter.unusedVariables false
set_option linter.unusedSimpArgs false

theorem PaR.good {w w' : World} {ws : List Wd} {p p' f : Nat} {e : Ending} {x : PE} (h : PaR w ws p e w') (hg : gM (nxt ws) f .exp p [] = some (some [x], p', [])) (hd : dpP x 1 = false) :
    ∃ q c, e = .returned (.tuple #[.agg (exC x q c), .int .i64 p', .int .i64 0, .int .i64 0]) ∧ Kids w' (fun g => w.heap.size ≤ g) x q ∧ Below w.heap.size w w' := by
  obtain ⟨f2, o, x2, p2, cr, X, at', er, ln, q, c, h1, h2, rfl, h4, h5⟩ := h
  have hdet := gM_det _ h1 hg
  simp only [Prod.mk.injEq] at hdet
  obtain ⟨e1, e2, e3⟩ := hdet
  subst e1 e2 e3
  cases h2 with
  | deep _ _ _ h => rw [hd] at h; cases h
  | good _ _ h => exact ⟨q, c, rfl, h4, h5⟩
set_option maxRecDepth 100000 in
set_option maxHeartbeats 8000000 in
theorem shown13_any (w : World) (hgl : Gl w) (hop : Ops w) (hmo : Mo w) (hgm : 10 < w.heap.size) : Calls Tryz.prog 8 #[] w fun e w' => e = .returned (.bool true) ∧ Below w.heap.size w w' := by
  have HR := veil (readE_any w hgl)
  have HPA : Hid (∀ v W, Below w.heap.size w W → WdG W.heap.size W v wsE → Calls Tryz.prog 19 #[v, .int .i64 0] W fun e w' => ∃ q c g o cur fz, e = .returned (.tuple #[.agg #[.int .i64 4, .int .i64 1, .int .i64 0, .int .i64 0, .string ⟨#[]⟩, .slice q 2 c, .int .i64 1], .int .i64 5, .int .i64 0, .int .i64 0]) ∧ q = some ⟨g, o, none⟩ ∧ w'.cell? ⟨g, o + 7 + 1, none⟩ = some (.int .i64 3) ∧ g < w'.heap.size ∧ Below W.heap.size W w') := fun v W hb hW => by
    have hp := Parse_any W v wsE 0 hW (hgl.below hb hgm) (hop.below hb (by have := hgl.size; show 0 < _; omega)) (hmo.below hb hgm) (Nat.lt_of_lt_of_le hgm hb.size) (by decide) (by decide) (by decide)
    refine hp.mono ?_
    intro e w' h
    obtain ⟨q, c, rfl, hk, hb'⟩ := h.good gmE dpE
    obtain ⟨g, o, cur, fz, q', cq, hq, _, hg, hc, _⟩ := hk.list 1 (by decide)
    refine ⟨q, c, g, o, cur, fz, rfl, hq, ?_, (Array.getElem?_eq_some_iff.1 hg).1, hb'⟩
    have := hc 1 (.int .i64 3) rfl
    simp [World.cell?, hg]
    simpa using this
  clear hgl hop hmo hgm
  go_enter Tryz.func8, Tryz.ntmps8
  go_wp2_with fail
  refine (unveil HR).mono ?_
  rintro e W1 ⟨v, rfl, hW, hb1⟩
  have HP := veil (unveil HPA v W1 hb1 hW)
  have HB1 := veil hb1
  clear HR HPA hW hb1
  go_wp2_with fail
  refine (unveil HP).mono ?_
  rintro e W2 ⟨q, c, g, o, cur, fz, rfl, rfl, hc, hg, hb2⟩
  have HB2 := veil ((unveil HB1).trans (hb2.mono (unveil HB1).size))
  clear HP HB1 hb2
  go_wp2
  go_ret
  exact ⟨rfl, (unveil HB2).alloc (unveil HB2).size _⟩
end Go.Proofs.YtmpkgjonbjpohaaGreatDoor
