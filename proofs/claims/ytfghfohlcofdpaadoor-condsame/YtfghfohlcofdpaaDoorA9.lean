/-
  Package cond: leave.
-/
import Derived.Test.YtfghfohlcofdpaaDoorA8
namespace Go.Proofs.YtfghfohlcofdpaaDoor
open Go Go.RowKit
set_option linter.unusedVariables false
set_option linter.unusedSimpArgs false

theorem fld96_0 (a b c d e f : Value) (W : World) : (Instr.field 97 (.agg #[a, b, c, d, e, f]) 0).run Tryd.prog W = .ok a W := by kernel_rfl
theorem fld96_1 (a b c d e f : Value) (W : World) : (Instr.field 97 (.agg #[a, b, c, d, e, f]) 1).run Tryd.prog W = .ok b W := by kernel_rfl
def zeroW : Wt := ⟨[], 0, ⟨0, false⟩, false, false⟩
/-- An open sign is taken away, if it is the last one that waits. -/
def leaveM (sg : List UInt8) : List Wt → Wt × Bool × List Wt
  | [] => (zeroW, false, [])
  | x :: st => if x.sign == sg then (x, true, st) else (zeroW, false, x :: st)
theorem res_wt {f : Func} {k j : Nat} {tmps : Array Value} {w : World} {R : Nat} {cs : Array Value} (hr : f.results = #[.cell k 97, .tmp j]) (hp : tmps.getD k undef = .pointer (some ⟨R, 0, none⟩)) (hg : w.heap[R]? = some (.cells cs 97 (0, 0))) (hz : cs.size = 6) :
    (results f tmps).run Tryd.prog w = .ok (.tuple #[.agg cs, tmps.getD j undef]) w := by
  have hi : (Tryd.prog.info? 97).map (·.size) = some cs.size := by rw [hz]; kernel_rfl
  have hp' : tmps[k]?.getD undef = .pointer (some ⟨R, 0, none⟩) := by simpa using hp
  simp [results, hr, hp', asAddr, run_loadVar_row w R 97 97 cs (0, 0) _ hg Tryd.underlying97 rfl hi]
/-- A row's block is one that was there. -/
theorem Rk.olds {W : World} {R : Nat} {v : Value} {st : List Wt} {und : Bool} (h : Rk W R v st und) : ∀ g o n c, v = .slice (some ⟨g, o, none⟩) n c → g < W.heap.size := by
  intro g o n c e
  rcases h.row.2 with ⟨e', _⟩ | ⟨g', cap, cur, e', _, a2, _⟩
  · rw [e'] at e; cases e
  · rw [e'] at e; cases e; exact (Array.getElem?_eq_some_iff.1 a2).1
set_option maxRecDepth 100000 in
set_option maxHeartbeats 4000000 in
theorem leave_any (R : Nat) (v : Value) (sg : List UInt8) (st : List Wt) (und : Bool) (w : World) (h : Rk w R v st und) :
    Calls Tryd.prog 49 #[.pointer (some ⟨R, 0, none⟩), .string ⟨sg.toArray⟩] w fun e w' => e = .returned (.tuple #[(leaveM sg st).1.v, .bool (leaveM sg st).2.1]) ∧ (∃ v', Rk w' R v' (leaveM sg st).2.2 und) ∧ Fk R w w' := by
  have hlR := h.lt
  have hb0 := below_new w (.cells #[.string ⟨#[]⟩, .int .i64 0, .int .u64 0, .bool false, .bool false, .bool false] 97)
  have hn0 := World.alloc_heap_new w (.cells #[.string ⟨#[]⟩, .int .i64 0, .int .u64 0, .bool false, .bool false, .bool false] 97)
  have hz0 : (w.alloc (.cells #[.string ⟨#[]⟩, .int .i64 0, .int .u64 0, .bool false, .bool false, .bool false] 97)).heap.size = w.heap.size + 1 := by simp
  have hk0 := h.next hb0
  obtain ⟨c0, _, _⟩ := hk0.three
  obtain ⟨p, cp, hvp⟩ := ownsRow_slice h.row
  have HK0 := hide hk0
  have HN0 := hide hn0
  have HB0 := hide hb0
  have HOL := hide h.olds
  subst hvp
  clear h hk0 hn0 hb0
  match st with
  | [] =>
    simp only [leaveM, zeroW, Wt.v, List.length_nil] at *
    go_enter Tryd.func49, Tryd.ntmps49
    go_wp2
    refine bodyPost_ret (res_wt (f := Tryd.f49) rfl rfl (unhide HN0) rfl) rfl ⟨rfl, ⟨_, unhide HK0⟩, Fk.of (unhide HB0) (by omega)⟩
  | x :: r =>
    have HL := hide (last_any R _ x r und _ (unhide HK0))
    have hll : (((x :: r).length : Nat) : Int) = (r.length : Int) + 1 := by simp
    have i1 : ((r.length : Int) + 1 == 0) = false := by rw [beq_eq_false_iff_ne]; omega
    have HLM : Hid (leaveM sg (x :: r) = if x.sign == sg then (x, true, r) else (zeroW, false, x :: r)) := rfl
    generalize leaveM sg (x :: r) = LM at *
    rw [List.length_cons] at c0
    generalize r.length = n at *
    cases hE : x.sign == sg
    · rw [hE] at HLM
      simp only [Bool.false_eq_true, if_false] at HLM
      obtain rfl := unhide HLM
      simp only [zeroW, Wt.v] at HL ⊢
      obtain ⟨s, lev, ⟨ab, au⟩, taken, skips⟩ := x
      simp only at HL hE
      have hE' : (s != sg) = true := by simp [bne, hE]
      go_enter Tryd.func49, Tryd.ntmps49
      go_wp2_with fail
      refine (unhide HL).mono ?_
      rintro e W1 ⟨rfl, hb1⟩
      have hn1 := (hb1.block w.heap.size (by omega)).trans (unhide HN0)
      obtain ⟨⟨r0, r1, r2, r3, r4, r5⟩, fr⟩ := sixes hn1
      have fr0 := fr 0
      have fr1 := fr 1
      have fr2 := fr 2
      have fr3 := fr 3
      have fr4 := fr 4
      have fr5 := fr 5
      have HN1 := hide hn1
      have HK1 := hide ((unhide HK0).next hb1)
      have HF1 := hide ((Fk.of (R := R) (unhide HB0) (by omega)).trans (Fk.of hb1 (by omega)))
      clear fr hn1 hb1 HL
      have hfl := fld96_0
      go_wp2
      refine bodyPost_ret (res_wt (f := Tryd.f49) rfl rfl (put6_block (unhide HN1) _ _ _ _ _ _) rfl) rfl ⟨rfl, ⟨_, put6_rk (unhide HK1) (by omega) (fun g o n c e => by have := unhide HOL g o n c e; omega) _ _ _ _ _ _⟩, put6_fk (unhide HF1) (by omega) (unhide HN1) _ _ _ _ _ _⟩
    · rw [hE] at HLM
      simp only [if_true] at HLM
      obtain rfl := unhide HLM
      have HP := hide (fun W v (hk : Rk W R v (x :: r) und) => pop_any R v x r und W hk)
      obtain ⟨s, lev, ⟨ab, au⟩, taken, skips⟩ := x
      simp only [Wt.v] at HL HP hE ⊢
      have hE' : (s != sg) = false := by simp [bne, hE]
      go_enter Tryd.func49, Tryd.ntmps49
      go_wp2_with fail
      refine (unhide HL).mono ?_
      rintro e W1 ⟨rfl, hb1⟩
      have HN1 := hide ((hb1.block w.heap.size (by omega)).trans (unhide HN0))
      have HP1 := hide (unhide HP W1 _ ((unhide HK0).next hb1))
      have HBX := hide ((unhide HK0).next hb1).box
      have HF1 := hide ((Fk.of (R := R) (unhide HB0) (by omega)).trans (Fk.of hb1 (by omega)))
      have hl1 : w.heap.size < W1.heap.size := by have := hb1.size; omega
      clear HL HP hb1
      have hfl := fld96_0
      go_wp2_with fail
      refine (unhide HP1).mono ?_
      rintro e W2 ⟨rfl, ⟨v', hk2, hsame⟩, hf2⟩
      have hn2 := (hf2.keep w.heap.size hl1 (by omega)).trans (unhide HN1)
      obtain ⟨⟨r0, r1, r2, r3, r4, r5⟩, fr⟩ := sixes hn2
      have fr0 := fr 0
      have fr1 := fr 1
      have fr2 := fr 2
      have fr3 := fr 3
      have fr4 := fr 4
      have fr5 := fr 5
      have HN2 := hide hn2
      have HK2 := hide hk2
      have HF2 := hide ((unhide HF1).trans (hf2.fk (unhide HBX)))
      have HNE : Hid (∀ g o n c, v' = .slice (some ⟨g, o, none⟩) n c → g ≠ w.heap.size) := fun g o n c e => by
        obtain ⟨n', c', e'⟩ := hsame g o n c e
        have := unhide HOL g o n' c' e'
        omega
      clear fr hn2 hk2 hf2 HP1
      go_wp2
      refine bodyPost_ret (res_wt (f := Tryd.f49) rfl rfl (put6_block (unhide HN2) _ _ _ _ _ _) rfl) rfl ⟨rfl, ⟨_, put6_rk (unhide HK2) (by omega) (unhide HNE) _ _ _ _ _ _⟩, put6_fk (unhide HF2) (by omega) (unhide HN2) _ _ _ _ _ _⟩
end Go.Proofs.YtfghfohlcofdpaaDoor
