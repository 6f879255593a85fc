/-
  token.One: the token that a text alone is.
-/
import Derived.Test.YtmpkgjonbjpohaaGreatDoorY1
namespace Go.Proofs.YtmpkgjonbjpohaaGreatDoor
open Go Go.RowKit
set_option linter.unusedVariables false
set_option linter.unusedSimpArgs false

def oneV (s : ByteArray) : Value := match (lex1 s).1 with
  | [t] => if t.s = s.data.toList then .tuple #[tokV t, .bool true] else .tuple #[.agg zeroT, .bool false]
  | _ => .tuple #[.agg zeroT, .bool false]
theorem res17 {tmps : Array Value} {w : World} {R : Nat} {cs : Array Value} (hp : tmps.getD 2 undef = .pointer (some ⟨R, 0, none⟩)) (hg : w.heap[R]? = some (.cells cs 115 (0, 0))) (hz : cs.size = 6) :
    (results Tryz.f112 tmps).run Tryz.prog w = .ok (.tuple #[.agg cs, tmps.getD 3 undef]) w := by
  rw [results_cell_tmp rfl, hp]
  have hi : (Tryz.prog.info? 115).map (·.size) = some cs.size := by rw [hz]; kernel_rfl
  simp [asAddr, run_loadVar_row w R 115 115 cs (0, 0) _ hg Tryz.underlying115 rfl hi]

set_option maxRecDepth 100000 in
set_option maxHeartbeats 4000000 in
theorem One_any (s : ByteArray) (w : World) (hs : s.size ≤ 140737488355328) (hw0 : 10 < w.heap.size) (hsg : Sg w) :
    Calls Tryz.prog 112 #[.string s] w fun e w' => e = .returned (oneV s) ∧ Below w.heap.size w w' := by
  have hR1 : (w.alloc (.cells zeroT 115)).heap[w.heap.size]? = some (.cells zeroT 115 (0, 0)) := World.alloc_heap_new w _
  have hb1 : Below w.heap.size w (w.alloc (.cells zeroT 115)) := (Below.refl _ w).alloc (Nat.le_refl _) _
  have hz1 : (w.alloc (.cells zeroT 115)).heap.size = w.heap.size + 1 := by simp
  have HLX := hide (Lex_one s (w.alloc (.cells zeroT 115)) hs (by omega) (Sg.below hsg hb1 hw0))
  have HV : Hid (oneV s = match (lex1 s).1 with | [t] => if t.s = s.data.toList then Value.tuple #[tokV t, .bool true] else .tuple #[.agg zeroT, .bool false] | _ => .tuple #[.agg zeroT, .bool false]) := rfl
  generalize oneV s = V at *
  generalize lex1 s = R at *
  obtain ⟨L, er, n⟩ := R
  simp only at HV
  unfold zeroT at hR1 hb1 hz1 HLX
  rw [hz1] at HLX
  go_enter Tryz.func112, Tryz.ntmps112
  go_wp2_with fail
  refine (unhide HLX).mono ?_
  rintro e W2 ⟨v', rfl, hT, hb2⟩
  have hR2 : W2.heap[w.heap.size]? = some (.cells #[.int .i64 0, .string ⟨#[]⟩, .string ⟨#[]⟩, .int .i64 0, .bool false, .bool false] 115 (0, 0)) :=
    (hb2.block _ (by omega)).trans ((Below.heap_alloc _ _ _ (by omega)).trans hR1)
  have hb3 : Below w.heap.size w W2 := (hb1.trans ((Below.refl _ _).alloc (by omega) _)).trans (hb2.mono (by omega))
  have r0 : W2.cell? ⟨w.heap.size, 0, none⟩ = some (.int .i64 0) := by rw [World.cell?, hR2]; rfl
  have r1 : W2.cell? ⟨w.heap.size, 1, none⟩ = some (.string ⟨#[]⟩) := by rw [World.cell?, hR2]; rfl
  have r2 : W2.cell? ⟨w.heap.size, 2, none⟩ = some (.string ⟨#[]⟩) := by rw [World.cell?, hR2]; rfl
  have r3 : W2.cell? ⟨w.heap.size, 3, none⟩ = some (.int .i64 0) := by rw [World.cell?, hR2]; rfl
  have r4 : W2.cell? ⟨w.heap.size, 4, none⟩ = some (.bool false) := by rw [World.cell?, hR2]; rfl
  have r5 : W2.cell? ⟨w.heap.size, 5, none⟩ = some (.bool false) := by rw [World.cell?, hR2]; rfl
  have fr : ∀ i, W2.frozen? ⟨w.heap.size, i, none⟩ = false := fun i => by simp [World.frozen?, hR2]
  have fr0 := fr 0
  have fr1 := fr 1
  have fr2 := fr 2
  have fr3 := fr 3
  have fr4 := fr 4
  have fr5 := fr 5
  have hset : ∀ i v, Below w.heap.size w (W2.setCell ⟨w.heap.size, i, none⟩ v) := fun i v => hb3.setCell (p := ⟨w.heap.size, i, none⟩) (Nat.le_refl _) v
  clear fr hset HLX hR1 hb1 hz1
  obtain ⟨p, cap, rfl, hc⟩ := hT
  have HC := hide hc
  clear hc
  have fin : ∀ a0 a1 a2 a3 a4 a5, Below w.heap.size w ((((((W2.setCell ⟨w.heap.size, 0, none⟩ a0).setCell ⟨w.heap.size, 1, none⟩ a1).setCell ⟨w.heap.size, 2, none⟩ a2).setCell ⟨w.heap.size, 3, none⟩ a3).setCell ⟨w.heap.size, 4, none⟩ a4).setCell ⟨w.heap.size, 5, none⟩ a5) := fun a0 a1 a2 a3 a4 a5 =>
    (((((hb3.setCell (p := ⟨w.heap.size, 0, none⟩) (Nat.le_refl _) _).setCell (p := ⟨w.heap.size, 1, none⟩) (Nat.le_refl _) _).setCell (p := ⟨w.heap.size, 2, none⟩) (Nat.le_refl _) _).setCell (p := ⟨w.heap.size, 3, none⟩) (Nat.le_refl _) _).setCell (p := ⟨w.heap.size, 4, none⟩) (Nat.le_refl _) _).setCell (p := ⟨w.heap.size, 5, none⟩) (Nat.le_refl _) _
  have FIN := hide fin
  clear fin
  by_cases h1 : L.length = 1
  · match L, h1 with
    | [t], _ =>
      obtain ⟨g, rfl, hg1, hg2, c0, c1, c2, c3, c4, c5⟩ := unhide HC 0 (by simp)
      simp only [List.getElem_cons_zero, Nat.zero_mul, Nat.zero_add] at c0 c1 c2 c3 c4 c5
      have hgn : g ≠ w.heap.size := by omega
      have he : ((⟨t.s.toArray⟩ : ByteArray).toList == s.toList) = decide (t.s = s.data.toList) := by
        rw [ByteArray.toList_eq, ByteArray.toList_eq, Bool.eq_iff_iff]; simp
      by_cases hts : t.s = s.data.toList
      · have he' : (t.s == s.toList) = true := by rw [ByteArray.toList_eq, beq_iff_eq]; exact hts
        have HVV : Hid (V = .tuple #[tokV t, .bool true]) := by rw [Hid, unhide HV]; simp only [hts, if_true]
        clear he hts HV
        go_wp2
        refine bodyPost_ret (res17 rfl (six_set hR2 _ _ _ _ _ _) rfl) rfl ⟨?_, unhide FIN _ _ _ _ _ _⟩
        rw [unhide HVV]; rfl
      · have he' : (t.s == s.toList) = false := by rw [ByteArray.toList_eq, beq_eq_false_iff_ne]; exact hts
        have HVV : Hid (V = .tuple #[.agg zeroT, .bool false]) := by rw [Hid, unhide HV]; simp only [hts, if_false]
        clear he hts HV
        go_wp2
        refine bodyPost_ret (res17 rfl (six_set hR2 _ _ _ _ _ _) rfl) rfl ⟨?_, unhide FIN _ _ _ _ _ _⟩
        rw [unhide HVV]; rfl
  · have i1 : (((L.length : Nat) : Int) != 1) = true := by rw [bne_iff_ne]; omega
    have hm : Hid (V = Value.tuple #[.agg zeroT, .bool false]) := by
      rw [Hid, unhide HV]
      match L, h1 with
      | [], _ => rfl
      | [t], h => simp at h
      | _ :: _ :: _, _ => rfl
    clear HV
    go_wp2
    refine bodyPost_ret (res17 rfl (six_set hR2 _ _ _ _ _ _) rfl) rfl ⟨?_, unhide FIN _ _ _ _ _ _⟩
    rw [unhide hm]; rfl
end Go.Proofs.YtmpkgjonbjpohaaGreatDoor
