/-
  The document's own One: which token a text alone is.
-/
import Derived.Test.YticiddcgafhkhaaGreatDoorR7
import Derived.Test.YticiddcgafhkhaaGreatDoorLa
namespace Go.Proofs.YticiddcgafhkhaaGreatDoor
open Go Go.RowKit
set_option linter.unusedVariables false
set_option linter.unusedSimpArgs false

theorem rLex_one (s : ByteArray) (w : World) (hs : s.size ≤ 140737488355328) :
    Calls Tryz.prog 75 #[.slice (some ⟨w.heap.size, 0, none⟩) 1 1] (w.alloc (.cells #[.int .i64 1, .string s] 61)) fun e w' => ∃ v', e = .returned (.tuple #[v', .int .i64 (lex1 s).2.1, .int .i64 (lex1 s).2.2]) ∧
      TkS (w.heap.size + 1) w' v' (lex1 s).1 ∧ Below (w.heap.size + 1) (w.alloc (.cells #[.int .i64 1, .string s] 61)) w' := by
  have hz : (w.alloc (.cells #[.int .i64 1, .string s] 61)).heap.size = w.heap.size + 1 := by simp
  have hnew : (w.alloc (.cells #[.int .i64 1, .string s] 61)).heap[w.heap.size]? = some (.cells #[.int .i64 1, .string s] 61 (0, 0)) := World.alloc_heap_new w _
  have hl : LnB (w.alloc (.cells #[.int .i64 1, .string s] 61)).heap.size (w.alloc (.cells #[.int .i64 1, .string s] 61)) (.slice (some ⟨w.heap.size, 0, none⟩) 1 1) [(1, s)] := by
    refine ⟨some ⟨w.heap.size, 0, none⟩, 1, rfl, fun i hi => ⟨w.heap.size, 0, rfl, by omega, ?_, ?_⟩⟩
    · obtain rfl : i = 0 := by simpa using hi
      rw [World.cell?, hnew]; rfl
    · obtain rfl : i = 0 := by simpa using hi
      rw [World.cell?, hnew]; rfl
  have hf : Fits [(1, s)] := ⟨by simp, fun x hx => by simp at hx; subst hx; exact hs⟩
  refine (rLex_q _ _ _ hf hl).mono ?_
  rintro e w' ⟨v', rfl, hrow, hb⟩
  rw [hz] at hrow hb
  exact ⟨v', rfl, TkS.of hrow rfl, hb⟩

theorem res18 {tmps : Array Value} {w : World} {R : Nat} {cs : Array Value} (hp : tmps.getD 2 undef = .pointer (some ⟨R, 0, none⟩)) (hg : w.heap[R]? = some (.cells cs 74 (0, 0))) (hz : cs.size = 6) :
    (results Tryz.f61 tmps).run Tryz.prog w = .ok (.tuple #[.agg cs, tmps.getD 3 undef]) w := by
  rw [results_cell_tmp rfl, hp]
  have hi : (Tryz.prog.info? 74).map (·.size) = some cs.size := by rw [hz]; kernel_rfl
  simp [asAddr, run_loadVar_row w R 74 74 cs (0, 0) _ hg Tryz.underlying74 rfl hi]

set_option maxRecDepth 100000 in
set_option maxHeartbeats 4000000 in
theorem rOne_any (s : ByteArray) (w : World) (hs : s.size ≤ 140737488355328) :
    Calls Tryz.prog 61 #[.string s] w fun e w' => e = .returned (oneV s) ∧ Below w.heap.size w w' := by
  have hR1 : (w.alloc (.cells zeroT 74)).heap[w.heap.size]? = some (.cells zeroT 74 (0, 0)) := World.alloc_heap_new w _
  have hb1 : Below w.heap.size w (w.alloc (.cells zeroT 74)) := (Below.refl _ w).alloc (Nat.le_refl _) _
  have hz1 : (w.alloc (.cells zeroT 74)).heap.size = w.heap.size + 1 := by simp
  have HLX := hide (rLex_one s (w.alloc (.cells zeroT 74)) hs)
  have HV : Hid (oneV s = match (lex1 s).1 with | [t] => if t.s = s.data.toList then Value.tuple #[tokV t, .bool true] else .tuple #[.agg zeroT, .bool false] | _ => .tuple #[.agg zeroT, .bool false]) := rfl
  have HE : Hid ((lex1 s).2.1 ≠ 0 → (lex1 s).1 = []) := fun h => Tk.lex_err h
  have HI : Hid (∀ t ∈ (lex1 s).1, t.s <:+: s.data.toList) := fun t ht => Tk.lex_infix ht
  generalize oneV s = V at *
  generalize lex1 s = R at *
  obtain ⟨L, er, n⟩ := R
  simp only at HE HI
  simp only at HV
  unfold zeroT at hR1 hb1 hz1 HLX
  rw [hz1] at HLX
  go_enter Tryz.func61, Tryz.ntmps61
  go_wp2_with fail
  refine (unhide HLX).mono ?_
  rintro e W2 ⟨v', rfl, hT, hb2⟩
  have hR2 : W2.heap[w.heap.size]? = some (.cells #[.int .i64 0, .string ⟨#[]⟩, .string ⟨#[]⟩, .int .i64 0, .bool false, .bool false] 74 (0, 0)) :=
    (hb2.block _ (by omega)).trans ((Below.heap_alloc _ _ _ (by omega)).trans hR1)
  have hb3 : Below w.heap.size w W2 := (hb1.trans ((Below.refl _ _).alloc (by omega) _)).trans (hb2.mono (by omega))
  have r0 : W2.cell? ⟨w.heap.size, 0, none⟩ = some (.int .i64 0) := by rw [World.cell?, hR2]; rfl
  have r1 : W2.cell? ⟨w.heap.size, 1, none⟩ = some (.string ⟨#[]⟩) := by rw [World.cell?, hR2]; rfl
  have r2 : W2.cell? ⟨w.heap.size, 2, none⟩ = some (.string ⟨#[]⟩) := by rw [World.cell?, hR2]; rfl
  have r3 : W2.cell? ⟨w.heap.size, 3, none⟩ = some (.int .i64 0) := by rw [World.cell?, hR2]; rfl
  have r4 : W2.cell? ⟨w.heap.size, 4, none⟩ = some (.bool false) := by rw [World.cell?, hR2]; rfl
  have r5 : W2.cell? ⟨w.heap.size, 5, none⟩ = some (.bool false) := by rw [World.cell?, hR2]; rfl
  have fr : ∀ i, W2.frozen? ⟨w.heap.size, i, none⟩ = false := fun i => by simp [World.frozen?, hR2]
  have fr0 := fr 0
  have fr1 := fr 1
  have fr2 := fr 2
  have fr3 := fr 3
  have fr4 := fr 4
  have fr5 := fr 5
  have hset : ∀ i v, Below w.heap.size w (W2.setCell ⟨w.heap.size, i, none⟩ v) := fun i v => hb3.setCell (p := ⟨w.heap.size, i, none⟩) (Nat.le_refl _) v
  clear fr hset HLX hR1 hb1 hz1
  obtain ⟨p, cap, rfl, hc⟩ := hT
  have HC := hide hc
  clear hc
  have fin : ∀ a0 a1 a2 a3 a4 a5, Below w.heap.size w ((((((W2.setCell ⟨w.heap.size, 0, none⟩ a0).setCell ⟨w.heap.size, 1, none⟩ a1).setCell ⟨w.heap.size, 2, none⟩ a2).setCell ⟨w.heap.size, 3, none⟩ a3).setCell ⟨w.heap.size, 4, none⟩ a4).setCell ⟨w.heap.size, 5, none⟩ a5) := fun a0 a1 a2 a3 a4 a5 =>
    (((((hb3.setCell (p := ⟨w.heap.size, 0, none⟩) (Nat.le_refl _) _).setCell (p := ⟨w.heap.size, 1, none⟩) (Nat.le_refl _) _).setCell (p := ⟨w.heap.size, 2, none⟩) (Nat.le_refl _) _).setCell (p := ⟨w.heap.size, 3, none⟩) (Nat.le_refl _) _).setCell (p := ⟨w.heap.size, 4, none⟩) (Nat.le_refl _) _).setCell (p := ⟨w.heap.size, 5, none⟩) (Nat.le_refl _) _
  have FIN := hide fin
  clear fin
  by_cases her : er = 0
  · subst her
    clear HE
    by_cases h1 : L.length = 1
    · match L, h1 with
      | [t], _ =>
        obtain ⟨g, rfl, hg1, hg2, c0, c1, c2, c3, c4, c5⟩ := unhide HC 0 (by simp)
        simp only [List.getElem_cons_zero, Nat.zero_mul, Nat.zero_add] at c0 c1 c2 c3 c4 c5
        have hgn : g ≠ w.heap.size := by omega
        have hin := unhide HI t (by simp)
        have hiff : t.s.length = s.size ↔ t.s = s.data.toList := ⟨fun h => Tk.infix_eq hin (by simpa using h), fun h => by rw [h]; simp⟩
        clear HI hin
        by_cases hts : t.s = s.data.toList
        · have he' : (((t.s.length : Nat) : Int) != ((s.size : Nat) : Int)) = false := by rw [bne_eq_false_iff_eq, hiff.2 hts]
          have HVV : Hid (V = .tuple #[tokV t, .bool true]) := by rw [Hid, unhide HV]; simp only [hts, if_true]
          clear hiff hts HV
          go_wp2
          refine bodyPost_ret (res18 rfl (six_set hR2 _ _ _ _ _ _) rfl) rfl ⟨?_, unhide FIN _ _ _ _ _ _⟩
          rw [unhide HVV]; rfl
        · have he' : (((t.s.length : Nat) : Int) != ((s.size : Nat) : Int)) = true := by
            rw [bne_iff_ne]
            intro h
            exact hts (hiff.1 (by omega))
          have HVV : Hid (V = .tuple #[.agg zeroT, .bool false]) := by rw [Hid, unhide HV]; simp only [hts, if_false]
          clear hiff hts HV
          go_wp2
          refine bodyPost_ret (res18 rfl (six_set hR2 _ _ _ _ _ _) rfl) rfl ⟨?_, unhide FIN _ _ _ _ _ _⟩
          rw [unhide HVV]; rfl
    · have i1 : (((L.length : Nat) : Int) != 1) = true := by rw [bne_iff_ne]; omega
      have hm : Hid (V = Value.tuple #[.agg zeroT, .bool false]) := by
        rw [Hid, unhide HV]
        match L, h1 with
        | [], _ => rfl
        | [t], h => simp at h
        | _ :: _ :: _, _ => rfl
      clear HV HI
      go_wp2
      refine bodyPost_ret (res18 rfl (six_set hR2 _ _ _ _ _ _) rfl) rfl ⟨?_, unhide FIN _ _ _ _ _ _⟩
      rw [unhide hm]; rfl
  · have hL := unhide HE her
    subst hL
    have i1 : ((er : Int) != 0) = true := by rw [bne_iff_ne]; exact her
    have hm : Hid (V = Value.tuple #[.agg zeroT, .bool false]) := by rw [Hid, unhide HV]
    clear HV HI HE
    go_wp2
    refine bodyPost_ret (res18 rfl (six_set hR2 _ _ _ _ _ _) rfl) rfl ⟨?_, unhide FIN _ _ _ _ _ _⟩
    rw [unhide hm]; rfl
end Go.Proofs.YticiddcgafhkhaaGreatDoor
