/-
  Tokens that were made, read again; token.Lex of one line; token.One; burinlaw02.shown.
-/
import Derived.Test.YticiddcgafhkhaaGreatDoorQ6
namespace Go.Proofs.YticiddcgafhkhaaGreatDoor
open Go Go.RowKit
set_option linter.unusedVariables false
set_option linter.unusedSimpArgs false

/-- A slice value that reads as these tokens, in a block from 'base' on. -/
def TkS (base : Nat) (W : World) (v : Value) (l : List Tk.T) : Prop :=
  ∃ p cap, v = .slice p l.length cap ∧ ∀ (i : Nat) (h : i < l.length), ∃ g, p = some ⟨g, 0, none⟩ ∧ base ≤ g ∧ g < W.heap.size ∧
    W.cell? ⟨g, i * 6, none⟩ = some (.int .i64 (l[i].kind : Nat)) ∧ W.cell? ⟨g, i * 6 + 1, none⟩ = some (.string ⟨l[i].s.toArray⟩) ∧ W.cell? ⟨g, i * 6 + 2, none⟩ = some (.string ⟨#[]⟩) ∧
    W.cell? ⟨g, i * 6 + 3, none⟩ = some (.int .i64 l[i].line) ∧ W.cell? ⟨g, i * 6 + 4, none⟩ = some (.bool l[i].sp) ∧ W.cell? ⟨g, i * 6 + 5, none⟩ = some (.bool l[i].fi)
theorem tokCells_at : ∀ (l : List Tk.T) (i : Nat) (h : i < l.length) (j : Nat), j < 6 → (tokCells l)[i * 6 + j]? = (tokC l[i])[j]?
  | [], i, h, _, _ => by simp at h
  | x :: r, 0, h, j, hj => by
    show (tokC x ++ tokCells r)[0 * 6 + j]? = (tokC x)[j]?
    rw [Nat.zero_mul, Nat.zero_add]
    exact List.getElem?_append_left hj
  | x :: r, i + 1, h, j, hj => by
    have hi : i < r.length := by simpa using h
    have := tokCells_at r i hi j hj
    show (tokC x ++ tokCells r)[(i + 1) * 6 + j]? = (tokC r[i])[j]?
    rw [← this, show (i + 1) * 6 + j = (tokC x).length + (i * 6 + j) by simp [tokC]; omega, List.getElem?_append_right (by omega)]
    congr 1
    omega
theorem add_row' (g j : Nat) : (⟨g, 0, none⟩ : Addr).add j = ⟨g, j, none⟩ := by unfold Addr.add; split <;> simp_all
theorem TkS.of {W : World} {base n : Nat} {v : Value} {L : List Tk.T} (h : W.ownsRow base 74 6 v n (tokCells L)) (hn : n = L.length) : TkS base W v L := by
  subst hn
  have hc : ∀ {g : Nat}, v.ownBlock = some g → ∀ j u, (tokCells L)[j]? = some u → W.cell? ((⟨g, 0, none⟩ : Addr).add j) = some u := fun hg => h.cells hg
  have hlt := h.lt
  rcases h.2 with ⟨rfl, h0⟩ | ⟨g, cap, cur, rfl, hbg, _⟩
  · exact ⟨none, 0, by rw [h0], fun i hi => by omega⟩
  · refine ⟨some ⟨g, 0, none⟩, cap, rfl, fun i hi => ⟨g, rfl, hbg, (hlt g rfl).2, ?_⟩⟩
    have key : ∀ j u, j < 6 → (tokC L[i])[j]? = some u → W.cell? ⟨g, i * 6 + j, none⟩ = some u := fun j u hj hu => by
      have := hc (g := g) rfl (i * 6 + j) u (by rw [tokCells_at L i hi j hj]; exact hu)
      rw [add_row'] at this; exact this
    exact ⟨key 0 _ (by decide) rfl, key 1 _ (by decide) rfl, key 2 _ (by decide) rfl, key 3 _ (by decide) rfl, key 4 _ (by decide) rfl, key 5 _ (by decide) rfl⟩
theorem TkS.below {W W' : World} {B base : Nat} {v : Value} {L : List Tk.T} (h : TkS base W v L) (hb : Below B W W') (hB : W.heap.size ≤ B) : TkS base W' v L := by
  obtain ⟨p, cap, rfl, hc⟩ := h
  refine ⟨p, cap, rfl, fun i hi => ?_⟩
  obtain ⟨g, rfl, h1, h2, c0, c1, c2, c3, c4, c5⟩ := hc i hi
  have key : ∀ j u, W.cell? ⟨g, j, none⟩ = some u → W'.cell? ⟨g, j, none⟩ = some u := fun j u hu => (hb.cell (p := ⟨g, j, none⟩) (by show g < B; omega)).trans hu
  exact ⟨g, rfl, h1, Nat.lt_of_lt_of_le h2 hb.size, key _ _ c0, key _ _ c1, key _ _ c2, key _ _ c3, key _ _ c4, key _ _ c5⟩

def lex1 (s : ByteArray) : List Tk.T × Int × Int := Tk.lex [(1, s.data.toList)]
theorem Lex_one (s : ByteArray) (w : World) (hs : s.size ≤ 140737488355328) (hw0 : 1 < w.heap.size) (hsg : Sg w) :
    Calls Tryz.prog 22 #[.slice (some ⟨w.heap.size, 0, none⟩) 1 1] (w.alloc (.cells #[.int .i64 1, .string s] 61)) fun e w' => ∃ v', e = .returned (.tuple #[v', .int .i64 (lex1 s).2.1, .int .i64 (lex1 s).2.2]) ∧
      TkS (w.heap.size + 1) w' v' (lex1 s).1 ∧ Below (w.heap.size + 1) (w.alloc (.cells #[.int .i64 1, .string s] 61)) w' := by
  have hz : (w.alloc (.cells #[.int .i64 1, .string s] 61)).heap.size = w.heap.size + 1 := by simp
  have hnew : (w.alloc (.cells #[.int .i64 1, .string s] 61)).heap[w.heap.size]? = some (.cells #[.int .i64 1, .string s] 61 (0, 0)) := World.alloc_heap_new w _
  have hl : LnB (w.alloc (.cells #[.int .i64 1, .string s] 61)).heap.size (w.alloc (.cells #[.int .i64 1, .string s] 61)) (.slice (some ⟨w.heap.size, 0, none⟩) 1 1) [(1, s)] := by
    refine ⟨some ⟨w.heap.size, 0, none⟩, 1, rfl, fun i hi => ⟨w.heap.size, 0, rfl, by omega, ?_, ?_⟩⟩
    · obtain rfl : i = 0 := by simpa using hi
      rw [World.cell?, hnew]; rfl
    · obtain rfl : i = 0 := by simpa using hi
      rw [World.cell?, hnew]; rfl
  have hsg' : Sg (w.alloc (.cells #[.int .i64 1, .string s] 61)) := Sg.below hsg ((Below.refl _ w).alloc (Nat.le_refl _) _) hw0
  have hf : Fits [(1, s)] := ⟨by simp, fun x hx => by simp at hx; subst hx; exact hs⟩
  refine (Lex_any _ _ _ hf (by omega) hl hsg').mono ?_
  rintro e w' ⟨v', rfl, hrow, hb⟩
  rw [hz] at hrow hb
  exact ⟨v', rfl, TkS.of hrow rfl, hb⟩

def oneV (s : ByteArray) : Value := match (lex1 s).1 with
  | [t] => if t.s = s.data.toList then .tuple #[tokV t, .bool true] else .tuple #[.agg zeroT, .bool false]
  | _ => .tuple #[.agg zeroT, .bool false]
theorem res17 {tmps : Array Value} {w : World} {R : Nat} {cs : Array Value} (hp : tmps.getD 2 undef = .pointer (some ⟨R, 0, none⟩)) (hg : w.heap[R]? = some (.cells cs 74 (0, 0))) (hz : cs.size = 6) :
    (results Tryz.f53 tmps).run Tryz.prog w = .ok (.tuple #[.agg cs, tmps.getD 3 undef]) w := by
  rw [results_cell_tmp rfl, hp]
  have hi : (Tryz.prog.info? 74).map (·.size) = some cs.size := by rw [hz]; kernel_rfl
  simp [asAddr, run_loadVar_row w R 74 74 cs (0, 0) _ hg Tryz.underlying74 rfl hi]

set_option maxRecDepth 100000 in
set_option maxHeartbeats 4000000 in
theorem One_any (s : ByteArray) (w : World) (hs : s.size ≤ 140737488355328) (hw0 : 1 < w.heap.size) (hsg : Sg w) :
    Calls Tryz.prog 53 #[.string s] w fun e w' => e = .returned (oneV s) ∧ Below w.heap.size w w' := by
  have hR1 : (w.alloc (.cells zeroT 74)).heap[w.heap.size]? = some (.cells zeroT 74 (0, 0)) := World.alloc_heap_new w _
  have hb1 : Below w.heap.size w (w.alloc (.cells zeroT 74)) := (Below.refl _ w).alloc (Nat.le_refl _) _
  have hz1 : (w.alloc (.cells zeroT 74)).heap.size = w.heap.size + 1 := by simp
  have HLX := hide (Lex_one s (w.alloc (.cells zeroT 74)) hs (by omega) (Sg.below hsg hb1 hw0))
  have HV : Hid (oneV s = match (lex1 s).1 with | [t] => if t.s = s.data.toList then Value.tuple #[tokV t, .bool true] else .tuple #[.agg zeroT, .bool false] | _ => .tuple #[.agg zeroT, .bool false]) := rfl
  generalize oneV s = V at *
  generalize lex1 s = R at *
  obtain ⟨L, er, n⟩ := R
  simp only at HV
  unfold zeroT at hR1 hb1 hz1 HLX
  rw [hz1] at HLX
  go_enter Tryz.func53, Tryz.ntmps53
  go_wp2_with fail
  refine (unhide HLX).mono ?_
  rintro e W2 ⟨v', rfl, hT, hb2⟩
  have hR2 : W2.heap[w.heap.size]? = some (.cells #[.int .i64 0, .string ⟨#[]⟩, .string ⟨#[]⟩, .int .i64 0, .bool false, .bool false] 74 (0, 0)) :=
    (hb2.block _ (by omega)).trans ((Below.heap_alloc _ _ _ (by omega)).trans hR1)
  have hb3 : Below w.heap.size w W2 := (hb1.trans ((Below.refl _ _).alloc (by omega) _)).trans (hb2.mono (by omega))
  have r0 : W2.cell? ⟨w.heap.size, 0, none⟩ = some (.int .i64 0) := by rw [World.cell?, hR2]; rfl
  have r1 : W2.cell? ⟨w.heap.size, 1, none⟩ = some (.string ⟨#[]⟩) := by rw [World.cell?, hR2]; rfl
  have r2 : W2.cell? ⟨w.heap.size, 2, none⟩ = some (.string ⟨#[]⟩) := by rw [World.cell?, hR2]; rfl
  have r3 : W2.cell? ⟨w.heap.size, 3, none⟩ = some (.int .i64 0) := by rw [World.cell?, hR2]; rfl
  have r4 : W2.cell? ⟨w.heap.size, 4, none⟩ = some (.bool false) := by rw [World.cell?, hR2]; rfl
  have r5 : W2.cell? ⟨w.heap.size, 5, none⟩ = some (.bool false) := by rw [World.cell?, hR2]; rfl
  have fr : ∀ i, W2.frozen? ⟨w.heap.size, i, none⟩ = false := fun i => by simp [World.frozen?, hR2]
  have fr0 := fr 0
  have fr1 := fr 1
  have fr2 := fr 2
  have fr3 := fr 3
  have fr4 := fr 4
  have fr5 := fr 5
  have hset : ∀ i v, Below w.heap.size w (W2.setCell ⟨w.heap.size, i, none⟩ v) := fun i v => hb3.setCell (p := ⟨w.heap.size, i, none⟩) (Nat.le_refl _) v
  clear fr hset HLX hR1 hb1 hz1
  obtain ⟨p, cap, rfl, hc⟩ := hT
  have HC := hide hc
  clear hc
  have fin : ∀ a0 a1 a2 a3 a4 a5, Below w.heap.size w ((((((W2.setCell ⟨w.heap.size, 0, none⟩ a0).setCell ⟨w.heap.size, 1, none⟩ a1).setCell ⟨w.heap.size, 2, none⟩ a2).setCell ⟨w.heap.size, 3, none⟩ a3).setCell ⟨w.heap.size, 4, none⟩ a4).setCell ⟨w.heap.size, 5, none⟩ a5) := fun a0 a1 a2 a3 a4 a5 =>
    (((((hb3.setCell (p := ⟨w.heap.size, 0, none⟩) (Nat.le_refl _) _).setCell (p := ⟨w.heap.size, 1, none⟩) (Nat.le_refl _) _).setCell (p := ⟨w.heap.size, 2, none⟩) (Nat.le_refl _) _).setCell (p := ⟨w.heap.size, 3, none⟩) (Nat.le_refl _) _).setCell (p := ⟨w.heap.size, 4, none⟩) (Nat.le_refl _) _).setCell (p := ⟨w.heap.size, 5, none⟩) (Nat.le_refl _) _
  have FIN := hide fin
  clear fin
  by_cases h1 : L.length = 1
  · match L, h1 with
    | [t], _ =>
      obtain ⟨g, rfl, hg1, hg2, c0, c1, c2, c3, c4, c5⟩ := unhide HC 0 (by simp)
      simp only [List.getElem_cons_zero, Nat.zero_mul, Nat.zero_add] at c0 c1 c2 c3 c4 c5
      have hgn : g ≠ w.heap.size := by omega
      have he : ((⟨t.s.toArray⟩ : ByteArray).toList == s.toList) = decide (t.s = s.data.toList) := by
        rw [ByteArray.toList_eq, ByteArray.toList_eq, Bool.eq_iff_iff]; simp
      by_cases hts : t.s = s.data.toList
      · have he' : (t.s == s.toList) = true := by rw [ByteArray.toList_eq, beq_iff_eq]; exact hts
        have HVV : Hid (V = .tuple #[tokV t, .bool true]) := by rw [Hid, unhide HV]; simp only [hts, if_true]
        clear he hts HV
        go_wp2
        refine bodyPost_ret (res17 rfl (six_set hR2 _ _ _ _ _ _) rfl) rfl ⟨?_, unhide FIN _ _ _ _ _ _⟩
        rw [unhide HVV]; rfl
      · have he' : (t.s == s.toList) = false := by rw [ByteArray.toList_eq, beq_eq_false_iff_ne]; exact hts
        have HVV : Hid (V = .tuple #[.agg zeroT, .bool false]) := by rw [Hid, unhide HV]; simp only [hts, if_false]
        clear he hts HV
        go_wp2
        refine bodyPost_ret (res17 rfl (six_set hR2 _ _ _ _ _ _) rfl) rfl ⟨?_, unhide FIN _ _ _ _ _ _⟩
        rw [unhide HVV]; rfl
  · have i1 : (((L.length : Nat) : Int) != 1) = true := by rw [bne_iff_ne]; omega
    have hm : Hid (V = Value.tuple #[.agg zeroT, .bool false]) := by
      rw [Hid, unhide HV]
      match L, h1 with
      | [], _ => rfl
      | [t], h => simp at h
      | _ :: _ :: _, _ => rfl
    clear HV
    go_wp2
    refine bodyPost_ret (res17 rfl (six_set hR2 _ _ _ _ _ _) rfl) rfl ⟨?_, unhide FIN _ _ _ _ _ _⟩
    rw [unhide hm]; rfl
end Go.Proofs.YticiddcgafhkhaaGreatDoor
