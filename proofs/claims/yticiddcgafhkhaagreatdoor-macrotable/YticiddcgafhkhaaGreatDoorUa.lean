/-
  Package macro, the small ones: isName, isSign, lists of strings, slices.Index, Contains, Equal at strings and tokens.
  slices.Index, Contains at strings; slices.Equal at strings and tokens.
  Package macro: slices.Clone at tokens, placeless.
  Package macro: placeless.
-/
import Derived.Test.YticiddcgafhkhaaGreatDoorG1
import Derived.Lib.SliceRun
namespace Go.Proofs.YticiddcgafhkhaaGreatDoor
open Go Go.RowKit
set_option linter.unusedVariables false
set_option linter.unusedSimpArgs false

/-- A slice value that reads as these strings, in a block below B. -/
def StG (B : Nat) (W : World) (v : Value) (l : List (List UInt8)) : Prop :=
  ∃ p cap, v = .slice p l.length cap ∧ ∀ (i : Nat) (h : i < l.length), ∃ g o, p = some ⟨g, o, none⟩ ∧ g < B ∧
    W.cell? ⟨g, o + i, none⟩ = some (.string ⟨l[i].toArray⟩)
theorem StG.below {B : Nat} {W W' : World} {v : Value} {l : List (List UInt8)} (h : StG B W v l) (hb : Below B W W') : StG B W' v l := by
  obtain ⟨p, cap, rfl, hc⟩ := h
  refine ⟨p, cap, rfl, fun i hi => ?_⟩
  obtain ⟨g, o, rfl, h1, c0⟩ := hc i hi
  exact ⟨g, o, rfl, h1, (hb.cell (p := ⟨g, o + i, none⟩) h1).trans c0⟩
theorem StG.mono {B B' : Nat} {W : World} {v : Value} {l : List (List UInt8)} (h : StG B W v l) (hb : B ≤ B') : StG B' W v l := by
  obtain ⟨p, cap, rfl, hc⟩ := h
  refine ⟨p, cap, rfl, fun i hi => ?_⟩
  obtain ⟨g, o, rfl, h1, hr⟩ := hc i hi
  exact ⟨g, o, rfl, by omega, hr⟩

/-- A text that is a name alone. -/
def nmB (s : ByteArray) : Bool := match (lex1 s).1 with
  | [t] => if t.s = s.data.toList then decide (((t.kind : Nat) : Int) = 1) else false
  | _ => false
theorem one_parts (s : ByteArray) : ∃ (k : Int) (a b : ByteArray) (n : Int) (p q ok : Bool), oneV s = .tuple #[.agg #[.int .i64 k, .string a, .string b, .int .i64 n, .bool p, .bool q], .bool ok] ∧ nmB s = (ok && (k == 1)) := by
  unfold oneV nmB
  generalize (lex1 s).1 = L
  match L with
  | [t] =>
    by_cases h : t.s = s.data.toList
    · simp only [h, if_true]
      exact ⟨(t.kind : Nat), _, _, _, _, _, true, rfl, by rw [Bool.true_and, Bool.eq_iff_iff]; simp⟩
    · simp only [h, if_false]
      exact ⟨0, ⟨#[]⟩, ⟨#[]⟩, 0, false, false, false, rfl, rfl⟩
  | [] => exact ⟨0, ⟨#[]⟩, ⟨#[]⟩, 0, false, false, false, rfl, rfl⟩
  | _ :: _ :: _ => exact ⟨0, ⟨#[]⟩, ⟨#[]⟩, 0, false, false, false, rfl, rfl⟩

set_option maxRecDepth 100000 in
set_option maxHeartbeats 2000000 in
theorem isName_any (s : ByteArray) (w : World) (hs : s.size ≤ 140737488355328) (hw0 : 1 < w.heap.size) (hsg : Sg w) :
    Calls Tryz.prog 36 #[.string s] w fun e w' => e = .returned (.bool (nmB s)) ∧ Below w.heap.size w w' := by
  have hO := One_any s w hs hw0 hsg
  obtain ⟨k, a, b, n, p, q, ok, e1, e2⟩ := one_parts s
  rw [e1] at hO
  have HO := hide hO
  clear hO e1
  generalize nmB s = D at *
  have HE := hide e2
  clear e2
  go_enter Tryz.func36, Tryz.ntmps36
  go_wp2_with fail
  refine (unhide HO).mono ?_
  rintro e W1 ⟨rfl, hb1⟩
  have hz1 := hb1.size
  have fin : ∀ o, Below w.heap.size w (W1.alloc o) := fun o => hb1.alloc hz1 o
  have FIN := hide fin
  clear fin
  cases ok
  · go_wp2
    go_ret
    refine ⟨?_, ?_⟩
    · rw [unhide HE]; rfl
    · exact unhide FIN _
  · go_wp2
    go_ret
    refine ⟨?_, ?_⟩
    · rw [unhide HE]; rfl
    · exact unhide FIN _

set_option maxRecDepth 100000 in
set_option maxHeartbeats 2000000 in
theorem isSign_any (x : Gt) (s : ByteArray) (w : World) :
    Calls Tryz.prog 33 #[.agg (gC x), .string s] w fun e w' => e = .returned (.bool (decide (x.kind = 5) && decide (x.s = s.data.toList))) ∧ Below w.heap.size w w' := by
  have fin : ∀ o, Below w.heap.size w (w.alloc o) := fun o => (Below.refl _ w).alloc (Nat.le_refl _) o
  have FIN := hide fin
  clear fin
  have he : ((⟨x.s.toArray⟩ : ByteArray).toList == s.toList) = decide (x.s = s.data.toList) := by
    rw [ByteArray.toList_eq, ByteArray.toList_eq, Bool.eq_iff_iff]; simp
  have he2 : (x.s == s.toList) = decide (x.s = s.data.toList) := by
    rw [ByteArray.toList_eq, Bool.eq_iff_iff]; simp
  have hk : (x.kind == 5) = decide (x.kind = 5) := by rw [Bool.eq_iff_iff]; simp
  generalize decide (x.s = s.data.toList) = E at *
  generalize decide (x.kind = 5) = K at *
  unfold gC
  cases K
  · go_enter Tryz.func33, Tryz.ntmps33
    go_wp2
    go_ret
    exact ⟨rfl, unhide FIN _⟩
  · go_enter Tryz.func33, Tryz.ntmps33
    go_wp2
    go_ret
    exact ⟨rfl, unhide FIN _⟩
end Go.Proofs.YticiddcgafhkhaaGreatDoor
namespace Go.Proofs.YticiddcgafhkhaaGreatDoor
open Go Go.RowKit
set_option linter.unusedVariables false
set_option linter.unusedSimpArgs false

set_option maxRecDepth 100000 in
set_option maxHeartbeats 4000000 in
theorem Index_any (v : Value) (l : List (List UInt8)) (B : Nat) (x : ByteArray) (w : World) (hsz : l.length ≤ 140737488355328) (hv : StG B w v l) :
    Calls Tryz.prog 70 #[v, .string x] w fun e w' => (∃ r : Int, e = .returned (.int .i64 r) ∧ ((r = -1 ∧ x.data.toList ∉ l) ∨ (0 ≤ r ∧ x.data.toList ∈ l))) ∧ w' = w := by
  have HV := hide hv
  obtain ⟨p, cap, rfl, _⟩ := hv
  go_enter Tryz.func70, Tryz.ntmps70
  go_wp2
  go_loopg [8] l.length (fun gk i wr => ∃ k : Nat, gk = l.length - k ∧ i = .int .i64 k ∧ k ≤ l.length ∧ Hid (∀ j (h : j < l.length), j < k → l[j] ≠ x.data.toList) ∧ Hid (wr = w))
  case atStart => exact ⟨0, rfl, rfl, by omega, fun j h hj => by omega, rfl⟩
  case round =>
    obtain ⟨k, rfl, rfl, hk, hno, hww⟩ := hrel
    obtain rfl := unhide hww
    by_cases hlt : k < l.length
    · have i1 : (k : Int) < (l.length : Int) := by omega
      obtain ⟨p', cap', hp', hcs⟩ := unhide HV
      obtain ⟨g, o, rfl, _, a0⟩ := hcs k hlt
      obtain ⟨rfl, rfl⟩ : p = some ⟨g, o, none⟩ ∧ cap = cap' := by simpa using hp'
      have he : (x.toList == (⟨l[k].toArray⟩ : ByteArray).toList) = decide (l[k] = x.data.toList) := by
        rw [ByteArray.toList_eq, ByteArray.toList_eq, Bool.eq_iff_iff, beq_iff_eq, decide_eq_true_eq]; exact ⟨fun h => h.symm, fun h => h.symm⟩
      have he2 : (x.toList == l[k]) = decide (l[k] = x.data.toList) := by
        rw [ByteArray.toList_eq, Bool.eq_iff_iff, beq_iff_eq, decide_eq_true_eq]; exact ⟨fun h => h.symm, fun h => h.symm⟩
      have hno' := hno
      clear hcs hp' hno
      by_cases hx : l[k] = x.data.toList
      · have HM : Hid (x.data.toList ∈ l) := hx ▸ List.getElem_mem hlt
        simp only [hx, decide_true] at he he2
        generalize l[k] = t at *
        go_wp2
        go_ret
        exact ⟨⟨_, rfl, Or.inr ⟨by omega, unhide HM⟩⟩, rfl⟩
      · have HNO : Hid (∀ j (h : j < l.length), j < k + 1 → l[j] ≠ x.data.toList) := by
          intro j hj hjk
          by_cases hjk' : j = k
          · subst hjk'; exact hx
          · exact unhide hno' j hj (by omega)
        simp only [hx, decide_false] at he he2
        clear hno'
        generalize l[k] = t at *
        go_wp2
        go_roundg (l.length - (k + 1))
        case measure => omega
        case rel => exact ⟨k + 1, rfl, by go_num, by omega, HNO, by first | rfl | trivial⟩
    · have i1 : ¬ (k : Int) < (l.length : Int) := by omega
      have HM : Hid (x.data.toList ∉ l) := fun hm => by
        obtain ⟨j, hj, e⟩ := List.mem_iff_getElem.1 hm
        exact unhide hno j hj (by omega) e
      clear hno
      go_wp2
      go_ret
      exact ⟨⟨_, rfl, Or.inl ⟨rfl, unhide HM⟩⟩, rfl⟩

set_option maxRecDepth 100000 in
set_option maxHeartbeats 2000000 in
theorem Contains_any (v : Value) (l : List (List UInt8)) (B : Nat) (x : ByteArray) (w : World) (hsz : l.length ≤ 140737488355328) (hv : StG B w v l) :
    Calls Tryz.prog 54 #[v, .string x] w fun e w' => e = .returned (.bool (decide (x.data.toList ∈ l))) ∧ w' = w := by
  have HI := hide (Index_any v l B x w hsz hv)
  clear hv
  go_enter Tryz.func54, Tryz.ntmps54
  go_wp2_with fail
  refine (unhide HI).mono ?_
  rintro e W1 ⟨⟨r, rfl, hr⟩, rfl⟩
  have hd : Hid (decide (x.data.toList ∈ l) = decide (0 ≤ r)) := by
    rcases hr with ⟨rfl, h⟩ | ⟨h0, h⟩ <;> simp [Hid, *]
  clear hr HI
  go_wp2
  go_ret
  refine ⟨?_, rfl⟩
  rw [unhide hd]; first | rfl | (congr 2; first | rfl | (rw [Bool.eq_iff_iff]; simp))

set_option maxRecDepth 100000 in
set_option maxHeartbeats 4000000 in
theorem EqToks_any (va vb : Value) (A B : List Gt) (Ba Bb : Nat) (w : World) (hsz : A.length ≤ 140737488355328) (ha : TkG Ba w va A) (hb : TkG Bb w vb B) :
    Calls Tryz.prog 41 #[va, vb] w fun e w' => e = .returned (.bool (decide (A = B))) ∧ ∃ m, w' = w.drewN m := by
  have HA := hide ha
  have HB := hide hb
  obtain ⟨p, cap, rfl, _⟩ := ha
  obtain ⟨q, cbp, rfl, _⟩ := hb
  by_cases hl : A.length = B.length
  · have hd0 : decide (A = B) = decide (A.drop 0 = B.drop 0) := by simp
    generalize decide (A = B) = D at *
    have HD0 := hide hd0
    clear hd0
    have i0 : (((A.length : Nat) : Int) != ((B.length : Nat) : Int)) = false := by rw [bne_eq_false_iff_eq]; omega
    have HHL := hide hl
    have hbl : B.length ≤ A.length := by omega
    clear hl
    go_enter Tryz.func41, Tryz.ntmps41
    go_wp2
    go_loopg [13] A.length (fun gk i wr => ∃ (k m : Nat), gk = A.length - k ∧ i = .int .i64 k ∧ k ≤ A.length ∧ Hid (wr = w.drewN m) ∧ Hid (D = decide (A.drop k = B.drop k)))
    case atStart => exact ⟨0, 0, rfl, rfl, by omega, rfl, HD0⟩
    case round =>
      clear HD0
      obtain ⟨k, m, rfl, rfl, hk, hw, hD⟩ := hrel
      by_cases hlt : k < A.length
      · have hlb : k < B.length := by rw [← unhide HHL]; exact hlt
        have i1 : (k : Int) < (A.length : Int) := by omega
        have i2 : (k : Int) < (B.length : Int) := by omega
        obtain ⟨p', cap', hp', hcs⟩ := unhide HA
        obtain ⟨g, o, rfl, _, a0, a1, a2, a3, a4, a5⟩ := hcs k hlt
        obtain ⟨rfl, rfl⟩ : p = some ⟨g, o, none⟩ ∧ cap = cap' := by simpa using hp'
        obtain ⟨q', cbp', hq', hcs'⟩ := unhide HB
        obtain ⟨g', o', rfl, _, b0, b1, b2, b3, b4, b5⟩ := hcs' k hlb
        obtain ⟨rfl, rfl⟩ : q = some ⟨g', o', none⟩ ∧ cbp = cbp' := by simpa using hq'
        have hww : ∀ a v, w.cell? a = some v → wr.cell? a = some v := fun a v h => by rw [unhide hw]; exact h
        replace a0 := hww _ _ a0
        replace a1 := hww _ _ a1
        replace a2 := hww _ _ a2
        replace a3 := hww _ _ a3
        replace a4 := hww _ _ a4
        replace a5 := hww _ _ a5
        replace b0 := hww _ _ b0
        replace b1 := hww _ _ b1
        replace b2 := hww _ _ b2
        replace b3 := hww _ _ b3
        replace b4 := hww _ _ b4
        replace b5 := hww _ _ b5
        have hst := unhide hD
        rw [List.drop_eq_getElem_cons hlt, List.drop_eq_getElem_cons hlb] at hst
        have HST := hide hst
        clear hst hcs hcs' hp' hq' hww hD
        generalize A[k] = x at *
        generalize B[k] = y at *
        have hgd := guard34
        have hne := gt_neq x y
        simp only [gC] at hne
        have hxy : Hid (D = (decide (x = y) && decide (A.drop (k + 1) = B.drop (k + 1)))) := by
          rw [Hid, unhide HST]
          by_cases h1 : x = y <;> simp [h1]
        clear HST
        cases hE : decide (x = y)
        · rw [hE] at hxy
          simp only [hE] at hne
          clear hE
          go_upto_region 6 with fail
          go_quiet (fail)
          go_wp2
          go_ret
          exact ⟨by rw [unhide hxy]; rfl, _, Hdrew hw⟩
        · rw [hE] at hxy
          simp only [hE] at hne
          clear hE
          go_upto_region 6 with fail
          go_quiet (fail)
          go_wp2
          go_roundg (A.length - (k + 1))
          case measure => omega
          case rel => exact ⟨k + 1, _, rfl, by go_num, by omega, hide (Hdrew hw), by rw [Hid, unhide hxy, Bool.true_and]⟩
      · have i1 : ¬ (k : Int) < (A.length : Int) := by omega
        have hd : Hid (D = true) := by
          rw [Hid, unhide hD, List.drop_eq_nil_of_le (by omega), List.drop_eq_nil_of_le (by omega)]; rfl
        go_wp2
        go_ret
        exact ⟨by rw [unhide hd]; rfl, m, unhide hw⟩
  · have i0 : (((A.length : Nat) : Int) != ((B.length : Nat) : Int)) = true := by rw [bne_iff_ne]; omega
    have hd : Hid (decide (A = B) = false) := decide_eq_false (fun e => hl (by rw [e]))
    generalize decide (A = B) = D at *
    go_enter Tryz.func41, Tryz.ntmps41
    go_wp2
    go_ret
    exact ⟨by rw [unhide hd]; rfl, 0, rfl⟩

set_option maxRecDepth 100000 in
set_option maxHeartbeats 4000000 in
theorem EqStrs_any (va vb : Value) (A B : List (List UInt8)) (Ba Bb : Nat) (w : World) (hsz : A.length ≤ 140737488355328) (ha : StG Ba w va A) (hb : StG Bb w vb B) :
    Calls Tryz.prog 40 #[va, vb] w fun e w' => e = .returned (.bool (decide (A = B))) ∧ ∃ m, w' = w.drewN m := by
  have HA := hide ha
  have HB := hide hb
  obtain ⟨p, cap, rfl, _⟩ := ha
  obtain ⟨q, cbp, rfl, _⟩ := hb
  by_cases hl : A.length = B.length
  · have hd0 : decide (A = B) = decide (A.drop 0 = B.drop 0) := by simp
    generalize decide (A = B) = D at *
    have HD0 := hide hd0
    clear hd0
    have i0 : (((A.length : Nat) : Int) != ((B.length : Nat) : Int)) = false := by rw [bne_eq_false_iff_eq]; omega
    have HHL := hide hl
    have hbl : B.length ≤ A.length := by omega
    clear hl
    go_enter Tryz.func40, Tryz.ntmps40
    go_wp2
    go_loopg [13] A.length (fun gk i wr => ∃ (k m : Nat), gk = A.length - k ∧ i = .int .i64 k ∧ k ≤ A.length ∧ Hid (wr = w.drewN m) ∧ Hid (D = decide (A.drop k = B.drop k)))
    case atStart => exact ⟨0, 0, rfl, rfl, by omega, rfl, HD0⟩
    case round =>
      clear HD0
      obtain ⟨k, m, rfl, rfl, hk, hw, hD⟩ := hrel
      by_cases hlt : k < A.length
      · have hlb : k < B.length := by rw [← unhide HHL]; exact hlt
        have i1 : (k : Int) < (A.length : Int) := by omega
        have i2 : (k : Int) < (B.length : Int) := by omega
        obtain ⟨p', cap', hp', hcs⟩ := unhide HA
        obtain ⟨g, o, rfl, _, a0⟩ := hcs k hlt
        obtain ⟨rfl, rfl⟩ : p = some ⟨g, o, none⟩ ∧ cap = cap' := by simpa using hp'
        obtain ⟨q', cbp', hq', hcs'⟩ := unhide HB
        obtain ⟨g', o', rfl, _, b0⟩ := hcs' k hlb
        obtain ⟨rfl, rfl⟩ : q = some ⟨g', o', none⟩ ∧ cbp = cbp' := by simpa using hq'
        have hww : ∀ a v, w.cell? a = some v → wr.cell? a = some v := fun a v h => by rw [unhide hw]; exact h
        replace a0 := hww _ _ a0
        replace b0 := hww _ _ b0
        have hst := unhide hD
        rw [List.drop_eq_getElem_cons hlt, List.drop_eq_getElem_cons hlb] at hst
        have HST := hide hst
        clear hst hcs hcs' hp' hq' hww hD
        generalize A[k] = x at *
        generalize B[k] = y at *
        have hne : ((⟨x.toArray⟩ : ByteArray).toList != (⟨y.toArray⟩ : ByteArray).toList) = !decide (x = y) := by
          rw [ByteArray.toList_eq, ByteArray.toList_eq, Bool.eq_iff_iff]; simp
        have hne' : (x == y) = decide (x = y) := by rw [Bool.eq_iff_iff]; simp
        have hxy : Hid (D = (decide (x = y) && decide (A.drop (k + 1) = B.drop (k + 1)))) := by
          rw [Hid, unhide HST]
          by_cases h1 : x = y <;> simp [h1]
        clear HST
        cases hE : decide (x = y)
        · rw [hE] at hxy
          rw [hE] at hne hne'
          clear hE
          go_upto_region 6 with fail
          go_quiet (fail)
          go_wp2
          go_ret
          exact ⟨by rw [unhide hxy]; rfl, _, Hdrew hw⟩
        · rw [hE] at hxy
          rw [hE] at hne hne'
          clear hE
          go_upto_region 6 with fail
          go_quiet (fail)
          go_wp2
          go_roundg (A.length - (k + 1))
          case measure => omega
          case rel => exact ⟨k + 1, _, rfl, by go_num, by omega, hide (Hdrew hw), by rw [Hid, unhide hxy, Bool.true_and]⟩
      · have i1 : ¬ (k : Int) < (A.length : Int) := by omega
        have hd : Hid (D = true) := by
          rw [Hid, unhide hD, List.drop_eq_nil_of_le (by omega), List.drop_eq_nil_of_le (by omega)]; rfl
        go_wp2
        go_ret
        exact ⟨by rw [unhide hd]; rfl, m, unhide hw⟩
  · have i0 : (((A.length : Nat) : Int) != ((B.length : Nat) : Int)) = true := by rw [bne_iff_ne]; omega
    have hd : Hid (decide (A = B) = false) := decide_eq_false (fun e => hl (by rw [e]))
    generalize decide (A = B) = D at *
    go_enter Tryz.func40, Tryz.ntmps40
    go_wp2
    go_ret
    exact ⟨by rw [unhide hd]; rfl, 0, rfl⟩
end Go.Proofs.YticiddcgafhkhaaGreatDoor
namespace Go.Proofs.YticiddcgafhkhaaGreatDoor
open Go Go.RowKit
set_option linter.unusedVariables false
set_option linter.unusedSimpArgs false

def gL (x : Gt) : List Value := [.int .i64 x.kind, .string ⟨x.s.toArray⟩, .string ⟨x.f.toArray⟩, .int .i64 x.line, .bool x.sp, .bool x.fi]
def gCells (l : List Gt) : List Value := l.flatMap gL
theorem gCells_length (l : List Gt) : (gCells l).length = l.length * 6 := by
  induction l with
  | nil => rfl
  | cons x l ih => simp only [gCells, List.flatMap_cons, List.length_append, List.length_cons] at *; rw [ih]; simp [gL]; omega
theorem gCells_at : ∀ (l : List Gt) (i : Nat) (h : i < l.length) (j : Nat), j < 6 → (gCells l)[i * 6 + j]? = (gL l[i])[j]?
  | x :: l, 0, h, j, hj => by
    simp only [gCells, List.flatMap_cons, Nat.zero_mul, Nat.zero_add, List.getElem_cons_zero]
    rw [List.getElem?_append_left (by simpa [gL] using hj)]
  | x :: l, i + 1, h, j, hj => by
    have := gCells_at l i (by simpa using h) j hj
    simp only [gCells, List.flatMap_cons, List.getElem_cons_succ] at *
    rw [List.getElem?_append_right (by simp [gL]; omega), ← this]
    congr 1
    simp [gL]; omega
theorem gCells_one (l : List Gt) : ∀ u ∈ gCells l, u.oneCell' = true := by
  intro u hu
  obtain ⟨x, _, hx⟩ := List.mem_flatMap.1 hu
  simp only [gL, List.mem_cons, List.not_mem_nil, or_false] at hx
  rcases hx with rfl | rfl | rfl | rfl | rfl | rfl <;> rfl
/-- Tokens read at an address are the cells of it. -/
theorem TkG.cells {B : Nat} {w : World} {a : Addr} {n c : Nat} {l : List Gt} (h : TkG B w (.slice (some a) n c) l) : ∀ j u, (gCells l)[j]? = some u → w.cell? (a.add j) = some u := by
  intro j u hj
  obtain ⟨p, cap, hp, hc⟩ := h
  have hjl : j < l.length * 6 := by rw [← gCells_length]; exact (List.getElem?_eq_some_iff.1 hj).1
  have hi : j / 6 < l.length := by omega
  obtain ⟨g, o, rfl, _, c0, c1, c2, c3, c4, c5⟩ := hc (j / 6) hi
  obtain ⟨rfl, _⟩ : a = ⟨g, o, none⟩ ∧ _ := by simpa using hp
  have e := gCells_at l (j / 6) hi (j % 6) (by omega)
  rw [show j / 6 * 6 + j % 6 = j by omega, hj] at e
  have hadd : (⟨g, o, none⟩ : Addr).add j = ⟨g, o + j / 6 * 6 + j % 6, none⟩ := by
    unfold Addr.add; split <;> simp_all <;> omega
  rw [hadd]
  have h6 : j % 6 < 6 := by omega
  generalize j % 6 = r at *
  match r, h6 with
  | 0, _ => rw [Nat.add_zero, c0]; simpa [gL] using e.symm
  | 1, _ => rw [c1]; simpa [gL] using e.symm
  | 2, _ => rw [c2]; simpa [gL] using e.symm
  | 3, _ => rw [c3]; simpa [gL] using e.symm
  | 4, _ => rw [c4]; simpa [gL] using e.symm
  | 5, _ => rw [c5]; simpa [gL] using e.symm

set_option maxRecDepth 100000 in
set_option maxHeartbeats 4000000 in
theorem CloneT_any (v : Value) (l : List Gt) (w : World) (hl : l.length * 56 ≤ 140737488355328) (hv : TkG w.heap.size w v l) :
    Calls Tryz.prog 35 #[v] w fun e w' => ∃ v', e = .returned v' ∧ w'.ownsRow w.heap.size 74 6 v' l.length (gCells l) ∧ Below w.heap.size w w' := by
  have hv' := hv
  obtain ⟨p, cap, rfl, hc⟩ := hv
  have q23 : ∀ (w : World) (a : Option Addr) (n c n' c' : Nat), (binOp .eql 31 (.slice a n c) (.slice none n' c')).run Tryz.prog w = .ok (.bool a.isNone) w := fun w a n c n' c' => Lib.run_eql_slice_nil w _ _ a n c n' c' Tryz.underlying31
  match p with
  | none =>
    have h0 : l = [] := by
      match l, hc with
      | [], _ => rfl
      | x :: r, hc => obtain ⟨g, o, h, _⟩ := hc 0 (by simp); cases h
    subst h0
    clear hc hv'
    go_enter Tryz.func35, Tryz.ntmps35
    go_wp2
    go_ret
    exact ⟨_, rfl, World.ownsRow_nil _ _ _ _, Below.refl _ _⟩
  | some a =>
    clear hc
    have HC := hide hv'.cells
    clear hv'
    have u23 : ∀ w, Sem.run Tryz.prog (underlying 31) w = .ok (TypeDesc.slice 74) w := run_underlying Tryz.underlying31
    obtain ⟨i0, hi, hz0, hz1, hz2⟩ := info_parts Tryz.info74
    have hb1 : Below w.heap.size w (w.alloc (.cells #[] 74)) := (Below.refl _ w).alloc (Nat.le_refl _) _
    have HB := hide hb1
    clear hb1
    go_enter Tryz.func35, Tryz.ntmps35
    go_wp2_with (at_builtin; refine wpList_append_own _ rfl _ _ 31 rfl w.heap.size 74 i0 _ 6 56 Tryz.underlying31 hi hz0 hz1 hz2 rfl (by decide) _ _ _ rfl (World.ownsRow_made w #[] 0 (Nat.le_refl _) (Nat.zero_le _) rfl) a l.length cap (gCells l) rfl (gCells_length l) ?qc2 (gCells_one l) ?qc4 ?qc5 ?qc6 ?_)
    case qc2 =>
      intro j u hj
      exact Lib.cell?_alloc_some _ (unhide HC j u hj)
    case qc4 => unfold maxLen; omega
    case qc5 => omega
    case qc6 => simp
    intro v' w1 hown hgrow hnil
    go_wp2
    go_ret
    refine ⟨v', rfl, by simpa using hown, ?_⟩
    exact (unhide HB).grown hgrow (by simp) (by intro k hk; simp [Value.ownBlock] at hk; omega)
end Go.Proofs.YticiddcgafhkhaaGreatDoor
namespace Go.Proofs.YticiddcgafhkhaaGreatDoor
open Go Go.RowKit
set_option linter.unusedVariables false
set_option linter.unusedSimpArgs false

def bare1 (i : Nat) (t : Gt) : Gt := ⟨t.kind, t.s, [], 0, t.sp && decide (0 < i), false⟩
def bareG (l : List Gt) : List Gt := l.mapIdx bare1
theorem bareG_length (l : List Gt) : (bareG l).length = l.length := by simp [bareG]
theorem bareG_at (l : List Gt) (i : Nat) (h : i < (bareG l).length) : (bareG l)[i] = bare1 i (l[i]'(by simpa [bareG] using h)) := by simp [bareG]

theorem ownsRow_slice {W : World} {base n size : Nat} {e : TypeId} {v : Value} {xs : List Value} (h : W.ownsRow base e size v n xs) : ∃ p cap, v = .slice p n cap := by
  rcases h.2 with ⟨rfl, h0⟩ | ⟨g, cp, cur, rfl, _⟩
  · exact ⟨none, 0, by rw [h0]⟩
  · exact ⟨_, _, rfl⟩
/-- The six cells of a token at a place of a row. -/
def SixAt (w : World) (g o : Nat) (t : Gt) : Prop :=
  w.cell? ⟨g, o, none⟩ = some (.int .i64 t.kind) ∧ w.cell? ⟨g, o + 1, none⟩ = some (.string ⟨t.s.toArray⟩) ∧ w.cell? ⟨g, o + 2, none⟩ = some (.string ⟨t.f.toArray⟩) ∧
  w.cell? ⟨g, o + 3, none⟩ = some (.int .i64 t.line) ∧ w.cell? ⟨g, o + 4, none⟩ = some (.bool t.sp) ∧ w.cell? ⟨g, o + 5, none⟩ = some (.bool t.fi)
theorem SixAt.set_far {w : World} {g o j : Nat} {t : Gt} (h : SixAt w g o t) (hj : j < o ∨ o + 6 ≤ j) (u : Value) : SixAt (w.setCell ⟨g, j, none⟩ u) g o t := by
  obtain ⟨c0, c1, c2, c3, c4, c5⟩ := h
  have key : ∀ i v, i < 6 → w.cell? ⟨g, o + i, none⟩ = some v → (w.setCell ⟨g, j, none⟩ u).cell? ⟨g, o + i, none⟩ = some v := fun i v hi hv => by
    exact (World.cell?_setCell_other _ _ _ _ (fun h => by injection h; omega)).trans hv
  exact ⟨key 0 _ (by decide) c0, key 1 _ (by decide) c1, key 2 _ (by decide) c2, key 3 _ (by decide) c3, key 4 _ (by decide) c4, key 5 _ (by decide) c5⟩
theorem SixAt.set2 {w : World} {g o : Nat} {t : Gt} (h : SixAt w g o t) : SixAt (w.setCell ⟨g, o + 2, none⟩ (.string ⟨#[]⟩)) g o ⟨t.kind, t.s, [], t.line, t.sp, t.fi⟩ := by
  obtain ⟨c0, c1, c2, c3, c4, c5⟩ := h
  have key : ∀ i v, i ≠ o + 2 → w.cell? ⟨g, i, none⟩ = some v → (w.setCell ⟨g, o + 2, none⟩ (.string ⟨#[]⟩)).cell? ⟨g, i, none⟩ = some v := fun i v hi hv => by
    exact (World.cell?_setCell_other _ _ _ _ (fun h => by injection h; omega)).trans hv
  exact ⟨key _ _ (by omega) c0, key _ _ (by omega) c1, World.cell?_setCell_same _ _ _ c2, key _ _ (by omega) c3, key _ _ (by omega) c4, key _ _ (by omega) c5⟩
theorem SixAt.set3 {w : World} {g o : Nat} {t : Gt} (h : SixAt w g o t) : SixAt (w.setCell ⟨g, o + 3, none⟩ (.int .i64 0)) g o ⟨t.kind, t.s, t.f, 0, t.sp, t.fi⟩ := by
  obtain ⟨c0, c1, c2, c3, c4, c5⟩ := h
  have key : ∀ i v, i ≠ o + 3 → w.cell? ⟨g, i, none⟩ = some v → (w.setCell ⟨g, o + 3, none⟩ (.int .i64 0)).cell? ⟨g, i, none⟩ = some v := fun i v hi hv => by
    exact (World.cell?_setCell_other _ _ _ _ (fun h => by injection h; omega)).trans hv
  exact ⟨key _ _ (by omega) c0, key _ _ (by omega) c1, key _ _ (by omega) c2, World.cell?_setCell_same _ _ _ c3, key _ _ (by omega) c4, key _ _ (by omega) c5⟩
theorem SixAt.set4 {w : World} {g o : Nat} {t : Gt} (h : SixAt w g o t) : SixAt (w.setCell ⟨g, o + 4, none⟩ (.bool false)) g o ⟨t.kind, t.s, t.f, t.line, false, t.fi⟩ := by
  obtain ⟨c0, c1, c2, c3, c4, c5⟩ := h
  have key : ∀ i v, i ≠ o + 4 → w.cell? ⟨g, i, none⟩ = some v → (w.setCell ⟨g, o + 4, none⟩ (.bool false)).cell? ⟨g, i, none⟩ = some v := fun i v hi hv => by
    exact (World.cell?_setCell_other _ _ _ _ (fun h => by injection h; omega)).trans hv
  exact ⟨key _ _ (by omega) c0, key _ _ (by omega) c1, key _ _ (by omega) c2, key _ _ (by omega) c3, World.cell?_setCell_same _ _ _ c4, key _ _ (by omega) c5⟩
theorem SixAt.set5 {w : World} {g o : Nat} {t : Gt} (h : SixAt w g o t) : SixAt (w.setCell ⟨g, o + 5, none⟩ (.bool false)) g o ⟨t.kind, t.s, t.f, t.line, t.sp, false⟩ := by
  obtain ⟨c0, c1, c2, c3, c4, c5⟩ := h
  have key : ∀ i v, i ≠ o + 5 → w.cell? ⟨g, i, none⟩ = some v → (w.setCell ⟨g, o + 5, none⟩ (.bool false)).cell? ⟨g, i, none⟩ = some v := fun i v hi hv => by
    exact (World.cell?_setCell_other _ _ _ _ (fun h => by injection h; omega)).trans hv
  exact ⟨key _ _ (by omega) c0, key _ _ (by omega) c1, key _ _ (by omega) c2, key _ _ (by omega) c3, key _ _ (by omega) c4, World.cell?_setCell_same _ _ _ c5⟩

/-- A row that is being made bare: the first k of it are. -/
structure Bg (w0 w : World) (g : Nat) (l : List Gt) (k : Nat) : Prop where
  below : Below w0.heap.size w0 w
  new : w0.heap.size ≤ g
  free : ∀ j, w.frozen? ⟨g, j, none⟩ = false
  at_ : ∀ i (h : i < l.length), SixAt w g (i * 6) (if i < k then bare1 i l[i] else l[i])
theorem Bg.next {w0 w : World} {g k : Nat} {l : List Gt} (h : Bg w0 w g l k) (hk : k < l.length) (hk0 : 0 < k) :
    Bg w0 (((w.setCell ⟨g, k * 6 + 2, none⟩ (.string ⟨#[]⟩)).setCell ⟨g, k * 6 + 3, none⟩ (.int .i64 0)).setCell ⟨g, k * 6 + 5, none⟩ (.bool false)) g l (k + 1) := by
  refine ⟨((h.below.setCell (p := ⟨g, k * 6 + 2, none⟩) h.new _).setCell (p := ⟨g, k * 6 + 3, none⟩) h.new _).setCell (p := ⟨g, k * 6 + 5, none⟩) h.new _, h.new, fun j => by simp [h.free j], fun i hi => ?_⟩
  by_cases hik : i = k
  · subst hik
    have := h.at_ i hi
    rw [if_neg (by omega)] at this
    have h3 := this.set2.set3.set5
    rw [if_pos (by omega)]
    simpa [bare1, hk0] using h3
  · have := ((h.at_ i hi).set_far (j := k * 6 + 2) (by omega) (.string ⟨#[]⟩)).set_far (j := k * 6 + 3) (by omega) (.int .i64 0) |>.set_far (j := k * 6 + 5) (by omega) (.bool false)
    by_cases hlt : i < k
    · rw [if_pos (by omega)]; rw [if_pos hlt] at this; exact this
    · rw [if_neg (by omega)]; rw [if_neg hlt] at this; exact this
theorem Bg.first {w0 w : World} {g : Nat} {l : List Gt} (h : Bg w0 w g l 0) (hk : 0 < l.length) :
    Bg w0 ((((w.setCell ⟨g, 2, none⟩ (.string ⟨#[]⟩)).setCell ⟨g, 3, none⟩ (.int .i64 0)).setCell ⟨g, 5, none⟩ (.bool false)).setCell ⟨g, 4, none⟩ (.bool false)) g l 1 := by
  refine ⟨(((h.below.setCell (p := ⟨g, 2, none⟩) h.new _).setCell (p := ⟨g, 3, none⟩) h.new _).setCell (p := ⟨g, 5, none⟩) h.new _).setCell (p := ⟨g, 4, none⟩) h.new _, h.new, fun j => by simp [h.free j], fun i hi => ?_⟩
  by_cases hik : i = 0
  · subst hik
    have := h.at_ 0 hi
    rw [if_neg (by omega)] at this
    have h3 := this.set2.set3.set5.set4
    rw [if_pos (by omega)]
    simpa [bare1] using h3
  · have := (((h.at_ i hi).set_far (j := 2) (by omega) (.string ⟨#[]⟩)).set_far (j := 3) (by omega) (.int .i64 0) |>.set_far (j := 5) (by omega) (.bool false)).set_far (j := 4) (by omega) (.bool false)
    rw [if_neg (by omega)]; rw [if_neg (by omega)] at this; exact this

set_option maxRecDepth 100000 in
set_option maxHeartbeats 8000000 in
theorem placeless_any (v : Value) (l : List Gt) (w : World) (hl : l.length * 56 ≤ 140737488355328) (hv : TkG w.heap.size w v l) :
    Calls Tryz.prog 20 #[v] w fun e w' => ∃ v', e = .returned v' ∧ TkG w'.heap.size w' v' (bareG l) ∧ Below w.heap.size w w' := by
  have HCL := hide (CloneT_any v l w hl hv)
  clear hv
  go_enter Tryz.func20, Tryz.ntmps20
  go_wp2_with fail
  refine (unhide HCL).mono ?_
  rintro e W1 ⟨v', rfl, hrow, hb1⟩
  clear HCL
  by_cases h0 : l.length = 0
  · obtain rfl : l = [] := List.eq_nil_of_length_eq_zero h0
    obtain ⟨p, cap, rfl⟩ := ownsRow_slice hrow
    go_wp2
    go_loopg [9] 0 (fun gk i wr => i = .int .i64 0 ∧ wr = W1)
    case atStart => exact ⟨rfl, rfl⟩
    case round =>
      obtain ⟨rfl, hww⟩ := hrel
      obtain rfl := hww.symm
      go_wp2
      go_ret
      exact ⟨_, rfl, ⟨p, cap, rfl, fun i hi => by simp [bareG] at hi⟩, hb1⟩
  · obtain ⟨g, cap, rfl⟩ : ∃ g cap, v' = .slice (some ⟨g, 0, none⟩) l.length cap := by
      rcases hrow.2 with ⟨_, h⟩ | ⟨g, cap, cur, h, _⟩
      · exact absurd h h0
      · exact ⟨g, cap, h⟩
    have hbg : Bg w W1 g l 0 := by
      rcases hrow.2 with ⟨h, _⟩ | ⟨g', cap', cur, h, hbase, hg, hn, hm, hcs, htk⟩
      · cases h
      · obtain ⟨rfl, rfl⟩ : g = g' ∧ cap = cap' := by simpa using h
        refine ⟨hb1, hbase, fun j => by simp [World.frozen?, hg], fun i hi => ?_⟩
        rw [if_neg (by omega)]
        have key : ∀ j u, j < 6 → (gL l[i])[j]? = some u → W1.cell? ⟨g, i * 6 + j, none⟩ = some u := fun j u hj hu => by
          have e := gCells_at l i hi j hj
          rw [← htk, List.getElem?_take_of_lt (by omega)] at e
          rw [hu] at e
          simp [World.cell?, hg]
          simpa using e
        exact ⟨key 0 _ (by decide) rfl, key 1 _ (by decide) rfl, key 2 _ (by decide) rfl, key 3 _ (by decide) rfl, key 4 _ (by decide) rfl, key 5 _ (by decide) rfl⟩
    have HBG := hide hbg
    clear hbg hrow
    go_wp2
    go_loopg [9] l.length (fun gk i wr => ∃ k : Nat, gk = l.length - k ∧ i = .int .i64 k ∧ k ≤ l.length ∧ Hid (Bg w wr g l k))
    case atStart => exact ⟨0, rfl, rfl, by omega, HBG⟩
    case round =>
      clear HBG
      obtain ⟨k, rfl, rfl, hk, hbg⟩ := hrel
      by_cases hlt : k < l.length
      · have i1 : (k : Int) < (l.length : Int) := by omega
        obtain ⟨c0, c1, c2, c3, c4, c5⟩ := (unhide hbg).at_ k hlt
        rw [if_neg (by omega)] at c0 c1 c2 c3 c4 c5
        have fr := (unhide hbg).free
        have f2 := fr (k * 6 + 2)
        have f3 := fr (k * 6 + 3)
        have f4 := fr (k * 6 + 4)
        have f5 := fr (k * 6 + 5)
        clear fr
        by_cases hk0 : k = 0
        · subst hk0
          have HN := hide ((unhide hbg).first hlt)
          simp only [Nat.zero_mul, Nat.zero_add] at c0 c1 c2 c3 c4 c5 f2 f3 f4 f5
          generalize l[0] = t at *
          go_wp2
          go_roundg (l.length - 1)
          case measure => omega
          case rel => exact ⟨1, rfl, by go_num, by omega, HN⟩
        · have i2 : ((k : Int) == 0) = false := by rw [beq_eq_false_iff_ne]; omega
          have HN := hide ((unhide hbg).next hlt (by omega))
          generalize l[k] = t at *
          go_wp2
          go_roundg (l.length - (k + 1))
          case measure => omega
          case rel => exact ⟨k + 1, rfl, by go_num, by omega, HN⟩
      · have i1 : ¬ (k : Int) < (l.length : Int) := by omega
        go_wp2
        go_ret
        refine ⟨_, rfl, ⟨some ⟨g, 0, none⟩, cap, by rw [bareG_length]; rfl, fun i hi => ?_⟩, (unhide hbg).below⟩
        have hi' : i < l.length := by rw [← bareG_length]; exact hi
        have h6 := (unhide hbg).at_ i hi'
        rw [if_pos (by omega)] at h6
        rw [bareG_at]
        refine ⟨g, 0, rfl, World.block_lt_of_cell? _ _ h6.1, ?_⟩
        simp only [Nat.zero_add]
        exact h6
end Go.Proofs.YticiddcgafhkhaaGreatDoor
