/-
  Package macro: pairs tells tokens two by two, for whatever loop body.
-/
import Derived.Test.YticiddcgafhkhaaGreatDoorSq
import Derived.Test.YticiddcgafhkhaaGreatDoorUb
import Derived.Test.YticiddcgafhkhaaGreatDoorNx
namespace Go.Proofs.YticiddcgafhkhaaGreatDoor
open Go Go.RowKit Go.Shelf
attribute [local go_sem] Oper.semAt_some
set_option linter.unusedVariables false
set_option linter.unusedSimpArgs false

def prs : List Gt → List (Gt × Gt)
  | a :: b :: r => (a, b) :: prs r
  | _ => []
theorem prs_at (l : List Gt) (j : Nat) (h : j + 1 < l.length) : prs (l.drop j) = (l[j], l[j + 1]) :: prs (l.drop (j + 2)) := by
  rw [List.drop_eq_getElem_cons (by omega), List.drop_eq_getElem_cons h]; rfl
theorem prs_end (l : List Gt) (j : Nat) (h : ¬ j + 1 < l.length) : prs (l.drop j) = [] := by
  have : (l.drop j).length ≤ 1 := by simp; omega
  match hd : l.drop j, this with
  | [], _ => rfl
  | [_], _ => rfl
  | _ :: _ :: _, h => simp at h
def encP2 (x : Gt × Gt) : Array Value := #[.agg (gC x.1), .agg (gC x.2)]
/-- What keeps the blocks of S. -/
def keepsS (S : Nat → Prop) (W W' : World) : Prop := ∀ b, S b → W'.heap[b]? = W.heap[b]?
theorem keepsS.refl (S : Nat → Prop) (W : World) : keepsS S W W := fun _ _ => rfl
theorem keepsS.trans {S : Nat → Prop} {A B C : World} (h : keepsS S A B) (g : keepsS S B C) : keepsS S A C := fun b hb => (g b hb).trans (h b hb)
theorem TkG.keepsS {B : Nat} {S : Nat → Prop} {W W' : World} {p : Option Addr} {n cap : Nat} {l : List Gt} (h : TkG B W (.slice p n cap) l) (hk : keepsS S W W') (hS : ∀ g o, p = some ⟨g, o, none⟩ → S g) : TkG B W' (.slice p n cap) l := by
  obtain ⟨p', cap', e, hc⟩ := h
  obtain ⟨rfl, rfl, rfl⟩ : p = p' ∧ n = l.length ∧ cap = cap' := by simpa using e
  refine ⟨p, cap, rfl, fun i hi => ?_⟩
  obtain ⟨g, o, hp, hg, c0, c1, c2, c3, c4, c5⟩ := hc i hi
  have hb := hk g (hS g o hp)
  exact ⟨g, o, hp, hg, (World.cell?_of_block hb).trans c0, (World.cell?_of_block hb).trans c1, (World.cell?_of_block hb).trans c2, (World.cell?_of_block hb).trans c3, (World.cell?_of_block hb).trans c4, (World.cell?_of_block hb).trans c5⟩

set_option maxHeartbeats 400000 in
theorem pairs_any (p : Option Addr) (len cap : Nat) (w : World) :
    Calls Tryz.prog 52 #[.slice p len cap] w fun e w' => e = .returned (.func (.func 69) #[] #[.pointer (some ⟨w.heap.size, 0, none⟩)]) ∧ w' = w.alloc (.cells #[.slice p len cap] 31) := by
  go_enter Tryz.func52, Tryz.ntmps52
  go_wp2
  go_ret
  exact ⟨rfl, rfl⟩

set_option maxRecDepth 100000 in
set_option maxHeartbeats 4000000 in
theorem pairs1_in (n : Nat) (h1 : 1 ≤ n) (lp Bd B0 : Nat) (S : Nat → Prop) (p : Option Addr) (cap : Nat) (l : List Gt) (J Jx : List (Gt × Gt) → World → Prop) (W : World)
    (hJ : AbidesO W.heap.size W.heap.size 0 J) (hJx : AbidesO W.heap.size W.heap.size 0 Jx)
    (hY : ∀ pre x W1, J pre W1 → W.heap.size + 0 ≤ W1.heap.size → noRow 5 W.heap.size 0 W1 → pre ++ [x] <+: prs l → YieldAt Fence.wide (n - 1) Tryz.prog lp (encP2 x) W1 fun e W' =>
      (e = .returned (.bool true) ∧ J (pre ++ [x]) W' ∧ KeepsO W.heap.size 0 W1 W' ∧ keepsS S W1 W') ∨ (e = .returned (.bool false) ∧ Jx (pre ++ [x]) W' ∧ KeepsO W.heap.size 0 W1 W'))
    (hSB : S Bd) (hSg : ∀ g o, p = some ⟨g, o, none⟩ → S g) (hBd : Boxed W Bd 31 (.slice p l.length cap)) (hl : TkG B0 W (.slice p l.length cap) l) (hsz : l.length ≤ 140737488355328) (h0 : J [] W) :
    CallsIn Fence.wide n Tryz.prog 69 #[.func (.yield lp) #[] #[], .pointer (some ⟨Bd, 0, none⟩)] W fun e W' => (∃ v, e = .returned v) ∧
      (J (prs l) W' ∨ (∃ pre, pre <+: prs l ∧ Jx pre W')) := by
  have hmix : Tryz.prog.follows .mixedOrders = true := by kernel_rfl
  have HL := hide hl
  clear hl
  have HB := hide hBd
  clear hBd
  generalize hfull : prs l = full at *
  have HFU := hide hfull
  clear hfull
  refine callsIn_of_wp Tryz.func69 rfl trivial ?_ rfl
  simp only [Tryz.ntmps69, List.size_toArray, List.length_cons, List.length_nil, Nat.reduceAdd, Nat.reduceSub, Array.replicate_succ, Array.replicate_zero, List.push_toArray, List.append_toArray, List.nil_append, List.cons_append]
  gi_wp2
  gi_loopw [3] (fun i wr => ∃ (pre : List (Gt × Gt)) (j : Nat), i = .int .i64 j ∧ j ≤ l.length ∧ Hid (pre ++ prs (l.drop j) = full) ∧ J pre wr ∧ W.heap.size ≤ wr.heap.size ∧ keepsS S W wr)
    (fun i wr => l.length - (intOf i).toNat)
  case atStart => exact ⟨[], 0, rfl, Nat.zero_le _, by rw [Hid, List.nil_append, List.drop_zero]; exact unhide HFU, h0, Nat.le_refl _, keepsS.refl _ _⟩
  case round =>
    obtain ⟨pre, j, rfl, hj, hpre, hJp, hsz1, hks⟩ := hrel
    have hbox : Boxed wr Bd 31 (.slice p l.length cap) := (hks Bd hSB).trans (unhide HB)
    have hc := hbox.cell
    by_cases hlt : j + 1 < l.length
    · have hpre2 := unhide hpre
      rw [prs_at l j hlt] at hpre2
      obtain ⟨fn, tmps, assign, body, hy, hR⟩ := hY pre (l[j], l[j + 1]) wr.drew (hJ.drew _ _ hJp) (by show _ ≤ wr.heap.size; omega) (fun j c fz h1 h2 => by omega) ⟨prs (l.drop (j + 2)), by rw [← hpre2]; simp⟩
      have hfin : Hid (pre ++ [(l[j], l[j + 1])] ++ prs (l.drop (j + 2)) = full) := by rw [Hid, ← hpre2]; simp
      simp only [encP2, gC] at hy
      have HR := hide hR
      have HJ := hide hJ
      have HK := hide hks
      clear hR hY hpre2 hJp hJ hJx
      obtain ⟨p', cap', hp', hcs⟩ := (unhide HL).keepsS hks hSg
      obtain ⟨g, o, rfl, _, a0, a1, a2, a3, a4, a5⟩ := hcs j (by omega)
      obtain ⟨g', o', hp2, _, b0, b1, b2, b3, b4, b5⟩ := hcs (j + 1) hlt
      obtain ⟨rfl, rfl⟩ : p = some ⟨g, o, none⟩ ∧ cap = cap' := by simpa using hp'
      obtain ⟨rfl, rfl⟩ : g = g' ∧ o = o' := by simpa using hp2
      clear hp' hp2 hcs hks
      generalize l[j] = x at *
      generalize l[j + 1] = y at *
      have i1 : (j : Int) + 1 < (l.length : Int) := by omega
      have i2 : (j : Int) < (l.length : Int) := by omega
      have i3 : IntKind.i64.wrap ((j : Int) + 1) = (j : Int) + 1 := by rw [IntKind.wrap_i64]; omega
      have i4 : ((j : Int) + 1).toNat = j + 1 := by omega
      have i5 : ¬ (j : Int) + 1 < 0 := by omega
      gi_wp2
      refine wpIn_region_still_wide 10 hmix (by kernel_rfl) (by kernel_rfl) ?_
      simp only [List.take_succ_cons, List.take_zero, List.drop_succ_cons, List.drop_zero]
      repeat still_step
      refine wpStill_nil ?_
      gi_wp2_with fail
      refine (unhide HR).mono ?_
      rintro e W5 (⟨rfl, hJ5, hk5, hb5⟩ | ⟨rfl, hJx5, hk5⟩)
      · gi_wp2
        go_roundw
        case rel => exact ⟨pre ++ [(x, y)], j + 2, by go_num, by omega, hfin, hJ5, by have := hk5.size; exact Nat.le_trans hsz1 this, (unhide HK).trans hb5⟩
        case measure => simp [intOf]; omega
      · gi_wp2
        refine bodyPost_ret (results_none rfl _ _ _) rfl ?_
        exact ⟨⟨_, rfl⟩, .inr ⟨_, ⟨_, unhide hfin⟩, hJx5⟩⟩
    · have hfin : Hid (pre = full) := by
        have := unhide hpre
        rw [prs_end l j hlt, List.append_nil] at this
        exact this
      have i1 : ¬ (j : Int) + 1 < (l.length : Int) := by omega
      gi_wp2
      refine bodyPost_end (results_none rfl _ _ _) rfl ?_
      exact ⟨⟨_, rfl⟩, .inl (unhide hfin ▸ hJp)⟩
end Go.Proofs.YticiddcgafhkhaaGreatDoor
