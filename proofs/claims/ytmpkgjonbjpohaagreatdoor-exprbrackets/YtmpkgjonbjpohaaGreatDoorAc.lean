/-
  Package expr: walk, over whatever its calls tell.
-/
import Derived.Test.YtmpkgjonbjpohaaGreatDoorAb
namespace Go.Proofs.YtmpkgjonbjpohaaGreatDoor
open Go Go.RowKit
set_option linter.unusedVariables false
set_option linter.unusedSimpArgs false

/-- What rounds leave as it was: what lies below, and all expressions. -/
structure KE (N0 : Nat) (A B : World) : Prop where
  be : Below N0 A B
  bk : ∀ (g : Nat) cs fz, A.heap[g]? = some (.cells cs 24 fz) → B.heap[g]? = some (.cells cs 24 fz)
theorem KE.refl (N0 : Nat) (A : World) : KE N0 A A := ⟨Below.refl _ _, fun _ _ _ h => h⟩
theorem KE.trans {N0 : Nat} {A B C : World} (h : KE N0 A B) (k : KE N0 B C) : KE N0 A C := ⟨h.be.trans k.be, fun g cs fz e => k.bk g cs fz (h.bk g cs fz e)⟩
theorem KE.below {N0 : Nat} {A B : World} (h : Below A.heap.size A B) (hN : N0 ≤ A.heap.size) : KE N0 A B := ⟨h.mono hN, fun g cs fz e => (h.block g (Array.getElem?_eq_some_iff.1 e).1).trans e⟩
theorem KE.put {N0 : Nat} {A : World} {l : Nat} {o : Obj} (hl : A.heap[l]? = some o) (ho : o.isCells = false) (hN : N0 ≤ l) (o' : Obj) : KE N0 A (A.putObj l o') := by
  refine ⟨(Below.refl _ A).grown (grownBy_putObj' A l o') (by have := (Array.getElem?_eq_some_iff.1 hl).1; omega) (fun r e => by cases e; omega), fun j cs fz h => (World.putObj_heap_other (fun e => ?_)).trans h⟩
  subst e
  rw [hl] at h
  cases h
  cases ho
def WkE (JJ : World → Prop) (XX : World → Prop) (N0 B0 : Nat) (w : World) (e : Ending) (W' : World) : Prop :=
  (e = .returned (.bool true) ∧ JJ W' ∧ KeepsO B0 0 w W' ∧ KE N0 w W') ∨ (e = .returned (.bool false) ∧ XX W' ∧ KeepsO B0 0 w W')
set_option maxRecDepth 100000 in
set_option maxHeartbeats 8000000 in
theorem walk_gen (g o : Nat) (q : Option Addr) (c len d : Nat) (l N0 B0 : Nat) (JJ : Nat → World → Prop) (XX : World → Prop) (w : World) (hlen : len ≤ 1000000000)
    (hy : YieldAt Fence.wide 3 Tryz.prog l #[.pointer (some ⟨g, o, none⟩), .int .i64 d] w (WkE (JJ 0) XX N0 B0 w))
    (hd : d ≤ 61)
    (hc : ∀ W, KE N0 w W → W.cell? ⟨g, o + 5, none⟩ = some (.slice q len c))
    (hk : ∀ (k : Nat) (W : World), k < len → JJ k W → KE N0 w W → KeepsO B0 0 w W → ∃ g' o', q = some ⟨g', o', none⟩ ∧ Calls Tryz.prog 49 #[.pointer (some ⟨g', o' + k * 7, none⟩), .int .i64 ((d : Int) + 1), .func (.yield l) #[] #[]] W (WkE (JJ (k + 1)) XX N0 B0 W)) :
    Calls Tryz.prog 49 #[.pointer (some ⟨g, o, none⟩), .int .i64 d, .func (.yield l) #[] #[]] w (WkE (JJ len) XX N0 B0 w) := by
  obtain ⟨fn, tmps, assign, body, hyy, hRR⟩ := hy
  have HR := veil hRR
  have HC := veil hc
  have HK := veil hk
  clear hRR hc hk
  refine (callsIn_wide (n := 4)).1 ?_
  refine callsIn_of_wp_marks Tryz.func49 rfl trivial ?_ rfl
  simp only [Tryz.ntmps49, List.size_toArray, List.length_cons, List.length_nil, Nat.reduceAdd, Nat.reduceSub, Array.replicate_succ, Array.replicate_zero, List.push_toArray, List.append_toArray, List.nil_append, List.cons_append]
  refine wpIn_wide.2 ?_
  go_upto_region 1 with fail
  refine (wpIn_wide (n := 4)).1 ?_
  gi_wp2
  refine (unveil HR).mono ?_
  rintro e W1 (⟨rfl, hJ1, hk1, he1⟩ | ⟨rfl, hX1, hk1⟩)
  · have HJ1 := veil hJ1
    have HK1 := veil hk1
    have HE1 := veil he1
    have c5 := unveil HC W1 he1
    clear hJ1 hk1 he1 HR
    gi_wp2
    go_wp2_with fail
    go_loopw [18] (fun i wr => ∃ k : Nat, i = .int .i64 k ∧ k ≤ len ∧ Hid (JJ k wr) ∧ Hid (KE N0 w wr) ∧ Hid (KeepsO B0 0 w wr)) (fun i wr => len - (intOf i).toNat)
    case atStart => exact ⟨0, rfl, Nat.zero_le _, HJ1, HE1, HK1⟩
    case round =>
      clear c5 HJ1 HK1 HE1
      obtain ⟨k, rfl, hk, hJk, hEk, hKk⟩ := hrel
      by_cases hlt : k < len
      · obtain ⟨g', o', hq, hcall⟩ := unveil HK k wr hlt (unveil hJk) (unveil hEk) (unveil hKk)
        have HCALL := veil hcall
        have c5 := unveil HC wr (unveil hEk)
        clear hcall
        subst hq
        go_wp2_with (go_at_call 49; refine (unveil HCALL).mono ?_; rintro e W2 (⟨rfl, hJ2, hk2, he2⟩ | ⟨rfl, hX2, hk2⟩))
        · have HE2 := veil ((unveil hEk).trans he2)
          have HK2 := veil ((unveil hKk).trans hk2)
          go_roundw
          case rel =>
            exact ⟨k + 1, by go_num, by omega, hJ2, HE2, HK2⟩
          case measure => simp [intOf]; omega
        · exact ⟨_, results_tmp rfl _ _ _, .inr ⟨rfl, hX2, (unveil hKk).trans hk2⟩⟩
      · obtain rfl : k = len := by omega
        have c5 := unveil HC wr (unveil hEk)
        go_wp2_with fail
        exact ⟨_, results_tmp rfl _ _ _, .inl ⟨rfl, unveil hJk, unveil hKk, unveil hEk⟩⟩
  · gi_wp2
    go_wp2_with fail
    exact ⟨_, results_tmp rfl _ _ _, .inr ⟨rfl, hX1, hk1⟩⟩
end Go.Proofs.YtmpkgjonbjpohaaGreatDoor
