/-
  ArithTells.
-/
import Derived.Test.YtobfpdhfmbpidaaDoorEy
import Derived.Test.YtobfpdhfmbpidaaDoorGa
namespace Go.Proofs.YtobfpdhfmbpidaaDoor
open Go Go.RowKit
set_option linter.unusedVariables false
set_option linter.unusedSimpArgs false
set_option maxRecDepth 100000 in
set_option maxHeartbeats 4000000 in
theorem tells_w (op a b x er : Int) (w : World) (B : Bool) (S : ByteArray)
    (HH : Hid (∀ W, Below w.heap.size w W → Calls Tryd.prog 11 #[] W fun e w' => e = .returned (.bool true) ∧ Below W.heap.size W w'))
    (H1 : Hid (∀ W, Below w.heap.size w W → Calls Tryd.prog 12 #[.int .i64 op, .int .i64 a, .int .i64 b] W fun e w' => e = .returned (.tuple #[.int .i64 x, .int .i64 er]) ∧ Below W.heap.size W w'))
    (H2 : Hid (∀ W, Below w.heap.size w W → Calls Tryd.prog 14 #[.int .i64 op] W fun e w' => e = .returned (.bool B) ∧ Below W.heap.size W w'))
    (H3 : Hid (∀ W, Below w.heap.size w W → Calls Tryd.prog 16 #[.int .i64 op] W fun e w' => e = .returned (.string S) ∧ Below W.heap.size W w'))
    (HR : Hid (∀ W, Calls Tryd.prog 13 #[.int .i64 op, .int .i64 a, .int .i64 b] W fun e w' => e = .returned (.tuple #[.int .i64 x, .int .i64 er]) ∧ w' = W))
    (HRB : Hid (∀ W, Calls Tryd.prog 15 #[.int .i64 op] W fun e w' => e = .returned (.bool B) ∧ w' = W))
    (HRS : Hid (∀ W, Calls Tryd.prog 17 #[.int .i64 op] W fun e w' => e = .returned (.string S) ∧ w' = W))
    : Calls Tryd.prog 3 #[.int .i64 op, .int .i64 a, .int .i64 b] w fun e w' => e = .returned (.bool true) ∧ Below w.heap.size w w' := by
  have HB0 := veil (Below.refl w.heap.size w)
  go_enter Tryd.func3, Tryd.ntmps3
  go_wp2_with (first
    | (go_at_call 13; refine (unveil HR _).mono ?_; rintro e w' ⟨rfl, hw'⟩; obtain rfl := hw'.symm)
    | (go_at_call 15; refine (unveil HRB _).mono ?_; rintro e w' ⟨rfl, hw'⟩; obtain rfl := hw'.symm)
    | (go_at_call 17; refine (unveil HRS _).mono ?_; rintro e w' ⟨rfl, hw'⟩; obtain rfl := hw'.symm))
  refine (unveil HH _ (unveil HB0)).mono ?_
  rintro e W1 ⟨rfl, hb⟩
  have HB1 := veil ((unveil HB0).trans (hb.mono (unveil HB0).size))
  clear hb HB0
  go_wp2_with (first
    | (go_at_call 13; refine (unveil HR _).mono ?_; rintro e w' ⟨rfl, hw'⟩; obtain rfl := hw'.symm)
    | (go_at_call 15; refine (unveil HRB _).mono ?_; rintro e w' ⟨rfl, hw'⟩; obtain rfl := hw'.symm)
    | (go_at_call 17; refine (unveil HRS _).mono ?_; rintro e w' ⟨rfl, hw'⟩; obtain rfl := hw'.symm))
  refine (unveil H1 _ (unveil HB1)).mono ?_
  rintro e W2 ⟨rfl, hb⟩
  have HB2 := veil ((unveil HB1).trans (hb.mono (unveil HB1).size))
  clear hb HB1
  go_wp2_with (first
    | (go_at_call 13; refine (unveil HR _).mono ?_; rintro e w' ⟨rfl, hw'⟩; obtain rfl := hw'.symm)
    | (go_at_call 15; refine (unveil HRB _).mono ?_; rintro e w' ⟨rfl, hw'⟩; obtain rfl := hw'.symm)
    | (go_at_call 17; refine (unveil HRS _).mono ?_; rintro e w' ⟨rfl, hw'⟩; obtain rfl := hw'.symm))
  refine (unveil H2 _ (unveil HB2)).mono ?_
  rintro e W3 ⟨rfl, hb⟩
  have HB3 := veil ((unveil HB2).trans (hb.mono (unveil HB2).size))
  clear hb HB2
  go_wp2_with (first
    | (go_at_call 13; refine (unveil HR _).mono ?_; rintro e w' ⟨rfl, hw'⟩; obtain rfl := hw'.symm)
    | (go_at_call 15; refine (unveil HRB _).mono ?_; rintro e w' ⟨rfl, hw'⟩; obtain rfl := hw'.symm)
    | (go_at_call 17; refine (unveil HRS _).mono ?_; rintro e w' ⟨rfl, hw'⟩; obtain rfl := hw'.symm))
  refine (unveil H3 _ (unveil HB3)).mono ?_
  rintro e W4 ⟨rfl, hb⟩
  have HB4 := veil ((unveil HB3).trans (hb.mono (unveil HB3).size))
  clear hb HB3
  go_wp2_with (first
    | (go_at_call 13; refine (unveil HR _).mono ?_; rintro e w' ⟨rfl, hw'⟩; obtain rfl := hw'.symm)
    | (go_at_call 15; refine (unveil HRB _).mono ?_; rintro e w' ⟨rfl, hw'⟩; obtain rfl := hw'.symm)
    | (go_at_call 17; refine (unveil HRS _).mono ?_; rintro e w' ⟨rfl, hw'⟩; obtain rfl := hw'.symm))
  all_goals go_ret
  all_goals exact ⟨rfl, unveil HB4⟩
theorem in_eq {op : Int} (a b : Int) (h : ofM op ≠ 0) : rinK op a b = inK op a b ∧ rinE op a b = inE op a b := by
  unfold rinK rinE inK inE
  have h3 : ofM op = 2 ∨ ofM op = 1 := by
    unfold ofM at *
    split
    · exact .inl rfl
    · split
      · exact .inr rfl
      · rename_i h1 h2; rw [if_neg h1, if_neg h2] at h; exact absurd rfl h
  rcases h3 with e | e
  · rw [e]
    simp only [Int.reduceBEq, Bool.false_eq_true, if_false, if_true, beq_self_eq_true]
    refine ⟨?_, trivial⟩
    rw [Bool.and_comm, ← Bool.and_assoc]
  · rw [e]
    simp
theorem tells_walk (op a b : Int) (w : World) (hO : Ops w) (hw : 0 < w.heap.size) : Calls Tryd.prog 3 #[.int .i64 op, .int .i64 a, .int .i64 b] w fun e w' => e = .returned (.bool true) ∧ Below w.heap.size w w' := by
  have H1 : ∀ W, Below w.heap.size w W → Calls Tryd.prog 12 #[.int .i64 op, .int .i64 a, .int .i64 b] W fun e w' => e = .returned (.tuple #[.int .i64 (resK op a b), .int .i64 (resE op a b)]) ∧ Below W.heap.size W w' :=
    fun W hB => Result_any op a b W (hO.below hB hw) (Nat.lt_of_lt_of_le hw hB.size)
  have H2 : ∀ W, Below w.heap.size w W → Calls Tryd.prog 14 #[.int .i64 op] W fun e w' => e = .returned (.bool (ofM op == 2)) ∧ Below W.heap.size W w' :=
    fun W hB => Binary_any op W (hO.below hB hw) (Nat.lt_of_lt_of_le hw hB.size)
  have H3 : ∀ W, Below w.heap.size w W → Calls Tryd.prog 16 #[.int .i64 op] W fun e w' => e = .returned (.string ⟨(sigM op).toArray⟩) ∧ Below W.heap.size W w' :=
    fun W hB => Sign_any op W (hO.below hB hw) (Nat.lt_of_lt_of_le hw hB.size)
  have HR := RResult_any op a b
  have e : rresK op a b = resK op a b ∧ rresE op a b = resE op a b := by
    unfold rresK rresE resK resE
    cases h0 : ofM op == 0
    · have hn : ofM op ≠ 0 := by simpa using h0
      obtain ⟨e1, e2⟩ := in_eq a b hn
      have h3 : ((ofM op == 2) || (ofM op == 1)) = true := by
        have hh := of0 h0
        unfold ofM
        split
        · rfl
        · rw [if_pos (by omega)]; rfl
      rw [h3, e1, e2]
      exact ⟨rfl, rfl⟩
    · have h3 : ofM op = 0 := by simpa using h0
      rw [h3]
      exact ⟨rfl, rfl⟩
  rw [e.1, e.2] at HR
  exact tells_w op a b _ _ w _ _ (shownAt hO hw) H1 H2 H3 HR (RBinary_any op) (RSign_any op)
end Go.Proofs.YtobfpdhfmbpidaaDoor
