/-
  The document's own of package arith: Binary, isOne, isTruth, Sign, In, Result, truth, less, compared.
-/
import Derived.Test.YtobfpdhfmbpidaaDoorEk
namespace Go.Proofs.YtobfpdhfmbpidaaDoor
open Go Go.RowKit
set_option linter.unusedVariables false
set_option linter.unusedSimpArgs false
def rbinM (op : Int) : Bool := decide (1 ≤ op) && decide (op ≤ 14)
def roneM (op : Int) : Bool := op == 15 || op == 16 || op == 17
theorem rbin_eq (op : Int) : rbinM op = (ofM op == 2) := by
  unfold rbinM ofM
  by_cases h : 1 ≤ op ∧ op ≤ 14
  · rw [if_pos h]; simp [h.1, h.2]
  · rw [if_neg h]
    have : (decide (1 ≤ op) && decide (op ≤ 14)) = false := by simp; omega
    rw [this]
    split <;> rfl
theorem rone_eq (op : Int) : roneM op = (ofM op == 1) := by
  unfold roneM ofM
  by_cases h : 1 ≤ op ∧ op ≤ 14
  · rw [if_pos h]
    have q : ∀ n : Int, op ≠ n → (op == n) = false := fun n h => by simpa using h
    rw [q 15 (by omega), q 16 (by omega), q 17 (by omega)]; rfl
  · rw [if_neg h]
    by_cases h2 : 15 ≤ op ∧ op ≤ 17
    · rw [if_pos h2]
      obtain rfl | rfl | rfl : op = 15 ∨ op = 16 ∨ op = 17 := by omega
      all_goals rfl
    · rw [if_neg h2]
      have q : ∀ n : Int, op ≠ n → (op == n) = false := fun n h => by simpa using h
      rw [q 15 (by omega), q 16 (by omega), q 17 (by omega)]; rfl
set_option maxRecDepth 100000 in
set_option maxHeartbeats 1000000 in
theorem RBinary_any (op : Int) (w : World) : Calls Tryd.prog 15 #[.int .i64 op] w fun e w' => e = .returned (.bool (ofM op == 2)) ∧ w' = w := by
  rw [← rbin_eq]
  unfold rbinM
  by_cases h1 : 1 ≤ op
  · go_enter Tryd.func15, Tryd.ntmps15
    go_wp2
    go_ret
    exact ⟨by simp [h1], rfl⟩
  · go_enter Tryd.func15, Tryd.ntmps15
    go_wp2
    go_ret
    refine ⟨?_, rfl⟩
    have : decide (1 ≤ op) = false := by simp; omega
    rw [this]
    rfl
set_option maxRecDepth 100000 in
set_option maxHeartbeats 1000000 in
theorem RisOne_any (op : Int) (w : World) : Calls Tryd.prog 32 #[.int .i64 op] w fun e w' => e = .returned (.bool (ofM op == 1)) ∧ w' = w := by
  rw [← rone_eq]
  unfold roneM
  cases h1 : op == 15 <;> cases h2 : op == 16
  all_goals (
    go_enter Tryd.func32, Tryd.ntmps32
    go_wp2
    go_ret
    exact ⟨by simp, rfl⟩)
theorem ask_range (op : Int) : askM op = ((decide (11 ≤ op) && decide (op ≤ 14)) || op == 17) := by
  unfold askM
  by_cases h : 11 ≤ op ∧ op ≤ 14
  · obtain rfl | rfl | rfl | rfl : op = 11 ∨ op = 12 ∨ op = 13 ∨ op = 14 := by omega
    all_goals decide
  · have q : ∀ n : Int, op ≠ n → (op == n) = false := fun n h => by simpa using h
    rw [q 11 (by omega), q 12 (by omega), q 13 (by omega), q 14 (by omega)]
    have : (decide (11 ≤ op) && decide (op ≤ 14)) = false := by simp; omega
    rw [this]
    simp
set_option maxRecDepth 100000 in
set_option maxHeartbeats 1000000 in
theorem RisTruth_any (op : Int) (w : World) : Calls Tryd.prog 34 #[.int .i64 op] w fun e w' => e = .returned (.bool (askM op)) ∧ w' = w := by
  rw [ask_range]
  by_cases h1 : 11 ≤ op
  · by_cases h2 : op ≤ 14
    · go_enter Tryd.func34, Tryd.ntmps34
      go_wp2
      go_ret
      exact ⟨by simp [h1, h2], rfl⟩
    · go_enter Tryd.func34, Tryd.ntmps34
      go_wp2
      go_ret
      refine ⟨?_, rfl⟩
      rw [show decide (op ≤ 14) = false by simp; omega]
      simp
  · go_enter Tryd.func34, Tryd.ntmps34
    go_wp2
    go_ret
    refine ⟨?_, rfl⟩
    rw [show decide (11 ≤ op) = false by simp; omega]
    simp
def NoOp (op : Int) : Prop := (op == 1) = false ∧ (op == 2) = false ∧ (op == 3) = false ∧ (op == 4) = false ∧ (op == 5) = false ∧ (op == 6) = false ∧ (op == 7) = false ∧ (op == 8) = false ∧ (op == 9) = false ∧ (op == 10) = false ∧ (op == 11) = false ∧ (op == 12) = false ∧ (op == 13) = false ∧ (op == 14) = false ∧ (op == 15) = false ∧ (op == 16) = false ∧ (op == 17) = false
theorem ocases (op : Int) : op = 1 ∨ op = 2 ∨ op = 3 ∨ op = 4 ∨ op = 5 ∨ op = 6 ∨ op = 7 ∨ op = 8 ∨ op = 9 ∨ op = 10 ∨ op = 11 ∨ op = 12 ∨ op = 13 ∨ op = 14 ∨ op = 15 ∨ op = 16 ∨ op = 17 ∨ NoOp op := by
  unfold NoOp
  simp only [beq_eq_false_iff_ne, ne_eq]
  omega
set_option maxRecDepth 100000 in
set_option maxHeartbeats 4000000 in
theorem RSign_any (op : Int) (w : World) : Calls Tryd.prog 17 #[.int .i64 op] w fun e w' => e = .returned (.string ⟨(sigM op).toArray⟩) ∧ w' = w := by
  rcases ocases op with rfl | rfl | rfl | rfl | rfl | rfl | rfl | rfl | rfl | rfl | rfl | rfl | rfl | rfl | rfl | rfl | rfl | ⟨h1, h2, h3, h4, h5, h6, h7, h8, h9, h10, h11, h12, h13, h14, h15, h16, h17⟩
  all_goals (
    go_enter Tryd.func17, Tryd.ntmps17
    go_wp2
    go_ret
    refine ⟨?_, rfl⟩
    first | rfl | simp [sigM, *])
/-- In: of an operator of one the promoted kind, else the usual one, of shifts the first one's. -/
def rinK (op a b : Int) : Int := if ofM op == 1 then proM a else if (kiM a && kiM b) && shiM op then proM a else usuM a b
def rinE (op a b : Int) : Int := if ofM op == 1 then erM a else uerM a b
set_option maxRecDepth 100000 in
set_option maxHeartbeats 1000000 in
theorem RIn_any (op a b : Int) (w : World) : Calls Tryd.prog 33 #[.int .i64 op, .int .i64 a, .int .i64 b] w fun e w' => e = .returned (.tuple #[.int .i64 (rinK op a b), .int .i64 (rinE op a b)]) ∧ w' = w := by
  have HP := veil (RPromoted_any a)
  have HU := veil (RUsual_any a b)
  have HO := veil (RisOne_any op)
  unfold rinK rinE
  unfold uerM at HU ⊢
  generalize (ofM op == 1) = T at *
  generalize proM a = P at *
  generalize erM a = E at *
  generalize usuM a b = Y at *
  generalize (kiM a && kiM b) = K at *
  unfold shiM
  cases T
  · cases K
    · go_enter Tryd.func33, Tryd.ntmps33
      go_wp2_with (first
        | (go_at_call 52; refine (unveil HP _).mono ?_; rintro e w' ⟨rfl, hw'⟩; obtain rfl := hw'.symm)
        | (go_at_call 53; refine (unveil HU _).mono ?_; rintro e w' ⟨rfl, hw'⟩; obtain rfl := hw'.symm)
        | (go_at_call 32; refine (unveil HO _).mono ?_; rintro e w' ⟨rfl, hw'⟩; obtain rfl := hw'.symm))
      go_ret2
      exact ⟨rfl, rfl⟩
    · cases h6 : op == 6 <;> cases h7 : op == 7
      all_goals (
        go_enter Tryd.func33, Tryd.ntmps33
        go_wp2_with (first
          | (go_at_call 52; refine (unveil HP _).mono ?_; rintro e w' ⟨rfl, hw'⟩; obtain rfl := hw'.symm)
          | (go_at_call 53; refine (unveil HU _).mono ?_; rintro e w' ⟨rfl, hw'⟩; obtain rfl := hw'.symm)
          | (go_at_call 32; refine (unveil HO _).mono ?_; rintro e w' ⟨rfl, hw'⟩; obtain rfl := hw'.symm))
        go_ret2
        exact ⟨rfl, rfl⟩)
  · go_enter Tryd.func33, Tryd.ntmps33
    go_wp2_with (first
      | (go_at_call 52; refine (unveil HP _).mono ?_; rintro e w' ⟨rfl, hw'⟩; obtain rfl := hw'.symm)
      | (go_at_call 32; refine (unveil HO _).mono ?_; rintro e w' ⟨rfl, hw'⟩; obtain rfl := hw'.symm))
    go_ret2
    exact ⟨rfl, rfl⟩
def rresK (op a b : Int) : Int := if (ofM op == 2) || (ofM op == 1) then (if rinE op a b == 0 && askM op then 5 else rinK op a b) else 0
def rresE (op a b : Int) : Int := if (ofM op == 2) || (ofM op == 1) then rinE op a b else 2
set_option maxRecDepth 100000 in
set_option maxHeartbeats 1000000 in
theorem RResult_any (op a b : Int) (w : World) : Calls Tryd.prog 13 #[.int .i64 op, .int .i64 a, .int .i64 b] w fun e w' => e = .returned (.tuple #[.int .i64 (rresK op a b), .int .i64 (rresE op a b)]) ∧ w' = w := by
  have HI := veil (RIn_any op a b)
  have HB := veil (RBinary_any op)
  have HO := veil (RisOne_any op)
  have HT := veil (RisTruth_any op)
  unfold rresK rresE
  generalize (ofM op == 1) = T1 at *
  generalize (ofM op == 2) = T2 at *
  generalize rinK op a b = K at *
  generalize rinE op a b = E at *
  generalize askM op = Q at *
  cases hE : E == 0 <;> cases Q <;> cases T2 <;> cases T1
  all_goals (
    have hE2 : (E == 0) = _ := hE
    go_enter Tryd.func13, Tryd.ntmps13
    go_wp2_with (first
      | (go_at_call 15; refine (unveil HB _).mono ?_; rintro e w' ⟨rfl, hw'⟩; obtain rfl := hw'.symm)
      | (go_at_call 32; refine (unveil HO _).mono ?_; rintro e w' ⟨rfl, hw'⟩; obtain rfl := hw'.symm)
      | (go_at_call 33; refine (unveil HI _).mono ?_; rintro e w' ⟨rfl, hw'⟩; obtain rfl := hw'.symm)
      | (go_at_call 34; refine (unveil HT _).mono ?_; rintro e w' ⟨rfl, hw'⟩; obtain rfl := hw'.symm))
    go_ret2
    exact ⟨rfl, rfl⟩)
set_option maxRecDepth 100000 in
set_option maxHeartbeats 1000000 in
theorem Rtruth_any (b : Bool) (w : World) : Calls Tryd.prog 47 #[.bool b] w fun e w' => e = .returned (.int .i64 (tru b)) ∧ w' = w := by
  cases b
  all_goals (
    go_enter Tryd.func47, Tryd.ntmps47
    go_wp2
    go_ret
    exact ⟨rfl, rfl⟩)
def rlessM (k a b : Int) : Bool := if k == 8 then decide (IntKind.u64.wrap a < IntKind.u64.wrap b) else decide (a < b)
set_option maxRecDepth 100000 in
set_option maxHeartbeats 1000000 in
theorem Rless_any (k a b : Int) (w : World) : Calls Tryd.prog 56 #[.int .i64 k, .int .i64 a, .int .i64 b] w fun e w' => e = .returned (.bool (rlessM k a b)) ∧ w' = w := by
  unfold rlessM
  cases h : k == 8
  all_goals (
    go_enter Tryd.func56, Tryd.ntmps56
    go_wp2
    go_ret
    exact ⟨by simp, rfl⟩)
def rcmpM (op k a b : Int) : Int := if op == 11 then tru (rlessM k a b) else if op == 12 then tru (!rlessM k b a) else if op == 13 then tru (a == b) else tru (a != b)
set_option maxRecDepth 100000 in
set_option maxHeartbeats 1000000 in
theorem Rcompared_any (op k a b : Int) (w : World) : Calls Tryd.prog 43 #[.int .i64 op, .int .i64 k, .int .i64 a, .int .i64 b] w fun e w' => e = .returned (.int .i64 (rcmpM op k a b)) ∧ w' = w := by
  have HL := veil (Rless_any k a b)
  have HM := veil (Rless_any k b a)
  have HT := veil Rtruth_any
  unfold rcmpM
  generalize rlessM k a b = L at *
  generalize rlessM k b a = M at *
  cases h1 : op == 11
  · cases h2 : op == 12
    · cases h3 : op == 13
      all_goals (
        go_enter Tryd.func43, Tryd.ntmps43
        go_wp2_with (go_at_call 47; refine (unveil HT _ _).mono ?_; rintro e w' ⟨rfl, hw'⟩; obtain rfl := hw'.symm)
        go_ret
        exact ⟨rfl, rfl⟩)
    · go_enter Tryd.func43, Tryd.ntmps43
      go_wp2_with (first
        | (go_at_call 56; refine (unveil HM _).mono ?_; rintro e w' ⟨rfl, hw'⟩; obtain rfl := hw'.symm)
        | (go_at_call 47; refine (unveil HT _ _).mono ?_; rintro e w' ⟨rfl, hw'⟩; obtain rfl := hw'.symm))
      go_ret
      exact ⟨rfl, rfl⟩
  · go_enter Tryd.func43, Tryd.ntmps43
    go_wp2_with (first
      | (go_at_call 56; refine (unveil HL _).mono ?_; rintro e w' ⟨rfl, hw'⟩; obtain rfl := hw'.symm)
      | (go_at_call 47; refine (unveil HT _ _).mono ?_; rintro e w' ⟨rfl, hw'⟩; obtain rfl := hw'.symm))
    go_ret
    exact ⟨rfl, rfl⟩
end Go.Proofs.YtobfpdhfmbpidaaDoor
