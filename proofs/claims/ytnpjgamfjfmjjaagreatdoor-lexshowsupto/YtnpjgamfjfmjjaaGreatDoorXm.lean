/-
  Package lex: escape, suffix, spellInt, quoted, spelling.
-/
import Derived.Test.YtnpjgamfjfmjjaaGreatDoorXl
import Derived.Test.YtnpjgamfjfmjjaaGreatDoorFu
import Derived.Laws.Concat
namespace Go.Proofs.YtnpjgamfjfmjjaaGreatDoor
open Go Go.RowKit
set_option linter.unusedVariables false
set_option linter.unusedSimpArgs false

/-- A byte as an escape of three octal digits. -/
def octE (c : UInt8) : List UInt8 := [92, UInt8.ofNat (48 + c.toNat / 64), UInt8.ofNat (48 + c.toNat / 8 % 8), UInt8.ofNat (48 + c.toNat % 8)]
theorem octE_cells (c : UInt8) : (octE c).map (fun b => Value.int .u8 (b.toNat : Int)) = [.int .u8 92, .int .u8 (48 + (c.toNat : Int) / 64), .int .u8 (48 + (c.toNat : Int) / 8 % 8), .int .u8 (48 + (c.toNat : Int) % 8)] := by
  have hc := c.toNat_lt
  have e : ∀ n : Nat, n < 256 → ((UInt8.ofNat n).toNat : Int) = (n : Int) := fun n h => by rw [UInt8.toNat_ofNat_of_lt' (by show n < 256; exact h)]
  simp only [octE, List.map_cons, List.map_nil]
  rw [e _ (by omega), e _ (by omega), e _ (by omega)]
  simp
set_option maxRecDepth 100000 in
set_option maxHeartbeats 4000000 in
theorem escape_any (c : UInt8) (w : World) : Calls Tryz.prog 58 #[.int .u8 (c.toNat : Int)] w fun e w' => e = .returned (.string ⟨(octE c).toArray⟩) ∧ Below w.heap.size w w' := by
  have hc := c.toNat_lt
  have h0 : 0 ≤ (c.toNat : Int) := by omega
  have h1 : (c.toNat : Int) < 256 := by omega
  have hcv : (convert 57 9 (.slice (some ⟨w.heap.size, 0, none⟩) 4 4)).run Tryz.prog (w.alloc (.cells #[.int .u8 92, .int .u8 (48 + (c.toNat : Int) / 64), .int .u8 (48 + (c.toNat : Int) / 8 % 8), .int .u8 (48 + (c.toNat : Int) % 8)] 5)) = .ok (.string ⟨(octE c).toArray⟩) (w.alloc (.cells #[.int .u8 92, .int .u8 (48 + (c.toNat : Int) / 64), .int .u8 (48 + (c.toNat : Int) / 8 % 8), .int .u8 (48 + (c.toNat : Int) % 8)] 5)) := by
    have h := run_convert_bytes_back (P := Tryz.prog) (w.alloc (.cells #[.int .u8 92, .int .u8 (48 + (c.toNat : Int) / 64), .int .u8 (48 + (c.toNat : Int) / 8 % 8), .int .u8 (48 + (c.toNat : Int) % 8)] 5)) 57 9 5 ⟨w.heap.size, 0, none⟩ 4 (octE c) Tryz.underlying57 Tryz.underlying5 Tryz.underlying9 (fun j hj => by
      have hcs := octE_cells c
      have hj2 : ((octE c).map (fun b => Value.int .u8 (b.toNat : Int)))[j]? = some (.int .u8 ((octE c)[j].toNat : Int)) := by rw [List.getElem?_map, List.getElem?_eq_getElem hj]; rfl
      rw [hcs] at hj2
      rw [Lib.add_plain, World.cell?_alloc_new, Nat.zero_add, ← hj2]
      simp)
    exact h
  have HB := hide (below_new w (.cells #[.int .u8 92, .int .u8 (48 + (c.toNat : Int) / 64), .int .u8 (48 + (c.toNat : Int) / 8 % 8), .int .u8 (48 + (c.toNat : Int) % 8)] 5))
  go_enter Tryz.func58, Tryz.ntmps58
  go_wp2
  go_ret
  exact ⟨rfl, unhide HB⟩
/-- The suffix that a kind is shown with. -/
def sufE (k : Int) : List UInt8 := if k == 6 then [117] else if k == 7 then [108] else if k == 8 then [117, 108] else []
set_option maxRecDepth 100000 in
set_option maxHeartbeats 4000000 in
theorem suffix_any (k : Int) (w : World) : Calls Tryz.prog 60 #[.int .i64 k] w fun e w' => e = .returned (.string ⟨(sufE k).toArray⟩) ∧ w' = w := by
  cases h6 : k == 6 <;> cases h7 : k == 7 <;> cases h8 : k == 8
  all_goals (
    go_enter Tryz.func60, Tryz.ntmps60
    go_wp2
    go_ret
    refine ⟨?_, rfl⟩
    simp only [sufE, h6, h7, h8]
    first | rfl | simp)
/-- How a number of a kind is shown. -/
def spiM (v k : Int) : List UInt8 := if k == 5 && decide (v < 0) then 39 :: (octE (UInt8.ofNat (IntKind.u8.wrap v).toNat) ++ [39]) else Lib.decDigits (IntKind.u64.wrap v).toNat ++ sufE k
theorem bytes_app (a b : List UInt8) : (⟨a.toArray⟩ : ByteArray) ++ ⟨b.toArray⟩ = ⟨(a ++ b).toArray⟩ := by
  apply ByteArray.ext; simp [ByteArray.data_append]
theorem u8_wrap (v : Int) : 0 ≤ IntKind.u8.wrap v ∧ IntKind.u8.wrap v < 256 := by rw [IntKind.wrap_u8]; omega
theorem u64_wrap (v : Int) : 0 ≤ IntKind.u64.wrap v ∧ IntKind.u64.wrap v < 18446744073709551616 := by rw [IntKind.wrap_u64]; omega
theorem dec_len (n : Nat) (h : n < 18446744073709551616) : (Lib.decDigits n).length ≤ 20 := by
  rw [Lib.decDigits_length]
  by_cases h1 : 1 ≤ n
  · have := Lib.numDigits_eq n h1 h; split at this <;> omega
  · obtain rfl : n = 0 := by omega
    rw [Lib.nDigits_small (by decide)]; decide
theorem sufE_len (k : Int) : (sufE k).length ≤ 2 := by
  unfold sufE; repeat' split
  all_goals decide
set_option maxRecDepth 100000 in
set_option maxHeartbeats 4000000 in
theorem spellInt_any (v k : Int) (w : World) (hw : 6 < w.heap.size) (htab : Tp w) : Calls Tryz.prog 43 #[.int .i64 v, .int .i64 k] w fun e w' => e = .returned (.string ⟨(spiM v k).toArray⟩) ∧ Below w.heap.size w w' := by
  have hu8 := u8_wrap v
  have hu64 := u64_wrap v
  have HE := hide (escape_any (UInt8.ofNat (IntKind.u8.wrap v).toNat) w)
  rw [ofNat_back _ hu8.1 hu8.2] at HE
  have HF := hide (FormatUint_any (IntKind.u64.wrap v).toNat (by omega) w htab)
  rw [show (((IntKind.u64.wrap v).toNat : Nat) : Int) = IntKind.u64.wrap v by omega] at HF
  have HSU := hide (suffix_any k)
  have hdl := dec_len (IntKind.u64.wrap v).toNat (by omega)
  have hsl := sufE_len k
  obtain ⟨R, hR⟩ : ∃ R, spiM v k = R := ⟨_, rfl⟩
  rw [hR]
  unfold spiM at hR
  have hO : (octE (UInt8.ofNat (IntKind.u8.wrap v).toNat)).length ≤ 10 := by show 4 ≤ 10; decide
  generalize octE (UInt8.ofNat (IntKind.u8.wrap v).toNat) = O at *
  generalize Lib.decDigits (IntKind.u64.wrap v).toNat = D at *
  generalize sufE k = S at *
  have s1 : ∀ W, (Op.stringOp .add ⟨D.toArray⟩ ⟨S.toArray⟩).run Tryz.prog W = .ok (.string ⟨(D ++ S).toArray⟩) W := fun W => by rw [run_string_add_sum W _ _ (by rw [len_toArray, len_toArray]; omega), bytes_app]
  have s2 : ∀ W, (Op.stringOp .add ⟨#[39]⟩ ⟨O.toArray⟩).run Tryz.prog W = .ok (.string ⟨(39 :: O).toArray⟩) W := fun W => by
    rw [run_string_add_sum W _ _ (by show 1 + (⟨O.toArray⟩ : ByteArray).size ≤ _; rw [len_toArray]; omega)]
    exact congrArg (fun x => Result.ok (Value.string x) W) (bytes_app [39] O)
  have s3 : ∀ W, (Op.stringOp .add ⟨(39 :: O).toArray⟩ ⟨#[39]⟩).run Tryz.prog W = .ok (.string ⟨(39 :: (O ++ [39])).toArray⟩) W := fun W => by
    rw [run_string_add_sum W _ _ (by rw [len_toArray]; show _ + 1 ≤ _; simp; omega)]
    exact congrArg (fun x => Result.ok (Value.string x) W) (bytes_app (39 :: O) [39])
  generalize (⟨D.toArray⟩ : ByteArray) = DB at *
  generalize (⟨S.toArray⟩ : ByteArray) = SB at *
  generalize (⟨O.toArray⟩ : ByteArray) = OB at *
  generalize (⟨(39 :: O).toArray⟩ : ByteArray) = OB1 at *
  clear hu8 hu64 hw htab hdl hsl hO
  cases k5 : k == 5
  · simp only [k5, Bool.false_and, Bool.false_eq_true, if_false] at hR
    go_enter Tryz.func43, Tryz.ntmps43
    go_wp2_with (first
      | (go_at_call 59; refine (unhide HF).mono ?_; rintro e W1 ⟨rfl, hb1⟩)
      | (go_at_call 60; refine (unhide HSU _).mono ?_; rintro e w' ⟨rfl, hw'⟩; obtain rfl := hw'.symm))
    go_ret
    exact ⟨by rw [← hR]; rfl, hb1⟩
  · cases hv : decide (v < 0)
    · simp only [k5, hv, Bool.true_and, Bool.false_eq_true, if_false] at hR
      go_enter Tryz.func43, Tryz.ntmps43
      go_wp2_with (first
        | (go_at_call 59; refine (unhide HF).mono ?_; rintro e W1 ⟨rfl, hb1⟩)
        | (go_at_call 60; refine (unhide HSU _).mono ?_; rintro e w' ⟨rfl, hw'⟩; obtain rfl := hw'.symm))
      go_ret
      exact ⟨by rw [← hR]; rfl, hb1⟩
    · simp only [k5, hv, Bool.true_and, if_true] at hR
      go_enter Tryz.func43, Tryz.ntmps43
      go_wp2_with (go_at_call 58; refine (unhide HE).mono ?_; rintro e W1 ⟨rfl, hb1⟩)
      go_ret
      exact ⟨by rw [← hR]; rfl, hb1⟩
end Go.Proofs.YtnpjgamfjfmjjaaGreatDoor
