/-
  burinlaw01.shown: it answers true.
-/
import Derived.Test.YtncccheaeghbiaaA6
namespace Go.Proofs.Ytncccheaeghbiaa
open Go Go.RowKit
set_option linter.unusedVariables false

theorem lines_shown : Tx.lines [97, 92, 10, 98, 10, 99, 10] = [(1, [97, 98]), (3, [99])] := by decide +kernel
theorem phys_shown : (Tx.phys [97, 13, 10, 98, 13, 99]).length = 3 := by decide +kernel

set_option maxHeartbeats 1000000 in
theorem shown_any (w : World) : Calls Try.prog 9 #[] w fun e w' => e = .returned (.bool true) ∧ Below w.heap.size w w' := by
  have hL := Lines_any ⟨#[97, 92, 10, 98, 10, 99, 10]⟩ w (by decide)
  rw [show (⟨#[97, 92, 10, 98, 10, 99, 10]⟩ : ByteArray).data.toList = [97, 92, 10, 98, 10, 99, 10] from rfl, lines_shown] at hL
  have HL := hide hL
  clear hL
  go_enter Try.func9, Try.ntmps9
  go_wp2_with fail
  refine (unhide HL).mono ?_
  rintro e W1 ⟨v, rfl, hrow, hb⟩
  have hrd : Rd (W1.alloc (.cells #[.int .i64 1, .string ⟨#[97, 98]⟩, .int .i64 3, .string ⟨#[99]⟩] 32)) v [(1, [97, 98]), (3, [99])] := Rd.of (hrow.alloc _)
  have hrd2 : Rd (W1.alloc (.cells #[.int .i64 1, .string ⟨#[97, 98]⟩, .int .i64 3, .string ⟨#[99]⟩] 32)) (.slice (some ⟨W1.heap.size, 0, none⟩) 2 2) [(1, [97, 98]), (3, [99])] := by
    refine ⟨_, 2, rfl, fun i hi => ⟨W1.heap.size, rfl, ?_⟩⟩
    match i, hi with
    | 0, _ => exact ⟨by simp, by simp⟩
    | 1, _ => exact ⟨by simp, by simp⟩
  have hS := Same_any _ _ _ _ _ hrd hrd2 (by decide) (by decide)
  have HS := hide hS
  clear hS
  have hz := hb.size
  go_wp2_with fail
  refine (unhide HS).mono ?_
  rintro e W2 ⟨rfl, m, rfl⟩
  go_wp2_with fail
  refine (Physical_any ⟨#[97, 13, 10, 98, 13, 99]⟩ _ (by decide)).mono ?_
  rintro e W3 ⟨rfl, hb3⟩
  rw [show (⟨#[97, 13, 10, 98, 13, 99]⟩ : ByteArray).data.toList = [97, 13, 10, 98, 13, 99] from rfl, phys_shown]
  go_wp2
  go_ret
  refine ⟨rfl, ?_⟩
  have h2 : Below w.heap.size w ((W1.alloc (.cells #[.int .i64 1, .string ⟨#[97, 98]⟩, .int .i64 3, .string ⟨#[99]⟩] 32)).drewN m) :=
    ⟨hb.os, hb.tape, hb.output, by simp; omega, fun k hk => (Below.heap_alloc _ _ _ (by omega)).trans (hb.block k hk)⟩
  exact h2.trans (hb3.mono (by simp; omega))
end Go.Proofs.Ytncccheaeghbiaa
