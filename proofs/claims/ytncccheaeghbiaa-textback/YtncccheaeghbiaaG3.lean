/-
  text.Join: what it writes, for lines such as TextBack hands on.
-/
import Derived.Test.YtncccheaeghbiaaG2
namespace Go.Proofs.Ytncccheaeghbiaa
open Go Go.RowKit
set_option linter.unusedVariables false

def cv (l : List (Int × ByteArray)) : List (Nat × List UInt8) := l.map fun x => (x.1.toNat, x.2.data.toList)
theorem cv_length (l : List (Int × ByteArray)) : (cv l).length = l.length := by simp [cv]
theorem cv_get (l : List (Int × ByteArray)) (i : Nat) (h : i < l.length) : (cv l)[i]'(by rw [cv_length]; exact h) = (l[i].1.toNat, l[i].2.data.toList) := by simp [cv]
theorem Good.gapc {l : List (Int × ByteArray)} (hg : Good l) (i : Nat) : Tx.gap (cv l) i = gapI l i := by
  unfold Tx.gap gapI
  by_cases h : i + 1 < l.length
  · rw [dif_pos h, dif_pos (by rw [cv_length]; exact h), cv_get l i (by omega), cv_get l (i + 1) h]
    have := hg.ch i h
    show l[i + 1].1.toNat - l[i].1.toNat - 1 = _
    omega
  · rw [dif_neg h, dif_neg (by rw [cv_length]; exact h)]
theorem Good.piece {l : List (Int × ByteArray)} (hg : Good l) {i : Nat} (h : i < l.length) : Tx.pieceJ (cv l) i = l[i].2.data.toList ++ (Tx.sp (gapI l i) ++ [10]) := by
  unfold Tx.pieceJ
  rw [hg.gapc, List.getD_eq_getElem?_getD, List.getElem?_eq_getElem (by rw [cv_length]; exact h), cv_get l i h]
  rfl
theorem Good.short {l : List (Int × ByteArray)} (hg : Good l) (k : Nat) : (Tx.jnk (cv l) k).length ≤ 105 * k := by
  refine Tx.jnk_length _ (fun x hx => ?_) (fun i => by rw [hg.gapc]; exact hg.gap i) k
  obtain ⟨y, hy, rfl⟩ := List.mem_map.1 hx
  have := hg.s y hy
  show y.2.data.toList.length ≤ 100
  simpa using this
theorem strC (s : ByteArray) : Lib.strCells s = Lib.byteCells s.data.toList := by simp [Lib.strCells, Lib.byteCells]
theorem byteC_app (a b : List UInt8) : Lib.byteCells (a ++ b) = Lib.byteCells a ++ Lib.byteCells b := by simp [Lib.byteCells]

set_option maxRecDepth 100000 in
set_option maxHeartbeats 2000000 in
theorem Join_any (v : Value) (l : List (Int × ByteArray)) (w : World) (hv : Ln w v l) (hg : Good l) :
    Calls Try.prog 16 #[v] w fun e w' => e = .returned (.string ⟨(Tx.jn (cv l)).toArray⟩) ∧ Below w.heap.size w w' := by
  have hn := hg.n
  have HV := hide hv
  have HG := hide hg
  have hjs := hide (joinedSize_any v l w hv hg)
  obtain ⟨p, cap, rfl, hc⟩ := hv
  have HC := hide hc
  clear hc hg
  go_enter Try.func16, Try.ntmps16
  go_wp2_with fail
  refine (unhide hjs).mono ?_
  rintro e W1 ⟨n, hn1, rfl, hb1⟩
  have y1 := hb1.size
  go_wp2_with fail
  refine (Try.Builder_Grow_fresh W1.heap.size W1.heap.size n _ (Nat.le_refl _) (World.alloc_heap_new W1 _) (by simp) (by omega)).mono ?_
  rintro e W2 ⟨rfl, hB2, hb2'⟩
  have hb2 : Below W1.heap.size W1 W2 := ((Below.refl W1.heap.size W1).alloc (Nat.le_refl _) _).trans hb2'
  have hB2 : Lib.BuilderAtF 40 5 W1.heap.size W1.heap.size (.pointer (some ⟨W1.heap.size, 0, none⟩)) (Lib.byteCells (Tx.jnk (cv l) 0)) W2 := Lib.BuilderAtF.of hB2
  have hb3 : Below w.heap.size w W2 := hb1.trans (hb2.mono y1)
  clear hb2 hb2' hb1
  generalize W1.heap.size = b at *
  go_wp2
  go_loopw [19] (fun i wr => ∃ k : Nat, i = .int .i64 k ∧ k ≤ l.length ∧ Lib.BuilderAtF 40 5 b b (.pointer (some ⟨b, 0, none⟩)) (Lib.byteCells (Tx.jnk (cv l) k)) wr ∧ Below w.heap.size w wr ∧ b ≤ wr.heap.size) (fun i wr => l.length - (intOf i).toNat)
  case atStart => exact ⟨0, rfl, Nat.zero_le _, hB2, hb3, Nat.le_of_lt hB2.lt⟩
  case round =>
    obtain ⟨k, rfl, hk, hB, hbe, hbz⟩ := hrel
    have hzr := hbe.size
    by_cases hlt : k < l.length
    · obtain ⟨g, o, rfl, c0, c1⟩ := unhide HC k hlt
      have hgl := cell_lt c0
      have c0' := (hbe.cell (p := ⟨g, o + k * 2, none⟩) hgl).trans c0
      have c1' := (hbe.cell (p := ⟨g, o + k * 2 + 1, none⟩) hgl).trans c1
      have hss := (unhide HG).s l[k] (List.getElem_mem _)
      have hgp := (unhide HG).gap k
      have hpc := (unhide HG).piece hlt
      have hsh := (unhide HG).short k
      clear c0 c1
      have i1 : (k : Int) < (l.length : Int) := by omega
      have hbe1 := hbe.alloc hzr (.cells #[.int .i64 l[k].1, .string l[k].2] 32)
      have hB1 := hB.alloc (.cells #[.int .i64 l[k].1, .string l[k].2] 32)
      have hleft := fun (w' : World) (h : Below w.heap.size w w') => (unhide HG).left ((unhide HV).below h) hlt
      have HLEFT := hide hleft
      clear hleft hbe hB
      generalize hN : l[k].1 = N at *
      generalize hS : l[k].2 = S at *
      have HN := hide hN
      have HS := hide hS
      clear hN hS
      have HPC := hide hpc
      clear hpc
      generalize gapI l k = G at *
      go_wp2_with fail
      refine (Try.Builder_WriteString_k b b _ _ _ (.inr hB1) (by rw [Lib.byteCells_length]; omega) (by simp; omega)).mono ?_
      rintro e W3 ⟨rfl, hB3, hbe3, -⟩
      have hbe3' := hbe1.trans (hbe3.mono y1)
      have z3 := hbe3.size
      have z4 : wr.heap.size + 1 ≤ W3.heap.size := by simpa using z3
      go_wp2_with fail
      refine (unhide HLEFT _ hbe3').mono ?_
      rintro e W4 ⟨rfl, m, rfl⟩
      rw [strC, ← byteC_app] at hB3
      go_wp2
      have hlS : S.data.toList.length ≤ 100 := by simpa using hss
      go_loopw [30] (fun i w4 => ∃ j : Nat, i = .int .i64 j ∧ j ≤ G ∧ Lib.BuilderAtF 40 5 b b (.pointer (some ⟨b, 0, none⟩)) (Lib.byteCells (Tx.jnk (cv l) k ++ S.data.toList ++ Tx.sp j)) w4 ∧ Below w.heap.size w w4 ∧ b ≤ w4.heap.size) (fun i w4 => G - (intOf i).toNat)
      case atStart => exact ⟨0, rfl, Nat.zero_le _, by rw [Tx.sp, List.append_nil]; exact hB3, below_drewN hbe3' _, by show b ≤ W3.heap.size; omega⟩
      case round =>
        obtain ⟨j, rfl, hj, hB5, hbe5, hz5⟩ := hrel
        have hlj := Tx.sp_length j
        by_cases hjl : j < G
        · have i2 : (j : Int) < (G : Int) := by omega
          go_wp2_with fail
          refine (Try.Builder_WriteString_k b b _ _ _ (.inr hB5) (by rw [Lib.byteCells_length, List.length_append, List.length_append, hlj]; show _ + 2 ≤ _; omega) hz5).mono ?_
          rintro e W6 ⟨rfl, hB6, hbe6, -⟩
          have z6 := hbe6.size
          go_wp2
          go_roundw
          case rel =>
            refine ⟨j + 1, by go_num, by omega, ?_, hbe5.trans (hbe6.mono y1), by omega⟩
            rw [Tx.sp_snoc, ← List.append_assoc, byteC_app _ [92, 10]]
            rw [strC] at hB6
            exact hB6
          case measure => simp [intOf]; omega
        · have hjG : j = G := by omega
          go_wp2_with fail
          refine (Try.Builder_WriteByte_k b b _ 10 _ (.inr hB5) (by rw [Lib.byteCells_length, List.length_append, List.length_append, hlj]; omega) hz5).mono ?_
          rintro e W6 ⟨rfl, hB6, hbe6, -⟩
          have z6 := hbe6.size
          go_wp2
          go_roundw
          case rel =>
            refine ⟨k + 1, by go_num, by omega, ?_, hbe5.trans (hbe6.mono y1), by omega⟩
            rw [Tx.jnk_succ, unhide HPC, ← hjG, ← List.append_assoc, ← List.append_assoc, byteC_app _ [10]]
            exact hB6
          case measure => simp [intOf]; omega
    · have hkl : k = l.length := by omega
      go_wp2_with fail
      refine (Try.Builder_String_any_k b b (Tx.jnk (cv l) k) _ (.inr hB) hbz).mono ?_
      rintro e W6 ⟨rfl, hB6, hbe6, -⟩
      go_wp2
      go_ret
      refine ⟨?_, hbe.trans (hbe6.mono y1)⟩
      rw [Tx.jn, cv_length]; subst hkl; rfl
end Go.Proofs.Ytncccheaeghbiaa
