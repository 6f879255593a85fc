/-
  Tokens' text: token.Spell and the document's own Spell, for every tokens whose text is not too long.
-/
import Derived.Test.YticiddcgafhkhaaGreatDoorG1
import Derived.Test.YticiddcgafhkhaaGreatDoorTb
import Derived.Lib.AppendStr
import Derived.Laws.BytesArg
namespace Go.Proofs.YticiddcgafhkhaaGreatDoor
open Go Go.RowKit Go.Shelf
set_option linter.unusedVariables false
set_option linter.unusedSimpArgs false

/-- What stands ahead of a token. -/
def sepG (k : Nat) (t : Gt) : List UInt8 := if k = 0 then [] else if t.fi then [10] else if t.sp then [32] else []
/-- The text of the first k tokens. -/
def spP (l : List Gt) (k : Nat) : List UInt8 := (List.range k).flatMap fun i => match l[i]? with
  | some t => sepG i t ++ t.s
  | none => []
def spG (l : List Gt) : List UInt8 := spP l l.length
theorem spP_zero (l : List Gt) : spP l 0 = [] := rfl
theorem spP_succ {l : List Gt} {k : Nat} (h : k < l.length) : spP l (k + 1) = spP l k ++ (sepG k l[k] ++ l[k].s) := by
  simp [spP, List.range_succ, h]
theorem spP_le (l : List Gt) : ∀ (n k : Nat), k ≤ n → (spP l k).length ≤ (spP l n).length := by
  intro n
  induction n with
  | zero => intro k hk; obtain rfl : k = 0 := by omega
            exact Nat.le_refl _
  | succ n ih =>
    intro k hk
    rcases Nat.lt_or_ge k (n + 1) with h | h
    · have := ih k (by omega)
      have e : spP l (n + 1) = spP l n ++ (match l[n]? with | some t => sepG n t ++ t.s | none => []) := by simp [spP, List.range_succ]
      rw [e, List.length_append]
      omega
    · obtain rfl : k = n + 1 := by omega
      exact Nat.le_refl _
theorem strC (s : ByteArray) : Lib.strCells s = Lib.byteCells s.data.toList := by simp [Lib.strCells, Lib.byteCells]
theorem byteC_app (a b : List UInt8) : Lib.byteCells (a ++ b) = Lib.byteCells a ++ Lib.byteCells b := by simp [Lib.byteCells]
theorem isB_fresh (w : World) : Lib.IsBuilderF 89 5 w.heap.size w.heap.size (Lib.byteCells []) (w.alloc (.cells #[.pointer none, .slice none 0 0] 89)) :=
  .inl ⟨Nat.le_refl _, .slice none 0 0, World.alloc_heap_new w _, World.ownsRowF_nil _ _ _ _, by simp [Value.ownBlock]⟩
theorem isB_alloc {B b : Nat} {bs : List Value} {w : World} (h : Lib.IsBuilderF 89 5 B b bs w) (o : Obj) : Lib.IsBuilderF 89 5 B b bs (w.alloc o) := h.imp (fun x => x.alloc o) (fun x => x.alloc o)
theorem isB_lt {B b : Nat} {bs : List Value} {w : World} (h : Lib.IsBuilderF 89 5 B b bs w) : b < w.heap.size := by rcases h with h | h <;> exact h.lt

set_option maxRecDepth 100000 in
set_option maxHeartbeats 4000000 in
theorem Spell_any (v : Value) (l : List Gt) (w : World) (hl : l.length ≤ 140737488355328) (hb : (spG l).length ≤ 140737488355328) (hv : TkG w.heap.size w v l) :
    Calls Tryz.prog 32 #[v] w fun e w' => e = .returned (.string ⟨(spG l).toArray⟩) ∧ Below w.heap.size w w' := by
  have HV := hide hv
  obtain ⟨p, cap, rfl, _⟩ := hv
  have hS0 : Hid (spP l l.length = spG l) := rfl
  have HLE : Hid (∀ k, k ≤ l.length → (spP l k).length ≤ 140737488355328) := fun k hk => Nat.le_trans (spP_le l _ _ hk) hb
  have hB0 : Lib.IsBuilderF 89 5 w.heap.size w.heap.size (Lib.byteCells (spP l 0)) (w.alloc (.cells #[.pointer none, .slice none 0 0] 89)) := isB_fresh w
  have hbe0 : Below w.heap.size w (w.alloc (.cells #[.pointer none, .slice none 0 0] 89)) := (Below.refl _ w).alloc (Nat.le_refl _) _
  generalize spG l = R at *
  go_enter Tryz.func32, Tryz.ntmps32
  go_wp2
  generalize (w.alloc (.cells #[.pointer none, .slice none 0 0] 89)) = w0 at *
  go_loopg [8] l.length (fun gk i wr => ∃ k : Nat, gk = l.length - k ∧ i = .int .i64 k ∧ k ≤ l.length ∧ Lib.IsBuilderF 89 5 w.heap.size w.heap.size (Lib.byteCells (spP l k)) wr ∧ Hid (Below w.heap.size w wr))
  case atStart => exact ⟨0, rfl, rfl, Nat.zero_le _, hB0, hbe0⟩
  case round =>
    clear hB0 hbe0
    obtain ⟨k, rfl, rfl, hk, hB, hbe⟩ := hrel
    have hzr := (unhide hbe).size
    by_cases hlt : k < l.length
    · have i1 : (k : Int) < (l.length : Int) := by omega
      obtain ⟨p', cap', hp', hcs⟩ := (unhide HV).below (unhide hbe)
      obtain ⟨g, o, rfl, _, a0, a1, a2, a3, a4, a5⟩ := hcs k hlt
      obtain ⟨rfl, rfl⟩ : p = some ⟨g, o, none⟩ ∧ cap = cap' := by simpa using hp'
      have hsu := spP_succ hlt
      have hle1 := unhide HLE (k + 1) hlt
      have HSU := hide hsu
      rw [hsu, List.length_append, List.length_append] at hle1
      generalize l[k] = t at *
      clear hsu hcs hp'
      have hB1 := isB_alloc hB (.cells #[.int .i64 t.kind, .string ⟨t.s.toArray⟩, .string ⟨t.f.toArray⟩, .int .i64 t.line, .bool t.sp, .bool t.fi] 74)
      have hbe1 : Below w.heap.size w (wr.alloc (.cells #[.int .i64 t.kind, .string ⟨t.s.toArray⟩, .string ⟨t.f.toArray⟩, .int .i64 t.line, .bool t.sp, .bool t.fi] 74)) := (unhide hbe).alloc hzr _
      have hnew : (wr.alloc (.cells #[.int .i64 t.kind, .string ⟨t.s.toArray⟩, .string ⟨t.f.toArray⟩, .int .i64 t.line, .bool t.sp, .bool t.fi] 74)).heap[wr.heap.size]? = some (.cells #[.int .i64 t.kind, .string ⟨t.s.toArray⟩, .string ⟨t.f.toArray⟩, .int .i64 t.line, .bool t.sp, .bool t.fi] 74 (0, 0)) := World.alloc_heap_new wr _
      have hbB : w.heap.size < wr.heap.size := isB_lt hB
      go_upto_region 5 with fail
      generalize (wr.alloc (.cells #[.int .i64 t.kind, .string ⟨t.s.toArray⟩, .string ⟨t.f.toArray⟩, .int .i64 t.line, .bool t.sp, .bool t.fi] 74)) = w1 at *
      have n1 : w1.cell? ⟨wr.heap.size, 1, none⟩ = some (.string ⟨t.s.toArray⟩) := by rw [World.cell?, hnew]; rfl
      have n4 : w1.cell? ⟨wr.heap.size, 4, none⟩ = some (.bool t.sp) := by rw [World.cell?, hnew]; rfl
      have n5 : w1.cell? ⟨wr.heap.size, 5, none⟩ = some (.bool t.fi) := by rw [World.cell?, hnew]; rfl
      clear a0 a1 a2 a3 a4 a5 hB hbe
      have hz1 := hbe1.size
      have hts : (⟨t.s.toArray⟩ : ByteArray).size = t.s.length := by show t.s.toArray.size = _; simp
      have HTS := hide hts
      clear hts
      generalize hA : wr.heap.size = A at *
      clear hA
      -- the last step, from whatever world on
      have fin : Hid (∀ (wx : World), wx.cell? ⟨A, 1, none⟩ = some (.string ⟨t.s.toArray⟩) → Lib.IsBuilderF 89 5 w.heap.size w.heap.size (Lib.byteCells (spP l k ++ sepG k t)) wx → Below w.heap.size w wx →
          Calls Tryz.prog 49 #[.pointer (some ⟨w.heap.size, 0, none⟩), .string ⟨t.s.toArray⟩] wx fun e w' => e = .returned (.tuple #[.int .i64 (⟨t.s.toArray⟩ : ByteArray).size, .nilIface]) ∧ Lib.IsBuilderF 89 5 w.heap.size w.heap.size (Lib.byteCells (spP l (k + 1))) w' ∧ Below w.heap.size w w') := by
        intro wx _ hBx hbx
        refine (Tryz.Builder_WriteString_k w.heap.size w.heap.size _ ⟨t.s.toArray⟩ wx hBx (by rw [Lib.byteCells_length, unhide HTS, List.length_append]; omega) hbx.size).mono ?_
        rintro e w' ⟨rfl, hB', hb', _⟩
        refine ⟨rfl, .inr ?_, hbx.trans hb'⟩
        rw [unhide HSU, ← List.append_assoc, byteC_app]
        rw [strC] at hB'
        exact hB'
      by_cases hk0 : k = 0
      · subst hk0
        have hB2 : Lib.IsBuilderF 89 5 w.heap.size w.heap.size (Lib.byteCells (spP l 0 ++ sepG 0 t)) w1 := by rw [sepG, if_pos rfl, List.append_nil]; exact hB1
        have hf := hide (unhide fin w1 n1 hB2 hbe1)
        clear fin hB1 hB2
        go_wp2_with fail
        refine (unhide hf).mono ?_
        rintro e w' ⟨rfl, hB', hb'⟩
        go_wp2
        go_roundg (l.length - (0 + 1))
        case measure => omega
        case rel => exact ⟨0 + 1, rfl, by go_num, by omega, hB', hb'⟩
      · have k0 : ((k : Int) == 0) = false := by rw [beq_eq_false_iff_ne]; omega
        cases hfi : t.fi
        · cases hsp : t.sp
          · have hB2 : Lib.IsBuilderF 89 5 w.heap.size w.heap.size (Lib.byteCells (spP l k ++ sepG k t)) w1 := by rw [sepG, if_neg hk0, hfi, hsp]; simpa using hB1
            have hf := hide (unhide fin w1 n1 hB2 hbe1)
            rw [hfi] at n5
            rw [hsp] at n4
            clear fin hB1 hB2 hfi hsp
            go_wp2_with fail
            refine (unhide hf).mono ?_
            rintro e w' ⟨rfl, hB', hb'⟩
            go_wp2
            go_roundg (l.length - (k + 1))
            case measure => omega
            case rel => exact ⟨k + 1, rfl, by go_num, by omega, hB', hb'⟩
          · have hse : sepG k t = [32] := by rw [sepG, if_neg hk0, hfi, hsp]; rfl
            have hwb := Tryz.Builder_WriteByte_k w.heap.size w.heap.size _ 32 w1 hB1 (by rw [Lib.byteCells_length]; rw [hse] at hle1; simp at hle1; omega) hz1
            have HWB := hide hwb
            have HSE := hide hse
            rw [hfi] at n5
            rw [hsp] at n4
            clear hwb hse hfi hsp hB1
            go_wp2_with fail
            refine (unhide HWB).mono ?_
            rintro e w2 ⟨rfl, hB2, hb2, ho2⟩
            have hB3 : Lib.IsBuilderF 89 5 w.heap.size w.heap.size (Lib.byteCells (spP l k ++ sepG k t)) w2 := by rw [unhide HSE, byteC_app]; exact .inr hB2
            have hn2 := ho2 A _ hnew (fun e => by cases e; omega) (fun c fz e => by cases e)
            have n1' : w2.cell? ⟨A, 1, none⟩ = some (.string ⟨t.s.toArray⟩) := by rw [World.cell?, hn2]; rfl
            have hf := hide (unhide fin w2 n1' hB3 (hbe1.trans hb2))
            clear fin hB2 hB3 hn2 n1 n4 n5 hnew HWB
            go_wp2_with fail
            refine (unhide hf).mono ?_
            rintro e w' ⟨rfl, hB', hb'⟩
            go_wp2
            go_roundg (l.length - (k + 1))
            case measure => omega
            case rel => exact ⟨k + 1, rfl, by go_num, by omega, hB', hb'⟩
        · have hse : sepG k t = [10] := by rw [sepG, if_neg hk0, hfi]; rfl
          have hwb := Tryz.Builder_WriteByte_k w.heap.size w.heap.size _ 10 w1 hB1 (by rw [Lib.byteCells_length]; rw [hse] at hle1; simp at hle1; omega) hz1
          have HWB := hide hwb
          have HSE := hide hse
          rw [hfi] at n5
          clear hwb hse hfi hB1
          go_wp2_with fail
          refine (unhide HWB).mono ?_
          rintro e w2 ⟨rfl, hB2, hb2, ho2⟩
          have hB3 : Lib.IsBuilderF 89 5 w.heap.size w.heap.size (Lib.byteCells (spP l k ++ sepG k t)) w2 := by rw [unhide HSE, byteC_app]; exact .inr hB2
          have hn2 := ho2 A _ hnew (fun e => by cases e; omega) (fun c fz e => by cases e)
          have n1' : w2.cell? ⟨A, 1, none⟩ = some (.string ⟨t.s.toArray⟩) := by rw [World.cell?, hn2]; rfl
          have hf := hide (unhide fin w2 n1' hB3 (hbe1.trans hb2))
          clear fin hB2 hB3 hn2 n1 n4 n5 hnew HWB
          go_wp2_with fail
          refine (unhide hf).mono ?_
          rintro e w' ⟨rfl, hB', hb'⟩
          go_wp2
          go_roundg (l.length - (k + 1))
          case measure => omega
          case rel => exact ⟨k + 1, rfl, by go_num, by omega, hB', hb'⟩
    · have i1 : ¬ (k : Int) < (l.length : Int) := by omega
      have hkl : k = l.length := by omega
      have hst := Tryz.Builder_String_any_k w.heap.size w.heap.size (spP l k) wr hB hzr
      have HST := hide hst
      clear hst
      go_wp2_with fail
      refine (unhide HST).mono ?_
      rintro e w' ⟨rfl, hB', hb', _⟩
      go_wp2
      go_ret
      exact ⟨by rw [← unhide hS0, ← hkl]; rfl, (unhide hbe).trans hb'⟩
end Go.Proofs.YticiddcgafhkhaaGreatDoor
