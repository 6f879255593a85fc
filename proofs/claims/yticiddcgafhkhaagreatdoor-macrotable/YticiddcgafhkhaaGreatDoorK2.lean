/-
  The document's own Spell, for every tokens whose text is not too long.
-/
import Derived.Test.YticiddcgafhkhaaGreatDoorK1
namespace Go.Proofs.YticiddcgafhkhaaGreatDoor
open Go Go.RowKit Go.Shelf
set_option linter.unusedVariables false
set_option linter.unusedSimpArgs false

theorem Tryz.info5 : (Tryz.prog.info? 5).map (fun i => (i.zero, i.size, i.bytes)) = some (some (.int .u8 0), 1, 1) := by kernel_rfl
/-- 'string(b)' of a row of bytes that the call owns. -/
theorem run_string_row {W : World} {base : Nat} {v : Value} {l : List UInt8} (h : W.ownsRow base 5 1 v l.length (Lib.byteCells l)) :
    (convert 87 9 v).run Tryz.prog W = .ok (.string ⟨l.toArray⟩) W := by
  have hc : ∀ {g : Nat}, v.ownBlock = some g → ∀ j u, (Lib.byteCells l)[j]? = some u → W.cell? ((⟨g, 0, none⟩ : Addr).add j) = some u := fun hg => h.cells hg
  rcases h.2 with ⟨rfl, h0⟩ | ⟨g, cap, cur, rfl, _⟩
  · have : l = [] := List.length_eq_zero_iff.1 h0
    subst this
    exact run_convert_bytes_nil W 87 5 Tryz.underlying87 Tryz.underlying5 0 0 9 Tryz.underlying9
  · exact run_convert_bytes_back W 87 9 5 ⟨g, 0, none⟩ cap l Tryz.underlying87 Tryz.underlying5 Tryz.underlying9 (fun j hj => hc (g := g) rfl j _ (by simp [Lib.byteCells, hj]))
theorem one_cell (W : World) (u1 : Value) (t : TypeId) : ∀ (j : Nat) (u : Value), [u1][j]? = some u → (W.alloc (.cells #[u1] t)).cell? ((⟨W.heap.size, 0, none⟩ : Addr).add j) = some u := by
  intro j u h
  match j, h with
  | 0, h => simp at h; subst h; simp [Addr.add]
theorem wpList_append_str {P : Program} (w : World) {ops : Array Oper} {rest : List Oper} {o : Oper} {a : Act} {Q : Exit → Act → World → Prop} (hgd : o.guard = none) (sl x : Operand) (t u : TypeId)
    (ho : o.op = .call { callee := .builtin .append, args := #[sl, x], argTypes := #[t, u] })
    (base : Nat) (e : TypeId) (i : TypeInfo) (ht : P.underlying t = some (.slice e)) (hu : P.underlying u = some .string) (hi : P.info? e = some i) (hz : i.zero = some (.int .u8 0)) (hsize : i.size = 1) (hby : i.bytes = 1)
    (v : Value) (n : Nat) (xs : List Value) (hs : a.eval sl = v) (hown : w.ownsRow base e 1 v n xs) (s : ByteArray) (hx : a.eval x = .string s) (hbytes : n + s.size ≤ 140737488355328) (hbase : base ≤ w.heap.size)
    (h : ∀ v' w', w'.ownsRow base e 1 v' (n + s.size) (xs ++ Lib.strCells s) → w.grownBy w' v.ownBlock → wpList P ops Q rest (a.put o.dst v') w') : wpList P ops Q (o :: rest) a w := by
  refine wpList_plain hgd fun K hK => ?_
  obtain ⟨v', w', hr, h2, h3, _⟩ := Lib.run_append_own_string (P := P) w base t u o.type e i ht hu hi hz hsize hby v n xs hown s (by unfold maxLen; omega) hbytes hbase
  unfold Oper.wp execOp
  simp only [ho, resolve, invoke, builtin, Sem.run_bind, Sem.run_pure, Result.andThen_ok, List.map_toArray, List.map_cons, List.map_nil, hs, hx, hr]
  exact hK _ _ (h v' w' h2 h3)

set_option maxRecDepth 100000 in
set_option maxHeartbeats 4000000 in
theorem rSpell_any (v : Value) (l : List Gt) (w : World) (hl : l.length ≤ 140737488355328) (hb : (spG l).length ≤ 140737488355328) (hv : TkG w.heap.size w v l) :
    Calls Tryz.prog 77 #[v] w fun e w' => e = .returned (.string ⟨(spG l).toArray⟩) ∧ Below w.heap.size w w' := by
  have HV := hide hv
  obtain ⟨p, cap, rfl, _⟩ := hv
  have hS0 : Hid (spP l l.length = spG l) := rfl
  have HLE : Hid (∀ k, k ≤ l.length → (spP l k).length ≤ 140737488355328) := fun k hk => Nat.le_trans (spP_le l _ _ hk) hb
  generalize spG l = R at *
  obtain ⟨i5, hi5, hz5a, hz5b, hz5c⟩ := info_parts Tryz.info5
  go_enter Tryz.func77, Tryz.ntmps77
  go_wp2
  go_loopg [3, 4] l.length (fun gk u i wr => ∃ k : Nat, gk = l.length - k ∧ i = .int .i64 k ∧ k ≤ l.length ∧ wr.ownsRow w.heap.size 5 1 u (spP l k).length (Lib.byteCells (spP l k)) ∧ Hid (Below w.heap.size w wr))
  case atStart => exact ⟨0, rfl, rfl, Nat.zero_le _, World.ownsRow_nil _ _ _ _, Below.refl _ _⟩
  case round =>
    obtain ⟨k, rfl, rfl, hk, hB, hbe⟩ := hrel
    have hzr := (unhide hbe).size
    by_cases hlt : k < l.length
    · have i1 : (k : Int) < (l.length : Int) := by omega
      obtain ⟨p', cap', hp', hcs⟩ := (unhide HV).below (unhide hbe)
      obtain ⟨g, o, rfl, hgw, a0, a1, a2, a3, a4, a5⟩ := hcs k hlt
      obtain ⟨rfl, rfl⟩ : p = some ⟨g, o, none⟩ ∧ cap = cap' := by simpa using hp'
      have hsu := spP_succ hlt
      have hle1 := unhide HLE (k + 1) hlt
      have HSU := hide hsu
      rw [hsu, List.length_append, List.length_append] at hle1
      generalize l[k] = t at *
      clear hsu hcs hp' a0 a2 a3
      have hts : (⟨t.s.toArray⟩ : ByteArray).size = t.s.length := by show t.s.toArray.size = _; simp
      have HTS := hide hts
      clear hts
      have fin : Hid (∀ (u' : Value) (wx : World), wx.ownsRow w.heap.size 5 1 u' ((spP l k ++ sepG k t).length + (⟨t.s.toArray⟩ : ByteArray).size) (Lib.byteCells (spP l k ++ sepG k t) ++ Lib.strCells ⟨t.s.toArray⟩) → wx.ownsRow w.heap.size 5 1 u' (spP l (k + 1)).length (Lib.byteCells (spP l (k + 1)))) := by
        intro u' wx h
        rw [strC, ← byteC_app, unhide HTS, ← List.length_append] at h
        rw [unhide HSU, ← List.append_assoc]
        exact h
      by_cases hk0 : k = 0
      · subst hk0
        have hse : sepG 0 t = [] := rfl
        rw [hse, List.append_nil] at fin
        have k1 : ¬ (0 : Int) < ((0 : Nat) : Int) := by omega
        go_wp2_with (at_builtin; refine wpList_append_str _ rfl _ _ 87 9 rfl w.heap.size 5 i5 Tryz.underlying87 Tryz.underlying9 hi5 hz5a hz5b hz5c _ _ _ rfl hB _ rfl (by rw [unhide HTS]; omega) hzr ?_; intro u' w' hown hgrow)
        go_roundg (l.length - (0 + 1))
        case measure => omega
        case rel => exact ⟨0 + 1, rfl, by go_num, by omega, unhide fin u' w' hown, (unhide hbe).grown hgrow hzr (fun r e => (row_turn hB r e).1)⟩
      · have k1 : (0 : Int) < (k : Int) := by omega
        cases hfi : t.fi
        · cases hsp : t.sp
          · have hse : sepG k t = [] := by rw [sepG, if_neg hk0, hfi, hsp]; rfl
            rw [hse, List.append_nil] at fin
            rw [hfi] at a5
            rw [hsp] at a4
            clear hfi hsp hse
            go_wp2_with (at_builtin; refine wpList_append_str _ rfl _ _ 87 9 rfl w.heap.size 5 i5 Tryz.underlying87 Tryz.underlying9 hi5 hz5a hz5b hz5c _ _ _ rfl hB _ rfl (by rw [unhide HTS]; omega) hzr ?_; intro u' w' hown hgrow)
            go_roundg (l.length - (k + 1))
            case measure => omega
            case rel => exact ⟨k + 1, rfl, by go_num, by omega, unhide fin u' w' hown, (unhide hbe).grown hgrow hzr (fun r e => (row_turn hB r e).1)⟩
          · have hse : sepG k t = [32] := by rw [sepG, if_neg hk0, hfi, hsp]; rfl
            rw [hse] at fin hle1
            simp only [List.length_singleton] at hle1
            rw [hfi] at a5
            rw [hsp] at a4
            clear hfi hsp hse
            have hzA : w.heap.size ≤ (wr.alloc (.cells #[.int .u8 32] 5)).heap.size := by simp; omega
            go_wp2_with (first
              | (at_builtin; refine wpList_append_own _ rfl _ _ 87 rfl w.heap.size 5 i5 (.int .u8 0) 1 1 Tryz.underlying87 hi5 hz5a hz5b hz5c rfl (by decide) _ _ _ rfl (hB.alloc _) ⟨wr.heap.size, 0, none⟩ 1 1 [.int .u8 32] rfl rfl (one_cell wr _ 5) (fun u hu => by simp at hu; subst hu; rfl) (by unfold maxLen; omega) (by omega) hzA ?_; intro u2 w2 hown2 hgrow2 _; have hb2 : Below w.heap.size w w2 := ((unhide hbe).alloc hzr _).grown hgrow2 hzA (fun r e => (row_turn hB r e).1); have hz2 := hb2.size; have q1 := (hb2.cell (p := ⟨g, o + k * 6 + 1, none⟩) hgw).trans (((unhide hbe).cell (p := ⟨g, o + k * 6 + 1, none⟩) hgw).symm.trans a1); clear a1)
              | (at_builtin; refine wpList_append_str _ rfl _ _ 87 9 rfl w.heap.size 5 i5 Tryz.underlying87 Tryz.underlying9 hi5 hz5a hz5b hz5c _ _ _ rfl hown2 _ rfl (by rw [unhide HTS]; omega) hz2 ?_; intro u' w' hown hgrow))
            go_roundg (l.length - (k + 1))
            case measure => omega
            case rel =>
              refine ⟨k + 1, rfl, by go_num, by omega, unhide fin u' w' ?_, hb2.grown hgrow hz2 (fun r e => (row_turn hown2 r e).1)⟩
              rw [List.length_append, byteC_app]
              exact hown
        · have hse : sepG k t = [10] := by rw [sepG, if_neg hk0, hfi]; rfl
          rw [hse] at fin hle1
          simp only [List.length_singleton] at hle1
          rw [hfi] at a5
          clear hfi hse
          have hzA : w.heap.size ≤ (wr.alloc (.cells #[.int .u8 10] 5)).heap.size := by simp; omega
          go_wp2_with (first
            | (at_builtin; refine wpList_append_own _ rfl _ _ 87 rfl w.heap.size 5 i5 (.int .u8 0) 1 1 Tryz.underlying87 hi5 hz5a hz5b hz5c rfl (by decide) _ _ _ rfl (hB.alloc _) ⟨wr.heap.size, 0, none⟩ 1 1 [.int .u8 10] rfl rfl (one_cell wr _ 5) (fun u hu => by simp at hu; subst hu; rfl) (by unfold maxLen; omega) (by omega) hzA ?_; intro u2 w2 hown2 hgrow2 _; have hb2 : Below w.heap.size w w2 := ((unhide hbe).alloc hzr _).grown hgrow2 hzA (fun r e => (row_turn hB r e).1); have hz2 := hb2.size; have q1 := (hb2.cell (p := ⟨g, o + k * 6 + 1, none⟩) hgw).trans (((unhide hbe).cell (p := ⟨g, o + k * 6 + 1, none⟩) hgw).symm.trans a1); clear a1)
            | (at_builtin; refine wpList_append_str _ rfl _ _ 87 9 rfl w.heap.size 5 i5 Tryz.underlying87 Tryz.underlying9 hi5 hz5a hz5b hz5c _ _ _ rfl hown2 _ rfl (by rw [unhide HTS]; omega) hz2 ?_; intro u' w' hown hgrow))
          go_roundg (l.length - (k + 1))
          case measure => omega
          case rel =>
            refine ⟨k + 1, rfl, by go_num, by omega, unhide fin u' w' ?_, hb2.grown hgrow hz2 (fun r e => (row_turn hown2 r e).1)⟩
            rw [List.length_append, byteC_app]
            exact hown
    · have i1 : ¬ (k : Int) < (l.length : Int) := by omega
      have hkl : k = l.length := by omega
      have hcv := run_string_row hB
      go_wp2
      go_ret
      exact ⟨by rw [← unhide hS0, ← hkl]; rfl, unhide hbe⟩
end Go.Proofs.YticiddcgafhkhaaGreatDoor
