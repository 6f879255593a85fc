/-
  burinlaw05.said: the walk.
-/
import Derived.Test.YtfghfohlcofdpaaDoorHg
import Derived.Test.YtfghfohlcofdpaaDoorHe
import Derived.Test.YtfghfohlcofdpaaDoorEc
import Derived.BigRegion
import Derived.Deep.RegionLaw
namespace Go.Proofs.YtfghfohlcofdpaaDoor
open Go Go.RowKit
set_option linter.unusedVariables false
set_option linter.unusedSimpArgs false

set_option maxRecDepth 100000 in
theorem enter16 (v : Value) (w : World) : (callFunc 16 #[v]).run Tryd.prog w = .ok (.enter 16 #[v]) w := by
  simp [callFunc, Tryd.func16]
  first | done | kernel_rfl
theorem step_call1 {ops : Array Oper} {o : Oper} {a : Act} {w : World} {K : Act → World → Prop} {Q : Exit → Act → World → Prop} {E : Prop}
    (hg : o.guard = none) (x : Operand) (t : TypeId) (hop : o.op = Op.call { callee := Callee.value (.func 16), args := #[x], argTypes := #[t] }) (v0 : Value) (hx : a.eval x = v0)
    (h : Calls Tryd.prog 16 #[v0] w fun e w' => ∃ v, e = .returned v ∧ K (a.put o.dst v) w') : if Region.wanted o (yielded ops a.tmps) = true then Oper.wp Tryd.prog o a w K Q else E := by
  have hw : Region.wanted o (yielded ops a.tmps) = true := by simp [Region.wanted, hg]
  rw [if_pos hw]
  obtain ⟨dst, op, ty, pos, after, guard⟩ := o
  simp only at hop
  subst hop
  subst hx
  have e : (execOp a.eval { dst, op := .call { callee := .value (.func 16), args := #[x], argTypes := #[t] }, type := ty, pos, after, guard }).run Tryd.prog w = .ok (.enter 16 #[a.eval x]) w := by
    rw [execOp_call_go, show (#[] ++ #[x].map a.eval ++ #[] : Array Value) = #[a.eval x] by simp]
    exact enter16 _ w
  unfold Oper.wp
  rw [e, Oper.upon_enter]
  refine h.mono ?_
  rintro e w' ⟨v, rfl, hk⟩
  exact hk
/-- 'append' of tokens to a row of tokens that the call owns, as one step of a region that draws. -/
theorem step_append_tk {ops : Array Oper} {o : Oper} {a : Act} {w : World} {K : Act → World → Prop} {Q : Exit → Act → World → Prop} {E : Prop}
    (hg : o.guard = none) (s x : Operand) (hop : o.op = Op.call { callee := Callee.builtin Builtin.append, args := #[s, x], argTypes := #[30, 30] })
    (base : Nat) (v : Value) (xs : List Gt) (hs : a.eval s = v) (hown : w.ownsRow base 35 6 v xs.length (gCells xs)) (ad : Addr) (cap m : Nat) (l : List Gt) (hx : a.eval x = .slice (some ad) m cap) (hm : m = l.length)
    (B : Nat) (hr : Rg B w (some ad) cap l) (hlen : xs.length + l.length ≤ 1000000) (hbase : base ≤ w.heap.size)
    (hK : ∀ v' w', w'.ownsRow base 35 6 v' (xs ++ l).length (gCells (xs ++ l)) → Below base w w' → K (a.put o.dst v') w') : if Region.wanted o (yielded ops a.tmps) = true then Oper.wp Tryd.prog o a w K Q else E := by
  have hw : Region.wanted o (yielded ops a.tmps) = true := by simp [Region.wanted, hg]
  rw [if_pos hw]
  subst hm
  obtain ⟨i, hi, hz0, hz1, hz2⟩ := info_parts Tryd.info35
  obtain ⟨g, off, rfl, hg', hc⟩ := hr.cell ad rfl
  obtain ⟨v', w', hrun, h2, h3, _⟩ := run_append_own (P := Tryd.prog) w base 30 o.type 35 i _ 6 56 Tryd.underlying30 hi hz0 hz1 hz2 rfl (by decide) v xs.length (gCells xs) hown ⟨g, off, none⟩ l.length cap (gCells l) (gCells_len l) (fun j u hu => by rw [add_pl]; exact hc j u hu) (gCells_one l) (by unfold maxLen; omega) (by omega) hbase
  unfold Oper.wp
  simp [execOp, hop, resolve, invoke, builtin, hs, hx, hrun, Result.andThen]
  exact hK v' w' (by rw [gCells_app, List.length_append]; exact h2) ((Below.refl base w).grown h3 hbase (fun r e => (row_turn hown r e).1))
theorem add_two (W : World) (c : UInt8) : (Op.stringOp .add ⟨#[c]⟩ ⟨#[c]⟩).run Tryd.prog W = .ok (.string ⟨#[c, c]⟩) W :=
  run_string_add_sum W ⟨#[c]⟩ ⟨#[c]⟩ (show (1 : Nat) + 1 ≤ 9223372036854775807 by decide)
theorem slice_one (T : ByteArray) (k : Nat) (h : k < T.size) (W : World) : (Instr.slice 9 (.string T) (some (.int .i64 (k : Int))) (some (.int .i64 ((k : Int) + 1))) none).run Tryd.prog W = .ok (.string ⟨#[T[k]]⟩) W := by
  rw [run_slice_string (P := Tryd.prog) (w := W) 9 T .i64 .i64 (k : Int) ((k : Int) + 1) Tryd.underlying9 (by omega) (by omega) (by omega)]
  have e1 : ((k : Int) + 1).toNat = k + 1 := by omega
  have e2 : ((k : Int)).toNat = k := by omega
  rw [e1, e2]
  obtain ⟨⟨L⟩⟩ := T
  have hL : k < L.length := h
  rw [ext_list]
  have : (L.take (k + 1)).drop k = [L[k]] := by
    rw [List.take_succ_eq_append_getElem hL, List.drop_append_of_le_length (by simp; omega), List.drop_of_length_le (by simp; omega), List.nil_append]
  rw [this]
  rfl
theorem wT_len (a b : List Gt) (ha : a.length ≤ 20000) (hb : b.length ≤ 20000) (c : UInt8) : (wT a b c).length ≤ 20002 := by
  unfold wT
  repeat' split
  all_goals simp [inT] <;> omega
theorem saidT_snoc (a b : List Gt) (ws : List UInt8) (k : Nat) (h : k < ws.length) : saidT a b (ws.take (k + 1)) = saidT a b (ws.take k) ++ wT a b ws[k] := by
  rw [List.take_succ_eq_append_getElem h]
  simp only [saidT, List.flatMap_append, List.flatMap_cons, List.flatMap_nil, List.append_nil]
set_option maxRecDepth 100000 in
set_option maxHeartbeats 16000000 in
theorem said_go (T : ByteArray) (ws : List UInt8) (hlen : T.size = ws.length) (HAT : Hid (∀ i (h : i < ws.length), ∃ h2 : i < T.size, T[i] = ws[i])) (hws : ws.length ≤ 20) (a b : List Gt) (ha : a.length ≤ 20000) (hb : b.length ≤ 20000) (hsa : ∀ t ∈ a, t.s.length ≤ 140737488355328) (hsb : ∀ t ∈ b, t.s.length ≤ 140737488355328)
    (pa pb : Option Addr) (ca cb : Nat) (w : World) (hra : Rg w.heap.size w pa ca a) (hrb : Rg w.heap.size w pb cb b) (hg : Gl w) :
    Calls Tryd.prog 18 #[.string T, .slice pa a.length ca, .slice pb b.length cb] w fun e w' => e = .returned (evalV (evM (saidT a b ws))) ∧ Below w.heap.size w w' := by
  have HRA := hide hra
  have HRB := hide hrb
  have HG := hide hg
  have HSN := hide (saidT_snoc a b ws)
  have HWL := hide (wT_len a b ha hb)
  have HFA : Hid (saidT a b (ws.take ws.length) = saidT a b ws) := by rw [Hid, List.take_length]
  have HS0 : Hid (saidT a b (ws.take 0) = []) := rfl
  have HWD : Hid (∀ c, wT a b c = if c == 65 then inT a else if c == 66 then inT b else if c == 38 || c == 124 then [sgT [c, c]] else if c == 61 then [sgT [61, 61]] else if c == 35 then [sgT [33, 61]] else [sgT [c]]) := fun c => rfl
  have HSI := hide (fun t W => sign_any t W)
  simp only [sgT, Gt.v] at HSI
  have HSH : Hid (∀ t ∈ saidT a b ws, t.s.length ≤ 140737488355328) := by
    intro t ht
    obtain ⟨c, _, hc⟩ := List.mem_flatMap.1 ht
    have hin : ∀ l : List Gt, (∀ t ∈ l, t.s.length ≤ 140737488355328) → t ∈ inT l → t.s.length ≤ 140737488355328 := fun l hl h => by
      rcases List.mem_cons.1 h with rfl | h
      · decide
      · rcases List.mem_append.1 h with h | h
        · exact hl t h
        · obtain rfl := List.mem_singleton.1 h; decide
    unfold wT at hc
    repeat' split at hc
    · exact hin a hsa hc
    · exact hin b hsb hc
    all_goals (obtain rfl := List.mem_singleton.1 hc; first | exact (show (1 : Nat) ≤ 140737488355328 by decide) | exact (show (2 : Nat) ≤ 140737488355328 by decide))
  obtain ⟨ra, rb, rc, hrv⟩ : ∃ (ra : Int) (rb : Bool) (rc : Int), evalV (evM (saidT a b ws)) = .tuple #[.int .u64 ra, .bool rb, .int .i64 rc] := by
    unfold evalV; split
    · exact ⟨_, _, _, rfl⟩
    · exact ⟨_, _, _, rfl⟩
  rw [hrv]
  have HRV := hide hrv
  clear hrv
  generalize hX : saidT a b = X at *
  clear hX hra hrb hg hsa hsb
  generalize wT a b = Y at *
  go_enter Tryd.func18, Tryd.ntmps18
  go_wp2
  go_loopg [9, 10] ws.length (fun gk vo vi wr => ∃ (k : Nat), gk = ws.length - k ∧ vi = .int .i64 (k : Int) ∧ k ≤ ws.length ∧ (X (ws.take k)).length ≤ k * 20002 ∧ Hid (wr.ownsRow w.heap.size 35 6 vo (X (ws.take k)).length (gCells (X (ws.take k)))) ∧ Hid (Below w.heap.size w wr))
  case atStart => exact ⟨0, rfl, rfl, by omega, by rw [unhide HS0]; decide, by rw [Hid, unhide HS0]; exact World.ownsRow_nil _ _ _ _, Below.refl _ _⟩
  case round =>
    obtain ⟨k, rfl, rfl, hk, hXl, HO, HB⟩ := hrel
    by_cases hkl : k < ws.length
    · have i1 : (k : Int) < (ws.length : Int) := by omega
      obtain ⟨hkT, hak⟩ := unhide HAT k hkl
      have hsn := unhide HSN k hkl
      have hwl := unhide HWL ws[k]
      rw [← hak] at hsn hwl
      have hl' : (X (ws.take (k + 1))).length ≤ (k + 1) * 20002 := by rw [hsn, List.length_append, Nat.add_mul]; omega
      have hk20 : k < 20 := by omega
      have hyd := unhide HWD T[k]
      rw [byte_is T[k] 65, byte_is T[k] 66, byte_is T[k] 38, byte_is T[k] 124, byte_is T[k] 61, byte_is T[k] 35] at hyd
      generalize hOO : X (ws.take k) = O at *
      generalize hNN : X (ws.take (k + 1)) = N at *
      have HN := hide hNN
      have HNO := hide hsn
      rw [hyd] at HNO
      have hOl : O.length ≤ 400040 := by have := hXl; omega
      have hcs := slice_one T k hkT
      clear hOO hNN hsn hwl hyd hXl hak HSN HWL HWD HAT HFA HS0 HSH HRV
      simp only [show ((65 : UInt8).toNat : Int) = 65 from rfl, show ((66 : UInt8).toNat : Int) = 66 from rfl, show ((38 : UInt8).toNat : Int) = 38 from rfl, show ((124 : UInt8).toNat : Int) = 124 from rfl, show ((61 : UInt8).toNat : Int) = 61 from rfl, show ((35 : UInt8).toNat : Int) = 35 from rfl] at HNO
      cases h65 : ((T[k].toNat : Int) == 65)
      · cases h66 : ((T[k].toNat : Int) == 66)
        · cases h38 : ((T[k].toNat : Int) == 38)
          · cases h124 : ((T[k].toNat : Int) == 124)
            · cases h61 : ((T[k].toNat : Int) == 61)
              · cases h35 : ((T[k].toNat : Int) == 35)
                · have HV : Hid (N = O ++ [sgT [T[k]]]) := by have := unhide HNO; rw [h65, h66, h38, h124, h61, h35] at this; exact this
                  go_wp2_with fail
                  refine (unhide HSI [T[k]] _).mono ?_
                  rintro e W1 ⟨rfl, h1⟩
                  have HO1 := hide ((ownsRow_bel (unhide HO) h1).alloc (.cells (gCells [sgT [T[k]]]).toArray 35))
                  have hB1 := (unhide HB).trans (h1.mono (unhide HB).size)
                  have HB1 := hide (hB1.alloc hB1.size (.cells (gCells [sgT [T[k]]]).toArray 35))
                  have HL1 := hide (lit_rg W1 [sgT [T[k]]] (by simp))
                  have HZ1 := hide (unhide HB1).size
                  clear HO HB h1 hB1
                  go_wp2_with (at_builtin; refine wpList_append_tk _ rfl _ _ rfl w.heap.size _ O rfl (unhide HO1) (some ⟨W1.heap.size, 0, none⟩) 1 _ [sgT [T[k]]] rfl rfl _ (unhide HL1) (by simp; omega) (unhide HZ1) ?_; intro v5 W5 hrow5 hb5; have HB5 := hide ((unhide HB1).trans hb5); have HO5 := hide hrow5; clear hrow5 hb5)
                  go_roundg (ws.length - (k + 1))
                  case measure => omega
                  case rel =>
                    have e : N = O ++ [sgT [T[k]]] := unhide HV
                    refine ⟨k + 1, rfl, by go_num, by omega, ?_, ?_, HB5⟩
                    · rw [unhide HN]; exact hl'
                    · rw [Hid, unhide HN, e]; exact unhide HO5
                · have HV : Hid (N = O ++ [sgT [33, 61]]) := by have := unhide HNO; rw [h65, h66, h38, h124, h61, h35] at this; exact this
                  go_wp2_with fail
                  refine (unhide HSI [33, 61] _).mono ?_
                  rintro e W1 ⟨rfl, h1⟩
                  have HO1 := hide ((ownsRow_bel (unhide HO) h1).alloc (.cells (gCells [sgT [33, 61]]).toArray 35))
                  have hB1 := (unhide HB).trans (h1.mono (unhide HB).size)
                  have HB1 := hide (hB1.alloc hB1.size (.cells (gCells [sgT [33, 61]]).toArray 35))
                  have HL1 := hide (lit_rg W1 [sgT [33, 61]] (by decide))
                  have HZ1 := hide (unhide HB1).size
                  clear HO HB h1 hB1
                  go_wp2_with (at_builtin; refine wpList_append_tk _ rfl _ _ rfl w.heap.size _ O rfl (unhide HO1) (some ⟨W1.heap.size, 0, none⟩) 1 _ [sgT [33, 61]] rfl rfl _ (unhide HL1) (by simp; omega) (unhide HZ1) ?_; intro v5 W5 hrow5 hb5; have HB5 := hide ((unhide HB1).trans hb5); have HO5 := hide hrow5; clear hrow5 hb5)
                  go_roundg (ws.length - (k + 1))
                  case measure => omega
                  case rel =>
                    have e : N = O ++ [sgT [33, 61]] := unhide HV
                    refine ⟨k + 1, rfl, by go_num, by omega, ?_, ?_, HB5⟩
                    · rw [unhide HN]; exact hl'
                    · rw [Hid, unhide HN, e]; exact unhide HO5
              · have HV : Hid (N = O ++ [sgT [61, 61]]) := by have := unhide HNO; rw [h65, h66, h38, h124, h61] at this; exact this
                go_wp2_with fail
                refine (unhide HSI [61, 61] _).mono ?_
                rintro e W1 ⟨rfl, h1⟩
                have HO1 := hide ((ownsRow_bel (unhide HO) h1).alloc (.cells (gCells [sgT [61, 61]]).toArray 35))
                have hB1 := (unhide HB).trans (h1.mono (unhide HB).size)
                have HB1 := hide (hB1.alloc hB1.size (.cells (gCells [sgT [61, 61]]).toArray 35))
                have HL1 := hide (lit_rg W1 [sgT [61, 61]] (by decide))
                have HZ1 := hide (unhide HB1).size
                clear HO HB h1 hB1
                go_wp2_with (at_builtin; refine wpList_append_tk _ rfl _ _ rfl w.heap.size _ O rfl (unhide HO1) (some ⟨W1.heap.size, 0, none⟩) 1 _ [sgT [61, 61]] rfl rfl _ (unhide HL1) (by simp; omega) (unhide HZ1) ?_; intro v5 W5 hrow5 hb5; have HB5 := hide ((unhide HB1).trans hb5); have HO5 := hide hrow5; clear hrow5 hb5)
                go_roundg (ws.length - (k + 1))
                case measure => omega
                case rel =>
                  have e : N = O ++ [sgT [61, 61]] := unhide HV
                  refine ⟨k + 1, rfl, by go_num, by omega, ?_, ?_, HB5⟩
                  · rw [unhide HN]; exact hl'
                  · rw [Hid, unhide HN, e]; exact unhide HO5
            · have HV : Hid (N = O ++ [sgT [T[k], T[k]]]) := by have := unhide HNO; rw [h65, h66, h38, h124] at this; exact this
              have hsa : ∀ W, (Op.stringOp .add ⟨#[T[k]]⟩ ⟨#[T[k]]⟩).run Tryd.prog W = .ok (.string ⟨#[T[k], T[k]]⟩) W := fun W => by
                exact add_two W T[k]
              have hcs2 : ∀ W, (Instr.slice 9 (.string T) (some (.int .i64 (k : Int))) (some (.int .i64 (IntKind.i64.wrap ((k : Int) + 1)))) none).run Tryd.prog W = .ok (.string ⟨#[T[k]]⟩) W := fun W => by
                rw [show IntKind.i64.wrap ((k : Int) + 1) = (k : Int) + 1 by rw [IntKind.wrap_i64]; omega]; exact hcs W
              go_upto_region 13 with fail
              go_region_law (first
                | (refine step_call1 rfl (.tmp 65) 9 rfl (.string ⟨#[T[k], T[k]]⟩) (by simp [Act.eval, Act.put]) ?_
                   refine (unhide HSI [T[k], T[k]] _).mono ?_
                   rintro e W1 ⟨rfl, h1⟩
                   refine ⟨_, rfl, ?_⟩
                   have hB1 : Below w.heap.size w W1 := Below.trans (b := wr.drew) (drewB (unhide HB)) (h1.mono (unhide HB).size)
                   have HO1 := hide ((ownsRow_bel (w := wr.drew) (unhide HO) h1).alloc (.cells (gCells [sgT [T[k], T[k]]]).toArray 35))
                   have HB1 := hide (hB1.alloc hB1.size (.cells (gCells [sgT [T[k], T[k]]]).toArray 35))
                   have HL1 := hide (lit_rg W1 [sgT [T[k], T[k]]] (by simp))
                   have HZ1 := hide (unhide HB1).size
                   clear h1 hB1)
                | (refine step_append_tk rfl (.tmp 54) (.tmp 67) rfl w.heap.size u9 O (by simp [Act.eval, Act.put]) (unhide HO1) ⟨W1.heap.size, 0, none⟩ 1 1 [sgT [T[k], T[k]]] (by simp [Act.eval, Act.put]) rfl _ (unhide HL1) (by simp; omega) (unhide HZ1) ?_
                   intro v5 W5 hrow5 hb5
                   have HB5 := hide ((unhide HB1).trans hb5)
                   have HO5 := hide hrow5
                   clear hrow5 hb5))
              all_goals (
                go_wp2
                go_roundg (ws.length - (k + 1))
                case measure => omega
                case rel =>
                  have e : N = O ++ [sgT [T[k], T[k]]] := unhide HV
                  refine ⟨k + 1, rfl, by go_num, by omega, ?_, ?_, HB5⟩
                  · rw [unhide HN]; exact hl'
                  · rw [Hid, unhide HN, e]; exact unhide HO5)
          · have HV : Hid (N = O ++ [sgT [T[k], T[k]]]) := by have := unhide HNO; rw [h65, h66, h38] at this; exact this
            have hsa : ∀ W, (Op.stringOp .add ⟨#[T[k]]⟩ ⟨#[T[k]]⟩).run Tryd.prog W = .ok (.string ⟨#[T[k], T[k]]⟩) W := fun W => by
              exact add_two W T[k]
            have hcs2 : ∀ W, (Instr.slice 9 (.string T) (some (.int .i64 (k : Int))) (some (.int .i64 (IntKind.i64.wrap ((k : Int) + 1)))) none).run Tryd.prog W = .ok (.string ⟨#[T[k]]⟩) W := fun W => by
              rw [show IntKind.i64.wrap ((k : Int) + 1) = (k : Int) + 1 by rw [IntKind.wrap_i64]; omega]; exact hcs W
            go_upto_region 13 with fail
            go_region_law (first
              | (refine step_call1 rfl (.tmp 65) 9 rfl (.string ⟨#[T[k], T[k]]⟩) (by simp [Act.eval, Act.put]) ?_
                 refine (unhide HSI [T[k], T[k]] _).mono ?_
                 rintro e W1 ⟨rfl, h1⟩
                 refine ⟨_, rfl, ?_⟩
                 have hB1 : Below w.heap.size w W1 := Below.trans (b := wr.drew) (drewB (unhide HB)) (h1.mono (unhide HB).size)
                 have HO1 := hide ((ownsRow_bel (w := wr.drew) (unhide HO) h1).alloc (.cells (gCells [sgT [T[k], T[k]]]).toArray 35))
                 have HB1 := hide (hB1.alloc hB1.size (.cells (gCells [sgT [T[k], T[k]]]).toArray 35))
                 have HL1 := hide (lit_rg W1 [sgT [T[k], T[k]]] (by simp))
                 have HZ1 := hide (unhide HB1).size
                 clear h1 hB1)
              | (refine step_append_tk rfl (.tmp 54) (.tmp 67) rfl w.heap.size u9 O (by simp [Act.eval, Act.put]) (unhide HO1) ⟨W1.heap.size, 0, none⟩ 1 1 [sgT [T[k], T[k]]] (by simp [Act.eval, Act.put]) rfl _ (unhide HL1) (by simp; omega) (unhide HZ1) ?_
                 intro v5 W5 hrow5 hb5
                 have HB5 := hide ((unhide HB1).trans hb5)
                 have HO5 := hide hrow5
                 clear hrow5 hb5))
            all_goals (
              go_wp2
              go_roundg (ws.length - (k + 1))
              case measure => omega
              case rel =>
                have e : N = O ++ [sgT [T[k], T[k]]] := unhide HV
                refine ⟨k + 1, rfl, by go_num, by omega, ?_, ?_, HB5⟩
                · rw [unhide HN]; exact hl'
                · rw [Hid, unhide HN, e]; exact unhide HO5)
        · have HV : Hid (N = O ++ inT b) := by have := unhide HNO; rw [h65, h66] at this; exact this
          go_wp2_with fail
          refine (unhide HSI [40] _).mono ?_
          rintro e W1 ⟨rfl, h1⟩
          have HO1 := hide ((ownsRow_bel (unhide HO) h1).alloc (.cells (gCells [sgT [40]]).toArray 35))
          have hB1 := (unhide HB).trans (h1.mono (unhide HB).size)
          have HB1 := hide (hB1.alloc hB1.size (.cells (gCells [sgT [40]]).toArray 35))
          have HL1 := hide (lit_rg W1 [sgT [40]] (by decide))
          have HZ1 := hide (unhide HB1).size
          clear HO HB h1 hB1
          go_wp2_with (first
            | (at_builtin; refine wpList_append_tk _ rfl _ _ rfl w.heap.size _ O rfl (unhide HO1) (some ⟨W1.heap.size, 0, none⟩) 1 _ [sgT [40]] rfl rfl _ (unhide HL1) (by simp; omega) (unhide HZ1) ?_; intro v2 W2 hrow2 hb2; have HO2 := hide hrow2; have HB2 := hide ((unhide HB1).trans hb2); clear hrow2 hb2 HO1 HL1 HB1)
            | (at_builtin; refine wpList_append_tk _ rfl _ _ rfl w.heap.size _ (O ++ [sgT [40]]) rfl (unhide HO2) pb cb _ b rfl rfl _ ((unhide HRB).below (unhide HB2)) (by simp; omega) (unhide HB2).size ?_; intro v3 W3 hrow3 hb3; have HO3 := hide hrow3; have HB3 := hide ((unhide HB2).trans hb3); clear hrow3 hb3 HO2 HB2))
          refine (unhide HSI [41] _).mono ?_
          rintro e W4 ⟨rfl, h4⟩
          have HO4 := hide ((ownsRow_bel (unhide HO3) h4).alloc (.cells (gCells [sgT [41]]).toArray 35))
          have hB4 := (unhide HB3).trans (h4.mono (unhide HB3).size)
          have HB4 := hide (hB4.alloc hB4.size (.cells (gCells [sgT [41]]).toArray 35))
          have HL4 := hide (lit_rg W4 [sgT [41]] (by decide))
          have HZ4 := hide (unhide HB4).size
          clear HO3 HB3 h4 hB4
          go_wp2_with (at_builtin; refine wpList_append_tk _ rfl _ _ rfl w.heap.size _ (O ++ [sgT [40]] ++ b) rfl (unhide HO4) (some ⟨W4.heap.size, 0, none⟩) 1 _ [sgT [41]] rfl rfl _ (unhide HL4) (by simp; omega) (unhide HZ4) ?_; intro v5 W5 hrow5 hb5; have HB5 := hide ((unhide HB4).trans hb5); have HO5 := hide hrow5; clear hrow5 hb5)
          go_roundg (ws.length - (k + 1))
          case measure => omega
          case rel =>
            have e : N = O ++ [sgT [40]] ++ b ++ [sgT [41]] := by rw [unhide HV]; simp [inT]
            refine ⟨k + 1, rfl, by go_num, by omega, ?_, ?_, HB5⟩
            · rw [unhide HN]; exact hl'
            · rw [Hid, unhide HN, e]; exact unhide HO5
      · have HV : Hid (N = O ++ inT a) := by have := unhide HNO; rw [h65] at this; exact this
        go_wp2_with fail
        refine (unhide HSI [40] _).mono ?_
        rintro e W1 ⟨rfl, h1⟩
        have HO1 := hide ((ownsRow_bel (unhide HO) h1).alloc (.cells (gCells [sgT [40]]).toArray 35))
        have hB1 := (unhide HB).trans (h1.mono (unhide HB).size)
        have HB1 := hide (hB1.alloc hB1.size (.cells (gCells [sgT [40]]).toArray 35))
        have HL1 := hide (lit_rg W1 [sgT [40]] (by decide))
        have HZ1 := hide (unhide HB1).size
        clear HO HB h1 hB1
        go_wp2_with (first
          | (at_builtin; refine wpList_append_tk _ rfl _ _ rfl w.heap.size _ O rfl (unhide HO1) (some ⟨W1.heap.size, 0, none⟩) 1 _ [sgT [40]] rfl rfl _ (unhide HL1) (by simp; omega) (unhide HZ1) ?_; intro v2 W2 hrow2 hb2; have HO2 := hide hrow2; have HB2 := hide ((unhide HB1).trans hb2); clear hrow2 hb2 HO1 HL1 HB1)
          | (at_builtin; refine wpList_append_tk _ rfl _ _ rfl w.heap.size _ (O ++ [sgT [40]]) rfl (unhide HO2) pa ca _ a rfl rfl _ ((unhide HRA).below (unhide HB2)) (by simp; omega) (unhide HB2).size ?_; intro v3 W3 hrow3 hb3; have HO3 := hide hrow3; have HB3 := hide ((unhide HB2).trans hb3); clear hrow3 hb3 HO2 HB2))
        refine (unhide HSI [41] _).mono ?_
        rintro e W4 ⟨rfl, h4⟩
        have HO4 := hide ((ownsRow_bel (unhide HO3) h4).alloc (.cells (gCells [sgT [41]]).toArray 35))
        have hB4 := (unhide HB3).trans (h4.mono (unhide HB3).size)
        have HB4 := hide (hB4.alloc hB4.size (.cells (gCells [sgT [41]]).toArray 35))
        have HL4 := hide (lit_rg W4 [sgT [41]] (by decide))
        have HZ4 := hide (unhide HB4).size
        clear HO3 HB3 h4 hB4
        go_wp2_with (at_builtin; refine wpList_append_tk _ rfl _ _ rfl w.heap.size _ (O ++ [sgT [40]] ++ a) rfl (unhide HO4) (some ⟨W4.heap.size, 0, none⟩) 1 _ [sgT [41]] rfl rfl _ (unhide HL4) (by simp; omega) (unhide HZ4) ?_; intro v5 W5 hrow5 hb5; have HB5 := hide ((unhide HB4).trans hb5); have HO5 := hide hrow5; clear hrow5 hb5)
        go_roundg (ws.length - (k + 1))
        case measure => omega
        case rel =>
          have e : N = O ++ [sgT [40]] ++ a ++ [sgT [41]] := by rw [unhide HV]; simp [inT]
          refine ⟨k + 1, rfl, by go_num, by omega, ?_, ?_, HB5⟩
          · rw [unhide HN]; exact hl'
          · rw [Hid, unhide HN, e]; exact unhide HO5
    · obtain rfl : k = ws.length := by omega
      have i1 : ¬ ((ws.length : Nat) : Int) < (ws.length : Int) := by omega
      have hro := unhide HO
      rw [unhide HFA] at hro hXl
      obtain ⟨p, cap, rfl, hr⟩ := Rg.of_row hro rfl
      have HE := hide (evalRg rfl (by omega) (unhide HSH) hr (Nat.le_refl _) ((unhide HG).next (unhide HB)))
      rw [unhide HRV] at HE
      generalize (X ws).length = nx at *
      clear hro hr HO HSN HWL HWD HSI HSH HAT HFA HS0 HRA HRB
      go_wp2_with fail
      refine (unhide HE).mono ?_
      rintro e W2 ⟨rfl, hb2⟩
      have HB2 := hide ((unhide HB).trans (hb2.mono (unhide HB).size))
      clear hb2 HE HB
      go_wp2
      go_ret3
      exact ⟨rfl, unhide HB2⟩
theorem said_any (ws : List UInt8) (hws : ws.length ≤ 20) (a b : List Gt) (ha : a.length ≤ 20000) (hb : b.length ≤ 20000) (hsa : ∀ t ∈ a, t.s.length ≤ 140737488355328) (hsb : ∀ t ∈ b, t.s.length ≤ 140737488355328)
    (pa pb : Option Addr) (ca cb : Nat) (w : World) (hra : Rg w.heap.size w pa ca a) (hrb : Rg w.heap.size w pb cb b) (hg : Gl w) :
    Calls Tryd.prog 18 #[.string ⟨ws.toArray⟩, .slice pa a.length ca, .slice pb b.length cb] w fun e w' => e = .returned (evalV (evM (saidT a b ws))) ∧ Below w.heap.size w w' :=
  have hlen : (⟨ws.toArray⟩ : ByteArray).size = ws.length := by show ws.toArray.size = _; simp
  said_go ⟨ws.toArray⟩ ws hlen (fun i h => ⟨by rw [hlen]; exact h, rfl⟩) hws a b ha hb hsa hsb pa pb ca cb w hra hrb hg
end Go.Proofs.YtfghfohlcofdpaaDoor
