/-
  burinref01.physical: the document's physical lines of every string of at most 1048576 bytes.
-/
import Derived.Test.YtncccheaeghbiaaA7
import Derived.Laws.IdiomStrings
import Derived.Laws.BytesArg
namespace Go.Proofs.Ytncccheaeghbiaa
open Go Go.RowKit
set_option linter.unusedVariables false

def strRow (L : List (List UInt8)) : List Value := L.map fun l => .string ⟨l.toArray⟩
theorem strRow_snoc (L : List (List UInt8)) (l : List UInt8) : strRow (L ++ [l]) = strRow L ++ [.string ⟨l.toArray⟩] := by simp [strRow]
theorem Try.info9 : (Try.prog.info? 9).map (fun i => (i.zero, i.size, i.bytes)) = some (some (.string ⟨#[]⟩), 1, 16) := by kernel_rfl
theorem Try.info5 : (Try.prog.info? 5).map (fun i => (i.zero, i.size, i.bytes)) = some (some (.int .u8 0), 1, 1) := by kernel_rfl
theorem one_cell (W : World) (u1 : Value) (t : TypeId) : ∀ (j : Nat) (u : Value), [u1][j]? = some u → (W.alloc (.cells #[u1] t)).cell? ((⟨W.heap.size, 0, none⟩ : Addr).add j) = some u := by
  intro j u h
  match j, h with
  | 0, h => simp at h; subst h; simp [Addr.add]

theorem ownsRow_below {W W' : World} {base n size : Nat} {e : TypeId} {v : Value} {xs : List Value} (h : W.ownsRow base e size v n xs) (hb : Below W.heap.size W W') : W'.ownsRow base e size v n xs := by
  refine ⟨h.1, ?_⟩
  rcases h.2 with hn | ⟨g, cap, cur, rfl, hbg, hg, hr⟩
  · exact .inl hn
  · exact .inr ⟨g, cap, cur, rfl, hbg, (hb.block g (Array.getElem?_eq_some_iff.1 hg).1).trans hg, hr⟩
theorem below_drewN {B : Nat} {a w : World} (h : Below B a w) (m : Nat) : Below B a (w.drewN m) := ⟨h.os, h.tape, h.output, h.size, h.block⟩
theorem lines_short (d : List UInt8) : (Tx.lines d).length ≤ d.length := by
  have h := Tx.lst_bounds d.length (Tx.phys d) (Tx.phys_short d)
  have h2 := Tx.phys_length d
  unfold Tx.lines
  omega

/-- 'string(b)' of a row of bytes that the call owns. -/
theorem run_string_row {W : World} {base : Nat} {v : Value} {l : List UInt8} (h : W.ownsRow base 5 1 v l.length (Lib.byteCells l)) :
    (convert 38 9 v).run Try.prog W = .ok (.string ⟨l.toArray⟩) W := by
  have hc : ∀ {g : Nat}, v.ownBlock = some g → ∀ j u, (Lib.byteCells l)[j]? = some u → W.cell? ((⟨g, 0, none⟩ : Addr).add j) = some u := fun hg => h.cells hg
  rcases h.2 with ⟨rfl, h0⟩ | ⟨g, cap, cur, rfl, _⟩
  · have : l = [] := List.length_eq_zero_iff.1 h0
    subst this
    exact run_convert_bytes_nil W 38 5 Try.underlying38 Try.underlying5 0 0 9 Try.underlying9
  · exact run_convert_bytes_back W 38 9 5 ⟨g, 0, none⟩ cap l Try.underlying38 Try.underlying5 Try.underlying9 (fun j hj => hc (g := g) rfl j _ (by simp [Lib.byteCells, hj]))

theorem rows_apart {W : World} {b1 b2 n1 n2 z1 z2 : Nat} {e1 e2 : TypeId} {v1 v2 : Value} {xs ys : List Value} (h1 : W.ownsRow b1 e1 z1 v1 n1 xs) (h2 : W.ownsRow b2 e2 z2 v2 n2 ys) (he : e1 ≠ e2) : v1.ownBlock = none ∨ v1.ownBlock ≠ v2.ownBlock := by
  cases h : v1.ownBlock with
  | none => exact .inl rfl
  | some g =>
    refine .inr (fun e => ?_)
    obtain ⟨_, c1, hc1⟩ := row_turn h1 g h
    obtain ⟨_, c2, hc2⟩ := row_turn h2 g e.symm
    rw [hc1] at hc2
    cases hc2
    exact he rfl

theorem byte_ne {c d : UInt8} (h : c ≠ d) : ((c.toNat : Int) != (d.toNat : Int)) = true := by
  rw [bne_iff_ne]; intro e; exact h (UInt8.toNat.inj (by omega))
theorem byte_neq {c d : UInt8} (h : c ≠ d) : ((c.toNat : Int) == (d.toNat : Int)) = false := by
  rw [beq_eq_false_iff_ne]; intro e; exact h (UInt8.toNat.inj (by omega))
theorem drop_at (s : ByteArray) (k : Nat) (h : k < s.size) : s.data.toList.drop k = s[k] :: s.data.toList.drop (k + 1) := by
  rw [List.drop_eq_getElem_cons (by simpa using h)]; rfl
theorem get_at (s : ByteArray) (k : Nat) (h : k < s.size) (h' : k < s.data.toList.length) : s.data.toList[k] = s[k] := rfl

set_option maxHeartbeats 2000000 in
theorem refPhysical_any (s : ByteArray) (w : World) (hs : s.size ≤ 1048576) :
    Calls Try.prog 23 #[.string s] w fun e w' => ∃ v, e = .returned v ∧ w'.ownsRow w.heap.size 9 1 v (Tx.phys s.data.toList).length (strRow ((Tx.phys s.data.toList).map Prod.fst)) ∧ Below w.heap.size w w' := by
  have hlen : s.data.toList.length = s.size := by simp
  have HLEN := hide hlen
  clear hlen
  obtain ⟨i9, hi9, hz9a, hz9b, hz9c⟩ := info_parts Try.info9
  obtain ⟨i5, hi5, hz5a, hz5b, hz5c⟩ := info_parts Try.info5
  go_enter Try.func23, Try.ntmps23
  go_wp2
  go_loopw [3, 4, 5, 6] (fun vo vb op i wr => ∃ (k st : Nat) (L : List (List UInt8)), i = .int .i64 k ∧ st ≤ k ∧ k ≤ s.size ∧ op = .bool (decide (st < k)) ∧
      Hid (L ++ Tx.physFrom s.data.toList st k = Tx.physFrom s.data.toList 0 0) ∧ L.length ≤ st ∧ wr.ownsRow w.heap.size 9 1 vo L.length (strRow L) ∧
      wr.ownsRow w.heap.size 5 1 vb (k - st) (Lib.byteCells ((s.data.toList.drop st).take (k - st))) ∧ Below w.heap.size w wr) (fun vo vb op i wr => s.size - (intOf i).toNat)
  case atStart => exact ⟨0, 0, [], rfl, Nat.le_refl _, Nat.zero_le _, rfl, rfl, Nat.le_refl _, World.ownsRow_nil _ _ _ _, World.ownsRow_nil _ _ _ _, Below.refl _ _⟩
  case round =>
    obtain ⟨k, st, L, rfl, hst, hk, rfl, hpre, hL, hro, hrb, hbe⟩ := hrel
    by_cases hlt : k < s.size
    · have hltd : k < s.data.toList.length := by rw [unhide HLEN]; exact hlt
      by_cases hc : s[k] = 13 ∨ s[k] = 10
      · -- a line end: of one byte, or of two
        have hcv : Hid ((convert 38 9 u4).run Try.prog wr = .ok (.string ⟨((s.data.toList.drop st).take (k - st)).toArray⟩) wr) := by
          have hlen' : ((s.data.toList.drop st).take (k - st)).length = k - st := by have := unhide HLEN; simp; omega
          exact hide (run_string_row (by rw [hlen']; exact hrb))
        have hrun := unhide hcv
        have hz := hbe.size
        by_cases h13 : s[k] = 13
        · have g1 : ((s[k].toNat : Int) != 13) = false := by rw [h13]; rfl
          have g2 : ((s[k].toNat : Int) == 13) = true := by rw [h13]; rfl
          by_cases hnx : k + 1 < s.size
          · by_cases h10 : s[k + 1] = 10
            · have g3 : ((s[k + 1].toNat : Int) == 10) = true := by rw [h10]; rfl
              have hler : Tx.ler (s.data.toList.drop k) = 2 := by
                rw [drop_at s k hlt, Tx.ler_cons, drop_at s (k + 1) hnx]; simp [h13, h10]
              have hP := Tx.physFrom_yes s.data.toList (st := st) hltd (by rw [hler]; decide)
              rw [hler] at hP
              have HP := hide hP
              clear hP hler
              go_wp2_with (at_builtin; refine wpList_append_own _ rfl _ _ 51 rfl w.heap.size 9 i9 (.string ⟨#[]⟩) 1 16 Try.underlying51 hi9 hz9a hz9b hz9c rfl (by decide) _ _ _ rfl (hro.alloc _) ⟨wr.heap.size, 0, none⟩ 1 1 [.string ⟨((s.data.toList.drop st).take (k - st)).toArray⟩] rfl rfl (one_cell wr _ 9) ?c2 ?c3 ?c4 ?c5 ?_)
              case c2 => intro u hu; simp at hu; subst hu; rfl
              case c3 => unfold maxLen; omega
              case c4 => omega
              case c5 => simp; omega
              intro v' W5 hown' hgrow _
              have hbe' : Below w.heap.size w W5 := (hbe.alloc hz _).grown hgrow (by simp; omega) (fun r e => (row_turn hro r e).1)
              go_wp2
              go_roundw
              case rel =>
                refine ⟨k + 2, k + 2, L ++ [(s.data.toList.drop st).take (k - st)], by go_num, Nat.le_refl _, by omega, by simp, ?_, by simp; omega, ?_, ?_, hbe'⟩
                · rw [Hid, List.append_assoc, List.singleton_append, ← unhide HP]; exact hpre
                · rw [strRow_snoc]; simpa using hown'
                · simp only [Nat.sub_self, List.take_zero]; exact World.ownsRow_nil _ _ _ _
              case measure => simp [intOf]; omega
            · have g3 : ((s[k + 1].toNat : Int) == 10) = false := byte_neq (d := 10) h10
              have hler : Tx.ler (s.data.toList.drop k) = 1 := by
                rw [drop_at s k hlt, Tx.ler_cons, drop_at s (k + 1) hnx]; simp [h13, h10]
              have hP := Tx.physFrom_yes s.data.toList (st := st) hltd (by rw [hler]; decide)
              rw [hler] at hP
              have HP := hide hP
              clear hP hler
              go_wp2_with (at_builtin; refine wpList_append_own _ rfl _ _ 51 rfl w.heap.size 9 i9 (.string ⟨#[]⟩) 1 16 Try.underlying51 hi9 hz9a hz9b hz9c rfl (by decide) _ _ _ rfl (hro.alloc _) ⟨wr.heap.size, 0, none⟩ 1 1 [.string ⟨((s.data.toList.drop st).take (k - st)).toArray⟩] rfl rfl (one_cell wr _ 9) ?c2 ?c3 ?c4 ?c5 ?_)
              case c2 => intro u hu; simp at hu; subst hu; rfl
              case c3 => unfold maxLen; omega
              case c4 => omega
              case c5 => simp; omega
              intro v' W5 hown' hgrow _
              have hbe' : Below w.heap.size w W5 := (hbe.alloc hz _).grown hgrow (by simp; omega) (fun r e => (row_turn hro r e).1)
              go_wp2
              go_roundw
              case rel =>
                refine ⟨k + 1, k + 1, L ++ [(s.data.toList.drop st).take (k - st)], by go_num, Nat.le_refl _, by omega, by simp, ?_, by simp; omega, ?_, ?_, hbe'⟩
                · rw [Hid, List.append_assoc, List.singleton_append, ← unhide HP]; exact hpre
                · rw [strRow_snoc]; simpa using hown'
                · simp only [Nat.sub_self, List.take_zero]; exact World.ownsRow_nil _ _ _ _
              case measure => simp [intOf]; omega
          · have g3 : decide ((k : Int) + 1 < (s.size : Int)) = false := by simp; omega
            have hler : Tx.ler (s.data.toList.drop k) = 1 := by
              rw [drop_at s k hlt, Tx.ler_cons, List.drop_eq_nil_of_le (by have := unhide HLEN; omega)]; simp [h13]
            have hP := Tx.physFrom_yes s.data.toList (st := st) hltd (by rw [hler]; decide)
            rw [hler] at hP
            have HP := hide hP
            clear hP hler
            go_wp2_with (at_builtin; refine wpList_append_own _ rfl _ _ 51 rfl w.heap.size 9 i9 (.string ⟨#[]⟩) 1 16 Try.underlying51 hi9 hz9a hz9b hz9c rfl (by decide) _ _ _ rfl (hro.alloc _) ⟨wr.heap.size, 0, none⟩ 1 1 [.string ⟨((s.data.toList.drop st).take (k - st)).toArray⟩] rfl rfl (one_cell wr _ 9) ?c2 ?c3 ?c4 ?c5 ?_)
            case c2 => intro u hu; simp at hu; subst hu; rfl
            case c3 => unfold maxLen; omega
            case c4 => omega
            case c5 => simp; omega
            intro v' W5 hown' hgrow _
            have hbe' : Below w.heap.size w W5 := (hbe.alloc hz _).grown hgrow (by simp; omega) (fun r e => (row_turn hro r e).1)
            go_wp2
            go_roundw
            case rel =>
              refine ⟨k + 1, k + 1, L ++ [(s.data.toList.drop st).take (k - st)], by go_num, Nat.le_refl _, by omega, by simp, ?_, by simp; omega, ?_, ?_, hbe'⟩
              · rw [Hid, List.append_assoc, List.singleton_append, ← unhide HP]; exact hpre
              · rw [strRow_snoc]; simpa using hown'
              · simp only [Nat.sub_self, List.take_zero]; exact World.ownsRow_nil _ _ _ _
            case measure => simp [intOf]; omega
        · have h10 : s[k] = 10 := hc.resolve_left h13
          have g1 : ((s[k].toNat : Int) != 13) = true := byte_ne (d := 13) h13
          have g2 : ((s[k].toNat : Int) == 13) = false := byte_neq (d := 13) h13
          have g3 : ((s[k].toNat : Int) != 10) = false := by rw [h10]; rfl
          have hler : Tx.ler (s.data.toList.drop k) = 1 := by
            rw [drop_at s k hlt, Tx.ler_cons]; simp [h10]
          have hP := Tx.physFrom_yes s.data.toList (st := st) hltd (by rw [hler]; decide)
          rw [hler] at hP
          have HP := hide hP
          clear hP hler
          go_wp2_with (at_builtin; refine wpList_append_own _ rfl _ _ 51 rfl w.heap.size 9 i9 (.string ⟨#[]⟩) 1 16 Try.underlying51 hi9 hz9a hz9b hz9c rfl (by decide) _ _ _ rfl (hro.alloc _) ⟨wr.heap.size, 0, none⟩ 1 1 [.string ⟨((s.data.toList.drop st).take (k - st)).toArray⟩] rfl rfl (one_cell wr _ 9) ?c2 ?c3 ?c4 ?c5 ?_)
          case c2 => intro u hu; simp at hu; subst hu; rfl
          case c3 => unfold maxLen; omega
          case c4 => omega
          case c5 => simp; omega
          intro v' W5 hown' hgrow _
          have hbe' : Below w.heap.size w W5 := (hbe.alloc hz _).grown hgrow (by simp; omega) (fun r e => (row_turn hro r e).1)
          go_wp2
          go_roundw
          case rel =>
            refine ⟨k + 1, k + 1, L ++ [(s.data.toList.drop st).take (k - st)], by go_num, Nat.le_refl _, by omega, by simp, ?_, by simp; omega, ?_, ?_, hbe'⟩
            · rw [Hid, List.append_assoc, List.singleton_append, ← unhide HP]; exact hpre
            · rw [strRow_snoc]; simpa using hown'
            · simp only [Nat.sub_self, List.take_zero]; exact World.ownsRow_nil _ _ _ _
          case measure => simp [intOf]; omega
      · obtain ⟨hc1, hc2⟩ := not_or.1 hc
        have h13 : ((s[k].toNat : Int) != 13) = true := byte_ne (d := 13) hc1
        have h10 : ((s[k].toNat : Int) != 10) = true := byte_ne (d := 10) hc2
        have hler : Tx.ler (s.data.toList.drop k) = 0 := by rw [drop_at s k hlt, Tx.ler_cons]; simp [hc1, hc2]
        have hP := Tx.physFrom_no s.data.toList (st := st) hltd hler
        have HP := hide hP
        have hcur := Tx.cur_snoc s.data.toList hltd hst
        rw [get_at s k hlt hltd] at hcur
        have HC := hide hcur
        clear hP hcur hc hc1 hc2 hler
        have hz := hbe.size
        go_wp2_with (at_builtin; refine wpList_append_own _ rfl _ _ 38 rfl w.heap.size 5 i5 (.int .u8 0) 1 1 Try.underlying38 hi5 hz5a hz5b hz5c rfl (by decide) _ _ _ rfl (hrb.alloc _) ⟨wr.heap.size, 0, none⟩ 1 1 [.int .u8 (s[k].toNat : Nat)] rfl rfl (one_cell wr _ 5) ?c2 ?c3 ?c4 ?c5 ?_)
        case c2 => intro u hu; simp at hu; subst hu; rfl
        case c3 => unfold maxLen; omega
        case c4 => omega
        case c5 => simp; omega
        intro v' W5 hown' hgrow _
        have hro' : W5.ownsRow w.heap.size 9 1 u3 L.length (strRow L) := (hro.alloc _).kept hgrow (rows_apart hro hrb (by decide))
        have hbe' : Below w.heap.size w W5 := (hbe.alloc hz _).grown hgrow (by simp; omega) (fun r e => (row_turn hrb r e).1)
        go_wp2
        go_roundw
        case rel =>
          refine ⟨k + 1, st, L, by go_num, by omega, by omega, ?_, ?_, hL, hro', ?_, hbe'⟩
          · have : decide (st < k + 1) = true := by simp; omega
            rw [this]
          · rw [Hid, ← unhide HP]; exact hpre
          · rw [unhide HC, show k + 1 - st = k - st + 1 by omega]
            simpa [Lib.byteCells] using hown'
        case measure => simp [intOf]; omega
    · have hend := Tx.physFrom_end s.data.toList (st := st) (i := k) (by have := unhide HLEN; omega)
      rw [unhide HLEN] at hend
      have HE := hide hend
      clear hend
      have hks : k = s.size := by omega
      have hfin : Hid (Tx.physFrom s.data.toList 0 0 = (Tx.phys s.data.toList).map Prod.fst) := Tx.physFrom_zero _
      by_cases hop : st < k
      · have hd : decide (st < k) = true := by simpa using hop
        have hcur : (s.data.toList.drop st).take (k - st) = s.data.toList.drop st := List.take_of_length_le (by have := unhide HLEN; simp; omega)
        have hall : Hid (L ++ [s.data.toList.drop st] = (Tx.phys s.data.toList).map Prod.fst) := by
          have h1 := unhide HE
          rw [if_pos (by omega)] at h1
          rw [Hid, ← h1, unhide hpre]; exact unhide hfin
        rw [hcur] at hrb
        have hlen' : (s.data.toList.drop st).length = k - st := by have := unhide HLEN; simp; omega
        have hrun : (convert 38 9 u4).run Try.prog wr = .ok (.string ⟨(s.data.toList.drop st).toArray⟩) wr := run_string_row (by rw [hlen']; exact hrb)
        have hz := hbe.size
        clear hcur hks
        go_wp2_with (at_builtin; refine wpList_append_own _ rfl _ _ 51 rfl w.heap.size 9 i9 (.string ⟨#[]⟩) 1 16 Try.underlying51 hi9 hz9a hz9b hz9c rfl (by decide) _ _ _ rfl (hro.alloc _) ⟨wr.heap.size, 0, none⟩ 1 1 [.string ⟨(s.data.toList.drop st).toArray⟩] rfl rfl (one_cell wr _ 9) ?c2 ?c3 ?c4 ?c5 ?_)
        case c2 => intro u hu; simp at hu; subst hu; rfl
        case c3 => unfold maxLen; omega
        case c4 => omega
        case c5 => simp; omega
        intro v' W5 hown' hgrow _
        have hbe' : Below w.heap.size w W5 := (hbe.alloc hz _).grown hgrow (by simp; omega) (fun r e => (row_turn hro r e).1)
        go_wp2
        go_ret
        refine ⟨_, rfl, ?_, hbe'⟩
        have hl := congrArg List.length (unhide hall)
        simp only [List.length_append, List.length_cons, List.length_nil, List.length_map] at hl
        rw [← unhide hall, strRow_snoc, ← hl]
        exact hown'
      · have hd : decide (st < k) = false := by simpa using hop
        have hall : Hid (L = (Tx.phys s.data.toList).map Prod.fst) := by
          have h1 := unhide HE
          rw [if_neg (by omega)] at h1
          have h2 := unhide hpre
          rw [h1, List.append_nil] at h2
          rw [Hid, h2]; exact unhide hfin
        go_wp2
        go_ret
        refine ⟨_, rfl, ?_, hbe⟩
        have hl := congrArg List.length (unhide hall)
        rw [List.length_map] at hl
        rw [← unhide hall, ← hl]
        exact hro
end Go.Proofs.Ytncccheaeghbiaa
