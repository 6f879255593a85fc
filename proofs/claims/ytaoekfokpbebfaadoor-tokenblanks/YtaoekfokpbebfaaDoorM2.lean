/-
  burinlaw02.TokenBlanks answers true for every string and number: the walk.
-/
import Derived.Test.YtaoekfokpbebfaaDoorM1
import Derived.Test.YtaoekfokpbebfaaDoorL9
namespace Go.Proofs.YtaoekfokpbebfaaDoor
open Go Go.RowKit
set_option linter.unusedVariables false
set_option linter.unusedSimpArgs false

theorem idx41 (A : Array Value) (k : Nat) (v : Value) (hk : k < 4) (h : A[k]? = some v) (w : World) :
    (Instr.index 41 (.agg A) (.int .i64 (k : Int))).run Tryd.prog w = .ok v w := by
  have hn : (0 : Int) ≤ (k : Int) ∧ (k : Int) < 4 := by omega
  simp [Instr.index, run_underlying Tryd.underlying41, asIntOf, hn, go_sem]
  simp [hk, h, go_sem]
/-- Which blank. -/
theorem bk_idx (kind : Int) : ∃ b : ByteArray, b.data.toList ∈ Tk.bks ∧ b.size ≤ 10 ∧ ∀ W, (Instr.index 41 (.agg #[.string ⟨#[32]⟩, .string ⟨#[9]⟩, .string ⟨#[47, 42, 42, 47]⟩, .string ⟨#[11, 12, 32, 47, 42, 32, 39, 32, 42, 47]⟩]) (.int .i64 ((wrap64 (kind.tmod 4 + 4)).tmod 4))).run Tryd.prog W = .ok (.string b) W := by
  have h1 := Int.tmod_lt_of_pos kind (b := 4) (by decide)
  have h2 := Int.lt_tmod_of_pos kind (b := 4) (by decide)
  have hw : wrap64 (kind.tmod 4 + 4) = kind.tmod 4 + 4 := by unfold wrap64; omega
  rw [hw]
  have hy0 : 1 ≤ kind.tmod 4 + 4 ∧ kind.tmod 4 + 4 ≤ 7 := by omega
  clear hw h1 h2
  generalize kind.tmod 4 + 4 = y at *
  have hk : ∃ k : Nat, k < 4 ∧ y.tmod 4 = (k : Int) := by
    obtain rfl | rfl | rfl | rfl | rfl | rfl | rfl : y = 1 ∨ y = 2 ∨ y = 3 ∨ y = 4 ∨ y = 5 ∨ y = 6 ∨ y = 7 := by omega
    · exact ⟨1, by decide, rfl⟩
    · exact ⟨2, by decide, rfl⟩
    · exact ⟨3, by decide, rfl⟩
    · exact ⟨0, by decide, rfl⟩
    · exact ⟨1, by decide, rfl⟩
    · exact ⟨2, by decide, rfl⟩
    · exact ⟨3, by decide, rfl⟩
  obtain ⟨k, hk4, hk⟩ := hk
  rw [hk]
  obtain rfl | rfl | rfl | rfl : k = 0 ∨ k = 1 ∨ k = 2 ∨ k = 3 := by omega
  · exact ⟨⟨#[32]⟩, by decide, by decide, fun W => idx41 _ 0 _ (by decide) rfl W⟩
  · exact ⟨⟨#[9]⟩, by decide, by decide, fun W => idx41 _ 1 _ (by decide) rfl W⟩
  · exact ⟨⟨#[47, 42, 42, 47]⟩, by decide, by decide, fun W => idx41 _ 2 _ (by decide) rfl W⟩
  · exact ⟨⟨#[11, 12, 32, 47, 42, 32, 39, 32, 42, 47]⟩, by decide, by decide, fun W => idx41 _ 3 _ (by decide) rfl W⟩
theorem tQ_len (sep : List UInt8) (M : Nat) : ∀ (l : List Tk.T) (f : Bool), (∀ t ∈ l, t.s.length ≤ M) → (Tk.tQ sep f l).length ≤ l.length * (sep.length + M)
  | [], f, h => by simp [Tk.tQ]
  | t :: r, f, h => by
    have h1 := tQ_len sep M r false (fun x hx => h x (by simp [hx]))
    have h2 := h t (by simp)
    rw [Tk.tQ, List.length_append, List.length_append, List.length_cons, Nat.add_mul, Nat.one_mul]
    have h3 : (if (t.sp && !f) = true then sep else []).length ≤ sep.length := by split <;> simp
    omega
theorem ba_app (a b : List UInt8) : (⟨a.toArray⟩ : ByteArray) ++ (⟨b.toArray⟩ : ByteArray) = ⟨(a ++ b).toArray⟩ := by
  apply WideShapes.bytes_inj
  simp

theorem alk_nt {L : List Tk.T} (h : L = [] ∨ ∃ t r, L = t :: r ∧ t.fi = true ∧ ∀ x ∈ r, x.fi = false) : Alk (L.map Tk.T.g) (((Tk.nt 1 true true L).map Prod.fst).map Tk.T.g) := by
  rcases h with rfl | ⟨t, r, rfl, h1, h2⟩
  · exact ⟨rfl, fun i h => by simp at h⟩
  · refine ⟨by simp [Tk.nt], fun i hi hj => ?_⟩
    cases i with
    | zero => simp [Tk.nt, Tk.T.g, h1]
    | succ i =>
      have hir : i < r.length := by simpa using hi
      have hf := h2 r[i] (List.getElem_mem hir)
      simp [Tk.nt, Tk.T.g, hf]
set_option maxRecDepth 100000 in
set_option maxHeartbeats 8000000 in
theorem blanks_walk (s : ByteArray) (kind : Int) (w : World) (hs : s.size ≤ 140737488355328) (hw0 : 0 < w.heap.size) (hsg : Sg w) :
    Calls Tryd.prog 8 #[.string s, .int .i64 kind] w fun e w' => e = .returned (.bool true) ∧ Below w.heap.size w w' := by
  have HSG := hide hsg
  have HSH := hide (shown_any w hw0 hsg)
  clear hsg
  go_enter Tryd.func8, Tryd.ntmps8
  go_wp2_with fail
  refine (unhide HSH).mono ?_
  rintro e W1 ⟨rfl, hb1⟩
  have hz1 := hb1.size
  by_cases hl : s.size ≤ 1000
  · have i1 : ¬ (1000 : Int) < (s.size : Int) := by omega
    have HLX := hide (Lex_one s W1 hs (by omega) (Sg.below (unhide HSG) hb1 hw0))
    go_wp2_with fail
    refine (unhide HLX).mono ?_
    rintro e W2 ⟨v2, rfl, hT2, hb2⟩
    clear HLX
    have hbb2 : Below w.heap.size w W2 := (hb1.trans ((Below.refl _ _).alloc (by omega) _)).trans (hb2.mono (by omega))
    have HT2 := hide hT2
    obtain ⟨p, cap, rfl, _⟩ := hT2
    by_cases hok : (lex1 s).2.1 = 0
    · have j1 : (((lex1 s).2.1 : Int) != 0) = false := by rw [bne_eq_false_iff_eq]; exact hok
      obtain ⟨b, hbm, hb10, hidx⟩ := bk_idx kind
      have hbl := Tk.lex_blanks (n := 1) (s := s.data.toList) hbm hok
      have hll := Tk.lex_len [(1, s.data.toList)]
      have hsh : Hid (∀ t ∈ (lex1 s).1, t.s.length ≤ 1001) := fun t ht => by
        have := Tk.lex_short ht
        simp [Tk.wt] at this
        have e : s.data.size = s.size := rfl
        omega
      have HLN : Hid (∀ k, (Tk.tQ (32 :: b.data.toList) true ((lex1 s).1.take k)).length ≤ 20000 * 2000) := by
        intro k
        have h1 := tQ_len (32 :: b.data.toList) 1001 ((lex1 s).1.take k) true (fun t ht => unhide hsh t (List.mem_of_mem_take ht))
        have h2 : ((lex1 s).1.take k).length ≤ 20000 := by rw [List.length_take]; exact Nat.le_trans (Nat.min_le_right _ _) hll
        have h3 : (32 :: b.data.toList).length + 1001 ≤ 2000 := by
          have e : b.data.toList.length = b.size := by simp
          rw [List.length_cons, e]; omega
        exact Nat.le_trans h1 (Nat.mul_le_mul h2 h3)
      have HBL := hide hbl
      have hlenL : (lex1 s).1.length ≤ 20000 := hll
      change Hid (Tk.lex [(1, b.data.toList ++ (Tk.tQ (32 :: b.data.toList) true (lex1 s).1 ++ Tk.tail6))] = ((Tk.nt 1 true true (lex1 s).1).map Prod.fst, 0, 0)) at HBL
      have HAK : Hid (Alk ((lex1 s).1.map Tk.T.g) (((Tk.nt 1 true true (lex1 s).1).map Prod.fst).map Tk.T.g)) := alk_nt (Tk.lex_first hok)
      clear hbl hll hbm
      generalize hRR : lex1 s = R at *
      obtain ⟨L, er, nn⟩ := R
      simp only at hok hlenL HBL HLN HT2 hsh j1 HAK ⊢
      subst hok
      have hbd : (⟨b.data.toList.toArray⟩ : ByteArray) = b := by apply WideShapes.bytes_inj; simp
      have hbz : b.data.toList.length ≤ 10 := by simpa using hb10
      generalize b.data.toList = bl at *
      subst hbd
      go_wp2
      go_loopg [10, 11] L.length (fun gk t i wr => ∃ k : Nat, gk = L.length - k ∧ i = .int .i64 k ∧ k ≤ L.length ∧ t = .string ⟨(bl ++ Tk.tQ (32 :: bl) true (L.take k)).toArray⟩ ∧ wr = W2)
      case atStart => exact ⟨0, rfl, rfl, by omega, by simp [Tk.tQ], rfl⟩
      case round =>
        obtain ⟨k, rfl, rfl, hk, rfl, hww⟩ := hrel
        obtain rfl := hww.symm
        by_cases hlt : k < L.length
        · have i2 : (k : Int) < (L.length : Int) := by omega
          obtain ⟨p', cap', hp', hcs⟩ := unhide HT2
          obtain ⟨g, rfl, _, _, a0, a1, a2, a3, a4, a5⟩ := hcs k hlt
          obtain ⟨rfl, rfl⟩ : p = some ⟨g, 0, none⟩ ∧ cap = cap' := by simpa using hp'
          have hts := unhide hsh L[k] (List.getElem_mem hlt)
          have hln := unhide HLN k
          have hsn := Tk.tQ_snoc (32 :: bl) (L.take k) true L[k]
          rw [← List.take_succ_eq_append_getElem hlt] at hsn
          have hemp : (L.take k).isEmpty = decide (k = 0) := by
            cases k with
            | zero => simp
            | succ k =>
              have : L ≠ [] := fun e => by subst e; simp at hlt
              simp [this]
          rw [hemp] at hsn
          generalize L[k] = t at *
          have hTz : (⟨(bl ++ Tk.tQ (32 :: bl) true (L.take k)).toArray⟩ : ByteArray).size = bl.length + (Tk.tQ (32 :: bl) true (L.take k)).length := by show (bl ++ Tk.tQ (32 :: bl) true (L.take k)).toArray.size = _; simp
          have hbz' : (⟨bl.toArray⟩ : ByteArray).size = bl.length := by show bl.toArray.size = _; simp
          have hsz' : (⟨t.s.toArray⟩ : ByteArray).size = t.s.length := by show t.s.toArray.size = _; simp
          have HSN := hide hsn
          clear hsn hemp hcs hp' a0 a2 a3 a5
          have b32 : (⟨#[32]⟩ : ByteArray) = ⟨([32] : List UInt8).toArray⟩ := rfl
          cases hsp : t.sp
          · rw [hsp] at a4 HSN
            have HE : Hid ((⟨(bl ++ Tk.tQ (32 :: bl) true (L.take k)).toArray⟩ : ByteArray) ++ (⟨t.s.toArray⟩ : ByteArray) = ⟨(bl ++ Tk.tQ (32 :: bl) true (L.take (k + 1))).toArray⟩) := by
              rw [Hid, ba_app, unhide HSN]; simp
            have q1 : ¬ 9223372036854775807 < (⟨(bl ++ Tk.tQ (32 :: bl) true (L.take k)).toArray⟩ : ByteArray).size + (⟨t.s.toArray⟩ : ByteArray).size := by omega
            clear hsp HSN
            generalize (⟨(bl ++ Tk.tQ (32 :: bl) true (L.take k)).toArray⟩ : ByteArray) = T at *
            go_wp2
            go_roundg (L.length - (k + 1))
            case measure => omega
            case rel => exact ⟨k + 1, rfl, by go_num, by omega, by rw [unhide HE], by first | rfl | trivial⟩
          · rw [hsp] at a4 HSN
            by_cases hk0 : k = 0
            · have HE : Hid ((⟨(bl ++ Tk.tQ (32 :: bl) true (L.take k)).toArray⟩ : ByteArray) ++ (⟨t.s.toArray⟩ : ByteArray) = ⟨(bl ++ Tk.tQ (32 :: bl) true (L.take (k + 1))).toArray⟩) := by
                rw [Hid, ba_app, unhide HSN]; simp [hk0]
              have k1 : ¬ (0 : Int) < (k : Int) := by omega
              have q1 : ¬ 9223372036854775807 < (⟨(bl ++ Tk.tQ (32 :: bl) true (L.take k)).toArray⟩ : ByteArray).size + (⟨t.s.toArray⟩ : ByteArray).size := by omega
              clear hsp HSN
              have HK0 := hide hk0
              clear hk0
              generalize (⟨(bl ++ Tk.tQ (32 :: bl) true (L.take k)).toArray⟩ : ByteArray) = T at *
              go_wp2
              go_roundg (L.length - (k + 1))
              case measure => omega
              case rel => exact ⟨k + 1, rfl, by go_num, by omega, by rw [unhide HE], by first | rfl | trivial⟩
            · have HE : Hid ((((⟨(bl ++ Tk.tQ (32 :: bl) true (L.take k)).toArray⟩ : ByteArray) ++ (⟨#[32]⟩ : ByteArray)) ++ (⟨bl.toArray⟩ : ByteArray)) ++ (⟨t.s.toArray⟩ : ByteArray) = ⟨(bl ++ Tk.tQ (32 :: bl) true (L.take (k + 1))).toArray⟩) := by
                rw [Hid, b32, ba_app, ba_app, ba_app, unhide HSN]; simp [hk0]
              have k1 : (0 : Int) < (k : Int) := by omega
              have s1 : (⟨#[32]⟩ : ByteArray).size = 1 := rfl
              have hz2 : ((⟨(bl ++ Tk.tQ (32 :: bl) true (L.take k)).toArray⟩ : ByteArray) ++ (⟨#[32]⟩ : ByteArray)).size = (⟨(bl ++ Tk.tQ (32 :: bl) true (L.take k)).toArray⟩ : ByteArray).size + 1 := by rw [ByteArray.size_append]; rfl
              have hz3 : (((⟨(bl ++ Tk.tQ (32 :: bl) true (L.take k)).toArray⟩ : ByteArray) ++ (⟨#[32]⟩ : ByteArray)) ++ (⟨bl.toArray⟩ : ByteArray)).size = (⟨(bl ++ Tk.tQ (32 :: bl) true (L.take k)).toArray⟩ : ByteArray).size + 1 + bl.length := by rw [ByteArray.size_append, hz2, hbz']
              have q1 : ¬ 9223372036854775807 < (⟨(bl ++ Tk.tQ (32 :: bl) true (L.take k)).toArray⟩ : ByteArray).size + 1 := by omega
              have q2 : ¬ 9223372036854775807 < (⟨(bl ++ Tk.tQ (32 :: bl) true (L.take k)).toArray⟩ : ByteArray).size + 1 + (⟨bl.toArray⟩ : ByteArray).size := by omega
              have q3 : ¬ 9223372036854775807 < (⟨(bl ++ Tk.tQ (32 :: bl) true (L.take k)).toArray⟩ : ByteArray).size + 1 + (⟨bl.toArray⟩ : ByteArray).size + (⟨t.s.toArray⟩ : ByteArray).size := by omega
              clear hsp HSN b32
              generalize (⟨(bl ++ Tk.tQ (32 :: bl) true (L.take k)).toArray⟩ : ByteArray) = T at *
              go_wp2
              go_roundg (L.length - (k + 1))
              case measure => omega
              case rel => exact ⟨k + 1, rfl, by go_num, by omega, by rw [unhide HE], by first | rfl | trivial⟩
        · have hkl : k = L.length := by omega
          have i2 : ¬ (k : Int) < (L.length : Int) := by omega
          have hln := unhide HLN k
          have hTz : (⟨(bl ++ Tk.tQ (32 :: bl) true (L.take k)).toArray⟩ : ByteArray).size = bl.length + (Tk.tQ (32 :: bl) true (L.take k)).length := by show (bl ++ Tk.tQ (32 :: bl) true (L.take k)).toArray.size = _; simp
          have HE : (⟨(bl ++ Tk.tQ (32 :: bl) true (L.take k)).toArray⟩ : ByteArray) ++ (⟨#[32, 47, 47, 32, 39, 32]⟩ : ByteArray) = ⟨(bl ++ (Tk.tQ (32 :: bl) true L ++ Tk.tail6)).toArray⟩ := by
            have e : (⟨#[32, 47, 47, 32, 39, 32]⟩ : ByteArray) = ⟨Tk.tail6.toArray⟩ := rfl
            rw [e, ba_app, hkl, List.take_length, List.append_assoc]
          have hlx := Lex_one (⟨(bl ++ (Tk.tQ (32 :: bl) true L ++ Tk.tail6)).toArray⟩ : ByteArray) W2 (by
            rw [← HE, ByteArray.size_append, hTz]
            have e6 : (⟨#[32, 47, 47, 32, 39, 32]⟩ : ByteArray).size = 6 := rfl
            rw [e6]; omega) (by have := hbb2.size; omega) (Sg.below (unhide HSG) hbb2 hw0)
          have hl1 : lex1 (⟨(bl ++ (Tk.tQ (32 :: bl) true L ++ Tk.tail6)).toArray⟩ : ByteArray) = ((Tk.nt 1 true true L).map Prod.fst, 0, 0) := by
            unfold lex1
            rw [List.toList_toArray]
            exact unhide HBL
          rw [hl1, ← HE] at hlx
          have q1 : ¬ 9223372036854775807 < (⟨(bl ++ Tk.tQ (32 :: bl) true (L.take k)).toArray⟩ : ByteArray).size + 6 := by omega
          have q2 : ¬ 9223372036854775801 < (⟨(bl ++ Tk.tQ (32 :: bl) true (L.take k)).toArray⟩ : ByteArray).size := by omega
          have q3 : ¬ 9223372036854775807 < (⟨(bl ++ Tk.tQ (32 :: bl) true (L.take k)).toArray⟩ : ByteArray).size + (⟨#[32, 47, 47, 32, 39, 32]⟩ : ByteArray).size := q1
          have HLX := hide hlx
          clear hlx hl1 HE
          generalize (⟨(bl ++ Tk.tQ (32 :: bl) true (L.take k)).toArray⟩ : ByteArray) = T at *
          go_wp2_with fail
          refine (unhide HLX).mono ?_
          rintro e W3 ⟨v3, rfl, hT3, hb3⟩
          have hT3G := hT3.toG
          obtain ⟨p3, cap3, hv3, _⟩ := hT3
          have hnl : ((Tk.nt 1 true true L).map Prod.fst).length = L.length := by cases L <;> simp [Tk.nt]
          rw [hnl] at hv3
          subst hv3
          clear hnl
          have hbA : Below W2.heap.size W2 W3 := ((Below.refl _ W2).alloc (Nat.le_refl _) _).trans (hb3.mono (by omega))
          have hz3 := hbA.size
          have hT2G := ((unhide HT2).toG.below hbA).mono hz3
          have hak := alike_any _ _ _ _ W3 (by rw [List.length_map]; omega) (unhide HAK) hT2G hT3G
          have HAL := hide hak
          have hbb3 : Below w.heap.size w W3 := hbb2.trans (hbA.mono hbb2.size)
          clear hak hT2G hT3G HLX
          go_wp2_with fail
          refine (unhide HAL).mono ?_
          rintro e W4 ⟨rfl, hb4⟩
          go_wp2
          go_ret
          exact ⟨rfl, hbb3.trans (hb4.mono hbb3.size)⟩
    · have j1 : (((lex1 s).2.1 : Int) != 0) = true := by rw [bne_iff_ne]; exact hok
      go_wp2
      go_ret
      exact ⟨rfl, hbb2⟩
  · have i1 : (1000 : Int) < (s.size : Int) := by omega
    go_wp2
    go_ret
    exact ⟨rfl, hb1⟩
end Go.Proofs.YtaoekfokpbebfaaDoor
