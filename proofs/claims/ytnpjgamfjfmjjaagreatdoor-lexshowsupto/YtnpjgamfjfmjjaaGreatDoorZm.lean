/-
  The document's own words for lex: octal, digits, lies.
  The document's own words for lex: IsKey, digits.
  The document's own words for lex: digits, show.
  The document's own words for lex: Right.
  The document's own words for lex: show.
  The document's own words for lex: Show.
-/
import Derived.Test.YtnpjgamfjfmjjaaGreatDoorXm
import Derived.Test.YtnpjgamfjfmjjaaGreatDoorRa
import Derived.Test.YtnpjgamfjfmjjaaGreatDoorXq
import Derived.Lib.AppendStr
import Derived.Laws.BytesArg
import Derived.Test.YtnpjgamfjfmjjaaGreatDoorRb
import Derived.Test.YtnpjgamfjfmjjaaGreatDoorYc
namespace Go.Proofs.YtnpjgamfjfmjjaaGreatDoor
open Go Go.RowKit
set_option linter.unusedVariables false
set_option linter.unusedSimpArgs false

/-- Does a number lie in a kind, in the document's words? -/
def liesM (v k : Int) : Bool := if k == 5 then decide (-128 ≤ v) && decide (v < 2147483648) else if k == 6 then decide (0 ≤ v) && decide (v < 4294967296) else if k == 7 then decide (0 ≤ v) else k == 8
set_option maxRecDepth 100000 in
set_option maxHeartbeats 4000000 in
theorem rlies_any (v k : Int) (w : World) : Calls Tryz.prog 26 #[.int .i64 v, .int .i64 k] w fun e w' => e = .returned (.bool (liesM v k)) ∧ w' = w := by
  unfold liesM
  cases h5 : k == 5 <;> cases h6 : k == 6 <;> cases h7 : k == 7
  all_goals cases e1 : decide (-128 ≤ v) <;> cases e2 : decide (v < 2147483648) <;> cases e3 : decide (0 ≤ v) <;> cases e4 : decide (v < 4294967296)
  all_goals (
    go_enter Tryz.func26, Tryz.ntmps26
    go_wp2
    go_ret
    first | exact ⟨rfl, rfl⟩ | exact ⟨by simp, rfl⟩)
/-- Both words of what lies in a kind are the same. -/
theorem lies_eq (v k : Int) (h : IntKind.i64.wrap v = v) : rIntM v k = liesM v k := by
  rw [IntKind.wrap_i64] at h
  unfold rIntM liesM grM
  rw [IntKind.wrap_u64]
  by_cases h5 : k = 5
  · subst h5; simp only [show ((5 : Int) == 5) = true from rfl, if_true, Bool.true_and]
    rw [Bool.eq_iff_iff]; simp; omega
  · by_cases h6 : k = 6
    · subst h6; simp only [show ((6 : Int) == 5) = false from rfl, show ((6 : Int) == 6) = true from rfl, if_true, Bool.true_and, Bool.false_and, Bool.false_or, Bool.false_eq_true, if_false]
      rw [Bool.eq_iff_iff]; simp; omega
    · by_cases h7 : k = 7
      · subst h7; simp only [show ((7 : Int) == 5) = false from rfl, show ((7 : Int) == 6) = false from rfl, show ((7 : Int) == 7) = true from rfl, if_true, Bool.true_and, Bool.false_and, Bool.false_or, Bool.false_eq_true, if_false]
        rw [Bool.eq_iff_iff]; simp; omega
      · have f5 : (k == 5) = false := by simpa using h5
        have f6 : (k == 6) = false := by simpa using h6
        have f7 : (k == 7) = false := by simpa using h7
        simp only [f5, f6, f7, Bool.false_and, Bool.false_or, Bool.false_eq_true, if_false]
        rw [Bool.eq_iff_iff]; simp; omega
set_option maxRecDepth 100000 in
set_option maxHeartbeats 4000000 in
theorem octal_any (c : UInt8) (w : World) : Calls Tryz.prog 45 #[.int .u8 (c.toNat : Int)] w fun e w' => e = .returned (.string ⟨(octE c).toArray⟩) ∧ Below w.heap.size w w' := by
  have hc := c.toNat_lt
  have h0 : 0 ≤ (c.toNat : Int) := by omega
  have h1 : (c.toNat : Int) < 256 := by omega
  have hcv : (convert 57 9 (.slice (some ⟨w.heap.size, 0, none⟩) 4 4)).run Tryz.prog (w.alloc (.cells #[.int .u8 92, .int .u8 (48 + (c.toNat : Int) / 64), .int .u8 (48 + (c.toNat : Int) / 8 % 8), .int .u8 (48 + (c.toNat : Int) % 8)] 5)) = .ok (.string ⟨(octE c).toArray⟩) (w.alloc (.cells #[.int .u8 92, .int .u8 (48 + (c.toNat : Int) / 64), .int .u8 (48 + (c.toNat : Int) / 8 % 8), .int .u8 (48 + (c.toNat : Int) % 8)] 5)) := by
    have h := run_convert_bytes_back (P := Tryz.prog) (w.alloc (.cells #[.int .u8 92, .int .u8 (48 + (c.toNat : Int) / 64), .int .u8 (48 + (c.toNat : Int) / 8 % 8), .int .u8 (48 + (c.toNat : Int) % 8)] 5)) 57 9 5 ⟨w.heap.size, 0, none⟩ 4 (octE c) Tryz.underlying57 Tryz.underlying5 Tryz.underlying9 (fun j hj => by
      have hcs := octE_cells c
      have hj2 : ((octE c).map (fun b => Value.int .u8 (b.toNat : Int)))[j]? = some (.int .u8 ((octE c)[j].toNat : Int)) := by rw [List.getElem?_map, List.getElem?_eq_getElem hj]; rfl
      rw [hcs] at hj2
      rw [Lib.add_plain, World.cell?_alloc_new, Nat.zero_add, ← hj2]
      simp)
    exact h
  have HB := hide (below_new w (.cells #[.int .u8 92, .int .u8 (48 + (c.toNat : Int) / 64), .int .u8 (48 + (c.toNat : Int) / 8 % 8), .int .u8 (48 + (c.toNat : Int) % 8)] 5))
  go_enter Tryz.func45, Tryz.ntmps45
  go_wp2
  go_ret
  exact ⟨rfl, unhide HB⟩
end Go.Proofs.YtnpjgamfjfmjjaaGreatDoor
namespace Go.Proofs.YtnpjgamfjfmjjaaGreatDoor
open Go Go.RowKit
set_option linter.unusedVariables false
set_option linter.unusedSimpArgs false

def KYB : ByteArray := ⟨#[99, 104, 97, 114, 32, 115, 104, 111, 114, 116, 32, 105, 110, 116, 32, 108, 111, 110, 103, 32, 115, 105, 103, 110, 101, 100, 32, 117, 110, 115, 105, 103, 110, 101, 100, 32, 118, 111, 105, 100, 32, 105, 102, 32, 101, 108, 115, 101, 32, 119, 104, 105, 108, 101, 32, 114, 101, 116, 117, 114, 110, 32, 98, 114, 101, 97, 107, 32, 99, 111, 110, 116, 105, 110, 117, 101, 32, 115, 116, 114, 117, 99, 116, 32, 117, 110, 105, 111, 110, 32, 101, 120, 116, 101, 114, 110, 32]⟩
def keyL7 : List (List UInt8) := [[99, 104, 97, 114], [115, 104, 111, 114, 116], [105, 110, 116], [108, 111, 110, 103], [115, 105, 103, 110, 101, 100], [117, 110, 115, 105, 103, 110, 101, 100], [118, 111, 105, 100], [105, 102], [101, 108, 115, 101], [119, 104, 105, 108, 101], [114, 101, 116, 117, 114, 110], [98, 114, 101, 97, 107], [99, 111, 110, 116, 105, 110, 117, 101], [115, 116, 114, 117, 99, 116], [117, 110, 105, 111, 110], [101, 120, 116, 101, 114, 110]]
theorem pw_keys (s : List UInt8) : pw s [] KYB.data.toList = keyM s := by
  rw [pw_pcs]
  have h1 : pcs [] KYB.data.toList = keyL7 := by decide +kernel
  rw [h1]
  unfold keyL7 keyM
  simp only [List.contains_cons, List.contains_nil, Bool.or_false, Bool.or_assoc]
set_option maxRecDepth 100000 in
set_option maxHeartbeats 800000 in
theorem rkey_x (S s : ByteArray) (w : World) (hS : S = ⟨#[99, 104, 97, 114, 32, 115, 104, 111, 114, 116, 32, 105, 110, 116, 32, 108, 111, 110, 103, 32, 115, 105, 103, 110, 101, 100, 32, 117, 110, 115, 105, 103, 110, 101, 100, 32, 118, 111, 105, 100, 32, 105, 102, 32, 101, 108, 115, 101, 32, 119, 104, 105, 108, 101, 32, 114, 101, 116, 117, 114, 110, 32, 98, 114, 101, 97, 107, 32, 99, 111, 110, 116, 105, 110, 117, 101, 32, 115, 116, 114, 117, 99, 116, 32, 117, 110, 105, 111, 110, 32, 101, 120, 116, 101, 114, 110, 32]⟩) (hz : S.size = 97) (R : Bool) (hR : pw s.data.toList [] S.data.toList = R) :
    Calls Tryz.prog 13 #[.string s] w fun e w' => e = .returned (.bool R) ∧ w' = w := by
  have HR := hide hR
  have HS := hide hS
  clear hR hS
  go_enter Tryz.func13, Tryz.ntmps13
  go_wp2
  go_loopw [3, 4] (fun fv i wr => ∃ k f : Nat, fv = .int .i64 f ∧ i = .int .i64 k ∧ k ≤ 97 ∧ f ≤ k ∧ Hid (pw s.data.toList ((S.data.toList.drop f).take (k - f)) (S.data.toList.drop k) = R) ∧ wr = w) (fun _ i wr => 97 - (intOf i).toNat)
  case atStart => exact ⟨0, 0, rfl, rfl, by omega, by omega, by rw [Hid]; simpa using unhide HR, rfl⟩
  case round =>
    obtain ⟨k, f, rfl, rfl, hk, hfk, hpw, rfl⟩ := hrel
    clear HR
    by_cases hlt : k < 97
    · have i1 : (k : Int) < 97 := by omega
      have hkS : k < S.size := by omega
      have hp := unhide hpw
      rw [drop_at S k hkS, pw] at hp
      by_cases hc : S[k] = 32
      · have hx : ((S[k].toNat : Int) == 32) = true := eq_x hc
        rw [if_pos hc] at hp
        have he : ((S.extract f k).toList == s.toList) = decide ((S.data.toList.drop f).take (k - f) = s.data.toList) := by
          rw [ByteArray.toList_eq, ByteArray.toList_eq, ext_data, Bool.eq_iff_iff]; simp
        have hsl : (Instr.slice 9 (.string S) (some (.int .i64 (f : Int))) (some (.int .i64 (k : Int))) none).run Tryz.prog wr = .ok (.string (S.extract f k)) wr := by
          have := run_slice_string (P := Tryz.prog) (w := wr) 9 S .i64 .i64 (f : Int) (k : Int) Tryz.underlying9 (by omega) (by omega) (by omega)
          simpa using this
        by_cases hq : (S.data.toList.drop f).take (k - f) = s.data.toList
        · rw [if_pos hq] at hp
          rw [decide_eq_true hq] at he
          have HP := hide hp
          have hSS := unhide HS
          clear hp hq hc hpw HS
          subst hSS
          go_wp2
          go_ret
          exact ⟨by rw [← unhide HP]; rfl, rfl⟩
        · rw [if_neg hq] at hp
          rw [decide_eq_false hq] at he
          have HP : Hid (pw s.data.toList ((S.data.toList.drop (k + 1)).take (k + 1 - (k + 1))) (S.data.toList.drop (k + 1)) = R) := by
            rw [Hid, Nat.sub_self, List.take_zero]; exact hp
          have hSS := unhide HS
          clear hp hq hc hpw HS
          subst hSS
          go_wp2
          go_roundw
          case rel => exact ⟨k + 1, k + 1, by go_num, by go_num, by omega, by omega, HP, trivial⟩
          case measure => simp [intOf]; omega
      · have hx : ((S[k].toNat : Int) == 32) = false := ne_x hc
        rw [if_neg hc, ← ext_snoc S f k hfk hkS] at hp
        have HP := hide hp
        have hSS := unhide HS
        clear hp hc hpw HS
        subst hSS
        go_wp2
        go_roundw
        case rel => exact ⟨k + 1, f, by go_num, by go_num, by omega, by omega, HP, trivial⟩
        case measure => simp [intOf]; omega
    · have hp := unhide hpw
      rw [drop_end S k (by omega), pw] at hp
      have HP := hide hp
      clear hp hpw HS
      have i1 : ¬ (k : Int) < 97 := by omega
      go_wp2
      go_ret
      exact ⟨by rw [← unhide HP]; rfl, rfl⟩
theorem rIsKey_any (s : List UInt8) (w : World) : Calls Tryz.prog 13 #[.string ⟨s.toArray⟩] w fun e w' => e = .returned (.bool (keyM s)) ∧ w' = w :=
  rkey_x KYB ⟨s.toArray⟩ w rfl rfl _ (by rw [show (⟨s.toArray⟩ : ByteArray).data.toList = s from by simp]; exact pw_keys s)
end Go.Proofs.YtnpjgamfjfmjjaaGreatDoor
namespace Go.Proofs.YtnpjgamfjfmjjaaGreatDoor
open Go Go.RowKit Go.Shelf
set_option linter.unusedVariables false
set_option linter.unusedSimpArgs false

theorem Tryz.info5 : (Tryz.prog.info? 5).map (fun i => (i.zero, i.size, i.bytes)) = some (some (.int .u8 0), 1, 1) := by kernel_rfl
/-- 'string(b)' of a row of bytes that the call owns. -/
theorem run_string_row {W : World} {base : Nat} {v : Value} {l : List UInt8} (h : W.ownsRow base 5 1 v l.length (Lib.byteCells l)) :
    (convert 57 9 v).run Tryz.prog W = .ok (.string ⟨l.toArray⟩) W := by
  have hc : ∀ {g : Nat}, v.ownBlock = some g → ∀ j u, (Lib.byteCells l)[j]? = some u → W.cell? ((⟨g, 0, none⟩ : Addr).add j) = some u := fun hg => h.cells hg
  rcases h.2 with ⟨rfl, h0⟩ | ⟨g, cap, cur, rfl, _⟩
  · have : l = [] := List.length_eq_zero_iff.1 h0
    subst this
    exact run_convert_bytes_nil W 57 5 Tryz.underlying57 Tryz.underlying5 0 0 9 Tryz.underlying9
  · exact run_convert_bytes_back W 57 9 5 ⟨g, 0, none⟩ cap l Tryz.underlying57 Tryz.underlying5 Tryz.underlying9 (fun j hj => hc (g := g) rfl j _ (by simp [Lib.byteCells, hj]))
theorem one_cell (W : World) (u1 : Value) (t : TypeId) : ∀ (j : Nat) (u : Value), [u1][j]? = some u → (W.alloc (.cells #[u1] t)).cell? ((⟨W.heap.size, 0, none⟩ : Addr).add j) = some u := by
  intro j u h
  match j, h with
  | 0, h => simp at h; subst h; simp [Addr.add]
theorem wpList_append_str {P : Program} (w : World) {ops : Array Oper} {rest : List Oper} {o : Oper} {a : Act} {Q : Exit → Act → World → Prop} (hgd : o.guard = none) (sl x : Operand) (t u : TypeId)
    (ho : o.op = .call { callee := .builtin .append, args := #[sl, x], argTypes := #[t, u] })
    (base : Nat) (e : TypeId) (i : TypeInfo) (ht : P.underlying t = some (.slice e)) (hu : P.underlying u = some .string) (hi : P.info? e = some i) (hz : i.zero = some (.int .u8 0)) (hsize : i.size = 1) (hby : i.bytes = 1)
    (v : Value) (n : Nat) (xs : List Value) (hs : a.eval sl = v) (hown : w.ownsRow base e 1 v n xs) (s : ByteArray) (hx : a.eval x = .string s) (hbytes : n + s.size ≤ 140737488355328) (hbase : base ≤ w.heap.size)
    (h : ∀ v' w', w'.ownsRow base e 1 v' (n + s.size) (xs ++ Lib.strCells s) → w.grownBy w' v.ownBlock → wpList P ops Q rest (a.put o.dst v') w') : wpList P ops Q (o :: rest) a w := by
  refine wpList_plain hgd fun K hK => ?_
  obtain ⟨v', w', hr, h2, h3, _⟩ := Lib.run_append_own_string (P := P) w base t u o.type e i ht hu hi hz hsize hby v n xs hown s (by unfold maxLen; omega) hbytes hbase
  unfold Oper.wp execOp
  simp only [ho, resolve, invoke, builtin, Sem.run_bind, Sem.run_pure, Result.andThen_ok, List.map_toArray, List.map_cons, List.map_nil, hs, hx, hr]
  exact hK _ _ (h v' w' h2 h3)
theorem one_conv (c : UInt8) (W : World) : (convert 57 9 (.slice (some ⟨W.heap.size, 0, none⟩) 1 1)).run Tryz.prog (W.alloc (.cells #[.int .u8 (c.toNat : Int)] 5)) = .ok (.string ⟨[c].toArray⟩) (W.alloc (.cells #[.int .u8 (c.toNat : Int)] 5)) :=
  run_convert_bytes_back (P := Tryz.prog) _ 57 9 5 ⟨W.heap.size, 0, none⟩ 1 [c] Tryz.underlying57 Tryz.underlying5 Tryz.underlying9 (fun j hj => one_cell W _ 5 j _ (by
    match j, hj with
    | 0, _ => rfl))
/-- What the digits' loop keeps. -/
def DgI (n a : Nat) (s : List UInt8) : Prop := (s = [] ∧ a = n) ∨ (s ≠ [] ∧ (if a = 0 then s else Lib.decDigits a ++ s) = Lib.decDigits n)
theorem DgI.step {n a : Nat} {s : List UInt8} (h : DgI n a s) (hz : s = [] ∨ a ≠ 0) : DgI n (a / 10) (UInt8.ofNat (48 + a % 10) :: s) := by
  have e : (if a / 10 = 0 then [UInt8.ofNat (48 + a % 10)] else Lib.decDigits (a / 10) ++ [UInt8.ofNat (48 + a % 10)]) = Lib.decDigits a := by
    rw [show Lib.decDigits a = if h : a < 10 then [UInt8.ofNat (48 + a)] else Lib.decDigits (a / 10) ++ [UInt8.ofNat (48 + a % 10)] by rw [Lib.decDigits]]
    by_cases h9 : a < 10
    · rw [if_pos (by omega), dif_pos h9, Nat.mod_eq_of_lt h9]
    · rw [if_neg (by omega), dif_neg h9]
  refine .inr ⟨by simp, ?_⟩
  rcases h with ⟨rfl, rfl⟩ | ⟨hs, h⟩
  · exact e
  · have ha : a ≠ 0 := by rcases hz with h | h; exact absurd h hs; exact h
    rw [if_neg ha, ← e] at h
    rw [← h]
    split <;> simp
theorem DgI.len {n a : Nat} {s : List UInt8} (h : DgI n a s) : s.length ≤ (Lib.decDigits n).length := by
  rcases h with ⟨rfl, rfl⟩ | ⟨hs, h⟩
  · simp
  · rw [← h]; split <;> simp
set_option maxRecDepth 100000 in
set_option maxHeartbeats 4000000 in
theorem digits_any (n : Nat) (hn : n < 18446744073709551616) (w : World) : Calls Tryz.prog 46 #[.int .u64 (n : Int)] w fun e w' => e = .returned (.string ⟨(Lib.decDigits n).toArray⟩) ∧ Below w.heap.size w w' := by
  have HDL := hide (dec_len n hn)
  go_enter Tryz.func46, Tryz.ntmps46
  go_wp2
  go_loopg [0, 3] (2 * n + 1) (fun gk va vs wr => ∃ (a : Nat) (s : List UInt8), gk = 2 * a + (if s = [] then 1 else 0) ∧ va = .int .u64 (a : Int) ∧ vs = .string ⟨s.toArray⟩ ∧ a < 18446744073709551616 ∧ Hid (DgI n a s) ∧ Hid (Below w.heap.size w wr))
  case atStart => exact ⟨n, [], rfl, rfl, rfl, hn, .inl ⟨rfl, rfl⟩, Below.refl _ _⟩
  case round =>
    obtain ⟨a, s, rfl, rfl, rfl, ha, hD, hbe⟩ := hrel
    have hzr := (unhide hbe).size
    have hsl := Nat.le_trans (unhide hD).len (unhide HDL)
    by_cases hend : s ≠ [] ∧ a = 0
    · obtain ⟨hs, rfl⟩ := hend
      have hs' : (s == []) = false := by simpa using hs
      have HF : Hid (s = Lib.decDigits n) := by
        rcases unhide hD with ⟨h, _⟩ | ⟨_, h⟩
        · exact absurd h hs
        · rw [Hid]; simpa using h
      clear hD hsl HDL hn
      go_wp2
      go_ret
      exact ⟨by rw [← unhide HF]; rfl, unhide hbe⟩
    · have hz : s = [] ∨ a ≠ 0 := by
        by_cases h1 : s = []
        · exact .inl h1
        · exact .inr (fun h2 => hend ⟨h1, h2⟩)
      have HN := hide ((unhide hD).step hz)
      have hc : ((UInt8.ofNat (48 + a % 10)).toNat : Int) = 48 + (a : Int) % 10 := by
        rw [UInt8.toNat_ofNat_of_lt' (by show 48 + a % 10 < 256; omega)]; omega
      have hcv := one_conv (UInt8.ofNat (48 + a % 10)) wr
      rw [hc] at hcv
      have hB1 := below_new wr (.cells #[.int .u8 (48 + (a : Int) % 10)] 5)
      have HB1 := hide ((unhide hbe).trans (hB1.mono hzr))
      clear hB1 hD hend hc
      generalize UInt8.ofNat (48 + a % 10) = c at *
      have s1 : ∀ W, (Op.stringOp .add ⟨[c].toArray⟩ ⟨s.toArray⟩).run Tryz.prog W = .ok (.string ⟨(c :: s).toArray⟩) W := fun W => by
        rw [run_string_add_sum W _ _ (by rw [len_toArray, len_toArray]; simp; omega), bytes_app]; rfl
      have h0 : 0 ≤ (a : Int) := by omega
      have h1 : (a : Int) < 18446744073709551616 := by omega
      have h2 : 0 ≤ (a : Int) / 10 := by omega
      have h3 : (a : Int) / 10 < 18446744073709551616 := by omega
      rcases hz with rfl | hz
      · go_wp2
        go_roundg (2 * (a / 10))
        case measure => first | omega | (simp; omega)
        case rel => exact ⟨a / 10, [c], by simp, by go_num, rfl, by omega, HN, HB1⟩
      · by_cases hs : s = []
        · subst hs
          go_wp2
          go_roundg (2 * (a / 10))
          case measure => first | omega | (simp; omega)
          case rel => exact ⟨a / 10, [c], by simp, by go_num, rfl, by omega, HN, HB1⟩
        · have hs' : (s == []) = false := by simpa using hs
          have i1 : (0 : Int) < (a : Int) := by omega
          have HS := hide hs
          clear hz hs
          have hb0 : ¬ (⟨s.toArray⟩ : ByteArray).toList = [] := by rw [ByteArray.toList_eq]; simpa using hs'
          have hb1 : (⟨s.toArray⟩ : ByteArray).toList.isEmpty = false := by rw [ByteArray.toList_eq]; simpa using hs'
          clear hs'
          obtain ⟨SB, hSB⟩ : ∃ SB, (⟨s.toArray⟩ : ByteArray) = SB := ⟨_, rfl⟩
          obtain ⟨SC, hSC⟩ : ∃ SC, (⟨(c :: s).toArray⟩ : ByteArray) = SC := ⟨_, rfl⟩
          rw [hSB] at s1 hb0 hb1 ⊢
          simp only [hSC] at s1
          have HSC := hide hSC
          clear hSB hSC
          generalize hz : (a : Int) = z at *
          have HZ := hide hz
          have HH := hide (And.intro h0 (And.intro h1 (And.intro h2 h3)))
          have HA := hide ha
          clear hz h0 h1 h2 h3 ha hn
          go_upto_region 3 with fail
          obtain ⟨h0, h1, h2, h3⟩ := unhide HH
          go_wp2
          go_roundg (2 * (a / 10))
          case measure => have := unhide HZ; omega
          case rel => exact ⟨a / 10, c :: s, by simp, by rw [← unhide HZ]; go_num, by rw [unhide HSC], by have := unhide HA; omega, HN, HB1⟩
end Go.Proofs.YtnpjgamfjfmjjaaGreatDoor
namespace Go.Proofs.YtnpjgamfjfmjjaaGreatDoor
open Go Go.RowKit
set_option linter.unusedVariables false
set_option linter.unusedSimpArgs false

theorem oneV_all (s : List UInt8) : ∃ (t : Tk.T) (ok : Bool), oneV ⟨s.toArray⟩ = .tuple #[.agg #[.int .i64 (t.kind : Nat), .string ⟨t.s.toArray⟩, .string ⟨#[]⟩, .int .i64 t.line, .bool t.sp, .bool t.fi], .bool ok] ∧ ∀ k, speltM s k = (ok && ((t.kind : Int) == k)) := by
  have z : ∃ (t : Tk.T) (ok : Bool), Value.tuple #[.agg zeroT, .bool false] = .tuple #[.agg #[.int .i64 (t.kind : Nat), .string ⟨t.s.toArray⟩, .string ⟨#[]⟩, .int .i64 t.line, .bool t.sp, .bool t.fi], .bool ok] ∧ ∀ k : Int, false = (ok && ((t.kind : Int) == k)) := ⟨⟨0, [], 0, false, false⟩, false, rfl, fun _ => rfl⟩
  unfold oneV speltM lex1
  simp only [List.toList_toArray]
  generalize (Tk.lex [(1, s)]).1 = L
  match L with
  | [] => exact z
  | [t] =>
    by_cases h : t.s = s
    · simp only [h, if_true, decide_true, Bool.true_and]
      exact ⟨t, true, rfl, fun _ => by simp⟩
    · simp only [h, if_false, decide_false, Bool.false_and]
      exact z
  | _ :: _ :: _ => exact z
theorem spelt_sign (s : List UInt8) : speltM s 5 = Tk.pn s := by
  cases hp : Tk.pn s
  · unfold speltM
    split
    · rename_i t hl
      have := Tk.lex_alone (l := [(1, s)]) (t := t) (by rw [hl]; simp)
      by_cases h : t.s = s
      · rw [h, hp] at this
        have h5 : ¬ t.kind = 5 := by simpa using this.2.1
        have h5' : ((t.kind : Int) == 5) = false := by rw [beq_eq_false_iff_ne]; omega
        rw [h5', Bool.and_false]
      · simp [h]
    · rfl
  · have hm : s ∈ Tk.signs := by simpa [Tk.pn] using hp
    exact tok_spelt (sign_tok s hm) (by intro h; subst h; revert hp; decide)
theorem right_is (k v t line : Int) (s f : List UInt8) (tk : Tk.T) (ok : Bool) (hv : IntKind.i64.wrap v = v) (hsp : ∀ k, speltM s k = (ok && ((tk.kind : Int) == k))) :
    rightM ⟨k, s, v, t, f, line⟩ = (if k == 1 then (v == 0 && t == 0) && keyM s else if k == 2 then (((v == 0 && t == 0) && ok) && ((tk.kind : Int) == 1)) && !keyM s else if k == 3 then s == [] && liesM v t else if k == 4 then (v == 0 && t == 0) && decide (s.length ≤ 4096) else if k == 5 then ((((v == 0 && t == 0) && ok) && ((tk.kind : Int) == 5)) && s != [35]) && s != [35, 35] else false) := by
  have h5 := hsp 5
  rw [spelt_sign] at h5
  unfold rightM signM
  simp only [lies_eq v t hv, hsp 1, h5, bne]
  generalize keyM s = K
  generalize liesM v t = Li
  generalize ((tk.kind : Int) == 1) = e1
  generalize ((tk.kind : Int) == 5) = e5
  by_cases k3 : k = 3
  · subst k3; simp
  · by_cases k1 : k = 1
    · subst k1
      cases v == 0 <;> cases t == 0 <;> simp
    · by_cases k2 : k = 2
      · subst k2
        cases v == 0 <;> cases t == 0 <;> cases K <;> simp
      · by_cases k4 : k = 4
        · subst k4
          cases v == 0 <;> cases t == 0 <;> simp
        · by_cases k5 : k = 5
          · subst k5
            cases v == 0 <;> cases t == 0 <;> simp [Bool.and_assoc]
          · have f1 : (k == 1) = false := by simpa using k1
            have f2 : (k == 2) = false := by simpa using k2
            have f3 : (k == 3) = false := by simpa using k3
            have f4 : (k == 4) = false := by simpa using k4
            have f5 : (k == 5) = false := by simpa using k5
            simp [f1, f2, f3, f4, f5]
set_option maxRecDepth 100000 in
set_option maxHeartbeats 16000000 in
theorem rRight_any (x : Wd) (w : World) (hs : x.s.length ≤ 140737488355328) (hv : IntKind.i64.wrap x.v = x.v) :
    Calls Tryz.prog 15 #[wdV x] w fun e w' => e = .returned (.bool (rightM x)) ∧ Below w.heap.size w w' := by
  obtain ⟨k, s, v, t, f, line⟩ := x
  obtain ⟨tk, ok, hone, hsp⟩ := oneV_all s
  have HR := hide (right_is k v t line s f tk ok hv hsp)
  have hO := rOne_any ⟨s.toArray⟩ (w.alloc (.cells (wdC ⟨k, s, v, t, f, line⟩).toArray 34)) (by rw [len_toArray]; exact hs)
  rw [hone] at hO
  have HO : Hid (Calls Tryz.prog 25 #[.string ⟨s.toArray⟩] (w.alloc (.cells (wdC ⟨k, s, v, t, f, line⟩).toArray 34)) fun e w' => e = .returned (.tuple #[.agg #[.int .i64 (tk.kind : Nat), .string ⟨tk.s.toArray⟩, .string ⟨#[]⟩, .int .i64 tk.line, .bool tk.sp, .bool tk.fi], .bool ok]) ∧ Below w.heap.size w w' ∧ w.heap.size < w'.heap.size ∧ WBox w' w.heap.size ⟨k, s, v, t, f, line⟩) := by
    refine hO.mono ?_
    rintro e W1 ⟨rfl, hb1⟩
    have hb0 := below_new w (.cells (wdC ⟨k, s, v, t, f, line⟩).toArray 34)
    have hz : w.heap.size < (w.alloc (.cells (wdC ⟨k, s, v, t, f, line⟩).toArray 34)).heap.size := by simp
    exact ⟨rfl, hb0.trans (hb1.mono hb0.size), Nat.lt_of_lt_of_le hz hb1.size, (WBox.new w _).below hb1 hz⟩
  clear hO hone hsp hv
  have HK := hide (rIsKey_any s)
  have HLI := hide (rlies_any v t)
  have hl := len_toArray s
  simp only [wdV, wdC] at *
  generalize (tk.kind : Nat) = kd at *
  generalize keyM s = KE at *
  generalize liesM v t = LI at *
  cases v0 : v == 0 <;> cases t0 : t == 0
  all_goals rw [v0, t0] at HR
  all_goals (
    cases k1 : k == 1
    · cases k2 : k == 2
      · cases k3 : k == 3
        · cases k4 : k == 4
          · cases k5 : k == 5
            · rw [k1, k2, k3, k4, k5] at HR
              go_enter Tryz.func15, Tryz.ntmps15
              go_wp2_with (go_at_call 25; refine (unhide HO).mono ?_; rintro e W1 ⟨rfl, hb1, hlt1, hbx⟩; obtain ⟨c0, c1, c2, c3, _, _⟩ := hbx.six)
              go_ret
              exact ⟨by rw [unhide HR]; rfl, hb1.alloc (Nat.le_of_lt hlt1) _⟩
            · rw [k1, k2, k3, k4, k5] at HR
              go_enter Tryz.func15, Tryz.ntmps15
              go_wp2_with (first
                | (go_at_call 25; refine (unhide HO).mono ?_; rintro e W1 ⟨rfl, hb1, hlt1, hbx⟩; obtain ⟨c0, c1, c2, c3, _, _⟩ := hbx.six))
              all_goals go_ret
              all_goals (refine ⟨?_, hb1.alloc (Nat.le_of_lt hlt1) _⟩; rw [unhide HR]; first | rfl | (simp; done) | (simp [*]; done) | (simp_all; done) | (simp [bne]; done) | (simp_all [bne]; done))
          · rw [k1, k2, k3, k4] at HR
            go_enter Tryz.func15, Tryz.ntmps15
            go_wp2_with (first
              | (go_at_call 25; refine (unhide HO).mono ?_; rintro e W1 ⟨rfl, hb1, hlt1, hbx⟩; obtain ⟨c0, c1, c2, c3, _, _⟩ := hbx.six))
            all_goals go_ret
            all_goals (refine ⟨?_, hb1.alloc (Nat.le_of_lt hlt1) _⟩; rw [unhide HR]; first | rfl | (simp [hl]; done) | (simp [hl]; omega))
        · rw [k1, k2, k3] at HR
          go_enter Tryz.func15, Tryz.ntmps15
          go_wp2_with (first
            | (go_at_call 25; refine (unhide HO).mono ?_; rintro e W1 ⟨rfl, hb1, hlt1, hbx⟩; obtain ⟨c0, c1, c2, c3, _, _⟩ := hbx.six)
            | (go_at_call 26; refine (unhide HLI _).mono ?_; rintro e w' ⟨rfl, hw'⟩; obtain rfl := hw'.symm))
          all_goals go_ret
          all_goals (refine ⟨?_, hb1.alloc (Nat.le_of_lt hlt1) _⟩; rw [unhide HR]; first | rfl | (simp; done) | (simp [*]; done) | (simp_all; done) | (simp [bne]; done) | (simp_all [bne]; done))
      · rw [k1, k2] at HR
        go_enter Tryz.func15, Tryz.ntmps15
        go_wp2_with (first
          | (go_at_call 25; refine (unhide HO).mono ?_; rintro e W1 ⟨rfl, hb1, hlt1, hbx⟩; obtain ⟨c0, c1, c2, c3, _, _⟩ := hbx.six)
          | (go_at_call 13; refine (unhide HK _).mono ?_; rintro e w' ⟨rfl, hw'⟩; obtain rfl := hw'.symm))
        all_goals go_ret
        all_goals (refine ⟨?_, hb1.alloc (Nat.le_of_lt hlt1) _⟩; rw [unhide HR]; first | rfl | (simp; done) | (simp [*]; done) | (simp_all; done) | (simp [bne]; done) | (simp_all [bne]; done))
    · rw [k1] at HR
      go_enter Tryz.func15, Tryz.ntmps15
      go_wp2_with (first
        | (go_at_call 25; refine (unhide HO).mono ?_; rintro e W1 ⟨rfl, hb1, hlt1, hbx⟩; obtain ⟨c0, c1, c2, c3, _, _⟩ := hbx.six)
        | (go_at_call 13; refine (unhide HK _).mono ?_; rintro e w' ⟨rfl, hw'⟩; obtain rfl := hw'.symm))
      all_goals go_ret
      all_goals (refine ⟨?_, hb1.alloc (Nat.le_of_lt hlt1) _⟩; rw [unhide HR]; first | rfl | (simp; done) | (simp [*]; done) | (simp_all; done)))
end Go.Proofs.YtnpjgamfjfmjjaaGreatDoor
namespace Go.Proofs.YtnpjgamfjfmjjaaGreatDoor
open Go Go.RowKit Go.Shelf
set_option linter.unusedVariables false
set_option linter.unusedSimpArgs false

theorem row_one (W : World) (c : UInt8) : (W.alloc (.cells #[.int .u8 (c.toNat : Int)] 5)).ownsRow W.heap.size 5 1 (.slice (some ⟨W.heap.size, 0, none⟩) 1 1) 1 (Lib.byteCells [c]) :=
  ⟨rfl, .inr ⟨W.heap.size, 1, #[.int .u8 (c.toNat : Int)], rfl, Nat.le_refl _, World.alloc_heap_new W _, Nat.le_refl _, by unfold maxLen; omega, rfl, rfl⟩⟩
theorem row_below {W W' : World} {base n size : Nat} {e : TypeId} {v : Value} {xs : List Value} (h : W.ownsRow base e size v n xs) (hb : Below W.heap.size W W') : W'.ownsRow base e size v n xs := by
  refine ⟨h.1, ?_⟩
  rcases h.2 with h0 | ⟨g, cap, cur, hv, hbg, hg, hr⟩
  · exact .inl h0
  · exact .inr ⟨g, cap, cur, hv, hbg, (hb.block g (Array.getElem?_eq_some_iff.1 hg).1).trans hg, hr⟩
theorem add_lit (D S : List UInt8) (h : D.length + S.length ≤ 1000000) (W : World) : (Op.stringOp .add ⟨D.toArray⟩ ⟨S.toArray⟩).run Tryz.prog W = .ok (.string ⟨(D ++ S).toArray⟩) W := by
  rw [run_string_add_sum W _ _ (by rw [len_toArray, len_toArray]; omega), bytes_app]
set_option maxRecDepth 100000 in
set_option maxHeartbeats 8000000 in
theorem rshow_int (v t : Int) (s f : List UInt8) (line : Int) (w : World) :
    Calls Tryz.prog 31 #[wdV ⟨3, s, v, t, f, line⟩] w fun e w' => e = .returned (.string ⟨(spiM v t).toArray⟩) ∧ Below w.heap.size w w' := by
  have hb0 := below_new w (.cells (wdC ⟨3, s, v, t, f, line⟩).toArray 34)
  have hu8 := u8_wrap v
  have hu64 := u64_wrap v
  have hE := octal_any (UInt8.ofNat (IntKind.u8.wrap v).toNat) (w.alloc (.cells (wdC ⟨3, s, v, t, f, line⟩).toArray 34))
  rw [ofNat_back _ hu8.1 hu8.2] at hE
  have hF := digits_any (IntKind.u64.wrap v).toNat (by omega) (w.alloc (.cells (wdC ⟨3, s, v, t, f, line⟩).toArray 34))
  rw [show (((IntKind.u64.wrap v).toNat : Nat) : Int) = IntKind.u64.wrap v by omega] at hF
  have HE := hide (hE.mono (fun e w' h => show e = _ ∧ Below w.heap.size w w' from ⟨h.1, hb0.trans (h.2.mono hb0.size)⟩))
  have HF := hide (hF.mono (fun e w' h => show e = _ ∧ Below w.heap.size w w' from ⟨h.1, hb0.trans (h.2.mono hb0.size)⟩))
  have hdl := dec_len (IntKind.u64.wrap v).toNat (by omega)
  obtain ⟨RB, hRB⟩ : ∃ RB : ByteArray, RB = ⟨(spiM v t).toArray⟩ := ⟨_, rfl⟩
  rw [← hRB]
  unfold spiM at hRB
  have hO : (octE (UInt8.ofNat (IntKind.u8.wrap v).toNat)).length = 4 := rfl
  generalize octE (UInt8.ofNat (IntKind.u8.wrap v).toNat) = O at *
  generalize Lib.decDigits (IntKind.u64.wrap v).toNat = D at *
  have s2 : ∀ W, (Op.stringOp .add ⟨#[39]⟩ ⟨O.toArray⟩).run Tryz.prog W = .ok (.string ⟨(39 :: O).toArray⟩) W := fun W => add_lit [39] O (by simp; omega) W
  have s3 : ∀ W, (Op.stringOp .add ⟨(39 :: O).toArray⟩ ⟨#[39]⟩).run Tryz.prog W = .ok (.string ⟨(39 :: (O ++ [39])).toArray⟩) W := fun W => add_lit (39 :: O) [39] (by simp; omega) W
  have d0 : ∀ W, (Op.stringOp .add ⟨D.toArray⟩ ⟨#[]⟩).run Tryz.prog W = .ok (.string ⟨(D ++ []).toArray⟩) W := add_lit D [] (by simp; omega)
  have d6 : ∀ W, (Op.stringOp .add ⟨D.toArray⟩ ⟨#[117]⟩).run Tryz.prog W = .ok (.string ⟨(D ++ [117]).toArray⟩) W := add_lit D [117] (by simp; omega)
  have d7 : ∀ W, (Op.stringOp .add ⟨D.toArray⟩ ⟨#[108]⟩).run Tryz.prog W = .ok (.string ⟨(D ++ [108]).toArray⟩) W := add_lit D [108] (by simp; omega)
  have d8 : ∀ W, (Op.stringOp .add ⟨D.toArray⟩ ⟨#[117, 108]⟩).run Tryz.prog W = .ok (.string ⟨(D ++ [117, 108]).toArray⟩) W := add_lit D [117, 108] (by simp; omega)
  obtain ⟨D0, hD0⟩ : ∃ X, (⟨(D ++ []).toArray⟩ : ByteArray) = X := ⟨_, rfl⟩
  obtain ⟨D6, hD6⟩ : ∃ X, (⟨(D ++ [117]).toArray⟩ : ByteArray) = X := ⟨_, rfl⟩
  obtain ⟨D7, hD7⟩ : ∃ X, (⟨(D ++ [108]).toArray⟩ : ByteArray) = X := ⟨_, rfl⟩
  obtain ⟨D8, hD8⟩ : ∃ X, (⟨(D ++ [117, 108]).toArray⟩ : ByteArray) = X := ⟨_, rfl⟩
  obtain ⟨O1, hO1⟩ : ∃ X, (⟨(39 :: O).toArray⟩ : ByteArray) = X := ⟨_, rfl⟩
  obtain ⟨O2, hO2⟩ : ∃ X, (⟨(39 :: (O ++ [39])).toArray⟩ : ByteArray) = X := ⟨_, rfl⟩
  simp only [hO1, hO2] at s2 s3
  rw [hD0] at d0
  rw [hD6] at d6
  rw [hD7] at d7
  rw [hD8] at d8
  by_cases t5 : t = 5
  · subst t5
    cases hv : decide (v < 0)
    · obtain rfl : RB = D0 := by rw [hRB, hv, ← hD0]; rfl
      clear hRB hD0 hD6 hD7 hD8 hO1 hO2 d6 d7 d8 s2 s3
      clear hu8 hu64 hdl hO hb0 hE hF
      simp only [wdV, wdC] at *
      go_enter Tryz.func31, Tryz.ntmps31
      go_wp2_with (go_at_call 46; refine (unhide HF).mono ?_; rintro e W1 ⟨rfl, hb1⟩)
      go_ret
      exact ⟨rfl, hb1⟩
    · obtain rfl : RB = O2 := by rw [hRB, hv, ← hO2]; rfl
      clear hRB hD0 hD6 hD7 hD8 hO1 hO2 d0 d6 d7 d8
      clear hu8 hu64 hdl hO hb0 hE hF
      simp only [wdV, wdC] at *
      go_enter Tryz.func31, Tryz.ntmps31
      go_wp2_with (go_at_call 45; refine (unhide HE).mono ?_; rintro e W1 ⟨rfl, hb1⟩)
      go_ret
      exact ⟨rfl, hb1⟩
  · have f5 : (t == 5) = false := by simpa using t5
    by_cases t6 : t = 6
    · subst t6
      obtain rfl : RB = D6 := by rw [hRB, ← hD6]; rfl
      clear hRB hD0 hD6 hD7 hD8 hO1 hO2 d0 d7 d8 s2 s3
      clear hu8 hu64 hdl hO hb0 hE hF
      simp only [wdV, wdC] at *
      go_enter Tryz.func31, Tryz.ntmps31
      go_wp2_with (go_at_call 46; refine (unhide HF).mono ?_; rintro e W1 ⟨rfl, hb1⟩)
      go_ret
      exact ⟨rfl, hb1⟩
    · by_cases t7 : t = 7
      · subst t7
        obtain rfl : RB = D7 := by rw [hRB, ← hD7]; rfl
        clear hRB hD0 hD6 hD7 hD8 hO1 hO2 d0 d6 d8 s2 s3
        clear hu8 hu64 hdl hO hb0 hE hF
        simp only [wdV, wdC] at *
        go_enter Tryz.func31, Tryz.ntmps31
        go_wp2_with (go_at_call 46; refine (unhide HF).mono ?_; rintro e W1 ⟨rfl, hb1⟩)
        go_ret
        exact ⟨rfl, hb1⟩
      · by_cases t8 : t = 8
        · subst t8
          obtain rfl : RB = D8 := by rw [hRB, ← hD8]; rfl
          clear hRB hD0 hD6 hD7 hD8 hO1 hO2 d0 d6 d7 s2 s3
          clear hu8 hu64 hdl hO hb0 hE hF
          simp only [wdV, wdC] at *
          go_enter Tryz.func31, Tryz.ntmps31
          go_wp2_with (go_at_call 46; refine (unhide HF).mono ?_; rintro e W1 ⟨rfl, hb1⟩)
          go_ret
          exact ⟨rfl, hb1⟩
        · have f6 : (t == 6) = false := by simpa using t6
          have f7 : (t == 7) = false := by simpa using t7
          have f8 : (t == 8) = false := by simpa using t8
          obtain rfl : RB = D0 := by rw [hRB, ← hD0]; simp [sufE, f5, f6, f7, f8]
          clear hRB hD0 hD6 hD7 hD8 hO1 hO2 d6 d7 d8 s2 s3 t5 t6 t7 t8
          clear hu8 hu64 hdl hO hb0 hE hF
          simp only [wdV, wdC] at *
          go_enter Tryz.func31, Tryz.ntmps31
          go_wp2_with (go_at_call 46; refine (unhide HF).mono ?_; rintro e W1 ⟨rfl, hb1⟩)
          go_ret
          exact ⟨rfl, hb1⟩
/-- What the loop of a text's show keeps. -/
def qP (s : List UInt8) (k : Nat) : List UInt8 := 34 :: octs (s.take k)
theorem qP_succ {s : List UInt8} {k : Nat} (h : k < s.length) : qP s (k + 1) = qP s k ++ octE s[k] := by
  unfold qP; rw [List.take_succ_eq_append_getElem h, octs_snoc]; rfl
theorem qP_len (s : List UInt8) (k : Nat) : (qP s k).length ≤ 4 * s.length + 1 := by
  unfold qP; rw [List.length_cons, octs_len, List.length_take]; omega
theorem qP_end (s : List UInt8) : qP s s.length ++ [34] = quoM s := by unfold qP quoM; rw [List.take_length]; rfl
set_option maxRecDepth 100000 in
set_option maxHeartbeats 8000000 in
theorem rshow_text (v t : Int) (s f : List UInt8) (line : Int) (hs : s.length ≤ 1000000000) (w : World) :
    Calls Tryz.prog 31 #[wdV ⟨4, s, v, t, f, line⟩] w fun e w' => e = .returned (.string ⟨(quoM s).toArray⟩) ∧ Below w.heap.size w w' := by
  have hb0 := below_new w (.cells (wdC ⟨4, s, v, t, f, line⟩).toArray 34)
  have hbx := (WBox.new w ⟨4, s, v, t, f, line⟩).six.2.1
  have hz0 : w.heap.size < (w.alloc (.cells (wdC ⟨4, s, v, t, f, line⟩).toArray 34)).heap.size := by simp
  obtain ⟨B, hB⟩ : ∃ B : ByteArray, (⟨s.toArray⟩ : ByteArray) = B := ⟨_, rfl⟩
  have hsz : B.size = s.length := by rw [← hB, len_toArray]
  have hat : ∀ (k : Nat) (h : k < B.size), B[k] = s[k]'(by omega) := fun k h => by subst hB; rfl
  have HAT := hide hat
  have HBB := hide hB
  clear hat
  obtain ⟨i5, hi5, hz5a, hz5b, hz5c⟩ := info_parts Tryz.info5
  simp only [wdV, wdC] at *
  rw [hB] at hb0 hbx hz0 ⊢
  clear hB
  go_enter Tryz.func31, Tryz.ntmps31
  go_upto_region 14 with fail
  generalize (w.alloc _ : World) = W0 at *
  have hro := row_one W0 34
  have hbe0 := below_new W0 (.cells #[.int .u8 34] 5)
  have HB0 := hide hb0
  have HBX := hide hbx
  clear hb0 hbx
  go_upto_region 15 with fail
  generalize hW1 : (W0.alloc (.cells #[.int .u8 34] 5) : World) = W1 at *
  have HRO : Hid (W1.ownsRow W0.heap.size 5 1 (.slice (some ⟨W0.heap.size, 0, none⟩) 1 1) (qP s 0).length (Lib.byteCells (qP s 0))) := by rw [← hW1]; exact hro
  have HBE0 := hide hbe0
  generalize hNN : W0.heap.size = N at *
  have HNN := hide hNN
  clear hNN
  clear hro hbe0 hW1
  go_wp2
  go_loopg [4, 5] s.length (fun gk u i wr => ∃ k : Nat, gk = s.length - k ∧ i = .int .i64 k ∧ k ≤ s.length ∧ Hid (wr.ownsRow N 5 1 u (qP s k).length (Lib.byteCells (qP s k))) ∧ Hid (Below N W0 wr))
  case atStart => exact ⟨0, rfl, rfl, Nat.zero_le _, HRO, HBE0⟩
  case round =>
    clear HRO HBE0
    obtain ⟨k, rfl, rfl, hk, hRo, hbe⟩ := hrel
    have hzr : N ≤ wr.heap.size := by have := (unhide hbe).size; rw [unhide HNN] at this; exact this
    have hq1 := ((unhide hbe).cell (p := ⟨w.heap.size, 1, none⟩) hz0).trans (unhide HBX)
    have hql := qP_len s k
    by_cases hlt : k < s.length
    · have i1 : (k : Int) < (B.size : Int) := by omega
      have i2 : k < B.size := by omega
      have hbk := unhide HAT k i2
      have hE := octal_any (s[k]) wr
      rw [← hbk] at hE
      have HE := hide hE
      have HL4 : Hid ((⟨(octE B[k]).toArray⟩ : ByteArray).size = 4) := len_toArray _
      have FIN : Hid (∀ (u' : Value) (wx : World), wx.ownsRow N 5 1 u' ((qP s k).length + (⟨(octE B[k]).toArray⟩ : ByteArray).size) (Lib.byteCells (qP s k) ++ Lib.strCells ⟨(octE B[k]).toArray⟩) → wx.ownsRow N 5 1 u' (qP s (k + 1)).length (Lib.byteCells (qP s (k + 1)))) := by
        intro u' wx h
        rw [strC, ← byteC_app, len_toArray, ← List.length_append] at h
        rw [qP_succ hlt, ← hbk]
        exact h
      clear hE hbk
      go_wp2_with (first
        | (go_at_call 45; refine (unhide HE).mono ?_; rintro e W2 ⟨rfl, hb2⟩; have hB2 := row_below (unhide hRo) hb2; have hbe2 := (unhide hbe).trans (hb2.mono hzr); have hz2 : N ≤ W2.heap.size := (by have := hbe2.size; rw [unhide HNN] at this; exact this))
        | (at_builtin; refine wpList_append_str _ rfl _ _ 57 9 rfl N 5 i5 Tryz.underlying57 Tryz.underlying9 hi5 hz5a hz5b hz5c _ _ _ rfl hB2 _ rfl (by rw [unhide HL4]; omega) hz2 ?_; intro u' w' hown hgrow))
      go_roundg (s.length - (k + 1))
      case measure => omega
      case rel => exact ⟨k + 1, rfl, by go_num, by omega, unhide FIN u' w' hown, hbe2.grown hgrow hz2 (fun r e => (row_turn hB2 r e).1)⟩
    · have i1 : ¬ (k : Int) < (B.size : Int) := by omega
      obtain rfl : k = s.length := by omega
      have FIN : Hid (∀ (u' : Value) (wx : World), wx.ownsRow N 5 1 u' ((qP s s.length).length + 1) (Lib.byteCells (qP s s.length) ++ [.int .u8 34]) → (convert 57 9 u').run Tryz.prog wx = .ok (.string ⟨(quoM s).toArray⟩) wx) := by
        intro u' wx h
        rw [← qP_end]
        refine run_string_row (base := N) ?_
        rw [byteC_app, List.length_append]
        exact h
      have hzA : N ≤ (wr.alloc (.cells #[.int .u8 34] 5)).heap.size := by simp; omega
      have hRA := (unhide hRo).alloc (.cells #[.int .u8 34] 5)
      have HFB : Hid (∀ w2, (wr.alloc (.cells #[.int .u8 34] 5)).grownBy w2 (u4.ownBlock) → Below w.heap.size w w2) := fun w2 hg =>
        (unhide HB0).trans (((((unhide hbe).alloc hzr _).grown hg hzA (fun r e => (row_turn (unhide hRo) r e).1))).mono (Nat.le_of_lt hz0))
      go_wp2_with (at_builtin; refine wpList_append_own _ rfl _ _ 57 rfl N 5 i5 (.int .u8 0) 1 1 Tryz.underlying57 hi5 hz5a hz5b hz5c rfl (by decide) _ _ _ rfl hRA ⟨wr.heap.size, 0, none⟩ 1 1 [.int .u8 34] rfl rfl (one_cell wr _ 5) (fun u hu => by simp at hu; subst hu; rfl) (by unfold maxLen; omega) (by omega) hzA ?_; intro u2 w2 hown2 hgrow2 _; have hcv := unhide FIN u2 w2 hown2)
      go_ret
      exact ⟨rfl, unhide HFB w2 hgrow2⟩
set_option maxRecDepth 100000 in
set_option maxHeartbeats 8000000 in
theorem rshow_any (x : Wd) (hs : x.s.length ≤ 1000000000) (w : World) :
    Calls Tryz.prog 31 #[wdV x] w fun e w' => e = .returned (.string ⟨(splM x).toArray⟩) ∧ Below w.heap.size w w' := by
  obtain ⟨k, s, v, t, f, line⟩ := x
  by_cases k3 : k = 3
  · subst k3; exact rshow_int v t s f line w
  · by_cases k4 : k = 4
    · subst k4; exact rshow_text v t s f line hs w
    · have f3 : (k == 3) = false := by simpa using k3
      have f4 : (k == 4) = false := by simpa using k4
      have hb0 := below_new w (.cells (wdC ⟨k, s, v, t, f, line⟩).toArray 34)
      rw [show splM ⟨k, s, v, t, f, line⟩ = s from by simp [splM, f3, f4]]
      have HB := hide hb0
      clear hb0 k3 k4
      simp only [wdV, wdC] at *
      go_enter Tryz.func31, Tryz.ntmps31
      go_wp2
      go_ret
      exact ⟨rfl, unhide HB⟩
end Go.Proofs.YtnpjgamfjfmjjaaGreatDoor
namespace Go.Proofs.YtnpjgamfjfmjjaaGreatDoor
open Go Go.RowKit Go.Shelf
set_option linter.unusedVariables false
set_option linter.unusedSimpArgs false

theorem wrap64 {v : Int} (h : okV64 v) : IntKind.i64.wrap v = v := by
  unfold okV64 at h
  rw [IntKind.wrap_i64]; omega
set_option maxRecDepth 100000 in
set_option maxHeartbeats 8000000 in
theorem rShow_any (v : Value) (l : List Wd) (w : World) (hl : l.length ≤ 1000000) (hs : ∀ x ∈ l, x.s.length ≤ 1000000000) (h64 : ∀ x ∈ l, okV64 x.v) (hlen : (shP l l.length).length ≤ 100000000000) (hv : WdG w.heap.size w v l) :
    Calls Tryz.prog 17 #[v] w fun e w' => e = .returned (.tuple #[.string ⟨(showM l).1.toArray⟩, .int .i64 (showM l).2]) ∧ Below w.heap.size w w' := by
  have HV := hide hv
  obtain ⟨p, cap, rfl, _⟩ := hv
  have HLE : Hid (∀ k, k ≤ l.length → (shP l k).length ≤ 100000000000) := fun k hk => Nat.le_trans (shP_le l _ _ hk) hlen
  have HS : Hid (∀ (k : Nat) (h : k < l.length), l[k].s.length ≤ 1000000000) := fun k h => hs _ (List.getElem_mem h)
  have H64 : Hid (∀ (k : Nat) (h : k < l.length), IntKind.i64.wrap l[k].v = l[k].v) := fun k h => wrap64 (h64 _ (List.getElem_mem h))
  obtain ⟨R, hR⟩ : ∃ R, showM l = R := ⟨_, rfl⟩
  rw [hR]
  have HR := hide hR
  obtain ⟨i5, hi5, hz5a, hz5b, hz5c⟩ := info_parts Tryz.info5
  clear hs h64 hlen hR
  go_enter Tryz.func17, Tryz.ntmps17
  go_wp2
  go_loopg [4, 5] l.length (fun gk u i wr => ∃ k : Nat, gk = l.length - k ∧ i = .int .i64 (k : Int) ∧ k ≤ l.length ∧ Hid (wr.ownsRow w.heap.size 5 1 u (shP l k).length (Lib.byteCells (shP l k))) ∧ Hid (Below w.heap.size w wr) ∧ Hid (okTo l k = true))
  case atStart => exact ⟨0, rfl, rfl, Nat.zero_le _, World.ownsRow_nil _ _ _ _, Below.refl _ _, rfl⟩
  case round =>
    obtain ⟨k, rfl, rfl, hk, hRo, HBE, HOK⟩ := hrel
    have hzr := (unhide HBE).size
    by_cases hltk : k < l.length
    · have i1 : (k : Int) < (l.length : Int) := by omega
      obtain ⟨p', cap', hp', hcs⟩ := unhide HV
      obtain ⟨g, o, rfl, hgB, _⟩ := hcs k hltk
      obtain ⟨rfl, rfl⟩ : p = some ⟨g, o, none⟩ ∧ cap = cap' := by simpa using hp'
      have HCA : Hid (∀ (W : World) (j : Nat) (h : j < l.length), Below w.heap.size w W → W.cell? ⟨g, o + j * 6, none⟩ = some (.int .i64 l[j].kind) ∧ W.cell? ⟨g, o + j * 6 + 1, none⟩ = some (.string ⟨l[j].s.toArray⟩) ∧ W.cell? ⟨g, o + j * 6 + 2, none⟩ = some (.int .i64 l[j].v) ∧ W.cell? ⟨g, o + j * 6 + 3, none⟩ = some (.int .i64 l[j].t) ∧ W.cell? ⟨g, o + j * 6 + 4, none⟩ = some (.string ⟨l[j].f.toArray⟩) ∧ W.cell? ⟨g, o + j * 6 + 5, none⟩ = some (.int .i64 l[j].line)) := fun W j hj hb => by
        obtain ⟨p2, c2, hp2, hcs2⟩ := (unhide HV).below hb
        obtain ⟨g2, o2, hpp, _, b⟩ := hcs2 j hj
        have : (some (⟨g, o, none⟩ : Addr)) = some ⟨g2, o2, none⟩ := by simp at hp2; rw [← hpp, ← hp2.1]
        simp at this
        obtain ⟨rfl, rfl⟩ := this
        exact b
      have HPW0 : Hid (∀ (j : Nat) (h : j < l.length) (W : World), Below w.heap.size w W → W.cell? ⟨g, o + j * 6, none⟩ = some (.int .i64 l[j].kind)) := fun j hj W hb => (unhide HCA W j hj hb).1
      have HCS : Hid (∀ (W : World), Below w.heap.size w W → W.cell? ⟨g, o + k * 6, none⟩ = some (.int .i64 l[k].kind) ∧ W.cell? ⟨g, o + k * 6 + 1, none⟩ = some (.string ⟨l[k].s.toArray⟩) ∧ W.cell? ⟨g, o + k * 6 + 2, none⟩ = some (.int .i64 l[k].v) ∧ W.cell? ⟨g, o + k * 6 + 3, none⟩ = some (.int .i64 l[k].t) ∧ W.cell? ⟨g, o + k * 6 + 4, none⟩ = some (.string ⟨l[k].f.toArray⟩) ∧ W.cell? ⟨g, o + k * 6 + 5, none⟩ = some (.int .i64 l[k].line)) := fun W hb => unhide HCA W k hltk hb
      have hsu := shP_succ hltk
      have hle1 := unhide HLE (k + 1) hltk
      have hxs := unhide HS k hltk
      have hx64 := unhide H64 k hltk
      have hle0 := unhide HLE k hk
      have HOA : Hid (okAt l k = (rightM l[k] && !(decide (0 < k) && (l[k].kind == 4) && (match l[k - 1]? with | some y => y.kind == 4 | none => false)))) := by
        rw [Hid, okAt, List.getElem?_eq_getElem hltk]; rfl
      have HNO : Hid (okAt l k = false → R = ([], 2)) := fun h => by rw [← unhide HR]; exact showM_no hltk h
      have HYES : Hid (okAt l k = true → okTo l (k + 1) = true) := fun h => by rw [okTo_succ, unhide HOK, h]; rfl
      rw [hsu, List.length_append, List.length_append] at hle1
      have HSU := hide hsu
      clear hsu hcs hp' HCA
      generalize l[k] = x at *
      have hRi := rRight_any x wr (by omega) hx64
      have hSp := fun W => rshow_any x hxs W
      obtain ⟨xk, xs, xv, xt, xf, xl⟩ := x
      simp only [wdV, wdC] at hRi hSp
      simp only at hxs HOA HCS hx64
      obtain ⟨a0, a1, a2, a3, a4, a5⟩ := unhide HCS wr (unhide HBE)
      have HRI := hide hRi
      have hszp := len_toArray (splM ⟨xk, xs, xv, xt, xf, xl⟩)
      obtain ⟨SPB, hSPB⟩ : ∃ X, (⟨(splM ⟨xk, xs, xv, xt, xf, xl⟩).toArray⟩ : ByteArray) = X := ⟨_, rfl⟩
      simp only [hSPB] at hSp hszp
      have HSP := hide hSp
      have HSZ := hide hszp
      have HSPB := hide hSPB
      clear hRi hSp hx64 hszp hSPB
      generalize splM ⟨xk, xs, xv, xt, xf, xl⟩ = SPL at *
      cases hri : rightM ⟨xk, xs, xv, xt, xf, xl⟩
      · have HRR := hide (unhide HNO (by rw [unhide HOA, hri]; rfl))
        rw [hri] at HRI
        clear HNO HYES HOA HSP HPW0
        go_wp2_with (go_at_call 15; refine (unhide HRI).mono ?_; rintro e W2 ⟨rfl, hb2⟩; have hbe2 := (unhide HBE).trans (hb2.mono hzr); have hB2 := hide (row_below (unhide hRo) hb2); have hz2 := hbe2.size; have HE2 := hide hbe2; clear hbe2 hb2)
        go_ret2
        exact ⟨by rw [unhide HRR]; rfl, unhide HE2⟩
      · rw [hri] at HRI
        go_upto_region 6 with (go_at_call 15; refine (unhide HRI).mono ?_; rintro e W2 ⟨rfl, hb2⟩; have hbe2 := (unhide HBE).trans (hb2.mono hzr); have hB2 := hide (row_below (unhide hRo) hb2); have hz2 := hbe2.size; have HE2 := hide hbe2; clear hbe2 hb2)
        clear a0 a1 a2 a3 a4 a5 hRo HRI
        match k, hltk, hk, HOA, HNO, HYES, HCS, HSU, hle0, hle1, i1, hB2 with
        | 0, hltk, hk, HOA, HNO, HYES, HCS, HSU, hle0, hle1, i1, hB2 =>
          clear HPW0 HNO
          rw [hri] at HOA
          obtain ⟨n0, n1, n2, n3, n4, n5⟩ := unhide HCS W2 (unhide HE2)
          simp only [Nat.zero_mul, Nat.add_zero] at n0 n1 n2 n3 n4 n5
          have HSP3 := hide (unhide HSP W2)
          have FIN : Hid (∀ (u' : Value) (wx : World), wx.ownsRow w.heap.size 5 1 u' ((shP l (0)).length + SPB.size) (Lib.byteCells (shP l (0)) ++ Lib.strCells SPB) → wx.ownsRow w.heap.size 5 1 u' (shP l (0 + 1)).length (Lib.byteCells (shP l (0 + 1)))) := by
            intro u' wx h
            rw [← unhide HSPB, strC, ← byteC_app, len_toArray, ← List.length_append] at h
            rw [unhide HSU]
            simpa [List.append_assoc] using h
          have HFB : Hid (∀ u1 W4 w', W2.ownsRow w.heap.size 5 1 u1 (shP l (0)).length (Lib.byteCells (shP l (0))) → Below W2.heap.size W2 W4 → W4.grownBy w' u1.ownBlock → Below w.heap.size w w') := fun u1 W4 w' hr hb hg => ((unhide HE2).trans (hb.mono (unhide HE2).size)).grown hg (Nat.le_trans (unhide HE2).size hb.size) (fun r e => (row_turn (row_below hr hb) r e).1)
          have hzW := (unhide HE2).size
          go_wp2_with (first
            | (go_at_call 31; refine (unhide HSP3).mono ?_; rintro e W4 ⟨rfl, hb4⟩; have hB4 := row_below (unhide hB2) hb4; have hz4 := Nat.le_trans hzW hb4.size)
            | (at_builtin; refine wpList_append_str _ rfl _ _ 57 9 rfl w.heap.size 5 i5 Tryz.underlying57 Tryz.underlying9 hi5 hz5a hz5b hz5c _ _ _ rfl hB4 _ rfl (by rw [unhide HSZ]; first | omega | (simp only [List.length_append, List.length_singleton]; omega)) hz4 ?_; intro u' w' hown hgrow))
          go_roundg (l.length - (0 + 1))
          case measure => omega
          case rel => exact ⟨0 + 1, rfl, by go_num, by omega, unhide FIN u' w' hown, unhide HFB _ W4 w' (unhide hB2) hb4 hgrow, unhide HYES (by have h9 := unhide HOA; first | exact h9 | simpa using h9)⟩
        | j + 1, hltk, hk, HOA, HNO, HYES, HCS, HSU, hle0, hle1, i1, hB2 =>
          have hjp : (0 : Int) < ((j + 1 : Nat) : Int) := by omega
          have hjl0 : j < l.length := by omega
          have HOB : Hid (okAt l (j + 1) = !((xk == 4) && (l[j].kind == 4))) := by
            rw [Hid, unhide HOA, hri]
            simp [List.getElem?_eq_getElem hjl0]
          have HPW : Hid (∀ W, Below w.heap.size w W → W.cell? ⟨g, o + j * 6, none⟩ = some (.int .i64 l[j].kind)) := fun W hb => unhide HPW0 j hjl0 W hb
          simp only [List.length_singleton, Nat.add_eq_zero_iff, Nat.one_ne_zero, and_false, if_false] at hle1
          clear HOA HPW0
          generalize l[j].kind = jk at *
          cases x4 : xk == 4
          · have HOA : Hid (okAt l (j + 1) = true) := by rw [Hid, unhide HOB, x4]; rfl
            clear HNO HOB HPW
            obtain ⟨m0, m1, m2, m3, m4, m5⟩ := unhide HCS W2 (unhide HE2)
            have hzA : w.heap.size ≤ (W2.alloc (.cells #[.int .u8 32] 5)).heap.size := by simp; omega
            have hRA := (unhide hB2).alloc (.cells #[.int .u8 32] 5)
            go_upto_region 10 with (at_builtin; refine wpList_append_own _ rfl _ _ 57 rfl w.heap.size 5 i5 (.int .u8 0) 1 1 Tryz.underlying57 hi5 hz5a hz5b hz5c rfl (by decide) _ _ _ rfl hRA ⟨W2.heap.size, 0, none⟩ 1 1 [.int .u8 32] rfl rfl (one_cell W2 _ 5) (fun u hu => by simp at hu; subst hu; rfl) (by unfold maxLen; omega) (by omega) hzA ?_; intro u3 W3 hown3 hgrow3 _)
            have HE3 : Hid (Below w.heap.size w W3) := ((unhide HE2).alloc hz2 _).grown hgrow3 hzA (fun r e => (row_turn (unhide hB2) r e).1)
            have hB3 : Hid (W3.ownsRow w.heap.size 5 1 u3 (shP l (j + 1) ++ [32]).length (Lib.byteCells (shP l (j + 1) ++ [32]))) := by rw [Hid, byteC_app, List.length_append]; exact hown3
            clear hown3 hgrow3 hRA hzA m0 m1 m2 m3 m4 m5
            obtain ⟨n0, n1, n2, n3, n4, n5⟩ := unhide HCS W3 (unhide HE3)
            have HSP3 := hide (unhide HSP W3)
            have FIN : Hid (∀ (u' : Value) (wx : World), wx.ownsRow w.heap.size 5 1 u' ((shP l (j + 1) ++ [32]).length + SPB.size) (Lib.byteCells (shP l (j + 1) ++ [32]) ++ Lib.strCells SPB) → wx.ownsRow w.heap.size 5 1 u' (shP l (j + 1 + 1)).length (Lib.byteCells (shP l (j + 1 + 1)))) := by
              intro u' wx h
              rw [← unhide HSPB, strC, ← byteC_app, len_toArray, ← List.length_append] at h
              rw [unhide HSU]
              simpa [List.append_assoc] using h
            have HFB : Hid (∀ u1 W4 w', W3.ownsRow w.heap.size 5 1 u1 (shP l (j + 1) ++ [32]).length (Lib.byteCells (shP l (j + 1) ++ [32])) → Below W3.heap.size W3 W4 → W4.grownBy w' u1.ownBlock → Below w.heap.size w w') := fun u1 W4 w' hr hb hg => ((unhide HE3).trans (hb.mono (unhide HE3).size)).grown hg (Nat.le_trans (unhide HE3).size hb.size) (fun r e => (row_turn (row_below hr hb) r e).1)
            have hzW := (unhide HE3).size
            go_wp2_with (first
              | (go_at_call 31; refine (unhide HSP3).mono ?_; rintro e W4 ⟨rfl, hb4⟩; have hB4 := row_below (unhide hB3) hb4; have hz4 := Nat.le_trans hzW hb4.size)
              | (at_builtin; refine wpList_append_str _ rfl _ _ 57 9 rfl w.heap.size 5 i5 Tryz.underlying57 Tryz.underlying9 hi5 hz5a hz5b hz5c _ _ _ rfl hB4 _ rfl (by rw [unhide HSZ]; first | omega | (simp only [List.length_append, List.length_singleton]; omega)) hz4 ?_; intro u' w' hown hgrow))
            go_roundg (l.length - (j + 1 + 1))
            case measure => omega
            case rel => exact ⟨j + 1 + 1, rfl, by go_num, by omega, unhide FIN u' w' hown, unhide HFB _ W4 w' (unhide hB3) hb4 hgrow, unhide HYES (by have h9 := unhide HOA; first | exact h9 | simpa using h9)⟩
          · cases p4 : jk == 4
            · have HOA : Hid (okAt l (j + 1) = true) := by rw [Hid, unhide HOB, x4, p4]; rfl
              clear HNO HOB
              have y0 := unhide HPW W2 (unhide HE2)
              obtain ⟨m0, m1, m2, m3, m4, m5⟩ := unhide HCS W2 (unhide HE2)
              have hzA : w.heap.size ≤ (W2.alloc (.cells #[.int .u8 32] 5)).heap.size := by simp; omega
              have hRA := (unhide hB2).alloc (.cells #[.int .u8 32] 5)
              go_upto_region 10 with (at_builtin; refine wpList_append_own _ rfl _ _ 57 rfl w.heap.size 5 i5 (.int .u8 0) 1 1 Tryz.underlying57 hi5 hz5a hz5b hz5c rfl (by decide) _ _ _ rfl hRA ⟨W2.heap.size, 0, none⟩ 1 1 [.int .u8 32] rfl rfl (one_cell W2 _ 5) (fun u hu => by simp at hu; subst hu; rfl) (by unfold maxLen; omega) (by omega) hzA ?_; intro u3 W3 hown3 hgrow3 _)
              have HE3 : Hid (Below w.heap.size w W3) := ((unhide HE2).alloc hz2 _).grown hgrow3 hzA (fun r e => (row_turn (unhide hB2) r e).1)
              have hB3 : Hid (W3.ownsRow w.heap.size 5 1 u3 (shP l (j + 1) ++ [32]).length (Lib.byteCells (shP l (j + 1) ++ [32]))) := by rw [Hid, byteC_app, List.length_append]; exact hown3
              clear hown3 hgrow3 hRA hzA m0 m1 m2 m3 m4 m5
              obtain ⟨n0, n1, n2, n3, n4, n5⟩ := unhide HCS W3 (unhide HE3)
              have HSP3 := hide (unhide HSP W3)
              have FIN : Hid (∀ (u' : Value) (wx : World), wx.ownsRow w.heap.size 5 1 u' ((shP l (j + 1) ++ [32]).length + SPB.size) (Lib.byteCells (shP l (j + 1) ++ [32]) ++ Lib.strCells SPB) → wx.ownsRow w.heap.size 5 1 u' (shP l (j + 1 + 1)).length (Lib.byteCells (shP l (j + 1 + 1)))) := by
                intro u' wx h
                rw [← unhide HSPB, strC, ← byteC_app, len_toArray, ← List.length_append] at h
                rw [unhide HSU]
                simpa [List.append_assoc] using h
              have HFB : Hid (∀ u1 W4 w', W3.ownsRow w.heap.size 5 1 u1 (shP l (j + 1) ++ [32]).length (Lib.byteCells (shP l (j + 1) ++ [32])) → Below W3.heap.size W3 W4 → W4.grownBy w' u1.ownBlock → Below w.heap.size w w') := fun u1 W4 w' hr hb hg => ((unhide HE3).trans (hb.mono (unhide HE3).size)).grown hg (Nat.le_trans (unhide HE3).size hb.size) (fun r e => (row_turn (row_below hr hb) r e).1)
              have hzW := (unhide HE3).size
              go_wp2_with (first
                | (go_at_call 31; refine (unhide HSP3).mono ?_; rintro e W4 ⟨rfl, hb4⟩; have hB4 := row_below (unhide hB3) hb4; have hz4 := Nat.le_trans hzW hb4.size)
                | (at_builtin; refine wpList_append_str _ rfl _ _ 57 9 rfl w.heap.size 5 i5 Tryz.underlying57 Tryz.underlying9 hi5 hz5a hz5b hz5c _ _ _ rfl hB4 _ rfl (by rw [unhide HSZ]; first | omega | (simp only [List.length_append, List.length_singleton]; omega)) hz4 ?_; intro u' w' hown hgrow))
              go_roundg (l.length - (j + 1 + 1))
              case measure => omega
              case rel => exact ⟨j + 1 + 1, rfl, by go_num, by omega, unhide FIN u' w' hown, unhide HFB _ W4 w' (unhide hB3) hb4 hgrow, unhide HYES (by have h9 := unhide HOA; first | exact h9 | simpa using h9)⟩
            · have HOA : Hid (okAt l (j + 1) = false) := by rw [Hid, unhide HOB, x4, p4]; rfl
              have HRR := hide (unhide HNO (unhide HOA))
              have y0 := unhide HPW W2 (unhide HE2)
              obtain ⟨m0, m1, m2, m3, m4, m5⟩ := unhide HCS W2 (unhide HE2)
              go_wp2
              go_ret2
              exact ⟨by rw [unhide HRR]; rfl, unhide HE2⟩
    · have i1 : ¬ (k : Int) < (l.length : Int) := by omega
      obtain rfl : k = l.length := by omega
      have hcv := run_string_row (unhide hRo)
      have HRR : Hid (R = (shP l l.length, 0)) := by rw [Hid, ← unhide HR, showM, unhide HOK]; rfl
      obtain ⟨OUT, hOUT⟩ : ∃ X, (⟨(shP l l.length).toArray⟩ : ByteArray) = X := ⟨_, rfl⟩
      rw [hOUT] at hcv
      have HOUT := hide hOUT
      clear hOUT
      go_wp2
      go_ret2
      refine ⟨?_, unhide HBE⟩
      rw [unhide HRR]
      simp only [unhide HOUT]
      rfl
end Go.Proofs.YtnpjgamfjfmjjaaGreatDoor
