/-
  Package lex: firstByte, unquoted.
-/
import Derived.Test.YtmpkgjonbjpohaaGreatDoorXb
import Derived.Test.YtmpkgjonbjpohaaGreatDoorXc
import Derived.Laws.Concat
namespace Go.Proofs.YtmpkgjonbjpohaaGreatDoor
open Go Go.RowKit
set_option linter.unusedVariables false
set_option linter.unusedSimpArgs false

/-- The byte that the inside of a text begins with, of how many bytes it comes, and whether it is one. -/
def fbM : List UInt8 → UInt8 × Nat × Bool
  | [] => (0, 0, false)
  | c :: r => if c == 92 then
      (if (rdM (39 :: ((c :: r).take (escN (c :: r)) ++ [39]))).2 then UInt8.ofNat (rdM (39 :: ((c :: r).take (escN (c :: r)) ++ [39]))).1.toNat else 0, escN (c :: r), (rdM (39 :: ((c :: r).take (escN (c :: r)) ++ [39]))).2)
    else (c, 1, true)
theorem escN_le : ∀ (s : List UInt8), 2 ≤ s.length → escN s ≤ s.length ∧ 2 ≤ escN s
  | a :: c :: r, _ => by
    rw [escN]
    have h1 := digN_le 16 r
    have h2 := digN_le 8 ((c :: r).take 3)
    have h3 : ((c :: r).take 3).length ≤ (c :: r).length := by rw [List.length_take]; omega
    split
    · simp; omega
    · simp at *; omega
theorem u8_back (z : Int) (h0 : 0 ≤ z) (h1 : z < 256) : IntKind.u8.wrap (wrap64 (IntKind.i8.wrap z)) = z := by
  have h : ∀ n : Fin 256, IntKind.u8.wrap (wrap64 (IntKind.i8.wrap (n.1 : Int))) = (n.1 : Int) := by decide +kernel
  have := h ⟨z.toNat, by omega⟩
  simp only at this
  rw [Int.toNat_of_nonneg h0] at this
  exact this
theorem ofNat_back (z : Int) (h0 : 0 ≤ z) (h1 : z < 256) : ((UInt8.ofNat z.toNat).toNat : Int) = z := by
  rw [UInt8.toNat_ofNat_of_lt' (by show z.toNat < 256; omega)]; omega
set_option maxRecDepth 100000 in
set_option maxHeartbeats 4000000 in
theorem fb_plain (B : ByteArray) (h0 : 0 < B.size) (w : World) (h1 : ((B[0].toNat : Int) != 92) = true) :
    Calls Tryz.prog 161 #[.string B] w fun e w' => e = .returned (.tuple #[.int .u8 (B[0].toNat : Int), .int .i64 1, .bool true]) ∧ w' = w := by
  go_enter Tryz.func161, Tryz.ntmps161
  go_wp2
  go_ret3
  exact ⟨rfl, rfl⟩
set_option maxRecDepth 100000 in
set_option maxHeartbeats 4000000 in
theorem fb_esc (B : ByteArray) (h0 : 0 < B.size) (hm : B.size ≤ 140737488355320) (w : World) (h1 : ((B[0].toNat : Int) != 92) = false) (n : Nat) (hn : n ≤ B.size) (Z : Int × Bool)
    (HE : Calls Tryz.prog 174 #[.string B] w fun e w' => e = .returned (.int .i64 (n : Nat)) ∧ w' = w)
    (HC : Calls Tryz.prog 151 #[.string ((⟨#[39]⟩ : ByteArray) ++ B.extract 0 n ++ ⟨#[39]⟩)] w fun e w' => e = .returned (charV Z) ∧ Below w.heap.size w w') :
    Calls Tryz.prog 161 #[.string B] w fun e w' => e = .returned (.tuple #[.int .u8 (if Z.2 then IntKind.u8.wrap (wrap64 (IntKind.i8.wrap Z.1)) else 0), .int .i64 n, .bool Z.2]) ∧ Below w.heap.size w w' := by
  have hE := hide HE
  have hC := hide HC
  have hsl : (Instr.slice 9 (.string B) none (some (.int .i64 (n : Int))) none).run Tryz.prog w = .ok (.string (B.extract 0 n)) w := by
    rw [run_slice_string_to_if (P := Tryz.prog) (w := w) 9 B .i64 _ Tryz.underlying9, if_pos (by omega)]; rfl
  have hxs : (B.extract 0 n).size = n := by rw [ByteArray.size_extract]; omega
  generalize B.extract 0 n = X at *
  have hs1 : (Op.stringOp .add ⟨#[39]⟩ X).run Tryz.prog w = .ok (.string (⟨#[39]⟩ ++ X)) w := run_string_add_sum w _ _ (by rw [hxs]; show 1 + n ≤ _; omega)
  have hz2 : ((⟨#[39]⟩ : ByteArray) ++ X).size = 1 + n := by rw [ByteArray.size_append, hxs]; rfl
  generalize (⟨#[39]⟩ : ByteArray) ++ X = Y at *
  have hs2 : (Op.stringOp .add Y ⟨#[39]⟩).run Tryz.prog w = .ok (.string (Y ++ ⟨#[39]⟩)) w := run_string_add_sum w _ _ (by rw [hz2]; show 1 + n + 1 ≤ _; omega)
  generalize Y ++ (⟨#[39]⟩ : ByteArray) = V at *
  clear HE HC hxs hz2
  obtain ⟨z, ok⟩ := Z
  simp only [charV] at *
  cases ok
  · simp only [Bool.false_eq_true, if_false] at *
    go_enter Tryz.func161, Tryz.ntmps161
    go_wp2_with (first
      | (go_at_call 174; refine (unhide hE).mono ?_; rintro e w' ⟨rfl, hw'⟩; obtain rfl := hw'.symm)
      | (go_at_call 151; refine (unhide hC).mono ?_; rintro e W1 ⟨rfl, hb1⟩))
    go_ret3
    exact ⟨rfl, hb1⟩
  · simp only [if_true] at *
    go_enter Tryz.func161, Tryz.ntmps161
    go_wp2_with (first
      | (go_at_call 174; refine (unhide hE).mono ?_; rintro e w' ⟨rfl, hw'⟩; obtain rfl := hw'.symm)
      | (go_at_call 151; refine (unhide hC).mono ?_; rintro e W1 ⟨rfl, hb1⟩))
    go_ret3
    exact ⟨rfl, hb1⟩
theorem firstByte_any (s : List UInt8) (hs : s.length ≤ 140737488355320) (hne : s ≠ []) (hb : s.head? = some 92 → 2 ≤ s.length) (w : World) (hw : 10 < w.heap.size) (hg : Eg w) :
    Calls Tryz.prog 161 #[.string ⟨s.toArray⟩] w fun e w' => e = .returned (.tuple #[.int .u8 ((fbM s).1.toNat : Int), .int .i64 ((fbM s).2.1 : Nat), .bool (fbM s).2.2]) ∧ Below w.heap.size w w' := by
  match s, hne with
  | c :: r, _ =>
    have hl := len_toArray (c :: r)
    have hc0 : ((⟨(c :: r).toArray⟩ : ByteArray)[0]'(by rw [hl]; simp)) = c := rfl
    have e1 := byte_eq c 92
    have e2 : ((92 : UInt8).toNat : Int) = 92 := rfl
    rw [e2] at e1
    rw [fbM]
    cases hq : c == 92
    · simp only [Bool.false_eq_true, if_false]
      have := fb_plain ⟨(c :: r).toArray⟩ (by rw [hl]; simp) w (by rw [hc0, bne, ← e1, hq]; rfl)
      rw [hc0] at this
      exact this.mono fun e w' ⟨h1, h2⟩ => ⟨h1, h2 ▸ Below.refl _ _⟩
    · simp only [if_true]
      have hc : c = 92 := by simpa using hq
      have h2 : 2 ≤ (c :: r).length := hb (by rw [hc]; rfl)
      have hle := escN_le _ h2
      have HE := escapeSize_any (c :: r) (by omega) h2 w
      have hr := rdM_range (39 :: ((c :: r).take (escN (c :: r)) ++ [39]))
      have HC := Char_any (39 :: ((c :: r).take (escN (c :: r)) ++ [39])) (by simp; omega) w hw hg
      have hx : (⟨#[39]⟩ : ByteArray) ++ (⟨(c :: r).toArray⟩ : ByteArray).extract 0 (escN (c :: r)) ++ ⟨#[39]⟩ = ⟨(39 :: ((c :: r).take (escN (c :: r)) ++ [39])).toArray⟩ := by
        rw [ext_list]
        apply ByteArray.ext
        simp [ByteArray.data_append]
      rw [← hx] at HC
      have := fb_esc ⟨(c :: r).toArray⟩ (by rw [hl]; simp) (by rw [hl]; exact hs) w (by rw [hc0, bne, ← e1, hq]; rfl) (escN (c :: r)) (by rw [hl]; exact hle.1) _ HE HC
      refine this.mono fun e w' ⟨h1, h2⟩ => ⟨?_, h2⟩
      rw [h1]
      generalize rdM (39 :: ((c :: r).take (escN (c :: r)) ++ [39])) = Z at *
      obtain ⟨z, ok⟩ := Z
      cases ok
      · rfl
      · simp only [if_true]
        rw [u8_back z hr.1 hr.2, ofNat_back z hr.1 hr.2]
/-- The bytes that the inside of a text stands for, and whether they are some. -/
def unM : Nat → List UInt8 → List UInt8 × Bool
  | 0, s => ([], s.isEmpty)
  | f + 1, s => match s with
    | [] => ([], true)
    | c :: r => if (fbM (c :: r)).2.2 then ((fbM (c :: r)).1 :: (unM f ((c :: r).drop (fbM (c :: r)).2.1)).1, (unM f ((c :: r).drop (fbM (c :: r)).2.1)).2) else ([], false)
/-- No backslash stands at the end but one that another one escapes. -/
def wfQ : Bool → List UInt8 → Bool
  | e, [] => !e
  | true, _ :: r => wfQ false r
  | false, c :: r => wfQ (c == 92) r
theorem fbM_pos (s : List UInt8) (hne : s ≠ []) (hb : s.head? = some 92 → 2 ≤ s.length) : 1 ≤ (fbM s).2.1 ∧ (fbM s).2.1 ≤ s.length := by
  match s, hne with
  | c :: r, _ =>
    rw [fbM]
    split
    · rename_i h
      have hc : c = 92 := by simpa using h
      have := escN_le _ (hb (by rw [hc]; rfl))
      simp only
      omega
    · simp
theorem wfQ_head {s : List UInt8} (h : wfQ false s = true) : s.head? = some 92 → 2 ≤ s.length := by
  intro h1
  match s, h1 with
  | c :: r, h1 =>
    simp at h1
    subst h1
    match r, h with
    | [], h => simp [wfQ] at h
    | _ :: _, _ => simp
theorem wfQ_digs (b : Int) (hb : b = 16 ∨ b = 8) : ∀ (s : List UInt8) (k : Nat), k ≤ digN b s → wfQ false s = true → wfQ false (s.drop k) = true
  | s, 0, _, h => by simpa using h
  | [], k + 1, h1, h => by simpa using h
  | c :: r, k + 1, h1, h => by
    rw [digN] at h1
    split at h1
    · rename_i hd
      have hc : (c == 92) = false := by
        cases hq : c == 92
        · rfl
        · have : c = 92 := by simpa using hq
          subst this
          rcases hb with rfl | rfl <;> exact absurd hd (by decide)
      rw [wfQ, hc] at h
      rw [List.drop_succ_cons]
      exact wfQ_digs b hb r k (by omega) h
    · omega
theorem digN_take (b : Int) : ∀ (s : List UInt8) (k : Nat), digN b (s.take k) ≤ digN b s
  | [], k => by simp
  | c :: r, 0 => by simp [digN]
  | c :: r, k + 1 => by
    rw [List.take_succ_cons, digN, digN]
    have := digN_take b r k
    split <;> omega
theorem wfQ_fb (s : List UInt8) (h : wfQ false s = true) (hne : s ≠ []) : wfQ false (s.drop (fbM s).2.1) = true := by
  have hh := wfQ_head h
  match s, hne with
  | c :: r, _ =>
    rw [fbM]
    cases hq : c == 92
    · simp only [Bool.false_eq_true, if_false]
      rw [wfQ, hq] at h
      simpa using h
    · simp only [if_true]
      have hc : c = 92 := by simpa using hq
      rw [wfQ, hq] at h
      match r, h, hh (by rw [hc]; rfl) with
      | d :: r, h, _ =>
        have h2 : wfQ false r = true := h
        rw [escN]
        split
        · rw [Nat.add_comm, List.drop_succ_cons, List.drop_succ_cons]
          exact wfQ_digs 16 (.inl rfl) r _ (Nat.le_refl _) h2
        · rename_i hx
          rw [Nat.add_comm, List.drop_succ_cons]
          have h3 := digN_take 8 (d :: r) 3
          have h4 : digN 8 (d :: r) ≤ 1 + digN 8 r := by rw [digN]; split <;> omega
          generalize digN 8 ((d :: r).take 3) = D at *
          have h5 : max 1 D = (max 1 D - 1) + 1 := by omega
          rw [h5, List.drop_succ_cons]
          exact wfQ_digs 8 (.inr rfl) r _ (by omega) h2
theorem unM_more : ∀ (f g : Nat) (s : List UInt8), s.length ≤ f → s.length ≤ g → wfQ false s = true → unM f s = unM g s
  | 0, 0, s, _, _, _ => rfl
  | 0, g + 1, s, h, _, _ => by
    obtain rfl : s = [] := List.length_eq_zero_iff.1 (by omega)
    rfl
  | f + 1, 0, s, _, h, _ => by
    obtain rfl : s = [] := List.length_eq_zero_iff.1 (by omega)
    rfl
  | f + 1, g + 1, [], _, _, _ => rfl
  | f + 1, g + 1, c :: r, hf, hg, hw => by
    have hp := fbM_pos (c :: r) (by simp) (wfQ_head hw)
    have := unM_more f g ((c :: r).drop (fbM (c :: r)).2.1) (by simp at *; omega) (by simp at *; omega) (wfQ_fb _ hw (by simp))
    rw [unM, unM, this]
end Go.Proofs.YtmpkgjonbjpohaaGreatDoor
