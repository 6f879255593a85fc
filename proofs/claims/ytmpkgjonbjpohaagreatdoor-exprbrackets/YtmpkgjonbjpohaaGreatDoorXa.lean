/-
  Package lex: key words, signs, kinds, which words are right; a word in memory.
-/
import Derived.Test.YtmpkgjonbjpohaaGreatDoorSo
import Derived.Test.YtmpkgjonbjpohaaGreatDoorAv
namespace Go.Proofs.YtmpkgjonbjpohaaGreatDoor
open Go Go.RowKit
set_option linter.unusedVariables false
set_option linter.unusedSimpArgs false

/-- A word of whatever fields. -/
structure Wd where
  kind : Int
  s : List UInt8
  v : Int
  t : Int
  f : List UInt8
  line : Int
  deriving DecidableEq
def wdC (x : Wd) : List Value := [.int .i64 x.kind, .string ⟨x.s.toArray⟩, .int .i64 x.v, .int .i64 x.t, .string ⟨x.f.toArray⟩, .int .i64 x.line]
def wdV (x : Wd) : Value := .agg (wdC x).toArray
/-- Is a text a key word? -/
def keyM (s : List UInt8) : Bool := s == [99, 104, 97, 114] || s == [115, 104, 111, 114, 116] || s == [105, 110, 116] || s == [108, 111, 110, 103] || s == [115, 105, 103, 110, 101, 100] || s == [117, 110, 115, 105, 103, 110, 101, 100] || s == [118, 111, 105, 100] || s == [105, 102] || s == [101, 108, 115, 101] || s == [119, 104, 105, 108, 101] || s == [114, 101, 116, 117, 114, 110] || s == [98, 114, 101, 97, 107] || s == [99, 111, 110, 116, 105, 110, 117, 101] || s == [115, 116, 114, 117, 99, 116] || s == [117, 110, 105, 111, 110] || s == [101, 120, 116, 101, 114, 110]
set_option maxRecDepth 100000 in
set_option maxHeartbeats 16000000 in
theorem IsKey_any (s : List UInt8) (w : World) : Calls Tryz.prog 76 #[.string ⟨s.toArray⟩] w fun e w' => e = .returned (.bool (keyM s)) ∧ w' = w := by
  go_enter Tryz.func76, Tryz.ntmps76
  go_wp2
  all_goals go_ret
  all_goals (refine ⟨?_, rfl⟩; first | (simp [keyM, *]; done) | (simp_all [keyM]; done))
/-- The greatest number of a kind. -/
def grM (k : Int) : Int := if k == 5 then 2147483647 else if k == 6 then 4294967295 else if k == 7 then 9223372036854775807 else 18446744073709551615
set_option maxRecDepth 100000 in
set_option maxHeartbeats 4000000 in
theorem greatest_any (k : Int) (w : World) : Calls Tryz.prog 111 #[.int .i64 k] w fun e w' => e = .returned (.int .u64 (grM k)) ∧ w' = w := by
  cases h5 : k == 5 <;> cases h6 : k == 6 <;> cases h7 : k == 7
  all_goals (
    go_enter Tryz.func111, Tryz.ntmps111
    go_wp2
    go_ret
    refine ⟨?_, rfl⟩
    simp only [grM, h5, h6, h7]
    first | rfl | simp)
/-- Is a text a sign of the language? -/
def signM (s : List UInt8) : Bool := Tk.pn s && (s != [35] && s != [35, 35])
set_option maxRecDepth 100000 in
set_option maxHeartbeats 4000000 in
theorem isSign_any (s : List UInt8) (w : World) (hs : s.length ≤ 140737488355328) (hsg : Sg w) : Calls Tryz.prog 78 #[.string ⟨s.toArray⟩] w fun e w' => e = .returned (.bool (signM s)) ∧ w' = w := by
  have HP := hide (punct_any ⟨s.toArray⟩ w hsg (by show s.toArray.size ≤ maxLen; unfold maxLen; simp; omega))
  simp only [List.toList_toArray] at HP
  generalize hQ : Tk.pn s = Q at *
  cases Q
  all_goals (
    go_enter Tryz.func78, Tryz.ntmps78
    go_wp2_with (go_at_call 113; refine (unhide HP).mono ?_; rintro e w' ⟨rfl, hw'⟩; obtain rfl := hw'.symm)
    all_goals go_ret
    all_goals (refine ⟨?_, rfl⟩; first | (simp [signM, hQ, bne, *]; done) | (simp_all [signM, bne]; done)))
/-- Is a text spelt as a token of a kind? -/
def speltM (s : List UInt8) (k : Int) : Bool := match (Tk.lex [(1, s)]).1 with
  | [t] => decide (t.s = s) && ((t.kind : Int) == k)
  | _ => false
theorem oneV_is (s : List UInt8) (k : Int) : ∃ (t : Tk.T) (ok : Bool), oneV ⟨s.toArray⟩ = .tuple #[.agg #[.int .i64 (t.kind : Nat), .string ⟨t.s.toArray⟩, .string ⟨#[]⟩, .int .i64 t.line, .bool t.sp, .bool t.fi], .bool ok] ∧ speltM s k = (ok && ((t.kind : Int) == k)) := by
  have z : ∃ (t : Tk.T) (ok : Bool), Value.tuple #[.agg zeroT, .bool false] = .tuple #[.agg #[.int .i64 (t.kind : Nat), .string ⟨t.s.toArray⟩, .string ⟨#[]⟩, .int .i64 t.line, .bool t.sp, .bool t.fi], .bool ok] ∧ false = (ok && ((t.kind : Int) == k)) := ⟨⟨0, [], 0, false, false⟩, false, rfl, rfl⟩
  unfold oneV speltM lex1
  simp only [List.toList_toArray]
  generalize (Tk.lex [(1, s)]).1 = L
  match L with
  | [] => exact z
  | [t] =>
    by_cases h : t.s = s
    · simp only [h, if_true, decide_true, Bool.true_and]
      exact ⟨t, true, rfl, by simp⟩
    · simp only [h, if_false, decide_false, Bool.false_and]
      exact z
  | _ :: _ :: _ => exact z
set_option maxRecDepth 100000 in
set_option maxHeartbeats 4000000 in
theorem spelt_any (s : List UInt8) (k : Int) (w : World) (hs : s.length ≤ 140737488355328) (hw0 : 10 < w.heap.size) (hsg : Sg w) : Calls Tryz.prog 77 #[.string ⟨s.toArray⟩, .int .i64 k] w fun e w' => e = .returned (.bool (speltM s k)) ∧ Below w.heap.size w w' := by
  have HO := hide (One_any ⟨s.toArray⟩ w (by show s.toArray.size ≤ _; simp; omega) hw0 hsg)
  obtain ⟨t, ok, h1, h2⟩ := oneV_is s k
  rw [h1] at HO
  rw [h2]
  clear h1 h2 hsg
  cases ok
  · go_enter Tryz.func77, Tryz.ntmps77
    go_wp2_with (go_at_call 112; refine (unhide HO).mono ?_; rintro e W1 ⟨rfl, hb1⟩)
    go_ret
    exact ⟨rfl, hb1.alloc hb1.size _⟩
  · go_enter Tryz.func77, Tryz.ntmps77
    go_wp2_with (go_at_call 112; refine (unhide HO).mono ?_; rintro e W1 ⟨rfl, hb1⟩)
    go_ret
    exact ⟨by simp, hb1.alloc hb1.size _⟩
/-- Does a number lie in a kind? -/
def rIntM (v k : Int) : Bool := (decide (5 ≤ k) && decide (k ≤ 8)) && ((k == 5 && (decide (-128 ≤ v) && decide (v < 0))) || decide (IntKind.u64.wrap v ≤ grM k))
set_option maxRecDepth 100000 in
set_option maxHeartbeats 8000000 in
theorem rightInt_any (v k : Int) (w : World) : Calls Tryz.prog 75 #[.int .i64 v, .int .i64 k] w fun e w' => e = .returned (.bool (rIntM v k)) ∧ w' = w := by
  have HG := hide (fun W => greatest_any k W)
  unfold rIntM
  generalize grM k = G at *
  generalize hQ : decide (IntKind.u64.wrap v ≤ G) = Q
  by_cases h5 : k < 5
  · have i5 : decide (5 ≤ k) = false := by simp; omega
    rw [i5]
    go_enter Tryz.func75, Tryz.ntmps75
    go_wp2
    go_ret
    exact ⟨rfl, rfl⟩
  · by_cases h8 : 8 < k
    · have i5 : decide (k ≤ 8) = false := by simp; omega
      rw [i5, Bool.and_false]
      go_enter Tryz.func75, Tryz.ntmps75
      go_wp2
      go_ret
      exact ⟨rfl, rfl⟩
    · have i5 : decide (5 ≤ k) = true := by simp; omega
      have i8 : decide (k ≤ 8) = true := by simp; omega
      rw [i5, i8, Bool.true_and, Bool.true_and]
      clear i5 i8
      cases e5 : k == 5 <;> cases e1 : decide (-128 ≤ v) <;> cases e2 : decide (v < 0)
      all_goals (
        go_enter Tryz.func75, Tryz.ntmps75
        go_wp2_with (go_at_call 111; refine (unhide HG _).mono ?_; rintro e w' ⟨rfl, hw'⟩; obtain rfl := hw'.symm)
        go_ret
        first | exact ⟨rfl, rfl⟩ | exact ⟨by simp [← hQ], rfl⟩)
/-- Is a word one that comes of tokens? -/
def rightM (x : Wd) : Bool :=
  if x.kind == 3 then x.s == [] && rIntM x.v x.t
  else if x.v != 0 || x.t != 0 then false
  else if x.kind == 1 then keyM x.s
  else if x.kind == 2 then !keyM x.s && speltM x.s 1
  else if x.kind == 4 then decide (x.s.length ≤ 4096)
  else if x.kind == 5 then signM x.s
  else false
/-- A word in its box. -/
def WBox (W : World) (M : Nat) (x : Wd) : Prop := W.heap[M]? = some (.cells (wdC x).toArray 42 (0, 0))
theorem WBox.six {W : World} {M : Nat} {x : Wd} (h : WBox W M x) : W.cell? ⟨M, 0, none⟩ = some (.int .i64 x.kind) ∧ W.cell? ⟨M, 1, none⟩ = some (.string ⟨x.s.toArray⟩) ∧ W.cell? ⟨M, 2, none⟩ = some (.int .i64 x.v) ∧
    W.cell? ⟨M, 3, none⟩ = some (.int .i64 x.t) ∧ W.cell? ⟨M, 4, none⟩ = some (.string ⟨x.f.toArray⟩) ∧ W.cell? ⟨M, 5, none⟩ = some (.int .i64 x.line) := by
  refine ⟨?_, ?_, ?_, ?_, ?_, ?_⟩ <;> (rw [World.cell?, show W.heap[M]? = _ from h]; rfl)
theorem WBox.frozen {W : World} {M : Nat} {x : Wd} (h : WBox W M x) (i : Nat) : W.frozen? ⟨M, i, none⟩ = false := by
  simp [World.frozen?, show W.heap[M]? = _ from h]
theorem WBox.lt {W : World} {M : Nat} {x : Wd} (h : WBox W M x) : M < W.heap.size := (Array.getElem?_eq_some_iff.1 h).1
theorem WBox.below {W W' : World} {n M : Nat} {x : Wd} (h : WBox W M x) (hb : Below n W W') (hn : M < n) : WBox W' M x := (hb.block M hn).trans h
theorem WBox.new (w : World) (x : Wd) : WBox (w.alloc (.cells (wdC x).toArray 42)) w.heap.size x := World.alloc_heap_new w _
theorem len_toArray (s : List UInt8) : (⟨s.toArray⟩ : ByteArray).size = s.length := by show s.toArray.size = _; simp
set_option maxRecDepth 100000 in
set_option maxHeartbeats 8000000 in
theorem Right_any (x : Wd) (w : World) (hs : x.s.length ≤ 140737488355328) (hw0 : 10 < w.heap.size) (hsg : Sg w) :
    Calls Tryz.prog 50 #[wdV x] w fun e w' => e = .returned (.bool (rightM x)) ∧ Below w.heap.size w w' := by
  obtain ⟨k, s, v, t, f, line⟩ := x
  have hb0 := below_new w (.cells (wdC ⟨k, s, v, t, f, line⟩).toArray 42)
  have hsg0 := Sg.below hsg hb0 hw0
  have HSG := hide hsg0
  have hz0 : w.heap.size ≤ (w.alloc (.cells (wdC ⟨k, s, v, t, f, line⟩).toArray 42)).heap.size := hb0.size
  have HSP := hide (spelt_any s 1 _ hs (Nat.lt_of_lt_of_le hw0 hz0) hsg0)
  have HSI := hide (isSign_any s _ hs hsg0)
  have HB := hide hb0
  have hl := len_toArray s
  unfold rightM
  simp only at *
  have HK := hide (IsKey_any s)
  have HR := hide (rightInt_any v t)
  clear hb0 hsg hsg0 hz0 hw0 HSG
  simp only [wdV, wdC] at *
  generalize speltM s 1 = SP at *
  generalize signM s = SI at *
  generalize keyM s = KE at *
  generalize rIntM v t = RI at *
  cases k3 : k == 3
  · cases v0 : v != 0
    · cases t0 : t != 0
      · cases k1 : k == 1
        · cases k2 : k == 2
          · cases k4 : k == 4
            · cases k5 : k == 5
              · go_enter Tryz.func50, Tryz.ntmps50
                go_wp2
                go_ret
                exact ⟨by simp, unhide HB⟩
              · go_enter Tryz.func50, Tryz.ntmps50
                go_wp2_with (go_at_call 78; refine (unhide HSI).mono ?_; rintro e w' ⟨rfl, hw'⟩; obtain rfl := hw'.symm)
                go_ret
                exact ⟨by simp, unhide HB⟩
            · go_enter Tryz.func50, Tryz.ntmps50
              go_wp2
              go_ret
              exact ⟨by simp [hl]; omega, unhide HB⟩
          · cases KE
            · go_enter Tryz.func50, Tryz.ntmps50
              go_wp2_with (first
                | (go_at_call 76; refine (unhide HK _).mono ?_; rintro e w' ⟨rfl, hw'⟩; obtain rfl := hw'.symm)
                | (go_at_call 77; refine (unhide HSP).mono ?_; rintro e W1 ⟨rfl, hb1⟩))
              go_ret
              exact ⟨by simp, (unhide HB).trans (hb1.mono (unhide HB).size)⟩
            · go_enter Tryz.func50, Tryz.ntmps50
              go_wp2_with (go_at_call 76; refine (unhide HK _).mono ?_; rintro e w' ⟨rfl, hw'⟩; obtain rfl := hw'.symm)
              go_ret
              exact ⟨by simp, unhide HB⟩
        · go_enter Tryz.func50, Tryz.ntmps50
          go_wp2_with (go_at_call 76; refine (unhide HK _).mono ?_; rintro e w' ⟨rfl, hw'⟩; obtain rfl := hw'.symm)
          go_ret
          exact ⟨by simp, unhide HB⟩
      · go_enter Tryz.func50, Tryz.ntmps50
        go_wp2
        go_ret
        exact ⟨by simp, unhide HB⟩
    · go_enter Tryz.func50, Tryz.ntmps50
      go_wp2
      go_ret
      exact ⟨by simp, unhide HB⟩
  · by_cases hn : s = []
    · subst hn
      go_enter Tryz.func50, Tryz.ntmps50
      go_wp2_with (go_at_call 75; refine (unhide HR _).mono ?_; rintro e w' ⟨rfl, hw'⟩; obtain rfl := hw'.symm)
      go_ret
      exact ⟨by simp, unhide HB⟩
    · have hn' : (s == []) = false := by simpa using hn
      go_enter Tryz.func50, Tryz.ntmps50
      go_wp2
      go_ret
      exact ⟨by simp [hn'], unhide HB⟩
end Go.Proofs.YtmpkgjonbjpohaaGreatDoor
