/-
  Package cond: operand; Eval with it.
  burinlaw05: lexed, shown; Eval of whatever tokens.
-/
import Derived.Test.YtfghfohlcofdpaaGreatDoorDa
import Derived.BigRegion
namespace Go.Proofs.YtfghfohlcofdpaaGreatDoor
open Go Go.RowKit
set_option linter.unusedVariables false
set_option linter.unusedSimpArgs false

theorem dvM_pos (c : UInt8) : 0 ≤ dvM (c.toNat : Int) := by
  unfold dvM
  split
  · omega
  · split <;> omega
theorem puM_range (base cut : Int) (hb : 0 ≤ base) : ∀ (l : List UInt8) (a : Int), 0 ≤ a → a < 18446744073709551616 → 0 ≤ (puM base cut a l).1 ∧ (puM base cut a l).1 < 18446744073709551616
  | [], a, h0, h1 => ⟨h0, h1⟩
  | c :: r, a, h0, h1 => by
    have hd := dvM_pos c
    have hm : 0 ≤ a * base := Int.mul_nonneg h0 hb
    rw [puM]
    split
    · exact ⟨by decide, by decide⟩
    · split
      · exact ⟨by decide, by decide⟩
      · split
        · exact ⟨by decide, by decide⟩
        · exact puM_range base cut hb r _ (by omega) (by omega)
theorem puS_range (base cut : Int) (hb : 0 ≤ base) (t : List UInt8) : 0 ≤ (puS base cut t).1 ∧ (puS base cut t).1 < 18446744073709551616 := by
  unfold puS
  split
  · exact ⟨by decide, by decide⟩
  · exact puM_range base cut hb t 0 (by decide) (by decide)
theorem numM_ok (s : List UInt8) : okV (numM s).1 := by
  unfold numM okV
  simp only
  split
  · exact ⟨by decide, by decide⟩
  · exact puS_range _ _ (by rcases baseM_is s with h | h | h <;> rw [h] <;> decide) _
/-- What a token is worth as an operand. -/
def opT (t : Gt) : Vl × Bool :=
  if t.kind == 1 then (⟨0, false⟩, true)
  else if t.kind == 3 then (if (rdM t.s).2 then (⟨IntKind.u64.wrap (wrap64 (IntKind.i8.wrap (rdM t.s).1)), false⟩, true) else (⟨0, false⟩, false))
  else if t.kind == 2 then ((numM t.s).1, (numM t.s).2 && ((numM t.s).1.u || decide ((numM t.s).1.b < 9223372036854775808)))
  else (⟨0, false⟩, false)
theorem opT_ok (t : Gt) : okV (opT t).1 := by
  unfold opT
  have h0 : okV ⟨0, false⟩ := ⟨by decide, by decide⟩
  repeat' split
  · exact h0
  · exact wrapU _
  · exact h0
  · exact numM_ok _
  · exact h0
set_option maxRecDepth 100000 in
set_option maxHeartbeats 4000000 in
theorem operand_any (t : Gt) (hs : t.s.length ≤ 140737488355328) (w : World) (hw : 2 < w.heap.size) (hg : Eg w) :
    Calls Tryz.prog 14 #[t.v] w fun e w' => e = .returned (.tuple #[(opT t).1.v, .bool (opT t).2]) ∧ Below w.heap.size w w' := by
  obtain ⟨kind, s, f, line, sp, fi⟩ := t
  simp only at hs
  have hb1 := below_new w (.cells #[.int .i64 kind, .string ⟨s.toArray⟩, .string ⟨f.toArray⟩, .int .i64 line, .bool sp, .bool fi] 50)
  have hz1 : (w.alloc (.cells #[.int .i64 kind, .string ⟨s.toArray⟩, .string ⟨f.toArray⟩, .int .i64 line, .bool sp, .bool fi] 50)).heap.size = w.heap.size + 1 := by simp
  have hb2 := below_new (w.alloc (.cells #[.int .i64 kind, .string ⟨s.toArray⟩, .string ⟨f.toArray⟩, .int .i64 line, .bool sp, .bool fi] 50)) (.cells #[.int .u64 0, .bool false] 37)
  have hn2 : VBox ((w.alloc (.cells #[.int .i64 kind, .string ⟨s.toArray⟩, .string ⟨f.toArray⟩, .int .i64 line, .bool sp, .bool fi] 50)).alloc (.cells #[.int .u64 0, .bool false] 37)) (w.heap.size + 1) (.int .u64 0) false := by
    have := World.alloc_heap_new (w.alloc (.cells #[.int .i64 kind, .string ⟨s.toArray⟩, .string ⟨f.toArray⟩, .int .i64 line, .bool sp, .bool fi] 50)) (.cells #[.int .u64 0, .bool false] 37)
    rwa [hz1] at this
  have HV2 := hide hn2
  have hbb := hb1.trans (hb2.mono (by omega))
  have HB2 := hide hbb
  have hz2 : ((w.alloc (.cells #[.int .i64 kind, .string ⟨s.toArray⟩, .string ⟨f.toArray⟩, .int .i64 line, .bool sp, .bool fi] 50)).alloc (.cells #[.int .u64 0, .bool false] 37)).heap.size = w.heap.size + 1 + 1 := by simp
  have HC := hide (Char_any s hs _ (Nat.lt_of_lt_of_le hw hbb.size) (hg.below hbb hw))
  have HRN := hide (readNumber_any s hs _ (Nat.lt_of_lt_of_le hw hbb.size) (hg.below hbb hw))
  have HR : Hid (opT ⟨kind, s, f, line, sp, fi⟩ = if kind == 1 then (⟨0, false⟩, true)
    else if kind == 3 then (if (rdM s).2 then (⟨IntKind.u64.wrap (wrap64 (IntKind.i8.wrap (rdM s).1)), false⟩, true) else (⟨0, false⟩, false))
    else if kind == 2 then ((numM s).1, (numM s).2 && ((numM s).1.u || decide ((numM s).1.b < 9223372036854775808)))
    else (⟨0, false⟩, false)) := rfl
  generalize opT ⟨kind, s, f, line, sp, fi⟩ = R at *
  generalize rdM s = rd at *
  generalize numM s = nu at *
  obtain ⟨r1, rok⟩ := rd
  obtain ⟨⟨nb, un⟩, nok⟩ := nu
  simp only [Gt.v, charV, Vl.v] at *
  clear hb1 hb2 hbb hn2 hg hs
  cases h1 : kind == 1
  · rw [h1] at HR
    simp only [Bool.false_eq_true, if_false] at HR
    cases h3 : kind == 3
    · rw [h3] at HR
      simp only [Bool.false_eq_true, if_false] at HR
      cases h2 : kind == 2
      · rw [h2] at HR
        simp only [Bool.false_eq_true, if_false] at HR
        obtain rfl := unhide HR
        obtain ⟨q0, q1⟩ := (unhide HV2).two
        go_enter Tryz.func14, Tryz.ntmps14
        go_wp2
        refine bodyPost_ret (res_vt (f := Tryz.f14) rfl rfl (unhide HV2) rfl) rfl ⟨rfl, unhide HB2⟩
      · rw [h2] at HR
        simp only [if_true] at HR
        obtain rfl := unhide HR
        go_enter Tryz.func14, Tryz.ntmps14
        go_wp2_with fail
        refine (unhide HRN).mono ?_
        rintro e W3 ⟨rfl, hb3⟩
        have hv3 := (unhide HV2).below hb3 (unhide HV2).lt
        have HB3 := hide ((unhide HB2).trans (hb3.mono (unhide HB2).size))
        have hlt := hv3.lt
        have hp3 := hv3.put (.int .u64 nb) un
        have HVF : Hid (VBox ((put2 W3 (w.heap.size + 1) (.int .u64 nb) un).alloc (.cells #[.int .u64 nb, .bool un] 37)).drew (w.heap.size + 1) (.int .u64 nb) un) := hp3.below (drewB (below_new _ _)) hp3.lt
        have HBF : Hid (Below w.heap.size w ((put2 W3 (w.heap.size + 1) (.int .u64 nb) un).alloc (.cells #[.int .u64 nb, .bool un] 37)).drew) :=
          drewB ((below_put2 (unhide HB3) (by omega) _ _).alloc (Nat.le_of_lt (Nat.lt_of_le_of_lt (Nat.le_succ _) hp3.lt)) _)
        obtain ⟨q0, q1⟩ := hv3.two
        have y0 := hv3.frozen 0
        have y1 := hv3.frozen 1
        have hne : w.heap.size + 1 ≠ W3.heap.size := by omega
        clear hv3 hb3 HC HRN HV2 HB2 HR hp3 HB3
        cases nok <;> cases un <;> cases hlb : decide (nb < 9223372036854775808)
        all_goals (
          go_upto_region 9 with fail
          go_region
          all_goals (
            go_wp2
            refine bodyPost_ret (res_vt (f := Tryz.f14) rfl rfl (unhide HVF) rfl) rfl ⟨?_, unhide HBF⟩
            first | rfl | (simp [hlb]; done) | (simp_all; done)))
    · rw [h3] at HR
      simp only [if_true] at HR
      cases rok
      · simp only [Bool.false_eq_true, if_false] at HR HC
        obtain rfl := unhide HR
        go_enter Tryz.func14, Tryz.ntmps14
        go_wp2_with fail
        refine (unhide HC).mono ?_
        rintro e W3 ⟨rfl, hb3⟩
        have hv3 := (unhide HV2).below hb3 (unhide HV2).lt
        have HB3 := hide ((unhide HB2).trans (hb3.mono (unhide HB2).size))
        obtain ⟨q0, q1⟩ := hv3.two
        have y0 := hv3.frozen 0
        have y1 := hv3.frozen 1
        have HV3 := hide hv3
        clear hv3 hb3 HC HRN
        go_wp2
        refine bodyPost_ret (res_vt (f := Tryz.f14) rfl rfl ((unhide HV3).put _ _) rfl) rfl ⟨rfl, below_put2 (unhide HB3) (by omega) _ _⟩
      · simp only [if_true] at HR HC
        obtain rfl := unhide HR
        go_enter Tryz.func14, Tryz.ntmps14
        go_wp2_with fail
        refine (unhide HC).mono ?_
        rintro e W3 ⟨rfl, hb3⟩
        have hv3 := (unhide HV2).below hb3 (unhide HV2).lt
        have HB3 := hide ((unhide HB2).trans (hb3.mono (unhide HB2).size))
        obtain ⟨q0, q1⟩ := hv3.two
        have y0 := hv3.frozen 0
        have y1 := hv3.frozen 1
        have HV3 := hide hv3
        clear hv3 hb3 HC HRN
        go_wp2
        refine bodyPost_ret (res_vt (f := Tryz.f14) rfl rfl ((unhide HV3).put _ _) rfl) rfl ⟨rfl, below_put2 (unhide HB3) (by omega) _ _⟩
  · rw [h1] at HR
    simp only [if_true] at HR
    obtain rfl := unhide HR
    obtain ⟨q0, q1⟩ := (unhide HV2).two
    go_enter Tryz.func14, Tryz.ntmps14
    go_wp2
    refine bodyPost_ret (res_vt (f := Tryz.f14) rfl rfl (unhide HV2) rfl) rfl ⟨rfl, unhide HB2⟩
end Go.Proofs.YtfghfohlcofdpaaGreatDoor
namespace Go.Proofs.YtfghfohlcofdpaaGreatDoor
open Go Go.RowKit
set_option linter.unusedVariables false
set_option linter.unusedSimpArgs false

/-- The package variables that are read: the two errors, the table of signs. -/
structure Gl (w : World) : Prop where
  size : 2 < w.heap.size
  eg : Eg w
  sg : Sg w
theorem Gl.below {w w' : World} {B : Nat} (h : Gl w) (hb : Below B w w') (hB : 2 < B) : Gl w' :=
  ⟨Nat.lt_of_lt_of_le h.size hb.size, h.eg.below hb (by omega), Sg.below h.sg hb hB⟩
theorem Gl.next {w w' : World} (h : Gl w) (hb : Below w.heap.size w w') : Gl w' := h.below hb h.size

/-- What Eval tells of tokens. -/
def evM (l : List Gt) : Vl × Bool := reckM opT l [] false none
theorem EvalT_any (p : Option Addr) (cap : Nat) (l : List Gt) (w : World) (hl : l.length ≤ 1000000) (hls : ∀ t ∈ l, t.s.length ≤ 140737488355328) (hT : TkG w.heap.size w (.slice p l.length cap) l) (hg : Gl w) :
    Calls Tryz.prog 6 #[.slice p l.length cap] w fun e w' => e = .returned (evalV (evM l)) ∧ Below w.heap.size w w' :=
  Eval_any opT p cap l w hl hT (fun t ht W hb => ⟨opT_ok t, operand_any t (hls t ht) W (by have := (hg.next hb).size; omega) (hg.next hb).eg⟩)
set_option maxRecDepth 100000 in
set_option maxHeartbeats 4000000 in
theorem lexed_any (s : ByteArray) (w : World) (hs : s.size ≤ 140737488355328) (hg : Gl w) :
    Calls Tryz.prog 9 #[.string s] w fun e w' => ∃ p cap, e = .returned (.slice p ((lex1 s).1.map Tk.T.g).length cap) ∧ TkG w'.heap.size w' (.slice p ((lex1 s).1.map Tk.T.g).length cap) ((lex1 s).1.map Tk.T.g) ∧ Below w.heap.size w w' := by
  have HLX := hide (Lex_one s w hs hg.size hg.sg)
  have hb1 : Below w.heap.size w (w.alloc (.cells #[.int .i64 1, .string s] 32)) := (Below.refl _ w).alloc (Nat.le_refl _) _
  have HB := hide hb1
  clear hb1
  generalize lex1 s = R at *
  go_enter Tryz.func9, Tryz.ntmps9
  go_wp2_with fail
  refine (unhide HLX).mono ?_
  rintro e W1 ⟨v', rfl, hT, hb1⟩
  have hb2 : Below w.heap.size w W1 := (unhide HB).trans (hb1.mono (by omega))
  clear HLX HB
  go_wp2
  go_ret
  obtain ⟨p, cap, rfl, hc⟩ := hT.toG
  exact ⟨p, cap, rfl, hT.toG, hb2⟩
/-- A line's tokens. -/
def lx (s : List UInt8) : List Gt := (Tk.lex [(1, s)]).1.map Tk.T.g
theorem lx_len (s : List UInt8) : (lx s).length ≤ 1000000 := by
  have := Tk.lex_len [(1, s)]
  unfold lx; simp; omega
theorem lx_short (s : List UInt8) : ∀ t ∈ lx s, t.s.length ≤ s.length := by
  intro t ht
  obtain ⟨x, hx, rfl⟩ := List.mem_map.1 ht
  exact (Tk.lex_infix hx).length_le
theorem lexedL_any (s : List UInt8) (w : World) (hs : s.length ≤ 140737488355328) (hg : Gl w) :
    Calls Tryz.prog 9 #[.string ⟨s.toArray⟩] w fun e w' => ∃ p cap, e = .returned (.slice p (lx s).length cap) ∧ TkG w'.heap.size w' (.slice p (lx s).length cap) (lx s) ∧ Below w.heap.size w w' :=
  lexed_any ⟨s.toArray⟩ w (by show s.toArray.size ≤ _; simpa using hs) hg

def sh1 : List UInt8 := [49, 32, 43, 32, 50, 32, 42, 32, 51, 32, 61, 61, 32, 55, 32, 38, 38, 32, 33, 88]
def sh2 : List UInt8 := [45, 49, 32, 62, 32, 48, 117, 32, 63, 32, 53, 32, 58, 32, 49, 32, 47, 32, 48]
theorem sh1_is : evM (lx sh1) = (⟨1, false⟩, true) := by kernel_rfl
theorem sh2_is : evM (lx sh2) = (⟨5, false⟩, true) := by kernel_rfl
/-- lexed, and Eval of it, for a text that is told. -/
theorem evalLex (s : List UInt8) (hs : s.length ≤ 140737488355328) {p : Option Addr} {cap : Nat} {W : World} (hT : TkG W.heap.size W (.slice p (lx s).length cap) (lx s)) (hg : Gl W) :
    Calls Tryz.prog 6 #[.slice p (lx s).length cap] W fun e w' => e = .returned (evalV (evM (lx s))) ∧ Below W.heap.size W w' :=
  EvalT_any p cap (lx s) W (lx_len s) (fun t ht => Nat.le_trans (lx_short s t ht) hs) hT hg
set_option maxRecDepth 100000 in
set_option maxHeartbeats 4000000 in
theorem shown_any (w : World) (hg : Gl w) : Calls Tryz.prog 5 #[] w fun e w' => e = .returned (.bool true) ∧ Below w.heap.size w w' := by
  have HG := hide hg
  have HL1 := hide (lexedL_any sh1 w (by decide) hg)
  simp only [sh1] at HL1
  go_enter Tryz.func5, Tryz.ntmps5
  go_wp2_with fail
  refine (unhide HL1).mono ?_
  rintro e W1 ⟨p1, c1, rfl, hT1, hb1⟩
  have HE1 := hide (evalLex sh1 (by decide) hT1 (hg.next hb1))
  rw [sh1_is] at HE1
  have HB1 := hide hb1
  simp only [evalV, sh1, if_true] at HE1
  generalize (lx [49, 32, 43, 32, 50, 32, 42, 32, 51, 32, 61, 61, 32, 55, 32, 38, 38, 32, 33, 88]).length = n1 at *
  clear hT1 HL1 hb1
  go_wp2_with fail
  refine (unhide HE1).mono ?_
  rintro e W2 ⟨rfl, hb2⟩
  have hb2' := (unhide HB1).trans (hb2.mono (unhide HB1).size)
  have HB2 := hide hb2'
  have HL2 := hide (lexedL_any sh2 W2 (by decide) (hg.next hb2'))
  simp only [sh2] at HL2
  clear hb2 hb2' HE1 HB1
  go_wp2_with fail
  refine (unhide HL2).mono ?_
  rintro e W3 ⟨p3, c3, rfl, hT3, hb3⟩
  have hb3' := (unhide HB2).trans (hb3.mono (unhide HB2).size)
  have HB3 := hide hb3'
  have HE3 := hide (evalLex sh2 (by decide) hT3 (hg.next hb3'))
  rw [sh2_is] at HE3
  simp only [evalV, sh2, if_true] at HE3
  generalize (lx [45, 49, 32, 62, 32, 48, 117, 32, 63, 32, 53, 32, 58, 32, 49, 32, 47, 32, 48]).length = n3 at *
  clear hT3 HL2 hb3 hb3' HB2
  go_wp2_with fail
  refine (unhide HE3).mono ?_
  rintro e W4 ⟨rfl, hb4⟩
  have HB4 := hide ((unhide HB3).trans (hb4.mono (unhide HB3).size))
  clear hb4 HE3 HB3
  go_wp2
  go_ret
  exact ⟨rfl, unhide HB4⟩
end Go.Proofs.YtfghfohlcofdpaaGreatDoor
