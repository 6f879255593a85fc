/-
  Package expr: every call of the reader: by induction over words left.
  Package expr: level, newReader.
  Package expr: line.
-/
import Derived.Test.YtmpkgjonbjpohaaGreatDoorRz
import Derived.Laws.EntriesVeiled
import Derived.Deep.QuietTactic
import Derived.BigQuiet
namespace Go.Proofs.YtmpkgjonbjpohaaGreatDoor
open Go Go.RowKit
set_option linter.unusedVariables false
set_option linter.unusedSimpArgs false

theorem Cx.le {R : Nat} {wv : Value} {ws : List Wd} {tw : Value} {W : World} {p : Nat} {cr : List Int} (h : Cx R wv ws tw W p cr) : p ≤ ws.length := by
  obtain ⟨_, _, _, h, _⟩ := h
  exact h
/-- All that is read from a place on. -/
structure OkAll (R : Nat) (wv : Value) (ws : List Wd) (tw : Value) (p : Nat) : Prop where
  o : OkO R wv ws tw p
  e : OkE R wv ws tw p
  k : OkK R wv ws tw p
  n : OkN R wv ws tw p
  a : OkA R wv ws tw p
  v : ∀ i, OkV R wv ws tw i p
theorem okAll (R : Nat) (wv : Value) (ws : List Wd) (tw : Value) (hl : ws.length ≤ 1000000) (hws : ∀ y ∈ ws, y.s.length ≤ 140737488355328) : ∀ (d p : Nat), ws.length < p + d → OkAll R wv ws tw p
  | 0, p, h => ⟨fun W cr hC => absurd hC.le (by omega), fun W cr hC => absurd hC.le (by omega), fun W cr line hC => absurd hC.le (by omega), fun W cr hC => absurd hC.le (by omega), fun W cr hC => absurd hC.le (by omega), fun i W cr a b c fv hC => absurd hC.le (by omega)⟩
  | d + 1, p, h => by
    have ih : ∀ p', p < p' → OkAll R wv ws tw p' := fun p' hp => okAll R wv ws tw hl hws d p' (by omega)
    have hn : OkN R wv ws tw p := alone_any R wv ws tw hl hws p (fun p' hp => (ih p' hp).a)
    have hk : OkK R wv ws tw p := cast_any R wv ws tw hl hws p (fun p' hp => (ih p' hp).o)
    have ho : OkO R wv ws tw p := one_any R wv ws tw hl hws p (fun p' hp => (ih p' hp).o) (fun p' hp => (ih p' hp).e) (fun p' hp => (ih p' hp).k) hn
    have at' : ∀ {A : Nat → Prop}, A p → (∀ p', p < p' → A p') → ∀ p', p ≤ p' → A p' := fun h0 h1 p' hp => by
      rcases Nat.lt_or_eq_of_le hp with hlt | rfl
      · exact h1 p' hlt
      · exact h0
    have hv : ∀ i, OkV R wv ws tw i p := fun i => by
      induction i with
      | zero => exact level0_any R wv ws tw hl hws p (at' ho fun p' hp => (ih p' hp).o)
      | succ j hj => exact levelS_any R wv ws tw hl hws p j (at' hj fun p' hp => (ih p' hp).v j)
    have he : OkE R wv ws tw p := expression_any R wv ws tw hl hws p (hv 9) (fun p' hp => (ih p' hp).e)
    exact ⟨ho, he, hk, hn, arguments_any R wv ws tw hl hws p (at' he fun p' hp => (ih p' hp).e), hv⟩
/-- An expression is read as 'gM' reads it. -/
theorem expr_read (R : Nat) (wv : Value) (ws : List Wd) (tw : Value) (hl : ws.length ≤ 1000000) (hws : ∀ y ∈ ws, y.s.length ≤ 140737488355328) (p : Nat) : OkE R wv ws tw p := (okAll R wv ws tw hl hws (ws.length + 1) p (by omega)).e
end Go.Proofs.YtmpkgjonbjpohaaGreatDoor
namespace Go.Proofs.YtmpkgjonbjpohaaGreatDoor
open Go Go.RowKit
set_option linter.unusedVariables false
set_option linter.unusedSimpArgs false

theorem LvC.func {W : World} {R : Nat} : ∀ {i : Nat} {fv : Value}, LvC W R i fv → ∃ f xs ys, fv = .func f xs ys
  | 0, _, h => ⟨_, _, _, h⟩
  | _ + 1, _, h => by
    obtain ⟨_, _, _, _, _, _, h0, _⟩ := h
    exact ⟨_, _, _, h0⟩
set_option maxRecDepth 100000 in
set_option maxHeartbeats 4000000 in
theorem level_any (R i g c : Nat) (fv : Value) (w : World) (h : LvC w R i fv) (hb : Bk w g 9 (strA (sgnL (i + 1)))) (hg : R < g) :
    Calls Tryz.prog 63 #[.pointer (some ⟨R, 0, none⟩), fv, .slice (some ⟨g, 0, none⟩) (sgnL (i + 1)).length c] w fun e w' => ∃ v, e = .returned v ∧ LvC w' R (i + 1) v ∧ Below w.heap.size w w' := by
  obtain ⟨fn, xs, ys, rfl⟩ := h.func
  have HH := veil h
  have HB := veil hb
  have hgl := hb.lt
  clear h hb
  have hbe : Below w.heap.size w (((w.alloc (.cells #[.pointer (some ⟨R, 0, none⟩)] 62)).alloc (.cells #[.func fn xs ys] 67)).alloc (.cells #[.slice (some ⟨g, 0, none⟩) (sgnL (i + 1)).length c] 91)) := (((Below.refl _ w).alloc (Nat.le_refl _) _).alloc (by simp) _).alloc (by simp; omega) _
  have k1 : Bk (((w.alloc (.cells #[.pointer (some ⟨R, 0, none⟩)] 62)).alloc (.cells #[.func fn xs ys] 67)).alloc (.cells #[.slice (some ⟨g, 0, none⟩) (sgnL (i + 1)).length c] 91)) (w.heap.size + 1) 67 #[.func fn xs ys] := by
    have := Bk.new (w.alloc (.cells #[.pointer (some ⟨R, 0, none⟩)] 62)) 67 #[.func fn xs ys]
    rw [World.size_alloc] at this
    exact this.alloc _
  have k2 : Bk (((w.alloc (.cells #[.pointer (some ⟨R, 0, none⟩)] 62)).alloc (.cells #[.func fn xs ys] 67)).alloc (.cells #[.slice (some ⟨g, 0, none⟩) (sgnL (i + 1)).length c] 91)) (w.heap.size + 1 + 1) 91 #[.slice (some ⟨g, 0, none⟩) (sgnL (i + 1)).length c] := by
    have := Bk.new ((w.alloc (.cells #[.pointer (some ⟨R, 0, none⟩)] 62)).alloc (.cells #[.func fn xs ys] 67)) 91 #[.slice (some ⟨g, 0, none⟩) (sgnL (i + 1)).length c]
    rw [World.size_alloc, World.size_alloc] at this
    exact this
  have k0 := ((Bk.new w 62 #[.pointer (some ⟨R, 0, none⟩)]).alloc (.cells #[.func fn xs ys] 67)).alloc (.cells #[.slice (some ⟨g, 0, none⟩) (sgnL (i + 1)).length c] 91)
  have hr : LvC (((w.alloc (.cells #[.pointer (some ⟨R, 0, none⟩)] 62)).alloc (.cells #[.func fn xs ys] 67)).alloc (.cells #[.slice (some ⟨g, 0, none⟩) (sgnL (i + 1)).length c] 91)) R (i + 1) (.func (.func 94) #[] #[.pointer (some ⟨w.heap.size + 1, 0, none⟩), .pointer (some ⟨w.heap.size + 1 + 1, 0, none⟩), .pointer (some ⟨w.heap.size, 0, none⟩)]) := ⟨w.heap.size + 1, w.heap.size + 1 + 1, w.heap.size, .func fn xs ys, g, c, rfl, ⟨by omega, by omega, by omega, hg⟩, k1, LvC.fr (FrE.below hbe (by omega)) i _ (unveil HH), k2, k0, (unveil HB).below hbe⟩
  have HRR := veil (And.intro hr hbe)
  clear k0 k1 k2 hr hbe
  go_enter Tryz.func63, Tryz.ntmps63
  go_wp2
  go_ret
  exact ⟨_, rfl, (unveil HRR).1, (unveil HRR).2⟩
theorem RdX.two {W : World} {R : Nat} {wv : Value} {ws : List Wd} {tw crv : Value} {p : Nat} {x : Wd} {cr : List Int} (h : RdX W R wv ws tw crv p x cr) (v : Value) : RdX (W.setCell ⟨R, 8, none⟩ v) R wv ws v crv p x cr ∧ FrE R W (W.setCell ⟨R, 8, none⟩ v) := by
  have hf := FrE.set R 8 W v
  exact ⟨⟨h.b.set 8 _, row_kept h.r (fun g cur hg hk => (Below.heap_setCell W ⟨R, 8, none⟩ _ g (by show g ≠ R; omega)).trans hk), h.wd.below hf.be, h.gl.below hf.be h.gm, h.op.below hf.be (by have := h.gm; show 0 < _; omega), h.mo.below hf.be h.gm, h.gm⟩, hf⟩
set_option maxRecDepth 100000 in
set_option maxHeartbeats 16000000 in
theorem newReader_any (w : World) (wv : Value) (ws : List Wd) (p : Nat) (hW : WdG w.heap.size w wv ws) (hgl : Gl w) (hop : Ops w) (hmo : Mo w) (hgm : 10 < w.heap.size) (hl : ws.length ≤ 1000000) (hws : ∀ y ∈ ws, y.s.length ≤ 140737488355328) (hp : p ≤ ws.length) :
    Calls Tryz.prog 31 #[wv, .int .i64 p] w fun e w' => ∃ tw, e = .returned (.pointer (some ⟨w.heap.size, 0, none⟩)) ∧ Cx w.heap.size wv ws tw w' p [] ∧ Below w.heap.size w w' := by
  have hb1 : Below w.heap.size w (w.alloc (.cells #[wv, .int .i64 0, .int .i64 0, .string ⟨#[]⟩, .int .i64 0, .int .i64 0, .string ⟨#[]⟩, .int .i64 0, .nilFunc, .slice none 0 0] 70)) := (Below.refl _ w).alloc (Nat.le_refl _) _
  have HX1 : Hid (RdX (w.alloc (.cells #[wv, .int .i64 0, .int .i64 0, .string ⟨#[]⟩, .int .i64 0, .int .i64 0, .string ⟨#[]⟩, .int .i64 0, .nilFunc, .slice none 0 0] 70)) w.heap.size wv ws .nilFunc (.slice none 0 0) 0 zrW []) := ⟨Bk.new w _ _, World.ownsRow_nil _ _ _ _, hW.below hb1, hgl.next hb1, hop.below hb1 (by have := hgl.size; show 0 < _; omega), hmo.below hb1 hgl.size, hgm⟩
  have HB1 := veil hb1
  have HST := veil (stand_any (unveil HX1) p hp hl hws)
  obtain ⟨pw, cw, hwv, _⟩ := hW
  clear hb1 hgl hop hmo
  subst hwv
  generalize hR : w.heap.size = R at *
  go_enter Tryz.func31, Tryz.ntmps31
  go_upto_region 3 with (go_at_call 62; refine (unveil HST).mono ?_; rintro e A0 ⟨⟨r, rfl⟩, hf, hx⟩; have HX : Hid (RdX A0 R _ ws .nilFunc _ p _ []) := hx; have HB := veil ((unveil HB1).trans hf.be); clear hf hx)
  clear HST HX1 HB1
  have HL : Hid (LvC A0 R 0 (.func (.func 64) #[.pointer (some ⟨R, 0, none⟩)] #[])) := rfl
  have hba : Below A0.heap.size A0 (A0.alloc (.cells #[.string ⟨#[42]⟩, .string ⟨#[47]⟩, .string ⟨#[37]⟩] 9)) := (Below.refl _ A0).alloc (Nat.le_refl _) _
  have HV := veil (level_any R 0 A0.heap.size 3 (.func (.func 64) #[.pointer (some ⟨R, 0, none⟩)] #[]) (A0.alloc (.cells #[.string ⟨#[42]⟩, .string ⟨#[47]⟩, .string ⟨#[37]⟩] 9)) (LvC.fr (FrE.below hba (Nat.le_of_lt (unveil HX).b.lt)) 0 _ (unveil HL)) (Bk.new A0 9 #[.string ⟨#[42]⟩, .string ⟨#[47]⟩, .string ⟨#[37]⟩]) (unveil HX).b.lt)
  rw [show (sgnL (0 + 1)).length = 3 from rfl] at HV
  have HBA := veil hba
  clear hba
  go_upto_region 4 with (go_at_call 63; go_loud (refine (unveil HV).mono ?_; rintro e A1 ⟨v1, rfl, hl', hb⟩; have HLN : Hid (LvC A1 R 1 v1) := hl'; have HXN := veil (((unveil HX).below (unveil HBA)).below hb); have HBN := veil (((unveil HB).trans ((unveil HBA).mono (Nat.le_of_lt (unveil HX).b.lt))).trans (hb.mono (Nat.le_of_lt ((unveil HX).below (unveil HBA)).b.lt))); clear hl' hb))
  clear HX HL HB HV HBA
  have HX := HXN
  have HL := HLN
  have HB := HBN
  clear HXN HLN HBN
  have hba : Below A1.heap.size A1 (A1.alloc (.cells #[.string ⟨#[43]⟩, .string ⟨#[45]⟩] 9)) := (Below.refl _ A1).alloc (Nat.le_refl _) _
  have HV := veil (level_any R 1 A1.heap.size 2 v1 (A1.alloc (.cells #[.string ⟨#[43]⟩, .string ⟨#[45]⟩] 9)) (LvC.fr (FrE.below hba (Nat.le_of_lt (unveil HX).b.lt)) 1 _ (unveil HL)) (Bk.new A1 9 #[.string ⟨#[43]⟩, .string ⟨#[45]⟩]) (unveil HX).b.lt)
  rw [show (sgnL (1 + 1)).length = 2 from rfl] at HV
  have HBA := veil hba
  clear hba
  go_upto_region 5 with (go_at_call 63; go_loud (refine (unveil HV).mono ?_; rintro e A2 ⟨v2, rfl, hl', hb⟩; have HLN : Hid (LvC A2 R 2 v2) := hl'; have HXN := veil (((unveil HX).below (unveil HBA)).below hb); have HBN := veil (((unveil HB).trans ((unveil HBA).mono (Nat.le_of_lt (unveil HX).b.lt))).trans (hb.mono (Nat.le_of_lt ((unveil HX).below (unveil HBA)).b.lt))); clear hl' hb))
  clear HX HL HB HV HBA
  have HX := HXN
  have HL := HLN
  have HB := HBN
  clear HXN HLN HBN
  have hba : Below A2.heap.size A2 (A2.alloc (.cells #[.string ⟨#[60, 60]⟩, .string ⟨#[62, 62]⟩] 9)) := (Below.refl _ A2).alloc (Nat.le_refl _) _
  have HV := veil (level_any R 2 A2.heap.size 2 v2 (A2.alloc (.cells #[.string ⟨#[60, 60]⟩, .string ⟨#[62, 62]⟩] 9)) (LvC.fr (FrE.below hba (Nat.le_of_lt (unveil HX).b.lt)) 2 _ (unveil HL)) (Bk.new A2 9 #[.string ⟨#[60, 60]⟩, .string ⟨#[62, 62]⟩]) (unveil HX).b.lt)
  rw [show (sgnL (2 + 1)).length = 2 from rfl] at HV
  have HBA := veil hba
  clear hba
  go_upto_region 6 with (go_at_call 63; go_loud (refine (unveil HV).mono ?_; rintro e A3 ⟨v3, rfl, hl', hb⟩; have HLN : Hid (LvC A3 R 3 v3) := hl'; have HXN := veil (((unveil HX).below (unveil HBA)).below hb); have HBN := veil (((unveil HB).trans ((unveil HBA).mono (Nat.le_of_lt (unveil HX).b.lt))).trans (hb.mono (Nat.le_of_lt ((unveil HX).below (unveil HBA)).b.lt))); clear hl' hb))
  clear HX HL HB HV HBA
  have HX := HXN
  have HL := HLN
  have HB := HBN
  clear HXN HLN HBN
  have hba : Below A3.heap.size A3 (A3.alloc (.cells #[.string ⟨#[60]⟩, .string ⟨#[60, 61]⟩, .string ⟨#[62]⟩, .string ⟨#[62, 61]⟩] 9)) := (Below.refl _ A3).alloc (Nat.le_refl _) _
  have HV := veil (level_any R 3 A3.heap.size 4 v3 (A3.alloc (.cells #[.string ⟨#[60]⟩, .string ⟨#[60, 61]⟩, .string ⟨#[62]⟩, .string ⟨#[62, 61]⟩] 9)) (LvC.fr (FrE.below hba (Nat.le_of_lt (unveil HX).b.lt)) 3 _ (unveil HL)) (Bk.new A3 9 #[.string ⟨#[60]⟩, .string ⟨#[60, 61]⟩, .string ⟨#[62]⟩, .string ⟨#[62, 61]⟩]) (unveil HX).b.lt)
  rw [show (sgnL (3 + 1)).length = 4 from rfl] at HV
  have HBA := veil hba
  clear hba
  go_upto_region 7 with (go_at_call 63; go_loud (refine (unveil HV).mono ?_; rintro e A4 ⟨v4, rfl, hl', hb⟩; have HLN : Hid (LvC A4 R 4 v4) := hl'; have HXN := veil (((unveil HX).below (unveil HBA)).below hb); have HBN := veil (((unveil HB).trans ((unveil HBA).mono (Nat.le_of_lt (unveil HX).b.lt))).trans (hb.mono (Nat.le_of_lt ((unveil HX).below (unveil HBA)).b.lt))); clear hl' hb))
  clear HX HL HB HV HBA
  have HX := HXN
  have HL := HLN
  have HB := HBN
  clear HXN HLN HBN
  have hba : Below A4.heap.size A4 (A4.alloc (.cells #[.string ⟨#[61, 61]⟩, .string ⟨#[33, 61]⟩] 9)) := (Below.refl _ A4).alloc (Nat.le_refl _) _
  have HV := veil (level_any R 4 A4.heap.size 2 v4 (A4.alloc (.cells #[.string ⟨#[61, 61]⟩, .string ⟨#[33, 61]⟩] 9)) (LvC.fr (FrE.below hba (Nat.le_of_lt (unveil HX).b.lt)) 4 _ (unveil HL)) (Bk.new A4 9 #[.string ⟨#[61, 61]⟩, .string ⟨#[33, 61]⟩]) (unveil HX).b.lt)
  rw [show (sgnL (4 + 1)).length = 2 from rfl] at HV
  have HBA := veil hba
  clear hba
  go_upto_region 8 with (go_at_call 63; go_loud (refine (unveil HV).mono ?_; rintro e A5 ⟨v5, rfl, hl', hb⟩; have HLN : Hid (LvC A5 R 5 v5) := hl'; have HXN := veil (((unveil HX).below (unveil HBA)).below hb); have HBN := veil (((unveil HB).trans ((unveil HBA).mono (Nat.le_of_lt (unveil HX).b.lt))).trans (hb.mono (Nat.le_of_lt ((unveil HX).below (unveil HBA)).b.lt))); clear hl' hb))
  clear HX HL HB HV HBA
  have HX := HXN
  have HL := HLN
  have HB := HBN
  clear HXN HLN HBN
  have hba : Below A5.heap.size A5 (A5.alloc (.cells #[.string ⟨#[38]⟩] 9)) := (Below.refl _ A5).alloc (Nat.le_refl _) _
  have HV := veil (level_any R 5 A5.heap.size 1 v5 (A5.alloc (.cells #[.string ⟨#[38]⟩] 9)) (LvC.fr (FrE.below hba (Nat.le_of_lt (unveil HX).b.lt)) 5 _ (unveil HL)) (Bk.new A5 9 #[.string ⟨#[38]⟩]) (unveil HX).b.lt)
  rw [show (sgnL (5 + 1)).length = 1 from rfl] at HV
  have HBA := veil hba
  clear hba
  go_upto_region 9 with (go_at_call 63; go_loud (refine (unveil HV).mono ?_; rintro e A6 ⟨v6, rfl, hl', hb⟩; have HLN : Hid (LvC A6 R 6 v6) := hl'; have HXN := veil (((unveil HX).below (unveil HBA)).below hb); have HBN := veil (((unveil HB).trans ((unveil HBA).mono (Nat.le_of_lt (unveil HX).b.lt))).trans (hb.mono (Nat.le_of_lt ((unveil HX).below (unveil HBA)).b.lt))); clear hl' hb))
  clear HX HL HB HV HBA
  have HX := HXN
  have HL := HLN
  have HB := HBN
  clear HXN HLN HBN
  have hba : Below A6.heap.size A6 (A6.alloc (.cells #[.string ⟨#[94]⟩] 9)) := (Below.refl _ A6).alloc (Nat.le_refl _) _
  have HV := veil (level_any R 6 A6.heap.size 1 v6 (A6.alloc (.cells #[.string ⟨#[94]⟩] 9)) (LvC.fr (FrE.below hba (Nat.le_of_lt (unveil HX).b.lt)) 6 _ (unveil HL)) (Bk.new A6 9 #[.string ⟨#[94]⟩]) (unveil HX).b.lt)
  rw [show (sgnL (6 + 1)).length = 1 from rfl] at HV
  have HBA := veil hba
  clear hba
  go_upto_region 10 with (go_at_call 63; go_loud (refine (unveil HV).mono ?_; rintro e A7 ⟨v7, rfl, hl', hb⟩; have HLN : Hid (LvC A7 R 7 v7) := hl'; have HXN := veil (((unveil HX).below (unveil HBA)).below hb); have HBN := veil (((unveil HB).trans ((unveil HBA).mono (Nat.le_of_lt (unveil HX).b.lt))).trans (hb.mono (Nat.le_of_lt ((unveil HX).below (unveil HBA)).b.lt))); clear hl' hb))
  clear HX HL HB HV HBA
  have HX := HXN
  have HL := HLN
  have HB := HBN
  clear HXN HLN HBN
  have hba : Below A7.heap.size A7 (A7.alloc (.cells #[.string ⟨#[124]⟩] 9)) := (Below.refl _ A7).alloc (Nat.le_refl _) _
  have HV := veil (level_any R 7 A7.heap.size 1 v7 (A7.alloc (.cells #[.string ⟨#[124]⟩] 9)) (LvC.fr (FrE.below hba (Nat.le_of_lt (unveil HX).b.lt)) 7 _ (unveil HL)) (Bk.new A7 9 #[.string ⟨#[124]⟩]) (unveil HX).b.lt)
  rw [show (sgnL (7 + 1)).length = 1 from rfl] at HV
  have HBA := veil hba
  clear hba
  go_upto_region 11 with (go_at_call 63; go_loud (refine (unveil HV).mono ?_; rintro e A8 ⟨v8, rfl, hl', hb⟩; have HLN : Hid (LvC A8 R 8 v8) := hl'; have HXN := veil (((unveil HX).below (unveil HBA)).below hb); have HBN := veil (((unveil HB).trans ((unveil HBA).mono (Nat.le_of_lt (unveil HX).b.lt))).trans (hb.mono (Nat.le_of_lt ((unveil HX).below (unveil HBA)).b.lt))); clear hl' hb))
  clear HX HL HB HV HBA
  have HX := HXN
  have HL := HLN
  have HB := HBN
  clear HXN HLN HBN
  have hba : Below A8.heap.size A8 (A8.alloc (.cells #[.string ⟨#[38, 38]⟩] 9)) := (Below.refl _ A8).alloc (Nat.le_refl _) _
  have HV := veil (level_any R 8 A8.heap.size 1 v8 (A8.alloc (.cells #[.string ⟨#[38, 38]⟩] 9)) (LvC.fr (FrE.below hba (Nat.le_of_lt (unveil HX).b.lt)) 8 _ (unveil HL)) (Bk.new A8 9 #[.string ⟨#[38, 38]⟩]) (unveil HX).b.lt)
  rw [show (sgnL (8 + 1)).length = 1 from rfl] at HV
  have HBA := veil hba
  clear hba
  go_upto_region 12 with (go_at_call 63; go_loud (refine (unveil HV).mono ?_; rintro e A9 ⟨v9, rfl, hl', hb⟩; have HLN : Hid (LvC A9 R 9 v9) := hl'; have HXN := veil (((unveil HX).below (unveil HBA)).below hb); have HBN := veil (((unveil HB).trans ((unveil HBA).mono (Nat.le_of_lt (unveil HX).b.lt))).trans (hb.mono (Nat.le_of_lt ((unveil HX).below (unveil HBA)).b.lt))); clear hl' hb))
  clear HX HL HB HV HBA
  have HX := HXN
  have HL := HLN
  have HB := HBN
  clear HXN HLN HBN
  have hba : Below A9.heap.size A9 (A9.alloc (.cells #[.string ⟨#[124, 124]⟩] 9)) := (Below.refl _ A9).alloc (Nat.le_refl _) _
  have HV := veil (level_any R 9 A9.heap.size 1 v9 (A9.alloc (.cells #[.string ⟨#[124, 124]⟩] 9)) (LvC.fr (FrE.below hba (Nat.le_of_lt (unveil HX).b.lt)) 9 _ (unveil HL)) (Bk.new A9 9 #[.string ⟨#[124, 124]⟩]) (unveil HX).b.lt)
  rw [show (sgnL (9 + 1)).length = 1 from rfl] at HV
  have HBA := veil hba
  clear hba
  go_upto_region 13 with (go_at_call 63; go_loud (refine (unveil HV).mono ?_; rintro e A10 ⟨v10, rfl, hl', hb⟩; obtain ⟨fn10, xs10, ys10, rfl⟩ := LvC.func hl'; have HLN : Hid (LvC A10 R 10 (.func fn10 xs10 ys10)) := hl'; have HXN := veil (((unveil HX).below (unveil HBA)).below hb); have c8 : A10.cell? ⟨R, 8, none⟩ = some .nilFunc := (unveil HXN).b.cell 8; have f8 : A10.frozen? ⟨R, 8, none⟩ = false := (unveil HXN).b.frozen 8; have hlr := (unveil HXN).b.lt; have HBN := veil (((unveil HB).trans ((unveil HBA).mono (Nat.le_of_lt (unveil HX).b.lt))).trans (hb.mono (Nat.le_of_lt ((unveil HX).below (unveil HBA)).b.lt))); clear hl' hb))
  clear HX HL HB HV HBA
  obtain ⟨hx2, hf2⟩ := (unveil HXN).two (.func fn10 xs10 ys10)
  go_wp2_with fail
  go_ret
  exact ⟨.func fn10 xs10 ys10, rfl, ⟨_, hx2, LvC.fr hf2 10 _ (unveil HLN), hp, Nat.zero_le _⟩, (unveil HBN).trans hf2.be⟩
end Go.Proofs.YtmpkgjonbjpohaaGreatDoor
namespace Go.Proofs.YtmpkgjonbjpohaaGreatDoor
open Go Go.RowKit
set_option linter.unusedVariables false
set_option linter.unusedSimpArgs false

/-- The line of the word that stands at a place: 0 behind the last one. -/
def lnM (ws : List Wd) (i : Nat) : Int := match ws[i]? with | some x => x.line | none => 0
theorem below_draws1 (w : World) (n : Nat) : Below w.heap.size w (w.drewN n) := ⟨rfl, rfl, rfl, Nat.le_refl _, fun _ _ => rfl⟩
theorem below_draws2 (w : World) (n m : Nat) : Below w.heap.size w ((w.drewN n).drewN m) := ⟨rfl, rfl, rfl, Nat.le_refl _, fun _ _ => rfl⟩
set_option maxRecDepth 100000 in
set_option maxHeartbeats 8000000 in
theorem line_any {W : World} {R : Nat} {wv : Value} {ws : List Wd} {tw crv : Value} {p : Nat} {x : Wd} {cr : List Int} (h : RdX W R wv ws tw crv p x cr) (hp : p ≤ ws.length) (hl : ws.length ≤ 1000000) :
    Calls Tryz.prog 33 #[.pointer (some ⟨R, 0, none⟩)] W fun e W' => e = .returned (.int .i64 (lnM ws p)) ∧ Below W.heap.size W W' := by
  obtain ⟨pw, cw, rfl, hc⟩ := h.wd
  obtain ⟨⟨c0, c1, c2, c3, c4, c5, c6, c7, c8, c9⟩, hlt, _⟩ := h.cells
  clear h c2 c3 c4 c5 c6 c7 c8 c9
  by_cases hpn : p < ws.length
  · have hpi : (p : Int) < (ws.length : Int) := by omega
    have hne : ((p : Int) == (ws.length : Int)) = false := by simp; omega
    have HLN : Hid (ws[p].line = lnM ws p) := by unfold lnM; rw [Hid, List.getElem?_eq_getElem hpn]
    obtain ⟨gw, ow, rfl, hgw, w0, w1, w2, w3, w4, w5⟩ := hc p hpn
    have hgl : gw < W.heap.size := Nat.lt_trans hgw hlt
    clear w0 w1 w2 w3 w4 hc
    generalize ws[p].line = LN at *
    generalize lnM ws p = LM at *
    go_enter Tryz.func33, Tryz.ntmps33
    go_upto_region 1 with fail
    go_quiet (fail)
    revert nq; intro n1
    go_upto_region 3 with fail
    go_quiet (fail)
    go_wp2
    go_ret
    exact ⟨by rw [← unveil HLN]; rfl, below_draws2 W _ _⟩
  · have hpe : p = ws.length := by omega
    subst hpe
    have HLN : Hid (lnM ws ws.length = 0) := by unfold lnM; rw [Hid, List.getElem?_eq_none (Nat.le_refl _)]
    clear hc
    go_enter Tryz.func33, Tryz.ntmps33
    go_upto_region 1 with fail
    go_quiet (fail)
    go_wp2
    go_ret
    exact ⟨by rw [unveil HLN]; rfl, below_draws1 W _⟩
end Go.Proofs.YtmpkgjonbjpohaaGreatDoor
