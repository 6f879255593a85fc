/-
  burinlaw12.ClassPasses walked.
-/
import Derived.Test.YtaffldhmgifdoaaIza
import Derived.Test.YtaffldhmgifdoaaIp
import Derived.Test.YtaffldhmgifdoaaIw
namespace Go.Proofs.Ytaffldhmgifdoaa
open Go Go.RowKit Go.Shelf
attribute [local go_sem] Oper.semAt_some
set_option linter.unusedVariables false
set_option linter.unusedSimpArgs false

/-- Places in memory. -/
def LcG (B : Nat) (W : World) (q : Option Addr) (l : List Lc) : Prop := ∀ (i : Nat) (h : i < l.length), ∃ g, q = some ⟨g, 0, none⟩ ∧ g < B ∧ W.cell? ⟨g, i * 4, none⟩ = some (.int .i64 l[i].arg) ∧ W.cell? ⟨g, i * 4 + 1, none⟩ = some (.int .i64 l[i].eight) ∧ W.cell? ⟨g, i * 4 + 2, none⟩ = some (.int .i64 l[i].reg) ∧ W.cell? ⟨g, i * 4 + 3, none⟩ = some (.int .i64 l[i].off)
theorem LcG.of_own {W : World} {base cap : Nat} {q : Option Addr} {L : List Lc} (h : W.ownsRow base 75 4 (.slice q L.length cap) L.length (lcCs L)) : LcG W.heap.size W q L := fun i hi => lc_at h rfl hi
theorem LcG.below {B : Nat} {W W' : World} {q : Option Addr} {l : List Lc} (h : LcG B W q l) (hb : Below B W W') : LcG B W' q l := fun i hi => by
  obtain ⟨g, e, hg, c0, c1, c2, c3⟩ := h i hi
  exact ⟨g, e, hg, (hb.cell (p := ⟨g, i * 4, none⟩) hg).trans c0, (hb.cell (p := ⟨g, i * 4 + 1, none⟩) hg).trans c1, (hb.cell (p := ⟨g, i * 4 + 2, none⟩) hg).trans c2, (hb.cell (p := ⟨g, i * 4 + 3, none⟩) hg).trans c3⟩
theorem LcG.mono {B B' : Nat} {W : World} {q : Option Addr} {l : List Lc} (h : LcG B W q l) (hb : B ≤ B') : LcG B' W q l := fun i hi => by
  obtain ⟨g, e, hg, hc⟩ := h i hi
  exact ⟨g, e, Nat.lt_of_lt_of_le hg hb, hc⟩
theorem LcG.take {B : Nat} {W : World} {q : Option Addr} {l : List Lc} (h : LcG B W q l) (n : Nat) : LcG B W q (l.take n) := fun i hi => by
  have hi' : i < l.length := by rw [List.length_take] at hi; omega
  rw [List.getElem_take]
  exact h i hi'
theorem fieldsLc : Try.prog.underlying 75 = some (.struct (Try.prog.fieldsOf 75)) := by kernel_rfl
theorem heldLc : Try.prog.stoodInHeld 75 = false := by kernel_rfl
theorem loc_eq (a b c d a' b' c' d' : Int) (W : World) : (Op.equalIn 10000 75 (.agg #[.int .i64 a, .int .i64 b, .int .i64 c, .int .i64 d]) (.agg #[.int .i64 a', .int .i64 b', .int .i64 c', .int .i64 d'])).run Try.prog W = .ok (decide (a = a' ∧ b = b' ∧ c = c' ∧ d = d')) W := by
  rw [run_equalIn_struct _ 9999 75 _ _ fieldsLc heldLc]
  simp only [Program.fieldsOf, Try.underlying75]
  simp [Op.eqFields, go_sem]
  by_cases h1 : a = a' <;> by_cases h2 : b = b' <;> by_cases h3 : c = c' <;> by_cases h4 : d = d' <;> simp [*]
theorem loc_neq (x1 x2 x3 x4 y1 y2 y3 y4 : Int) (W : World) : (binOp .neq 75 (.agg #[.int .i64 x1, .int .i64 x2, .int .i64 x3, .int .i64 x4]) (.agg #[.int .i64 y1, .int .i64 y2, .int .i64 y3, .int .i64 y4])).run Try.prog W = .ok (.bool (!decide (x1 = y1 ∧ x2 = y2 ∧ x3 = y3 ∧ x4 = y4))) W := by
  rw [run_neq_struct, loc_eq]; rfl
set_option maxRecDepth 100000 in
set_option maxHeartbeats 8000000 in
theorem sameLocs_any (L : List Lc) (p q : Option Addr) (c d : Nat) (w : World) (hl : L.length ≤ 1000000) (hp : LcG w.heap.size w p L) (hq : LcG w.heap.size w q L) :
    Calls Try.prog 50 #[.slice p L.length c, .slice q L.length d] w fun e w' => e = .returned (.bool true) ∧ Below w.heap.size w w' := by
  have HA := veil hp
  have HB := veil hq
  clear hp hq
  have i0 : (((L.length : Nat) : Int) != ((L.length : Nat) : Int)) = false := by simp
  go_enter Try.func50, Try.ntmps50
  go_wp2
  go_loopw [5] (fun i wr => ∃ (k : Nat), i = .int .i64 k ∧ k ≤ L.length ∧ Hid (Below w.heap.size w wr)) (fun i wr => L.length - (intOf i).toNat)
  case atStart => exact ⟨0, rfl, by omega, Below.refl _ _⟩
  case round =>
    obtain ⟨k, rfl, hk, hw⟩ := hrel
    by_cases hlt : k < L.length
    · have i1 : (k : Int) < (L.length : Int) := by omega
      obtain ⟨g, rfl, hg, a0, a1, a2, a3⟩ := ((unveil HA).below (unveil hw)) k hlt
      obtain ⟨g', rfl, hg', b0, b1, b2, b3⟩ := ((unveil HB).below (unveil hw)) k hlt
      have hgw : g < wr.heap.size := Nat.lt_of_lt_of_le hg (unveil hw).size
      have hgw' : g' < wr.heap.size := Nat.lt_of_lt_of_le hg' (unveil hw).size
      generalize L[k] = x at *
      obtain ⟨x1, x2, x3, x4⟩ := x
      simp only at a0 a1 a2 a3 b0 b1 b2 b3
      have hneq := fun W => loc_neq x1 x2 x3 x4 x1 x2 x3 x4 W
      simp only [and_self, decide_true, Bool.not_true] at hneq
      have HD : Hid (∀ n, Below w.heap.size w (wr.drewN n)) := fun n => below_drewS (unveil hw) n
      go_upto_region 6 with fail
      go_quiet (fail)
      go_wp2_with fail
      go_roundw
      case rel => exact ⟨k + 1, by go_num, by omega, unveil HD _⟩
      case measure => simp [intOf]; omega
    · obtain rfl : k = L.length := by omega
      go_wp2_with fail
      go_ret
      exact ⟨rfl, unveil hw⟩
theorem pas_len (sb : Bool) (args : List ShT) (ret : ShT) : (pasM sb args ret).1.1.length ≤ 200000 := by
  rcases pas_facts sb args ret with ⟨_, h⟩ | ⟨m, sk, _, h16, hok, _, _, hL, _⟩
  · rw [h]; simp
  · rw [hL]
    have := plK_ok (args.map (fun t => (lokM t).1)) m (fun v hv => by
      obtain ⟨t, ht, rfl⟩ := List.mem_map.1 hv
      obtain ⟨i, hi, rfl⟩ := List.mem_iff_getElem.1 ht
      exact lok_ok (hok i hi)) args.length (by simp)
    have h1 := this.1
    simp only
    omega
set_option maxRecDepth 100000 in
set_option maxHeartbeats 40000000 in
theorem classPasses_walk (args0 : List ShT) (q : Option Addr) (cap : Nat) (ret : ShT) (w : World) (hs0 : TyLs w.heap.size w q args0) (hle0 : ∀ t ∈ args0, t.Len) (hlc : args0.length ≤ cap) (hcm : cap ≤ maxLen) (hr : ret.In w.heap.size w) (hre : ret.Len) :
    Calls Try.prog 18 #[.slice q args0.length cap, ret.v] w fun e w' => e = .returned (.bool true) ∧ Below w.heap.size w w' := by
  have HSH := veil shown12_any
  have hs' := hs0.take 20
  have hle : ∀ t ∈ args0.take 20, t.Len := fun t ht => hle0 t (List.mem_of_mem_take ht)
  have hl20 : (args0.take 20).length ≤ 20 := by rw [List.length_take]; omega
  have hl' : (args0.take 20).length ≤ cap := by rw [List.length_take]; omega
  have hmin : min (args0.length : Int) 20 = ((args0.take 20).length : Int) := by rw [List.length_take]; omega
  have hmin2 : (if (args0.length : Int) ≤ 20 then (args0.length : Int) else 20) = ((args0.take 20).length : Int) := by rw [List.length_take]; split <;> omega
  have hmin3 : (if (20 : Int) < (args0.length : Int) then (20 : Int) else (args0.length : Int)) = ((args0.take 20).length : Int) := by rw [List.length_take]; split <;> omega
  have hll : ((args0.take 20).length : Int) ≤ (args0.length : Int) := by rw [List.length_take]; omega
  generalize args0.take 20 = args at *
  have hTY : ∀ W, Below w.heap.size w W → TyLs W.heap.size W q args := fun W h i hi => by obtain ⟨g, o, e, hg, hc, hin⟩ := (hs'.below h) i hi; exact ⟨g, o, e, Nat.lt_of_lt_of_le hg h.size, hc, hin.mono h.size⟩
  have HPA : Hid (∀ W, Below w.heap.size w W → Calls Try.prog 48 #[.slice q args.length cap, ret.v] W (PasP W (pasM (samM (SizeOf.sizeOf ret + 1) ret emT) args ret))) := fun W h =>
    Pass_any args q cap ret W (by unfold maxLen; omega) (hTY W h) ((hr.below h).mono h.size) hre
  have HRP : Hid (∀ W, Below w.heap.size w W → Calls Try.prog 49 #[.slice q args.length cap, ret.v] W (PasP W (pasM (samM (SizeOf.sizeOf ret + 1) ret emT) args ret))) := fun W h =>
    RPass_any args q cap ret W (by unfold maxLen; omega) (hTY W h) hle ((hr.below h).mono h.size) hre
  have hLL := pas_len (samM (SizeOf.sizeOf ret + 1) ret emT) args ret
  have HT0 := veil (And.intro (TyB.new w ret) (new1_below w (.cells ret.cs 25)))
  clear hs0 hs' hr hre hTY hle hle0
  generalize pasM (samM (SizeOf.sizeOf ret + 1) ret emT) args ret = PM at *
  obtain ⟨⟨L, n⟩, er⟩ := PM
  unfold PasP at HPA HRP
  simp only at HPA HRP hLL
  unfold ShT.v ShT.cs at HPA HRP ⊢
  unfold ShT.cs at HT0
  go_enter Try.func18, Try.ntmps18
  go_upto_region 1 with fail
  generalize (w.alloc (.cells #[.int .i64 ret.sh, .int .i64 ret.k, .int .i64 ret.n, .slice ret.op ret.of.length ret.oc, .slice ret.fp ret.fs.length ret.fc, .bool ret.pk, .int .i64 ret.al] 25)) = W0 at HT0 ⊢
  go_upto_region 2 with (go_at_call 44; refine (unveil HSH _).mono ?_; rintro e W1 ⟨rfl, hb1⟩; have HT1 := veil (And.intro ((unveil HT0).1.below hb1) ((unveil HT0).2.trans (hb1.mono (unveil HT0).2.size))); clear hb1)
  go_upto_region 3 with fail
  obtain ⟨y0, y1, y2, y3, y4, y5, y6⟩ := (unveil HT1).1.seven
  clear hmin hmin2 hmin3 hll HSH
  go_upto_region 4 with (go_at_call 48; refine (unveil HPA _ (unveil HT1).2).mono ?_; rintro e W2 ⟨v, rfl, hown, hb2⟩; obtain ⟨qv, cv, rfl⟩ := row_slice hown; have HO2 := veil (LcG.of_own hown); have HT2 := veil (And.intro ((unveil HT1).1.below hb2) ((unveil HT1).2.trans (hb2.mono (unveil HT1).2.size))); clear hown hb2)
  clear y0 y1 y2 y3 y4 y5 y6 HT0 HT1 HPA
  obtain ⟨y0, y1, y2, y3, y4, y5, y6⟩ := (unveil HT2).1.seven
  go_upto_region 5 with (go_at_call 49; refine (unveil HRP _ (unveil HT2).2).mono ?_; rintro e W3 ⟨v, rfl, hown, hb3⟩; obtain ⟨qu, cu, rfl⟩ := row_slice hown; have HO3 := veil (LcG.of_own hown); have HO2b := veil (((unveil HO2).below hb3).mono hb3.size); have HB3 := veil ((unveil HT2).2.trans (hb3.mono (unveil HT2).2.size)); clear hown hb3)
  clear y0 y1 y2 y3 y4 y5 y6 HT2 HRP HO2
  have HSL := veil (sameLocs_any L qv qu cv cu W3 (by omega) (unveil HO2b) (unveil HO3))
  go_wp2_with (go_at_call 50; refine (unveil HSL).mono ?_; rintro e W4 ⟨rfl, hb4⟩; have HB4 := veil ((unveil HB3).trans (hb4.mono (unveil HB3).size)); clear hb4)
  go_ret
  exact ⟨by simp, unveil HB4⟩
end Go.Proofs.Ytaffldhmgifdoaa
