/-
  The document's own Two tells what the program's tells; ArithTwo.
-/
import Derived.Test.YtobfpdhfmbpidaaDoorGl
namespace Go.Proofs.YtobfpdhfmbpidaaDoor
open Go Go.RowKit
set_option linter.unusedVariables false
set_option linter.unusedSimpArgs false
theorem quietB {f : FuncId} {ar : Array Value} {w : World} {v : Value} (h : Calls Tryd.prog f ar w fun e w' => e = .returned v ∧ w' = w) : Calls Tryd.prog f ar w fun e w' => e = .returned v ∧ Below w.heap.size w w' :=
  h.mono fun e w' ⟨he, hw⟩ => ⟨he, by rw [hw]; exact Below.refl _ _⟩
theorem sh_bad {op a ak b bk : Int} (ho : op = 6 ∨ op = 7) (hb : i64b b) (la : liesM a ak = true) (lb : liesM b bk = true) (h : b < 0 ∨ 8 * sizM (inK op ak bk) ≤ b) : two3 op a ak b bk = (0, 0, 90) := by
  have h2 : ofM op = 2 := by rcases ho with rfl | rfl <;> rfl
  have hsh : shiM op = true := by rcases ho with rfl | rfl <;> rfl
  have eY : twoY op ak b bk = worM b bk := by unfold twoY; rw [hsh]; rfl
  have hib : inbM (worM b bk) (inK op ak bk) = false := by rw [inb_eq hb]; simp; omega
  rw [two3_yes h2 la lb, eY]
  have : strB op (inK op ak bk) (twoX op a ak bk) (worM b bk) = false := by
    unfold strB
    rcases ho with rfl | rfl
    · show ((!decide (twoX 6 a ak bk < 0) && inbM (worM b bk) (inK 6 ak bk)) && _) = false
      rw [hib]; simp
    · show (inbM (worM b bk) (inK 7 ak bk) && _) = false
      rw [hib]; rfl
  rw [this]
  rfl
theorem RshiftedB (op k a : Int) (n : Nat) (hn : n < 64) (W : World) : Calls Tryd.prog 41 #[.int .i64 op, .int .i64 k, .int .i64 a, .int .i64 n] W fun e w' => e = .returned (.tuple #[.int .i64 (rshV op k a n), .bool (rshB op k a n)]) ∧ Below W.heap.size W w' :=
  (Rshifted_any op k a n W hn).mono fun e w' ⟨he, m, hm⟩ => ⟨he, by rw [hm]; exact below_drewW (Below.refl _ _) m⟩
theorem siz_48 {k : Int} (h : k = 5 ∨ k = 6 ∨ k = 7 ∨ k = 8) : sizM k = 4 ∨ sizM k = 8 := by rcases h with rfl | rfl | rfl | rfl <;> decide
theorem tup_if (c : Bool) (x y : Int × Int × Int) : (if c then tupT x else tupT y) = tupT (if c then x else y) := by cases c <;> rfl
theorem fin_tup (U OK : Bool) (u v k : Int) : (if U then Value.tuple #[.int .i64 u, .int .i64 k, .int .i64 0] else if OK && !(u != v) then .tuple #[.int .i64 u, .int .i64 k, .int .i64 0] else .tuple #[.int .i64 0, .int .i64 0, .int .i64 90]) = tupT (finT U OK u v k) := by
  unfold finT
  cases U
  · cases OK && !(u != v) <;> rfl
  · rfl
theorem RTwo_any (op a ak b bk : Int) (ha : i64b a) (hb : i64b b) (w : World) : Calls Tryd.prog 19 #[.int .i64 op, .int .i64 a, .int .i64 ak, .int .i64 b, .int .i64 bk] w fun e w' => e = .returned (tupT (two3 op a ak b bk)) ∧ Below w.heap.size w w' := by
  have HB := RBinary_any op
  by_cases h2 : ofM op = 2
  case neg =>
    rw [show (ofM op == 2) = false by simpa using h2] at HB
    rw [not_of2 h2]
    exact quietB (RT_arg op a ak b bk w HB)
  rw [show (ofM op == 2) = true by simpa using h2] at HB
  have HLa := fun W => RLies_any a ak W ha.1 ha.2
  have HLb := fun W => RLies_any b bk W hb.1 hb.2
  cases hl : liesM a ak && liesM b bk
  · have e : two3 op a ak b bk = (0, 0, 80) := by unfold two3; rw [h2, hl]; rfl
    rw [e]
    exact quietB (RT_kind op a ak b bk _ _ w hl HB HLa HLb)
  rw [Bool.and_eq_true] at hl
  obtain ⟨la, lb⟩ := hl
  simp only [la] at HLa
  simp only [lb] at HLb
  have ka := lies_ki la
  have kb := lies_ki lb
  have HI := RIn_any op ak bk
  obtain ⟨e1, e2⟩ := in_eq (op := op) ak bk (by omega)
  rw [e1, e2] at HI
  obtain ⟨o1, o2⟩ := of2 (op := op) (by simpa using h2)
  have ki := inK_cases op ka kb
  have kk := ki_of ki
  by_cases hsh : op = 6 ∨ op = 7
  · have HZ := RSize_any (inK op ak bk)
    by_cases h0 : b < 0
    · rw [sh_bad hsh hb la lb (.inl h0)]
      rcases hsh with rfl | rfl
      · exact quietB (RT_low6 a ak b bk _ _ w h0 HB HLa HLb HI)
      · exact quietB (RT_low7 a ak b bk _ _ w h0 HB HLa HLb HI)
    · by_cases h1 : 8 * sizM (inK op ak bk) ≤ b
      · rw [sh_bad hsh hb la lb (.inr h1)]
        rcases siz_48 ki with hz | hz
        · rw [hz] at HZ h1
          rcases hsh with rfl | rfl
          · exact quietB (RT_high6_4 a ak b bk _ _ w h0 (by omega) HB HLa HLb HI HZ)
          · exact quietB (RT_high7_4 a ak b bk _ _ w h0 (by omega) HB HLa HLb HI HZ)
        · rw [hz] at HZ h1
          rcases hsh with rfl | rfl
          · exact quietB (RT_high6_8 a ak b bk _ _ w h0 (by omega) HB HLa HLb HI HZ)
          · exact quietB (RT_high7_8 a ak b bk _ _ w h0 (by omega) HB HLa HLb HI HZ)
      · rw [sh_eq hsh ha hb la lb h0 (by omega)]
        have hs := siz_in (inK op ak bk)
        have HS := RshiftedB op (inK op ak bk) a b.toNat (by omega)
        rw [show ((b.toNat : Nat) : Int) = b by omega] at HS
        generalize rshV op (inK op ak bk) a b.toNat = V at *
        rcases siz_48 ki with hz | hz
        · rw [hz] at HZ h1
          cases hB : rshB op (inK op ak bk) a b.toNat
          · rw [hB] at HS
            rcases hsh with rfl | rfl
            · exact RT_sh6_4_false a ak b bk _ _ _ w h0 (by omega) HS HB HLa HLb HI HZ
            · exact RT_sh7_4_false a ak b bk _ _ _ w h0 (by omega) HS HB HLa HLb HI HZ
          · rw [hB] at HS
            rcases hsh with rfl | rfl
            · exact RT_sh6_4_true a ak b bk _ _ _ w h0 (by omega) HS HB HLa HLb HI HZ
            · exact RT_sh7_4_true a ak b bk _ _ _ w h0 (by omega) HS HB HLa HLb HI HZ
        · rw [hz] at HZ h1
          cases hB : rshB op (inK op ak bk) a b.toNat
          · rw [hB] at HS
            rcases hsh with rfl | rfl
            · exact RT_sh6_8_false a ak b bk _ _ _ w h0 (by omega) HS HB HLa HLb HI HZ
            · exact RT_sh7_8_false a ak b bk _ _ _ w h0 (by omega) HS HB HLa HLb HI HZ
          · rw [hB] at HS
            rcases hsh with rfl | rfl
            · exact RT_sh6_8_true a ak b bk _ _ _ w h0 (by omega) HS HB HLa HLb HI HZ
            · exact RT_sh7_8_true a ak b bk _ _ _ w h0 (by omega) HS HB HLa HLb HI HZ
  · have hs : shiM op = false := by
      cases h : shiM op
      · rfl
      · exact absurd (shi_iff.1 h) hsh
    obtain ⟨K, hK⟩ : ∃ K, usuM ak bk = K := ⟨_, rfl⟩
    have eK : inK op ak bk = K := by rw [← hK]; simp [inK, h2, hs]
    rw [eK] at HI ki kk
    have HTa := fun W => RTo_any a K W ha.1 ha.2
    have HTb := fun W => RTo_any b K W hb.1 hb.2
    have HQ := RisTruth_any op
    have q : ∀ n : Int, op ≠ n → (op == n) = false := fun n h => by simpa using h
    have hA : i64b (toM a K) := lies_b ha
    have hB : i64b (toM b K) := lies_b hb
    have HU := RUnsigned_any K
    by_cases hask : op = 11 ∨ op = 12 ∨ op = 13 ∨ op = 14
    · rw [show askM op = true by rcases hask with rfl | rfl | rfl | rfl <;> rfl] at HQ
      rw [ask_eq hask ha hb la lb hK]
      exact quietB (RT_truth op a ak b bk K _ _ _ _ _ _ w (q 6 (by omega)) (q 7 (by omega)) HB HLa HLb HI HTa HTb HQ (Rcompared_any op K (toM a K) (toM b K)))
    · by_cases hdv : op = 4 ∨ op = 5
      · rw [show askM op = false by rcases hdv with rfl | rfl <;> rfl] at HQ
        by_cases h0 : toM b K = 0
        · rw [div_zero hdv hb la lb hK h0]
          rcases hdv with rfl | rfl
          · exact quietB (RT_div0_4 a ak b bk K _ _ _ _ _ w (by simpa using h0) HB HLa HLb HI HTa HTb HQ)
          · exact quietB (RT_div0_5 a ak b bk K _ _ _ _ _ w (by simpa using h0) HB HLa HLb HI HTa HTb HQ)
        · rw [div_two hdv ha hb la lb hK h0, ← fin_tup]
          have hu : IntKind.u64.wrap (toM b K) ≠ 0 := by have h1 := hB.1; have h2 := hB.2; rw [u64_of]; omega
          have HD4 := fun W => RDivided_any 4 K (toM a K) (toM b K) W h0 hu
          have HD5 := fun W => RDivided_any 5 K (toM a K) (toM b K) W h0 hu
          have lA := lies_toM a K kk
          have lB := lies_toM b K kk
          have b4 := (div_eq (.inl rfl) hA hB lA lB h0).2
          have b5 := (div_eq (.inr rfl) hA hB lA lB h0).2
          have HLq := fun W => RLies_any (rdivM 4 K (toM a K) (toM b K)) K W b4.1 b4.2
          rcases hdv with rfl | rfl
          · exact quietB (RT_div_4 a ak b bk K _ _ _ _ _ _ _ _ _ _ w (by simpa using h0) HB HLa HLb HI HTa HTb HQ HD4 HLq (fun W => RTo_any _ K W b4.1 b4.2) HU)
          · exact quietB (RT_div_5 a ak b bk K _ _ _ _ _ _ _ _ _ _ _ w (by simpa using h0) HB HLa HLb HI HTa HTb HQ HD5 HD4 HLq (fun W => RTo_any _ K W b5.1 b5.2) HU)
      · have hpl : op = 1 ∨ op = 2 ∨ op = 3 ∨ op = 8 ∨ op = 9 ∨ op = 10 := by omega
        rw [show askM op = false by rcases hpl with rfl | rfl | rfl | rfl | rfl | rfl <;> rfl] at HQ
        have bp := (pla_eq (op := op) (a := toM a K) (b := toM b K) (k := K) hpl).2
        rw [pla_two hpl ha hb la lb hK, ← fin_tup]
        exact quietB (RT_plain op a ak b bk K _ _ _ _ _ _ _ _ _ _ w (q 6 (by omega)) (q 7 (by omega)) (q 4 (by omega)) (q 5 (by omega)) HB HLa HLb HI HTa HTb HQ (Rplain_any op (toM a K) (toM b K)) (fun W => RTo_any _ K W bp.1 bp.2) HU)
end Go.Proofs.YtobfpdhfmbpidaaDoor
