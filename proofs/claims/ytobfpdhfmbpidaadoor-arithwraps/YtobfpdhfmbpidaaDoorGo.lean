/-
  The document's own One and Wrap tell what the program's tell; ArithOne, ArithWraps.
-/
import Derived.Test.YtobfpdhfmbpidaaDoorGn
import Derived.Test.YtobfpdhfmbpidaaDoorGw
namespace Go.Proofs.YtobfpdhfmbpidaaDoor
open Go Go.RowKit
set_option linter.unusedVariables false
set_option linter.unusedSimpArgs false
theorem flip_i64 (a : Int) (ha : i64b a) : bits .xor .i64 (-1) a = -a - 1 := by
  have h1 := ha.1; have h2 := ha.2
  rw [xor_i64]
  have e1 : BitVec.ofInt 64 (-1) = BitVec.allOnes 64 := by decide
  rw [e1, BitVec.allOnes_xor, BitVec.toNat_not, BitVec.toNat_ofInt]
  unfold wrap64
  simp
  omega
theorem one3_yes {op a ak : Int} (h1 : ofM op = 1) (la : liesM a ak = true) : one3 op a ak = if keepM (recM op (worM a (proM ak)) 0) (proM ak) then (toK (recM op (worM a (proM ak)) 0) (proM ak), (if askM op then 5 else proM ak), 0) else (0, 0, 90) := by
  obtain ⟨o1, o2⟩ := of1 (op := op) (by simpa using h1)
  have kk := ki_of (pro_cases (lies_ki la))
  unfold one3 oneX
  rw [h1, la, pro_keeps la]
  simp only [bne_self_eq_false, Bool.false_eq_true, if_false, if_true]
  unfold str0 str1 str2 strB
  rw [def_other (by omega), er_of kk, Bool.true_and]
  split <;> rfl
theorem usu_pro {k : Int} (h : k = 5 ∨ k = 6 ∨ k = 7 ∨ k = 8) : usuM k k = k := by rcases h with rfl | rfl | rfl | rfl <;> decide
theorem ROne_any (op a ak : Int) (ha : i64b a) (w : World) : Calls Tryd.prog 21 #[.int .i64 op, .int .i64 a, .int .i64 ak] w fun e w' => e = .returned (tupT (one3 op a ak)) ∧ Below w.heap.size w w' := by
  have HO := RisOne_any op
  by_cases h1 : ofM op = 1
  case neg =>
    rw [show (ofM op == 1) = false by simpa using h1] at HO
    have e : one3 op a ak = (0, 0, 2) := by unfold one3; rw [show (ofM op != 1) = true by simpa using h1]; rfl
    rw [e]
    exact quietB (RO_arg op a ak w HO)
  rw [show (ofM op == 1) = true by simpa using h1] at HO
  have HL := fun W => RLies_any a ak W ha.1 ha.2
  cases la : liesM a ak
  · simp only [la] at HL
    have e : one3 op a ak = (0, 0, 80) := by unfold one3; rw [h1, la]; rfl
    rw [e]
    exact quietB (RO_kind op a ak w HO HL)
  simp only [la] at HL
  have ka := lies_ki la
  have ki := pro_cases ka
  have kk := ki_of ki
  have lK := pro_lies la
  obtain ⟨o1, o2⟩ := of1 (op := op) (by simpa using h1)
  have HI : ∀ op, ofM op = 1 → ∀ W, Calls Tryd.prog 33 #[.int .i64 op, .int .i64 ak, .int .i64 ak] W fun e w' => e = .returned (.tuple #[.int .i64 (proM ak), .int .i64 (erM ak)]) ∧ w' = W := fun op ho W => by
    have h := RIn_any op ak ak W
    rw [show rinK op ak ak = proM ak by simp [rinK, ho], show rinE op ak ak = erM ak by simp [rinE, ho]] at h
    exact h
  rw [one3_yes h1 la]
  have rX := rngK_of ha lK
  have b1 := ha.1; have b2 := ha.2
  obtain rfl | rfl | rfl : op = 15 ∨ op = 16 ∨ op = 17 := by omega
  · have z0 : i64b 0 := ⟨by decide, by decide⟩
    have h2 := RTwo_any 2 0 (proM ak) a (proM ak) z0 ha
    have e : two3 2 0 (proM ak) a (proM ak) = if keepM (recM 15 (worM a (proM ak)) 0) (proM ak) then (toK (recM 15 (worM a (proM ak)) 0) (proM ak), (if askM 15 then 5 else proM ak), 0) else (0, 0, 90) := by
      rw [two3_n rfl rfl (lies_0 kk) lK (usu_pro ki), lies_to lK, lies_to (lies_0 kk)]
      have ew : worM 0 (proM ak) = 0 := by unfold worM; split <;> rfl
      rw [ew]
      have er : recM 2 0 (worM a (proM ak)) = recM 15 (worM a (proM ak)) 0 := by show 0 - worM a (proM ak) = -worM a (proM ak); omega
      unfold strB
      rw [def_other (by decide), Bool.true_and, er]
      rfl
    rw [← e]
    exact RO_neg a ak _ _ _ _ _ w h2 HO HL (HI 15 rfl)
  · have ek : keepM (recM 16 (worM a (proM ak)) 0) (proM ak) = true := by
      cases hu : unsM (proM ak)
      · have h57 := uns_cases ki hu
        apply keep_rng
        show rngK (-worM a (proM ak) - 1) (proM ak)
        unfold rngK at *; omega
      · exact keep_u hu
    have hfl : i64b (-a - 1) := ⟨by omega, by omega⟩
    have ev : toM (-a - 1) (proM ak) = toK (recM 16 (worM a (proM ak)) 0) (proM ak) := toM_64 kk hfl (by
      show _ = (-worM a (proM ak) - 1) % _
      have := wor_64 a (proM ak)
      omega)
    have HT : ∀ W, Calls Tryd.prog 42 #[.int .i64 (bits .xor .i64 (-1) a), .int .i64 (proM ak)] W fun e w' => e = .returned (.tuple #[.int .i64 (toK (recM 16 (worM a (proM ak)) 0) (proM ak)), .int .i64 (erM (proM ak))]) ∧ w' = W := fun W => by
      rw [flip_i64 a ha, ← ev]
      exact RTo_any _ _ W hfl.1 hfl.2
    rw [ek]
    exact quietB (RO_flip a ak _ _ _ _ w HO HL (HI 16 rfl) HT)
  · have er : recM 17 (worM a (proM ak)) 0 = tru (a == 0) := by
      show tru (decide (worM a (proM ak) = 0)) = _
      rw [show decide (worM a (proM ak) = 0) = (worM a (proM ak) == 0) from rfl, wor_zero ha]
    rw [er, keep_tru _ kk, toK_tru _ kk]
    exact quietB (RO_not a ak w HO HL)
theorem one_walk (op a ak : Int) (ha : i64b a) (w : World) (hO : Ops w) (hw : 0 < w.heap.size) : Calls Tryd.prog 5 #[.int .i64 op, .int .i64 a, .int .i64 ak] w fun e w' => e = .returned (.bool true) ∧ Below w.heap.size w w' :=
  one_w op a ak _ _ _ w (shownAt hO hw) (fun W hB => OneW_any op a ak W ha.1 ha.2 (hO.below hB hw) (Nat.lt_of_lt_of_le hw hB.size)) (fun W _ => ROne_any op a ak ha W)
theorem siz_1248 {k : Int} (h : kiM k = true) : sizM k = 1 ∨ sizM k = 2 ∨ sizM k = 4 ∨ sizM k = 8 := by
  rcases kiM_cases h with rfl | rfl | rfl | rfl | rfl | rfl | rfl | rfl <;> decide
theorem toM_toM {v k n : Int} (hk : kiM k = true) (h : toM v k = toK n k) : toM (toM v k) k = toK n k := by rw [to_twiceW, h]
theorem RWrap_any (op k a b : Int) (ha : i64b a) (hb : i64b b) (w : World) : Calls Tryd.prog 23 #[.int .i64 op, .int .i64 k, .int .i64 a, .int .i64 b] w fun e w' => e = .returned (tupD (wra2 op k a b)) ∧ Below w.heap.size w w' := by
  have HB := RBinary_any op
  have HO := RisOne_any op
  have b1 := ha.1; have b2 := ha.2; have b3 := hb.1; have b4 := hb.2
  cases h0 : ofM op == 0
  case true =>
    have e : ofM op = 0 := by simpa using h0
    rw [e] at HB HO
    rw [show wra2 op k a b = (0, 2) by unfold wra2; rw [h0]; rfl]
    exact quietB (RW_arg op k a b w HB HO)
  obtain ⟨o1, o2⟩ := of0 h0
  have h12 : ((ofM op == 2) || (ofM op == 1)) = true := by
    unfold ofM
    split
    · rfl
    · rw [if_pos (by omega)]; rfl
  have HLa := fun W => RLies_any a k W ha.1 ha.2
  have HLb := fun W => RLies_any b k W hb.1 hb.2
  cases hl : liesM a k && liesM b k
  · rw [wra2_lies h0 hl]
    exact quietB (RW_kind op k a b _ _ _ _ w h12 hl HB HO HLa HLb)
  rw [Bool.and_eq_true] at hl
  obtain ⟨la, lb⟩ := hl
  simp only [la] at HLa
  simp only [lb] at HLb
  have kk := lies_ki la
  have HQ := RisTruth_any op
  have q : ∀ n : Int, op ≠ n → (op == n) = false := fun n h => by simpa using h
  by_cases e17 : op = 17
  · subst e17
    rw [wra2_ok rfl rfl rfl rfl la lb, show recM 17 (worM a k) (worM b k) = tru (a == 0) by
      show tru (decide (worM a k = 0)) = _
      rw [show decide (worM a k = 0) = (worM a k == 0) from rfl, wor_zero ha], toK_tru _ kk]
    exact quietB (RW_not k a b w HB HO HLa HLb)
  by_cases hask : op = 11 ∨ op = 12 ∨ op = 13 ∨ op = 14
  · have ht : ofM op = 2 := by rcases hask with rfl | rfl | rfl | rfl <;> rfl
    have ha' : askM op = true := by rcases hask with rfl | rfl | rfl | rfl <;> rfl
    have hs : shiM op = false := by rcases hask with rfl | rfl | rfl | rfl <;> rfl
    rw [ht] at HB
    rw [ha'] at HQ
    obtain ⟨t, htr⟩ := ask_tru (x := worM a k) (y := worM b k) ht ha'
    rw [wra2_ok h0 (q 4 (by omega)) (q 5 (by omega)) hs la lb, htr, toK_tru _ kk, ← htr, ← cmp_eq hask ha hb la lb]
    exact quietB (RW_truth op k a b _ w (q 17 e17) HB HLa HLb HQ (Rcompared_any op k a b))
  have hnask : askM op = false := by
    unfold askM
    rw [q 11 (by omega), q 12 (by omega), q 13 (by omega), q 14 (by omega), q 17 e17]; rfl
  rw [hnask] at HQ
  by_cases e15 : op = 15
  · subst e15
    have ev : toM (wrap64 (-a)) k = toK (-worM a k) k := toM_64 kk (w64_in _) (by have := wor_64 a k; unfold wrap64; omega)
    rw [wra2_ok rfl rfl rfl rfl la lb, show recM 15 (worM a k) (worM b k) = -worM a k from rfl, ← ev]
    have HT := fun W => RTo_any (wrap64 (-a)) k W (w64_in _).1 (w64_in _).2
    rw [er_of kk] at HT
    exact quietB (RW_15 k a b _ _ w HB HO HLa HLb HQ HT)
  by_cases e16 : op = 16
  · subst e16
    have hfl : i64b (-a - 1) := ⟨by omega, by omega⟩
    have ev : toM (-a - 1) k = toK (-worM a k - 1) k := toM_64 kk hfl (by have := wor_64 a k; omega)
    rw [wra2_ok rfl rfl rfl rfl la lb, show recM 16 (worM a k) (worM b k) = -worM a k - 1 from rfl, ← ev]
    have HT := fun W => RTo_any (-a - 1) k W hfl.1 hfl.2
    rw [er_of kk, ← flip_i64 a ha] at HT
    have := RW_16 k a b _ _ w HB HO HLa HLb HQ HT
    rw [flip_i64 a ha] at this
    exact quietB this
  have ht : ofM op = 2 := by unfold ofM; rw [if_pos (by omega)]
  rw [ht] at HB
  by_cases hdv : op = 4 ∨ op = 5
  · by_cases hb0 : b = 0
    · subst hb0
      have ew : worM 0 k = 0 := by unfold worM; split <;> rfl
      rcases hdv with rfl | rfl
      · rw [show wra2 4 k a 0 = (0, 0) by unfold wra2; rw [ew, la, lb]; rfl]
        have HT := fun W => RTo_any 0 k W (by decide) (by decide)
        rw [er_of kk, lies_to (lies_0 kk)] at HT
        exact quietB (RW_div0_4 k a _ _ w HB HLa HLb HQ HT)
      · rw [show wra2 5 k a 0 = (a, 0) by unfold wra2; rw [ew, la, lb]; rfl]
        have HT := fun W => RTo_any a k W ha.1 ha.2
        rw [er_of kk, lies_to la] at HT
        exact quietB (RW_div0_5 k a _ _ w HB HLa HLb HQ HT)
    · have hu : IntKind.u64.wrap b ≠ 0 := by rw [u64_of]; omega
      obtain ⟨d1, d2⟩ := div_eq hdv ha hb la lb hb0
      have ev := toM_64 kk d2 d1
      have hz : (worM b k == 0) = false := by rw [wor_zero hb]; simpa using hb0
      have HT := fun W => RTo_any (rdivM op k a b) k W d2.1 d2.2
      rw [ev, er_of kk] at HT
      have hs : shiM op = false := by rcases hdv with rfl | rfl <;> rfl
      have e : wra2 op k a b = (toK (recM op (worM a k) (worM b k)) k, 0) := by
        unfold wra2 wraY
        rw [h0, la, lb, hz, hs, er_of kk]
        simp
      rw [e]
      rcases hdv with rfl | rfl
      · exact quietB (RW_div_4 k a b _ _ _ w (by simpa using hb0) (by simpa using hb0) HB HLa HLb HQ (fun W => RDivided_any 4 k a b W hb0 hu) HT)
      · exact quietB (RW_div_5 k a b _ _ _ w (by simpa using hb0) (by simpa using hb0) HB HLa HLb HQ (fun W => RDivided_any 5 k a b W hb0 hu) HT)
  by_cases hsh : op = 6 ∨ op = 7
  · have hs : shiM op = true := shi_iff.2 hsh
    have hz := siz_1248 kk
    have hsz := siz_in k
    have hsp := siz_pos kk
    have eY : wraY op k b = (b % 18446744073709551616).tmod (8 * sizM k) := by unfold wraY; rw [hs, wor_64]; rfl
    have m0 : 0 ≤ (b % 18446744073709551616).tmod (8 * sizM k) := Int.tmod_nonneg _ (by omega)
    have m1 : (b % 18446744073709551616).tmod (8 * sizM k) < 8 * sizM k := Int.tmod_lt_of_pos _ (by omega)
    have e : wra2 op k a b = (toK (recM op (worM a k) (wraY op k b)) k, 0) := by
      unfold wra2
      rw [h0, la, lb, q 4 (by omega), q 5 (by omega), er_of kk]
      rfl
    rw [e, eY]
    obtain ⟨n, hn⟩ := Int.eq_ofNat_of_zero_le m0
    have ewn : wrap64 ((IntKind.u64.wrap b).tmod (8 * sizM k)) = (n : Int) := by rw [u64_of, hn]; exact w64_id ⟨by omega, by omega⟩
    have HS := RshiftedB op k a n (by omega)
    rw [← ewn] at HS
    rw [hn]
    have rX := rngK_of ha la
    have hbv : i64b (rshV op k a n) ∧ toM (rshV op k a n) k = toK (recM op (worM a k) (n : Int)) k := by
      rcases hsh with rfl | rfl
      · have e1 : rshV 6 k a n = toM (wrap64 (a * 2 ^ n)) k := rfl
        rw [e1]
        refine ⟨lies_b (w64_in _), toM_toM kk ?_⟩
        show toK (a * 2 ^ n) k = toK (worM a k * 2 ^ ((n : Int)).toNat) k
        rw [show ((n : Int)).toNat = n by omega]
        exact toK_congr kk (mul_mod (worM_mod kk a).symm rfl)
      · have e2 : recM 7 (worM a k) (n : Int) = worM a k / 2 ^ n := by show worM a k / 2 ^ ((n : Int)).toNat = _; rw [show ((n : Int)).toNat = n by omega]
        rw [e2]
        by_cases h8 : k = 8
        · subst h8
          have e3 : rshV 7 8 a n = wrap64 (worM a 8 / 2 ^ n) := by rw [wor_8, ← u64_of]; rfl
          rw [e3]
          exact ⟨w64_in _, rfl⟩
        · have rr := down_rng rX n
          rw [wor_plain h8 la] at rr ⊢
          have e3 : rshV 7 k a n = a / 2 ^ n := by simp [rshV, h8]
          rw [e3]
          exact ⟨i64_rng rr h8, toM_toK (i64_rng rr h8)⟩
    have HT := fun W => RTo_any (rshV op k a n) k W hbv.1.1 hbv.1.2
    rw [hbv.2, er_of kk] at HT
    have HZ := RSize_any k
    rcases hz with z | z | z | z
    · rw [z] at HS HZ
      rcases hsh with rfl | rfl
      · exact RW_sh6_1 k a b _ _ _ _ w HS HB HLa HLb HQ HZ HT
      · exact RW_sh7_1 k a b _ _ _ _ w HS HB HLa HLb HQ HZ HT
    · rw [z] at HS HZ
      rcases hsh with rfl | rfl
      · exact RW_sh6_2 k a b _ _ _ _ w HS HB HLa HLb HQ HZ HT
      · exact RW_sh7_2 k a b _ _ _ _ w HS HB HLa HLb HQ HZ HT
    · rw [z] at HS HZ
      rcases hsh with rfl | rfl
      · exact RW_sh6_4 k a b _ _ _ _ w HS HB HLa HLb HQ HZ HT
      · exact RW_sh7_4 k a b _ _ _ _ w HS HB HLa HLb HQ HZ HT
    · rw [z] at HS HZ
      rcases hsh with rfl | rfl
      · exact RW_sh6_8 k a b _ _ _ _ w HS HB HLa HLb HQ HZ HT
      · exact RW_sh7_8 k a b _ _ _ _ w HS HB HLa HLb HQ HZ HT
  · have hpl : op = 1 ∨ op = 2 ∨ op = 3 ∨ op = 8 ∨ op = 9 ∨ op = 10 := by omega
    have hs : shiM op = false := by rcases hpl with rfl | rfl | rfl | rfl | rfl | rfl <;> rfl
    obtain ⟨d1, d2⟩ := pla_eq (op := op) (a := a) (b := b) (k := k) hpl
    have HT := fun W => RTo_any (rplaV op a b) k W d2.1 d2.2
    rw [toM_64 kk d2 d1, er_of kk] at HT
    rw [wra2_ok h0 (q 4 (by omega)) (q 5 (by omega)) hs la lb]
    exact quietB (RW_plain op k a b _ _ _ _ w (q 4 (by omega)) (q 5 (by omega)) (q 6 (by omega)) (q 7 (by omega)) (q 15 e15) (q 16 e16) (q 17 e17) HB HLa HLb HQ (Rplain_any op a b) HT)
theorem wraps_walk (op k a b : Int) (ha : i64b a) (hb : i64b b) (w : World) (hO : Ops w) (hw : 0 < w.heap.size) : Calls Tryd.prog 6 #[.int .i64 op, .int .i64 k, .int .i64 a, .int .i64 b] w fun e w' => e = .returned (.bool true) ∧ Below w.heap.size w w' :=
  wraps_w op k a b _ _ w (shownAt hO hw) (wrapAt hO hw op k a b ha hb) (fun W _ => RWrap_any op k a b ha hb W)
end Go.Proofs.YtobfpdhfmbpidaaDoor
