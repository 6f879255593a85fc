/-
  ClassApart: the numbers.
-/
import Derived.Test.YtaffldhmgifdoaaIu
namespace Go.Proofs.Ytaffldhmgifdoaa
open Go Go.RowKit Go.Shelf
set_option linter.unusedVariables false
set_option linter.unusedSimpArgs false

/-- The last register, and where the stack ends. -/
def apU (s : Int × Int) (x : Lc) : Int × Int := if 0 ≤ x.reg then (x.reg, s.2) else (s.1, x.off + 8)
def apE (L : List Lc) : Int × Int := L.foldl apU (-1, 0)
theorem apE_snoc (L : List Lc) (x : Lc) : apE (L ++ [x]) = apU (apE L) x := by unfold apE; rw [List.foldl_append]; rfl
/-- What the law asks of a place. -/
def ApC (args : List ShT) (s : Int × Int) (x : Lc) : Prop :=
  (0 ≤ x.reg → x.reg = s.1 + 1 ∧ x.reg ≤ 5 ∧ x.off = 0) ∧
  (¬ 0 ≤ x.reg → ∃ (i : Nat) (h : i < args.length), x.arg = (i : Int) ∧ (chkM args[i]).2 = 0 ∧ AlOk (chkM args[i]).1.2 ∧ s.2 ≤ x.off ∧ x.off ≤ 100000000 ∧ 0 ≤ x.off ∧ x.off % 8 = 0 ∧ (x.eight = 0 → x.off % (chkM args[i]).1.2 = 0))
def ApAll (args : List ShT) (L : List Lc) : Prop := ∀ (i : Nat) (h : i < L.length), ApC args (apE (L.take i)) L[i]
theorem ApAll.snoc {args : List ShT} {L : List Lc} {x : Lc} (h : ApAll args L) (hx : ApC args (apE L) x) : ApAll args (L ++ [x]) := fun i hi => by
  by_cases hl : i < L.length
  · rw [List.getElem_append_left hl, List.take_append_of_le_length (by omega)]
    exact h i hl
  · have hil : i = L.length := by simp at hi; omega
    subst hil
    rw [List.getElem_append_right (Nat.le_refl _), List.take_append_of_le_length (Nat.le_refl _), List.take_length]
    simpa using hx
/-- What is kept. -/
def PiA (args : List ShT) (st : PlS) : Prop := ApAll args st.1 ∧ apE st.1 = (st.2.1 - 1, st.2.2)
theorem reg_ap (args : List ShT) (arg : Int) (cl : List Int) (L : List Lc) (us sk : Int) (h : PiA args (L, us, sk)) (hu : 0 ≤ us) (hf : us + (onesM cl : Int) ≤ 6) : ∀ k, k ≤ cl.length → PiA args ((regK arg cl (L, us) k).1, (regK arg cl (L, us) k).2, sk)
  | 0, _ => h
  | k + 1, hk => by
    obtain ⟨h1, h2⟩ := reg_ap args arg cl L us sk h hu hf k (by omega)
    have ho := (regK_ones arg cl (L, us) k (by omega)).1
    have hgd : cl.getD k 0 = cl[k] := by rw [List.getD_eq_getElem?_getD, List.getElem?_eq_getElem (by omega)]; rfl
    simp only at h1 h2 ho
    rw [regK, hgd, regS]
    cases hx : cl[k] == 1
    · simp only [Bool.false_eq_true, if_false]
      exact ⟨h1, h2⟩
    · simp only [if_true]
      have hone : onesM (cl.take (k + 1)) ≤ onesM cl := by
        unfold onesM
        exact List.Sublist.countP_le (List.take_sublist _ _)
      have ht := ones_take cl k (by omega)
      rw [hx, if_pos rfl] at ht
      refine ⟨h1.snoc ⟨fun _ => ?_, fun hn => ?_⟩, ?_⟩
      · rw [h2]
        exact ⟨by show (regK arg cl (L, us) k).2 = (regK arg cl (L, us) k).2 - 1 + 1; omega, by show (regK arg cl (L, us) k).2 ≤ 5; omega, rfl⟩
      · exact absurd (show (0 : Int) ≤ (regK arg cl (L, us) k).2 by omega) hn
      · rw [apE_snoc, h2]
        unfold apU
        simp only
        rw [if_pos (by omega)]
        congr 1
        omega
theorem mod_max {bg a : Int} (h : bg % max 8 a = 0) (ha : AlOk a) : bg % 8 = 0 ∧ bg % a = 0 := by
  unfold AlOk at ha
  rcases ha with rfl | rfl | rfl | rfl | rfl | rfl | rfl
  all_goals (
    simp only [show max (8 : Int) 1 = 8 from rfl, show max (8 : Int) 2 = 8 from rfl, show max (8 : Int) 4 = 8 from rfl, show max (8 : Int) 8 = 8 from rfl, show max (8 : Int) 16 = 16 from rfl, show max (8 : Int) 32 = 32 from rfl, show max (8 : Int) 64 = 64 from rfl] at h
    omega)
theorem stk_ap (args : List ShT) (k : Nat) (hk : k < args.length) (L : List Lc) (us sk a : Int) (h : PiA args (L, us, sk)) (ha : AlOk a) (hc : (chkM args[k]).2 = 0) (hca : (chkM args[k]).1.2 = a) (hsk : 0 ≤ sk ∧ sk ≤ 10000000) : ∀ n, n ≤ 8192 →
    ApAll args (L ++ (List.range n).map (stkF k (upM sk (max 8 a)))) ∧ apE (L ++ (List.range n).map (stkF k (upM sk (max 8 a)))) = (us - 1, if n = 0 then sk else upM sk (max 8 a) + 8 * (n : Int))
  | 0, _ => by
    simp only [List.range_zero, List.map_nil, List.append_nil, if_true]
    exact h
  | n + 1, hn => by
    obtain ⟨h1, h2⟩ := stk_ap args k hk L us sk a h ha hc hca hsk n (by omega)
    have hb := al_bnd ha
    obtain ⟨u1, u2, u3⟩ := upM_le (n := sk) (m := max 8 a) hsk.1 (by omega)
    obtain ⟨m1, m2⟩ := mod_max u3 ha
    have he : L ++ (List.range (n + 1)).map (stkF k (upM sk (max 8 a))) = (L ++ (List.range n).map (stkF k (upM sk (max 8 a)))) ++ [stkF k (upM sk (max 8 a)) n] := by
      rw [List.range_succ, List.map_append, List.append_assoc]
      rfl
    rw [he]
    generalize upM sk (max 8 a) = bg at *
    refine ⟨h1.snoc ⟨fun hp => ?_, fun _ => ⟨k, hk, rfl, hc, by rw [hca]; exact ha, ?_, ?_, ?_, ?_, ?_⟩⟩, ?_⟩
    · exact absurd hp (by unfold stkF; simp)
    · rw [h2]
      unfold stkF
      simp only
      split <;> omega
    · unfold stkF; simp only; omega
    · unfold stkF; simp only; omega
    · unfold stkF; simp only; omega
    · intro h0
      rw [hca]
      unfold stkF at h0 ⊢
      simp only at h0 ⊢
      obtain rfl : n = 0 := by omega
      simpa using m2
    · rw [apE_snoc, h2]
      unfold apU stkF
      simp only
      rw [if_neg (by omega), if_neg (by omega)]
      congr 1
      push_cast
      omega
theorem up8_ei (z : Nat) : upM (z : Int) 8 = 8 * (nEi z : Int) := by
  unfold upM nEi
  omega
theorem put_ap (args : List ShT) (k : Nat) (hk : k < args.length) (he : (lokM args[k]).2 = 0) (st : PlS) (n : Nat) (hn : n ≤ 20) (hs : StOk n st) (h : PiA args st) : PiA args (putM k (lokM args[k]).1 st) := by
  obtain ⟨f1, f2, f3, f4, f5, f6, f7, f8, f9⟩ := cls_facts (t := args[k]) (by rw [he]; rfl)
  obtain ⟨L, us, sk⟩ := st
  obtain ⟨s1, s2, s3, s4, s5⟩ := hs
  simp only at s1 s2 s3 s4 s5
  have hc : (chkM args[k]).2 = 0 := by simpa using f1
  have e1 : (lokM args[k]).1.1 = (chkM args[k]).1.1 := by rw [f8]
  have e2 : (lokM args[k]).1.2.1 = (chkM args[k]).1.2 := by rw [f8]
  unfold putM
  split
  · rename_i hf
    simp only at hf
    rw [fit_eq _ _ (by omega)] at hf
    simp only [Bool.and_eq_true, decide_eq_true_eq] at hf
    exact reg_ap args k _ L us sk h s2 (by omega) _ (Nat.le_refl _)
  · simp only
    rw [e1, e2]
    obtain ⟨zn, hz⟩ : ∃ m : Nat, (chkM args[k]).1.1 = (m : Int) := ⟨(chkM args[k]).1.1.toNat, by omega⟩
    rw [hz, Int.toNat_natCast, up8_ei]
    have hne : nEi zn ≠ 0 := by unfold nEi; omega
    have hne2 : nEi zn ≤ 8192 := by unfold nEi; omega
    obtain ⟨h1, h2⟩ := stk_ap args k hk L us sk (chkM args[k]).1.2 h f5 hc rfl ⟨s4, by omega⟩ (nEi zn) hne2
    rw [if_neg hne] at h2
    exact ⟨h1, h2⟩
theorem plB_ap (args : List ShT) (m : Bool) : PiA args (plB m) := by
  have h0 : PiA args (([], 0, 0) : PlS) := ⟨fun i hi => absurd hi (Nat.not_lt_zero _), rfl⟩
  unfold plB
  split
  · have hf : fitM (6 - (([], 0, 0) : PlS).2.1) adrV.2.2 = true := by rfl
    unfold putM
    rw [if_pos hf]
    exact reg_ap args (-1) [1] [] 0 0 h0 (by omega) (by decide) 1 (by decide)
  · exact h0
theorem plK_ap (args : List ShT) (m : Bool) (hn : args.length ≤ 16) (he : ∀ (i : Nat) (h : i < args.length), (lokM args[i]).2 = 0) : ∀ k, k ≤ args.length → PiA args (plK (args.map (fun t => (lokM t).1)) (plB m) k)
  | 0, _ => plB_ap args m
  | k + 1, h => by
    rw [plK]
    have hv : (args.map (fun t => (lokM t).1)).getD k (0, 0, []) = (lokM args[k]).1 := by
      rw [List.getD_eq_getElem?_getD, List.getElem?_map, List.getElem?_eq_getElem (by omega)]
      rfl
    rw [hv]
    refine put_ap args k (by omega) (he k (by omega)) _ (k + 1) (by omega) ?_ (plK_ap args m hn he k (by omega))
    refine plK_ok _ m (fun v hv => ?_) k (by simp; omega)
    obtain ⟨t, ht, rfl⟩ := List.mem_map.1 hv
    obtain ⟨i, hi, rfl⟩ := List.mem_iff_getElem.1 ht
    exact lok_ok (he i hi)
theorem errM_zero : ∀ (l : List Int), errM l = 0 → ∀ (i : Nat) (h : i < l.length), l[i] = 0
  | e :: r, h, 0, _ => by
    rw [errM] at h
    split at h
    · exact h
    · rename_i hn
      simpa using hn
  | e :: r, h, i + 1, hi => by
    rw [errM] at h
    split at h
    · rename_i hn
      rw [h] at hn
      cases hn
    · exact errM_zero r h i (by simpa using hi)
/-- What Pass tells, for the laws. -/
theorem pas_facts (sb : Bool) (args : List ShT) (ret : ShT) : (pasM sb args ret).2 ≠ 0 ∧ (pasM sb args ret).1 = ([], 0) ∨
    ∃ m sk, (pasM sb args ret).2 = 0 ∧ args.length ≤ 16 ∧ (∀ (i : Nat) (h : i < args.length), (lokM args[i]).2 = 0) ∧ (lobM sb ret).2 = 0 ∧ m = memB (lobM sb ret).1.2.2 ∧ (pasM sb args ret).1 = ((plK (args.map (fun t => (lokM t).1)) (plB m) args.length).1, upM sk 16) ∧ sk = (plK (args.map (fun t => (lokM t).1)) (plB m) args.length).2.2 := by
  unfold pasM
  split
  · exact .inl ⟨by decide, rfl⟩
  · rename_i h16
    split
    · rename_i h
      exact .inl ⟨by simpa using h, rfl⟩
    · rename_i h1
      split
      · rename_i h
        exact .inl ⟨by simpa using h, rfl⟩
      · rename_i h2
        have e1 : errM (args.map (fun t => (lokM t).2)) = 0 := by simpa using h1
        have e2 : (lobM sb ret).2 = 0 := by simpa using h2
        refine .inr ⟨_, _, rfl, by omega, fun i hi => ?_, e2, rfl, rfl, rfl⟩
        have := errM_zero _ e1 i (by simpa using hi)
        simpa using this
end Go.Proofs.Ytaffldhmgifdoaa
