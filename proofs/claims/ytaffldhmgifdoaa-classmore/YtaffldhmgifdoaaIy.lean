/-
  ClassMore: the numbers.
-/
import Derived.Test.YtaffldhmgifdoaaIv
namespace Go.Proofs.Ytaffldhmgifdoaa
open Go Go.RowKit Go.Shelf
set_option linter.unusedVariables false
set_option linter.unusedSimpArgs false

/-- One list opens with another one. -/
def PreL (a b : List Lc) : Prop := a.length ≤ b.length ∧ b.take a.length = a
theorem PreL.refl (a : List Lc) : PreL a a := ⟨Nat.le_refl _, List.take_length⟩
theorem PreL.app (a b : List Lc) : PreL a (a ++ b) := ⟨by simp, by simp⟩
theorem PreL.trans {a b c : List Lc} (h : PreL a b) (k : PreL b c) : PreL a c := by
  refine ⟨Nat.le_trans h.1 k.1, ?_⟩
  have e : (c.take b.length).take a.length = c.take a.length := by rw [List.take_take, Nat.min_eq_left h.1]
  rw [← e, k.2, h.2]
theorem regK_pre (arg : Int) (cl : List Int) (s0 : List Lc × Int) : ∀ k, PreL s0.1 (regK arg cl s0 k).1
  | 0 => PreL.refl _
  | k + 1 => by
    refine (regK_pre arg cl s0 k).trans ?_
    rw [regK, regS]
    split
    · exact PreL.app _ _
    · exact PreL.refl _
theorem putM_pre (arg : Int) (v : Int × Int × List Int) (st : PlS) (n : Nat) (hv : VaOk v) (hs : StOk n st) : PreL st.1 (putM arg v st).1 ∧ st.2.2 ≤ (putM arg v st).2.2 := by
  obtain ⟨v1, v2, v3, v4⟩ := hv
  obtain ⟨s1, s2, s3, s4, s5⟩ := hs
  have ha := al_bnd v3
  unfold putM
  split
  · exact ⟨regK_pre arg v.2.2 (st.1, st.2.1) _, Int.le_refl _⟩
  · obtain ⟨u1, u2, _⟩ := upM_le (n := st.2.2) (m := max 8 v.2.1) s4 (by omega)
    obtain ⟨u3, u4, _⟩ := upM_le (n := v.1) (m := 8) (by omega) (by omega)
    exact ⟨PreL.app _ _, by simp only; omega⟩
theorem plK_app (vs : List (Int × Int × List Int)) (x : Int × Int × List Int) (s0 : PlS) : ∀ k, k ≤ vs.length → plK (vs ++ [x]) s0 k = plK vs s0 k
  | 0, _ => rfl
  | k + 1, h => by
    rw [plK, plK, plK_app vs x s0 k (by omega)]
    congr 1
    rw [List.getD_eq_getElem?_getD, List.getD_eq_getElem?_getD, List.getElem?_append_left (by omega)]
theorem up16_mono {a b : Int} (h : a ≤ b) : upM a 16 ≤ upM b 16 := by
  unfold upM
  omega
/-- Arguments more change nothing of where the first ones lie. -/
theorem pas_more (sb : Bool) (args : List ShT) (ret more : ShT) (h1 : (pasM sb args ret).2 = 0) (h2 : (pasM sb (args ++ [more]) ret).2 = 0) :
    PreL (pasM sb args ret).1.1 (pasM sb (args ++ [more]) ret).1.1 ∧ (pasM sb args ret).1.2 ≤ (pasM sb (args ++ [more]) ret).1.2 := by
  rcases pas_facts sb args ret with ⟨a, _⟩ | ⟨m, sk, _, a16, aok, _, am, aL, ask⟩
  · exact absurd h1 a
  · rcases pas_facts sb (args ++ [more]) ret with ⟨b, _⟩ | ⟨m', sk', _, b16, bok, _, bm, bL, bsk⟩
    · exact absurd h2 b
    · obtain rfl : m = m' := by rw [am, bm]
      rw [aL, bL]
      have hle : (args ++ [more]).length = args.length + 1 := by simp
      have hVO : ∀ v ∈ (args ++ [more]).map (fun t => (lokM t).1), VaOk v := fun v hv => by
        obtain ⟨t, ht, rfl⟩ := List.mem_map.1 hv
        obtain ⟨i, hi, rfl⟩ := List.mem_iff_getElem.1 ht
        exact lok_ok (bok i hi)
      rw [hle, plK] at bsk ⊢
      rw [List.map_append, List.map_cons, List.map_nil] at hVO bsk ⊢
      rw [plK_app _ _ _ _ (by simp)] at bsk ⊢
      have hg : ((args.map (fun t => (lokM t).1)) ++ [(lokM more).1]).getD args.length (0, 0, []) = (lokM more).1 := by
        rw [List.getD_eq_getElem?_getD, List.getElem?_append_right (by simp)]
        simp
      rw [hg] at bsk ⊢
      have hst := plK_ok (args.map (fun t => (lokM t).1)) m (fun v hv => hVO v (List.mem_append_left _ hv)) args.length (by simp)
      obtain ⟨p1, p2⟩ := putM_pre args.length (lokM more).1 _ _ (hVO _ (List.mem_append_right _ (by simp))) hst
      rw [← bsk, ← ask] at p2
      exact ⟨p1, up16_mono p2⟩
end Go.Proofs.Ytaffldhmgifdoaa
