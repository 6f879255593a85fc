/-
  Plain lists: what Show shows, lexed and parsed, is the same macro.
-/
import Derived.Test.YticiddcgafhkhaaDoorZ1
import Derived.Test.YticiddcgafhkhaaDoorX5
namespace Go.Proofs.YticiddcgafhkhaaDoor
set_option linter.unusedVariables false
set_option linter.unusedSimpArgs false

theorem nmB_isN {N : List UInt8} (h : nmB ⟨N.toArray⟩ = true) : Tk.isN N := by
  unfold nmB at h
  split at h
  · rename_i t ht
    split at h
    · rename_i hs
      have hk := of_decide_eq_true h
      have hm : t ∈ (Tk.lex [(1, N)]).1 := by
        have : (Tk.lex [(1, N)]).1 = [t] := ht
        rw [this]; simp
      rcases Tk.col_mem _ _ t hm with h1 | h1
      · cases h1
      · obtain ⟨s, h2, h3, h4, h5⟩ := Tk.ev_all _ _ _ _ _ h1 rfl
        have hs' : t.s = N := hs
        simp only at h4 h5
        have hms := Tk.ms_take (Tk.isT_ne h2) h3
        rw [← h5, hs'] at hms
        have hlen : N.length = (Tk.ms s).2 := by
          rw [← hs', h5, List.length_take]
          have := Tk.ms_le (Tk.isT_ne h2)
          omega
        refine Tk.isN_ms ?_ ?_ ?_
        · rw [hms, ← h4]; omega
        · rw [hms, hlen]
        · intro e
          rw [e] at hlen
          simp at hlen
          exact h3 hlen.symm
    · cases h
  · cases h
/-- The text of parameters, from behind the bracket on, and their tokens. -/
def ptx (more : Bool) : List (List UInt8) → List UInt8
  | [] => if more then [46, 46, 46, 41] else [41]
  | p :: r => p ++ (if r = [] ∧ more = false then [41] else [44, 32] ++ ptx more r)
def ptk (n : Int) (more : Bool) (sp : Bool) : List (List UInt8) → List Tk.T
  | [] => if more then [⟨5, [46, 46, 46], n, sp, false⟩, ⟨5, [41], n, false, false⟩] else [⟨5, [41], n, sp, false⟩]
  | p :: r => ⟨1, p, n, sp, false⟩ :: (if r = [] ∧ more = false then [⟨5, [41], n, false, false⟩] else ⟨5, [44], n, false, false⟩ :: ptk n more true r)
theorem ptx_join (more : Bool) : ∀ ps : List (List UInt8), Lib.join (listedS more ps) [44, 32] ++ [41] = ptx more ps
  | [] => by cases more <;> simp [listedS, ptx, Lib.join_nil, Lib.join_one]
  | p :: r => by
    have ih := ptx_join more r
    by_cases h : r = [] ∧ more = false
    · obtain ⟨rfl, rfl⟩ := h
      simp [listedS, ptx, Lib.join_one]
    · have hne : listedS more r ≠ [] := by
        intro e
        apply h
        cases more
        · simp [listedS] at e; exact ⟨e, rfl⟩
        · simp [listedS] at e
      have hl : listedS more (p :: r) = p :: listedS more r := by cases more <;> simp [listedS]
      rw [ptx, if_neg h, hl, ← ih]
      cases hc : listedS more r with
      | nil => exact absurd hc hne
      | cons q t =>
        rw [Lib.join_cons, Lib.join_cons]
        simp [Lib.joinTail]
theorem ev_ptx (n : Int) (more : Bool) (z : List UInt8) : ∀ (ps : List (List UInt8)) (sp : Bool), (∀ p ∈ ps, Tk.isN p) → Tk.ev [(n, ptx more ps ++ z)] sp false = (ptk n more sp ps).map (fun t => (t, (0 : Int))) ++ Tk.ev [(n, z)] false false
  | [], sp, _ => by
    cases more
    · simp only [ptx, ptk, Bool.false_eq_true, if_false, List.map_cons, List.map_nil, List.cons_append, List.nil_append]
      rw [Tk.sign_step (by simp)]
    · simp only [ptx, ptk, if_true, List.map_cons, List.map_nil, List.cons_append, List.nil_append]
      rw [Tk.dots_step, Tk.sign_step (by simp)]
  | p :: r, sp, h => by
    have hp := h p (by simp)
    by_cases hc : r = [] ∧ more = false
    · rw [ptx, ptk, if_pos hc, if_pos hc, List.append_assoc, Tk.name_step hp (by rfl)]
      simp only [List.cons_append, List.nil_append, List.map_cons, List.map_nil]
      rw [Tk.sign_step (by simp)]
    · rw [ptx, ptk, if_neg hc, if_neg hc, List.append_assoc, Tk.name_step hp (by rfl)]
      simp only [List.cons_append, List.nil_append, List.map_cons, List.map_nil, List.append_assoc]
      rw [Tk.sign_step (by simp), Tk.ev_blank _ _ _ (by rfl), ev_ptx n more z r true (fun q hq => h q (by simp [hq]))]
theorem ptk_len (n : Int) (more : Bool) : ∀ (ps : List (List UInt8)) (sp : Bool), (ptk n more sp ps).length ≤ 2 * ps.length + 2
  | [], sp => by cases more <;> simp [ptk]
  | p :: r, sp => by
    have := ptk_len n more r true
    rw [ptk]
    split
    · simp
    · simp; omega
theorem goP_ptk (n : Int) (more : Bool) (B : List Gt) : ∀ (ps : List (List UInt8)) (sp : Bool) (acc : List (List UInt8)) (k : Nat), (ps ≠ [] ∨ more = true) → goP acc k (prs ((ptk n more sp ps).map Tk.T.g ++ B)) = some (acc ++ ps, more, k + (ptk n more sp ps).length)
  | [], sp, acc, k, h => by
    obtain rfl : more = true := by rcases h with h | h; exact absurd rfl h; exact h
    simp [ptk, prs, goP, Tk.T.g, sg]
  | p :: r, sp, acc, k, h => by
    by_cases hc : r = [] ∧ more = false
    · obtain ⟨rfl, rfl⟩ := hc
      simp [ptk, prs, goP, Tk.T.g, sg]
    · have hr : r ≠ [] ∨ more = true := by
        by_cases hr : r = []
        · right
          cases more
          · exact absurd ⟨hr, rfl⟩ hc
          · rfl
        · exact .inl hr
      rw [ptk, if_neg hc]
      simp only [List.map_cons, List.cons_append, prs]
      rw [goP]
      simp only [Tk.T.g, sg]
      simp only [show ((1 : Nat) : Int) = 1 from rfl, if_true]
      rw [if_neg (by simp), if_pos (by simp)]
      rw [goP_ptk n more B r true (acc ++ [p]) (k + 2) hr]
      simp
      omega
theorem parP_ptk (n : Int) (more : Bool) (B : List Gt) (ps : List (List UInt8)) : parP ((ptk n more false ps).map Tk.T.g ++ B) = some (ps, more, (ptk n more false ps).length) := by
  by_cases h : ps ≠ [] ∨ more = true
  · have := goP_ptk n more B ps false [] 0 h
    simp only [List.nil_append, Nat.zero_add] at this
    rw [← this]
    match ps, more, h with
    | p :: r, more, _ =>
      rw [ptk]
      simp [parP, sg, Tk.T.g]
    | [], true, _ =>
      simp [ptk, parP, sg, Tk.T.g]
  · obtain ⟨rfl, rfl⟩ : ps = [] ∧ more = false := by
      by_cases hp : ps = []
      · cases more
        · exact ⟨hp, rfl⟩
        · exact absurd (.inr rfl) h
      · exact absurd (.inl hp) h
    simp [ptk, parP, sg, Tk.T.g]

theorem ev_zero {E : List (Tk.T × Int)} (h : Tk.fine E) : E = (E.map Prod.fst).map (fun t => (t, (0 : Int))) := by
  induction E with
  | nil => rfl
  | cons x r ih =>
    obtain ⟨t, e⟩ := x
    have h0 : e = 0 := h (t, e) (by simp)
    subst h0
    rw [List.map_cons, List.map_cons, ← ih (fun y hy => h y (List.mem_cons_of_mem _ hy))]
theorem bare_head (x y : Tk.T) (r : List Tk.T) (hk : x.kind = y.kind) (hs : x.s = y.s) : bareG ((x :: r).map Tk.T.g) = bareG ((y :: r).map Tk.T.g) := by
  refine List.ext_getElem (by simp [bareG]) fun i h1 h2 => ?_
  cases i with
  | zero => simp [bareG, bare1, Tk.T.g, hk, hs]
  | succ i => simp [bareG, bare1, Tk.T.g]
/-- The tokens of a body that is spelt behind a blank. -/
theorem body_ev {body : List Gt} (h : speltB body = true) (hne : body ≠ []) : ∃ B : List Tk.T, Tk.ev [(1, spG body)] true false = B.map (fun t => (t, (0 : Int))) ∧ bareG (B.map Tk.T.g) = body ∧ ∃ b r, B = b :: r ∧ b.sp = true := by
  have h' := of_decide_eq_true h
  have hok : (Tk.lex [(0, spG body)]).2.1 = 0 := by
    by_cases he : (Tk.lex [(0, spG body)]).2.1 = 0
    · exact he
    · rw [Tk.lex_err he] at h'
      simp [bareG] at h'
      exact absurd h' hne
  obtain ⟨hfi, hto, _⟩ := Tk.col_fine _ _ hok
  have hto' : (Tk.lex [(0, spG body)]).1 = (Tk.ev [(0, spG body)] false true).map Prod.fst := by
    have : (Tk.lex [(0, spG body)]).1 = [] ++ (Tk.ev [(0, spG body)] false true).map Prod.fst := hto
    simpa using this
  rw [hto'] at h'
  have hl : Tk.ev [(1, spG body)] false true = (Tk.ev [(0, spG body)] false true).map (Tk.rE 1) := Tk.evF_line 1 0 _ _ false true
  have hq : Tk.hq (Tk.ev [(1, spG body)] true false) (Tk.ev [(1, spG body)] false true) := Tk.ev_flags 1 _ _ true false false true
  have hsp : ∀ x r, Tk.ev [(1, spG body)] true false = x :: r → x.2 = 0 → x.1.sp = true := fun x r => Tk.ev_sp 1 _ _ false x r
  rw [hl] at hq
  generalize Tk.ev [(0, spG body)] false true = E0 at *
  generalize Tk.ev [(1, spG body)] true false = E at *
  cases E0 with
  | nil => simp [bareG] at h'; exact absurd h' hne
  | cons y q =>
    cases E with
    | nil => cases hq
    | cons x r =>
      obtain ⟨rfl, h1, h2, h3⟩ := hq
      have hy : y.2 = 0 := hfi y (by simp)
      have hx : x.2 = 0 := by rw [h3]; exact hy
      have hfr : Tk.fine (x :: q.map (Tk.rE 1)) := by
        intro z hz
        rcases List.mem_cons.1 hz with rfl | hz
        · exact hx
        · obtain ⟨u, hu, rfl⟩ := List.mem_map.1 hz
          exact hfi u (List.mem_cons_of_mem _ hu)
      refine ⟨(x :: q.map (Tk.rE 1)).map Prod.fst, ev_zero hfr, ?_, ⟨x.1, (q.map (Tk.rE 1)).map Prod.fst, rfl, hsp x _ rfl hx⟩⟩
      rw [List.map_cons, bare_head x.1 (Tk.rT 1 y.1) _ h1 h2]
      have e2 : (Tk.rT 1 y.1 :: (q.map (Tk.rE 1)).map Prod.fst) = ((y :: q).map Prod.fst).map (Tk.rT 1) := by
        simp [Tk.rE, Function.comp_def]
      rw [e2, bareG_rT]
      exact h'
theorem right_parts {m : Mc} (h : rightM m = true) : Tk.isN m.name ∧ (∀ p ∈ m.ps, Tk.isN p) ∧ m.ps.length ≤ 16 ∧ (m.fn = false → m.ps = [] ∧ m.more = false) ∧ speltB m.body = true ∧ m.body.length ≤ 500 := by
  unfold rightM at h
  simp only [Bool.and_eq_true, Bool.not_eq_true'] at h
  obtain ⟨h1, _, _, h4, h5, h6⟩ := h
  unfold rpB at h5
  simp only [Bool.and_eq_true, decide_eq_true_eq, List.all_eq_true] at h5
  unfold rbB at h6
  simp only [Bool.and_eq_true, decide_eq_true_eq] at h6
  refine ⟨nmB_isN h1, fun p hp => ?_, h5.1, fun hf => ?_, h6.2.1, h6.1⟩
  · obtain ⟨i, hi, rfl⟩ := List.mem_iff_getElem.1 hp
    have := h5.2 i (List.mem_range.2 hi)
    rw [okP_at hi] at this
    simp only [Bool.and_eq_true] at this
    exact nmB_isN this.1.1
  · rw [hf] at h4
    simp at h4
    exact ⟨h4.1, h4.2⟩
/-- What is shown, lexed and parsed, is the macro. -/
theorem parse_show {m : Mc} (h : rightM m = true) : parseM ((Tk.lex [(1, showM m)]).1.map Tk.T.g) = some m := by
  obtain ⟨hN, hP, hpl, hfn, hsp, hbl⟩ := right_parts h
  -- the tokens behind the head
  have hz : ∃ (z : List UInt8) (B : List Tk.T), (if 0 < m.body.length then [32] ++ spG m.body else []) = z ∧ Tk.nmL z = 0 ∧ Tk.ev [(1, z)] false false = B.map (fun t => (t, (0 : Int))) ∧ bareG (B.map Tk.T.g) = m.body ∧ (B = [] ∨ ∃ b r, B = b :: r ∧ b.sp = true) := by
    by_cases hb : m.body = []
    · refine ⟨[], [], by simp [hb], rfl, by rw [Tk.ev_end]; rfl, by simp [bareG, hb], .inl rfl⟩
    · obtain ⟨B, h1, h2, h3⟩ := body_ev hsp hb
      refine ⟨32 :: spG m.body, B, ?_, rfl, ?_, h2, .inr h3⟩
      · rw [if_pos (List.length_pos_iff.2 hb)]; rfl
      · rw [Tk.ev_blank _ _ _ (by rfl), h1]
  obtain ⟨z, B, hz1, hz2, hz3, hz4, hz5⟩ := hz
  have hBl : B.length = m.body.length := by rw [← hz4]; simp [bareG]
  have hlex : ∀ L : List Tk.T, L.length ≤ 20000 → Tk.ev [(1, showM m)] false true = L.map (fun t => (t, (0 : Int))) → (Tk.lex [(1, showM m)]).1 = L := fun L hl hL => by
    have hf : Tk.fine (L.map (fun t => (t, (0 : Int)))) := fun x hx => by
      obtain ⟨t, _, rfl⟩ := List.mem_map.1 hx
      rfl
    unfold Tk.lex
    rw [hL, Tk.col_of_fine _ _ hf (by simpa using hl)]
    simp [Function.comp_def]
  cases hf : m.fn with
  | false =>
    obtain ⟨hps, hmo⟩ := hfn hf
    have hsm : showM m = m.name ++ z := by unfold showM; rw [hf, hz1]; simp
    have := hlex (⟨1, m.name, 1, false, true⟩ :: B) (by simp; omega) (by rw [hsm, Tk.name_step hN hz2, hz3]; rfl)
    rw [this]
    have hme : (⟨m.name, false, [], false, m.body⟩ : Mc) = m := by
      obtain ⟨a, b, c, d, e⟩ := m
      simp at hf hps hmo
      simp [hf, hps, hmo]
    have hhd : headP ((⟨1, m.name, 1, false, true⟩ :: B : List Tk.T).map Tk.T.g) = some (m.name, false, [], false, B.map Tk.T.g) := by
      rw [List.map_cons, headP, if_pos (show (Tk.T.g _).kind = 1 from rfl)]
      rcases hz5 with rfl | ⟨b, r, rfl, hb⟩
      · rfl
      · rw [List.map_cons, headQ, if_pos (show (Tk.T.g b).sp = true from hb)]
        rfl
    unfold parseM
    rw [hhd]
    simp only [hz4, hme, h, if_true]
  | true =>
    have hsm : showM m = m.name ++ (40 :: (ptx m.more m.ps ++ z)) := by
      unfold showM
      rw [hf, hz1, ← ptx_join]
      simp
    have hpk := ptk_len 1 m.more m.ps false
    have := hlex (⟨1, m.name, 1, false, true⟩ :: ⟨5, [40], 1, false, false⟩ :: (ptk 1 m.more false m.ps ++ B)) (by simp; omega) (by
      rw [hsm, Tk.name_step hN (by rfl), Tk.sign_step (by simp), ev_ptx 1 m.more z m.ps false hP, hz3]
      simp)
    rw [this]
    have hme : (⟨m.name, true, m.ps, m.more, m.body⟩ : Mc) = m := by
      obtain ⟨a, b, c, d, e⟩ := m
      simp at hf
      simp [hf]
    have hhd : headP ((⟨1, m.name, 1, false, true⟩ :: ⟨5, [40], 1, false, false⟩ :: (ptk 1 m.more false m.ps ++ B) : List Tk.T).map Tk.T.g) = some (m.name, true, m.ps, m.more, B.map Tk.T.g) := by
      rw [List.map_cons, List.map_cons, List.map_append, headP, if_pos (show (Tk.T.g _).kind = 1 from rfl), headQ, if_neg (show ¬ (Tk.T.g ⟨5, [40], 1, false, false⟩).sp = true by simp [Tk.T.g]), if_pos (show sg (Tk.T.g ⟨5, [40], 1, false, false⟩) [40] = true from rfl), parP_ptk 1 m.more (B.map Tk.T.g) m.ps]
      have hd : ((ptk 1 m.more false m.ps).map Tk.T.g ++ B.map Tk.T.g).drop (ptk 1 m.more false m.ps).length = B.map Tk.T.g := by
        rw [← List.length_map (f := Tk.T.g)]; exact List.drop_left
      simp only [Option.map_some, hd]
      rfl
    unfold parseM
    rw [hhd]
    simp only [hz4, hme, h, if_true]
end Go.Proofs.YticiddcgafhkhaaDoor
