/-
  On lists: words that are shown, lexed, come to the same words.
-/
import Derived.Test.YtnpjgamfjfmjjaaGreatDoorYb
namespace Go.Proofs.YtnpjgamfjfmjjaaGreatDoor
open Go Go.RowKit
set_option linter.unusedVariables false
set_option linter.unusedSimpArgs false

/-- A word without its place. -/
def bareW (x : Wd) : Wd := { x with f := [], line := 0 }
theorem nuL_all : ∀ (s : List UInt8) (a : UInt8), (∀ c ∈ s, Tk.nm c = true) → Tk.nuL a s = s.length
  | [], _, _ => rfl
  | c :: r, a, h => by
    have hc := h c (by simp)
    have h1 : (c == 43 || c == 45) = false := by
      cases hq : (c == 43 || c == 45)
      · rfl
      · simp only [Bool.or_eq_true, beq_iff_eq] at hq
        rcases hq with rfl | rfl <;> exact absurd hc (by decide)
    rw [Tk.nuL, Tk.nu, h1]
    simp only [Bool.false_eq_true, if_false, hc, Bool.or_true, if_true]
    rw [nuL_all r c (fun x hx => h x (by simp [hx]))]
    rfl
theorem dgt_nm : ∀ d, d < 10 → Tk.nm (dgt d) = true ∧ Tk.bl (dgt d) = false ∧ dgt d ≠ 47 := by decide
theorem dec_tok (n : Nat) (hn : n < 18446744073709551616) (k : Int) (hk : 5 ≤ k ∧ k ≤ 8) : IsTok (Lib.decDigits n ++ sufE k) 2 := by
  have hall : ∀ c ∈ Lib.decDigits n ++ sufE k, Tk.nm c = true := fun c hc => by
    rcases List.mem_append.1 hc with h | h
    · obtain ⟨d, hd, rfl⟩ := dec_all 20 n (pow20 hn) c h
      exact (dgt_nm d hd).1
    · rcases (sufE_is k hk).2.2.1 c h with rfl | rfl <;> decide
  obtain ⟨d, r, hd, hd1⟩ : ∃ d r, Lib.decDigits n = dgt d :: r ∧ d < 10 := by
    by_cases h0 : n = 0
    · subst h0; exact ⟨0, [], dec_small (by decide), by decide⟩
    · obtain ⟨d, r, h1, h2, _⟩ := dec_head 20 n (pow20 hn) (by omega)
      exact ⟨d, r, h1, h2⟩
  obtain ⟨g1, g2, g3⟩ := dgt_nm d hd1
  have hdg := (dgt_facts d hd1).2.2.1
  rw [hd, List.cons_append] at hall ⊢
  refine ⟨by simp, ?_, ?_⟩
  · rw [Tk.isT_iff, g2]
    have p : ∀ a z, Tk.pre [47, a] (dgt d :: z) = false := fun a z => by simp [Tk.pre, List.isPrefixOf]; intro h; exact absurd h.symm g3
    rw [p, p]; rfl
  · rw [Tk.ms, hdg, Bool.true_or, if_pos rfl, nuL_all _ _ (fun c hc => hall c (by simp [hc]))]
    simp
theorem has_app (a b : UInt8) (s t : List UInt8) : hasM a b (s ++ t) = (hasM a b s || hasM a b t) := by simp [hasM]
theorem has_dec (n : Nat) (hn : n < 18446744073709551616) (a b : UInt8) (hab : ∀ d, d < 10 → dgt d ≠ a ∧ dgt d ≠ b) : hasM a b (Lib.decDigits n) = false := by
  unfold hasM
  rw [List.any_eq_false]
  intro c hc
  obtain ⟨d, hd, rfl⟩ := dec_all 20 n (pow20 hn) c hc
  simp [hab d hd]
theorem kind_dec (n : Nat) (hn : n < 18446744073709551616) (k : Int) (hk : 5 ≤ k ∧ k ≤ 8) (hg : (n : Int) ≤ grM k) : kindM (n : Int) (Lib.decDigits n ++ sufE k) = k := by
  obtain ⟨u, _, hd⟩ := num_dec n hn k hk
  obtain ⟨_, _, _, h4, h5⟩ := sufE_is k hk
  unfold kindM
  rw [hd, has_app, has_app, h4, h5, has_dec n hn 117 85 (by decide), has_dec n hn 108 76 (by decide), Bool.false_or, Bool.false_or]
  generalize decide (n ≠ 0) = dec
  have : k = 5 ∨ k = 6 ∨ k = 7 ∨ k = 8 := by omega
  rcases this with rfl | rfl | rfl | rfl
  · simp only [grM] at hg
    simp [kmN, lfM, grM]
    intro h; exact absurd hg (by simpa using h)
  · simp only [grM] at hg
    simp [kmN, lfM, grM]
    intro h; exact absurd hg (by simpa using h)
  · simp only [grM] at hg
    simp [kmN, lfM, grM]
    intro h; exact absurd hg (by simpa using h)
  · simp only [grM] at hg
    simp [kmN, lfM, grM]
    omega
theorem wrap_back (v : Int) (h : okV64 v) : wrap64 (((IntKind.u64.wrap v).toNat : Nat) : Int) = v := by
  unfold okV64 at h
  have h1 := u64_wrap v
  rw [Int.toNat_of_nonneg h1.1, IntKind.wrap_u64]
  unfold wrap64
  omega
theorem back_neg (v : Int) (h0 : -128 ≤ v) (h1 : v < 0) : wrap64 (IntKind.i8.wrap (IntKind.u8.wrap v)) = v := by
  have h : ∀ n : Fin 128, wrap64 (IntKind.i8.wrap (IntKind.u8.wrap (-((n.1 : Int) + 1)))) = -((n.1 : Int) + 1) := by decide +kernel
  have := h ⟨(-v - 1).toNat, by omega⟩
  simp only at this
  rw [show -(((-v - 1).toNat : Int) + 1) = v by omega] at this
  exact this
/-- What is shown of a word is a token; a token of that kind and text comes to the word. -/
theorem word_tok (x : Wd) (hr : rightM x = true) (hv : okV64 x.v) : IsTok (splM x) (tkK x) ∧ (x.kind ≠ 4 → ∀ t : Gt, t.kind = (tkK x : Nat) → t.s = splM x → siM t = (bareW x, true)) ∧ (x.kind = 4 → x.s.length ≤ 4096 ∧ x.v = 0 ∧ x.t = 0) := by
  obtain ⟨k, s, v, t, f, line⟩ := x
  unfold rightM at hr
  simp only at hr hv
  cases k3 : k == 3
  · simp only [k3, Bool.false_eq_true, if_false] at hr
    cases vt : (v != 0 || t != 0)
    · simp only [vt, Bool.false_eq_true, if_false] at hr
      simp only [Bool.or_eq_false_iff, bne_eq_false_iff_eq] at vt
      obtain ⟨rfl, rfl⟩ := vt
      cases k1 : k == 1
      · simp only [k1, Bool.false_eq_true, if_false] at hr
        cases k2 : k == 2
        · simp only [k2, Bool.false_eq_true, if_false] at hr
          cases k4 : k == 4
          · simp only [k4, Bool.false_eq_true, if_false] at hr
            cases k5 : k == 5
            · simp only [k5, Bool.false_eq_true, if_false] at hr
            · simp only [k5, if_true] at hr
              have hk5 : k = 5 := by simpa using k5
              subst hk5
              have hp : Tk.pn s = true := by unfold signM at hr; simp only [Bool.and_eq_true] at hr; exact hr.1
              have hm : s ∈ Tk.signs := by simpa [Tk.pn] using hp
              refine ⟨sign_tok s hm, fun _ tk hk hs => ?_, fun h => by cases h⟩
              have hs' : tk.s = s := hs
              have hk' : tk.kind = 5 := hk
              unfold siM
              rw [hk', hs', hr]
              rfl
          · simp only [k4, if_true, decide_eq_true_eq] at hr
            have hk4 : k = 4 := by simpa using k4
            subst hk4
            exact ⟨quo_tok s, fun h => absurd rfl h, fun _ => ⟨hr, rfl, rfl⟩⟩
        · simp only [k2, if_true, Bool.and_eq_true, Bool.not_eq_true'] at hr
          have hk2 : k = 2 := by simpa using k2
          subst hk2
          obtain ⟨h1, h2, h3, h4⟩ := spelt_ms hr.2
          refine ⟨⟨h1, h2, ?_⟩, fun _ tk hk hs => ?_, fun h => by cases h⟩
          · have : (Tk.ms s).1 = 1 := by omega
            exact Prod.ext this h4
          · have hs' : tk.s = s := hs
            have hk' : tk.kind = 1 := hk
            unfold siM
            rw [hk', hs', hr.1, hr.2]
            rfl
      · simp only [k1, if_true] at hr
        have hk1 : k = 1 := by simpa using k1
        subst hk1
        refine ⟨key_tok s (keyM_mem hr), fun _ tk hk hs => ?_, fun h => by cases h⟩
        have hs' : tk.s = s := hs
        have hk' : tk.kind = 1 := hk
        unfold siM
        rw [hk', hs', hr]
        rfl
    · simp only [vt, if_true] at hr
      cases hr
  · simp only [k3, if_true, Bool.and_eq_true, beq_iff_eq] at hr
    have hk3 : k = 3 := by simpa using k3
    subst hk3
    obtain ⟨rfl, hi⟩ := hr
    unfold rIntM at hi
    simp only [Bool.and_eq_true, decide_eq_true_eq] at hi
    obtain ⟨hk, hi⟩ := hi
    have hsp : splM ⟨3, [], v, t, f, line⟩ = spiM v t := rfl
    rw [hsp]
    cases hc : (t == 5 && decide (v < 0))
    · have htk : tkK ⟨3, [], v, t, f, line⟩ = 2 := by simp only [tkK, hc]; rfl
      rw [htk, spiM, hc]
      simp only [Bool.false_eq_true, if_false]
      have hu := u64_wrap v
      have hg : (((IntKind.u64.wrap v).toNat : Nat) : Int) ≤ grM t := by
        rw [Int.toNat_of_nonneg hu.1]
        simp only [Bool.or_eq_true, Bool.and_eq_true, beq_iff_eq, decide_eq_true_eq] at hi
        rcases hi with ⟨h5, _, h6⟩ | h
        · exact absurd hc (by simp [h5, h6])
        · exact h
      have hn : (IntKind.u64.wrap v).toNat < 18446744073709551616 := by omega
      refine ⟨dec_tok _ hn t hk, fun _ tk hkk hs => ?_, fun h => by cases h⟩
      obtain ⟨u, hnum, _⟩ := num_dec _ hn t hk
      have hkd := kind_dec _ hn t hk hg
      have hk' : tk.kind = 2 := hkk
      unfold siM numW
      rw [hk', hs, hnum]
      simp only [hkd]
      rw [wrap_back v hv]
      have ht0 : (t != 0) = true := by simp; omega
      rw [ht0]
      rfl
    · have htk : tkK ⟨3, [], v, t, f, line⟩ = 3 := by simp only [tkK, hc]; rfl
      rw [htk, spiM, hc]
      simp only [if_true]
      simp only [Bool.and_eq_true, beq_iff_eq, decide_eq_true_eq] at hc
      obtain ⟨rfl, hneg⟩ := hc
      have hu := u8_wrap v
      have hlow : -128 ≤ v := by
        simp only [Bool.or_eq_true, Bool.and_eq_true, beq_iff_eq, decide_eq_true_eq] at hi
        rcases hi with ⟨_, h5, _⟩ | h
        · exact h5
        · exfalso
          rw [IntKind.wrap_u64, show grM 5 = 2147483647 from rfl] at h
          unfold okV64 at hv
          omega
      obtain ⟨f1, f2, f3⟩ := octE_facts (UInt8.ofNat (IntKind.u8.wrap v).toNat)
      refine ⟨⟨by simp, f2, by rw [f3]; rfl⟩, fun _ tk hkk hs => ?_, fun h => by cases h⟩
      have hk' : tk.kind = 3 := hkk
      unfold siM
      rw [hk', hs, f1]
      simp only [ofNat_back _ hu.1 hu.2]
      have hb := back_neg v hlow hneg
      simp only [hb]
      rfl
/-- The text of words, one blank between two. -/
def shT : List Wd → List UInt8
  | [] => []
  | x :: r => splM x ++ r.flatMap fun y => 32 :: splM y
theorem shP_congr (l m : List Wd) (k : Nat) (hk : k ≤ l.length) : shP (l ++ m) k = shP l k := by
  unfold shP
  rw [List.flatMap_def, List.flatMap_def]
  congr 1
  apply List.map_congr_left
  intro i hi
  have := List.mem_range.1 hi
  rw [List.getElem?_append_left (by omega)]
theorem shP_is : ∀ (n : Nat) (l : List Wd), l.length = n → shP l n = shT l
  | 0, l, h => by
    obtain rfl := List.length_eq_zero_iff.1 h
    rfl
  | n + 1, l, h => by
    have hne : l ≠ [] := by rintro rfl; simp at h
    have hl := List.dropLast_concat_getLast hne
    have hd : l.dropLast.length = n := by simp; omega
    rw [← hl]
    generalize l.dropLast = d at *
    generalize l.getLast hne = y at *
    have h1 : n < (d ++ [y]).length := by simp; omega
    rw [shP_succ h1, shP_congr d [y] n (by omega), shP_is n d hd]
    have h2 : (d ++ [y])[n] = y := by rw [List.getElem_append_right (by omega)]; simp
    rw [h2]
    match d, hd with
    | [], hd => subst hd; simp [shT]
    | x :: r, hd =>
      have : ¬ n = 0 := by rintro rfl; simp at hd
      simp [shT, this]
theorem stop_tail (r : List Wd) : Tk.stop (r.flatMap fun y => 32 :: splM y) = true := by
  cases r with
  | nil => rfl
  | cons y r => rfl
/-- The tokens that words are shown as, behind the first one. -/
def tks : List Wd → List Tk.T
  | [] => []
  | y :: r => ⟨tkK y, splM y, 1, true, false⟩ :: tks r
theorem ev_word (x : Wd) (hx : IsTok (splM x) (tkK x)) (z : List UInt8) (hz : Tk.stop z = true) (sp fi : Bool) : Tk.ev [(1, splM x ++ z)] sp fi = (⟨tkK x, splM x, 1, sp, fi⟩, 0) :: Tk.ev [(1, z)] false false := by
  obtain ⟨h1, h2, h3⟩ := hx
  have hl : 0 < (splM x).length := List.length_pos_iff.2 h1
  have hm : Tk.ms (splM x ++ z) = (tkK x, (splM x).length) := by
    have := Tk.ms_swap (u := splM x) (v := []) (v' := z) h1 hz (by rw [List.append_nil, h3]; simp only; omega) (by rw [List.append_nil, h3]; exact Nat.le_refl _)
    rw [this, List.append_nil, h3]
  have ht : Tk.isT (splM x ++ z) = true := Tk.isT_swap (u := splM x) (v := []) (v' := z) h1 hz (by rw [List.append_nil]; exact h2)
  rw [Tk.ev_tok [] sp fi ht (by rw [hm]; simp only; omega), hm]
  simp only [List.take_left', List.drop_left']
theorem ev_words : ∀ (r : List Wd), (∀ x ∈ r, IsTok (splM x) (tkK x)) → Tk.ev [(1, r.flatMap fun y => 32 :: splM y)] false false = (tks r).map fun t => (t, 0)
  | [], _ => by
    show Tk.ev [(1, [])] false false = []
    rw [Tk.ev_end, Tk.ev_nil]
  | y :: r, h => by
    have e : ((y :: r).flatMap fun y => 32 :: splM y) = 32 :: (splM y ++ r.flatMap fun y => 32 :: splM y) := rfl
    rw [e, Tk.ev_blank [] false false (by decide), ev_word y (h y (by simp)) _ (stop_tail r), ev_words r (fun x hx => h x (by simp [hx]))]
    rfl
theorem lx_shT (x : Wd) (r : List Wd) (h : ∀ y ∈ x :: r, IsTok (splM y) (tkK y)) (hl : (x :: r).length ≤ 20000) : lx (shT (x :: r)) = ((⟨tkK x, splM x, 1, false, true⟩ : Tk.T) :: tks r).map Tk.T.g := by
  have hev : Tk.ev [(1, shT (x :: r))] false true = ((⟨tkK x, splM x, 1, false, true⟩ : Tk.T) :: tks r).map fun t => (t, 0) := by
    rw [shT, ev_word x (h x (by simp)) _ (stop_tail r), ev_words r (fun y hy => h y (by simp [hy]))]
    rfl
  have htl : ∀ r : List Wd, (tks r).length = r.length := by
    intro r; induction r with
    | nil => rfl
    | cons y r ih => simp [tks, ih]
  unfold lx Tk.lex
  rw [hev, Tk.col_of_fine _ _ (by intro y hy; obtain ⟨t, _, rfl⟩ := List.mem_map.1 hy; rfl) (by simp [htl] at hl ⊢; omega)]
  simp
/-- Words at the first line, without a file. -/
def atOne (x : Wd) : Wd := { x with f := [], line := 1 }
/-- Of two words that stand beside each other not both are texts. -/
def apart : List Wd → Prop
  | [] => True
  | [_] => True
  | x :: y :: r => ¬ (x.kind = 4 ∧ y.kind = 4) ∧ apart (y :: r)
def GoodW (x : Wd) : Prop := rightM x = true ∧ okV64 x.v
theorem wev_words : ∀ (r : List Wd) (ts : List Tk.T), (∀ x ∈ r, GoodW x) → apart r → ts.map (fun t => (t.kind, t.s, t.line)) = r.map (fun x => (tkK x, splM x, (1 : Int))) → wev (ts.map Tk.T.g) = r.map fun x => (atOne x, true)
  | [], ts, _, _, h => by
    obtain rfl : ts = [] := by simpa using h
    rfl
  | x :: r, [], _, _, h => by simp at h
  | x :: r, t :: ts, hg, ha, h => by
    simp only [List.map_cons, List.cons.injEq, Prod.mk.injEq] at h
    obtain ⟨⟨h1, h2, h3⟩, h4⟩ := h
    obtain ⟨hr, hv⟩ := hg x (by simp)
    obtain ⟨w1, w2, w3⟩ := word_tok x hr hv
    have ha' : apart r := by
      cases r with
      | nil => trivial
      | cons y r => exact ha.2
    have ih := wev_words r ts (fun y hy => hg y (by simp [hy])) ha' h4
    have hfi : fiM (t.g :: ts.map Tk.T.g) = (atOne x, 1, true) := by
      by_cases hk : x.kind = 4
      · have htk : tkK x = 4 := by unfold tkK; rw [hk]; rfl
        have hgk : (t.g.kind == 4) = true := by show ((t.kind : Int) == 4) = true; rw [h1, htk]; rfl
        obtain ⟨wl, wv, wt⟩ := w3 hk
        have hsp : splM x = quoM x.s := by unfold splM; rw [hk]; rfl
        have hgs : t.g.s = quoM x.s := by show t.s = _; rw [h2, hsp]
        have hnext : txM t.g ([] ++ x.s) (ts.map Tk.T.g) = (⟨4, x.s, 0, 0, [], 1⟩, 0, true) := by
          have hgf : t.g.f = [] := rfl
          have hgl : t.g.line = 1 := h3
          match r, ts, h4, ha with
          | [], [], _, _ => rw [List.map_nil, txM_end, hgf, hgl]; rfl
          | y :: r, t2 :: ts, h4, ha =>
            simp only [List.map_cons, List.cons.injEq, Prod.mk.injEq] at h4
            have hy : y.kind ≠ 4 := fun e => ha.1 ⟨hk, e⟩
            have hk2 : tkK y ≠ 4 := by
              unfold tkK
              repeat' split
              all_goals first | decide | (rename_i q; exact absurd (by simpa using q) hy)
            have hg2 : (t2.g.kind == 4) = false := by
              show ((t2.kind : Int) == 4) = false
              rw [h4.1.1, beq_eq_false_iff_ne]; omega
            rw [List.map_cons, txM_step, hg2, hgf, hgl]
            rfl
        rw [fiM, hgk, if_pos rfl, txM_step, hgk, if_pos rfl, hgs, unq_quo]
        simp only [if_true, List.length_nil, Nat.zero_add]
        rw [if_neg (by omega), hnext]
        simp only [if_true]
        obtain ⟨xk, xs, xv, xt, xf, xl⟩ := x
        simp only at hk wv wt
        subst hk wv wt
        rfl
      · have htk : tkK x ≠ 4 := by
          unfold tkK
          repeat' split
          all_goals first | decide | (rename_i q; exact absurd (by simpa using q) hk)
        have hgk : (t.g.kind == 4) = false := by
          show ((t.kind : Int) == 4) = false
          rw [h1, beq_eq_false_iff_ne]; omega
        have hsi := w2 hk t.g (by show (t.kind : Int) = _; rw [h1]) (by show t.s = _; exact h2)
        rw [fiM, hgk]
        simp only [Bool.false_eq_true, if_false, hsi]
        have hgl : t.g.line = 1 := h3
        show (plM (bareW x) t.g, 1, true) = _
        unfold plM bareW atOne
        rw [hgl]
        rfl
    rw [List.map_cons, wev_step, hfi]
    simp only [if_true, List.drop_succ_cons, List.drop_zero, ih, List.map_cons]
theorem wcol_all : ∀ (r out : List Wd), wcol out (r.map fun x => (x, true)) = (out ++ r, 0, [], 0)
  | [], out => by simp [wcol]
  | x :: r, out => by
    rw [List.map_cons, wcol, if_pos rfl, wcol_all r (out ++ [x])]
    simp
theorem ok_apart : ∀ (l : List Wd), okTo l l.length = true → (∀ x ∈ l, rightM x = true) ∧ apart l := by
  intro l h
  have h1 : ∀ i, i < l.length → okAt l i = true := fun i hi => by
    rw [okTo, List.all_eq_true] at h
    exact h i (List.mem_range.2 hi)
  constructor
  · intro x hx
    obtain ⟨i, hi, rfl⟩ := List.getElem_of_mem hx
    have := h1 i hi
    rw [okAt, List.getElem?_eq_getElem hi] at this
    simp only [Bool.and_eq_true] at this
    exact this.1
  · have key : ∀ (p m : List Wd), l = p ++ m → apart m := by
      intro p m
      induction m generalizing p with
      | nil => intro _; trivial
      | cons x m ih =>
        intro e
        cases m with
        | nil => trivial
        | cons y m =>
          refine ⟨?_, ih (p ++ [x]) (by rw [e]; simp)⟩
          rintro ⟨e1, e2⟩
          have hi : p.length + 1 < l.length := by rw [e]; simp
          have := h1 (p.length + 1) hi
          have g1 : l[p.length + 1]? = some y := by rw [e, List.getElem?_append_right (by omega)]; simp
          have g2 : l[p.length]? = some x := by rw [e, List.getElem?_append_right (by omega)]; simp
          rw [okAt, g1] at this
          simp [g2, e1, e2] at this
    exact key [] l rfl
/-- What is shown, lexed, comes to the same words. -/
theorem back_words (l : List Wd) (hl : l.length ≤ 20000) (hv : ∀ x ∈ l, okV64 x.v) (hok : okTo l l.length = true) : wsM (lx (shP l l.length)) = (l.map atOne, 0, [], 0) := by
  obtain ⟨hr, ha⟩ := ok_apart l hok
  rw [shP_is _ l rfl]
  cases l with
  | nil =>
    have : lx (shT []) = [] := by decide
    rw [this]; rfl
  | cons x r =>
    have hg : ∀ y ∈ x :: r, GoodW y := fun y hy => ⟨hr y hy, hv y hy⟩
    rw [lx_shT x r (fun y hy => (word_tok y (hg y hy).1 (hg y hy).2).1) hl]
    have htk : ∀ r : List Wd, (tks r).map (fun t => (t.kind, t.s, t.line)) = r.map (fun x => (tkK x, splM x, (1 : Int))) := by
      intro r; induction r with
      | nil => rfl
      | cons y r ih => simp [tks, ih]
    unfold wsM
    rw [wev_words (x :: r) _ hg ha (by rw [List.map_cons, htk]; rfl), show ((x :: r).map fun x => (atOne x, true)) = ((x :: r).map atOne).map fun x => (x, true) by simp, wcol_all]
    simp
theorem nm_ascii : ∀ c : UInt8, Tk.nm c = true → c.toNat < 128 := by
  intro c
  have h : ∀ n : Fin 256, Tk.nm (UInt8.ofNat n.1) = true → (UInt8.ofNat n.1).toNat < 128 := by decide +kernel
  have := h ⟨c.toNat, c.toNat_lt⟩
  simpa only [UInt8.ofNat_toNat] using this
theorem octE_ascii (c : UInt8) : ∀ x ∈ octE c, x.toNat < 128 := by
  have h : ∀ n : Fin 256, ∀ x ∈ octE (UInt8.ofNat n.1), x.toNat < 128 := by decide +kernel
  have := h ⟨c.toNat, c.toNat_lt⟩
  simpa only [UInt8.ofNat_toNat] using this
theorem sign_ascii : ∀ s ∈ Tk.signs, ∀ c ∈ s, c.toNat < 128 := by decide +kernel
theorem name_ascii {s : List UInt8} (h1 : s ≠ []) (hk : (Tk.ms s).1 = 1) (hl : (Tk.ms s).2 = s.length) : ∀ c ∈ s, Tk.nm c = true := by
  match s, h1 with
  | c :: r, _ =>
    rw [Tk.ms] at hk hl
    split at hk
    · cases hk
    · rename_i g1
      rw [if_neg g1] at hl
      split at hk
      · rename_i g2
        rw [if_pos g2] at hl
        simp only at hl
        have hr : Tk.nmL r = r.length := by simpa using hl
        intro x hx
        rcases List.mem_cons.1 hx with rfl | hx
        · exact g2
        · have := Tk.nmL_all r x (by rw [hr, List.take_length]; exact hx)
          exact this
      · split at hk
        · cases hk
        · split at hk
          · cases hk
          · split at hk <;> cases hk
theorem spl_ascii (x : Wd) (hr : rightM x = true) : ∀ c ∈ splM x, c.toNat < 128 := by
  obtain ⟨k, s, v, t, f, line⟩ := x
  unfold rightM at hr
  unfold splM
  simp only at hr ⊢
  cases k3 : k == 3
  · simp only [k3, Bool.false_eq_true, if_false] at hr ⊢
    cases vt : (v != 0 || t != 0)
    · simp only [vt, Bool.false_eq_true, if_false] at hr
      cases k4 : k == 4
      · simp only [Bool.false_eq_true, if_false]
        cases k1 : k == 1
        · simp only [k1, Bool.false_eq_true, if_false] at hr
          cases k2 : k == 2
          · simp only [k2, k4, Bool.false_eq_true, if_false] at hr
            cases k5 : k == 5
            · simp only [k5, Bool.false_eq_true, if_false] at hr
            · simp only [k5, if_true] at hr
              have hp : Tk.pn s = true := by unfold signM at hr; simp only [Bool.and_eq_true] at hr; exact hr.1
              exact sign_ascii s (by simpa [Tk.pn] using hp)
          · simp only [k2, if_true, Bool.and_eq_true, Bool.not_eq_true'] at hr
            obtain ⟨h1, h2, h3, h4⟩ := spelt_ms hr.2
            intro c hc
            exact nm_ascii c (name_ascii h1 (by omega) h4 c hc)
        · simp only [k1, if_true] at hr
          have : ∀ s ∈ keyL, ∀ c ∈ s, c.toNat < 128 := by decide
          exact this s (keyM_mem hr)
      · simp only [if_true]
        intro c hc
        unfold quoM at hc
        simp only [List.mem_cons, List.mem_append, List.mem_nil_iff, or_false] at hc
        rcases hc with rfl | hc | rfl
        · decide
        · obtain ⟨y, _, hy⟩ := List.mem_flatMap.1 hc
          exact octE_ascii y c hy
        · decide
    · simp only [vt, if_true] at hr
      cases hr
  · simp only [k3, if_true, Bool.and_eq_true, beq_iff_eq] at hr ⊢
    obtain ⟨_, hi⟩ := hr
    unfold rIntM at hi
    simp only [Bool.and_eq_true, decide_eq_true_eq] at hi
    obtain ⟨hk, _⟩ := hi
    intro c hc
    unfold spiM at hc
    split at hc
    · simp only [List.mem_cons, List.mem_append, List.mem_nil_iff, or_false] at hc
      rcases hc with rfl | hc | rfl
      · decide
      · exact octE_ascii _ c hc
      · decide
    · have hu := u64_wrap v
      rcases List.mem_append.1 hc with h | h
      · obtain ⟨d, hd, rfl⟩ := dec_all 20 _ (pow20 (n := (IntKind.u64.wrap v).toNat) (by omega)) c h
        have : ∀ d, d < 10 → (dgt d).toNat < 128 := by decide
        exact this d hd
      · rcases (sufE_is t hk).2.2.1 c h with rfl | rfl <;> decide
theorem shP_ascii (l : List Wd) (hok : okTo l l.length = true) : ∀ c ∈ shP l l.length, c.toNat < 128 := by
  obtain ⟨hr, _⟩ := ok_apart l hok
  intro c hc
  unfold shP at hc
  obtain ⟨i, hi, hc⟩ := List.mem_flatMap.1 hc
  have hi' := List.mem_range.1 hi
  rw [List.getElem?_eq_getElem hi'] at hc
  simp only at hc
  rcases List.mem_append.1 hc with h | h
  · split at h
    · cases h
    · simp at h; subst h; decide
  · exact spl_ascii _ (hr _ (List.getElem_mem hi')) c h
end Go.Proofs.YtnpjgamfjfmjjaaGreatDoor
