/-
  burinlaw11.ImageMakes in numbers: what is kept of unions, by their steps and by where they lie, makes the same bytes.
-/
import Derived.Test.YtkiebejidpebdaaSa
namespace Go.Proofs.Ytkiebejidpebdaa
open Go Go.RowKit Go.Shelf
set_option linter.unusedVariables false
set_option linter.unusedSimpArgs false

abbrev KeyU := Int × Int × Int
def setK (K : KeyU → Option Int) (k : KeyU) (s : Int) : KeyU → Option Int := fun q => if q = k then some s else K q
/-- What the document's through makes of bytes along a path. -/
def refM (bs : List Int) (K : KeyU → Option Int) (deep : Int) : List ((ShT × Int × Int) × Int × Int) → List Int × (KeyU → Option Int)
  | [] => (bs, K)
  | (x, fr, s) :: r =>
    if x.1.sh == 5 then refM (turS bs (K (fr / 8, x.2.2 / 8, deep)) s (fr / 8).toNat (x.2.2 / 8).toNat) (setK K (fr / 8, x.2.2 / 8, deep) s) (deep + 1) r
    else refM bs K (deep + 1) r
def zroA (bs : List Int) (f z : Int) : Prop := ∀ i : Nat, f / 8 ≤ i → (i : Int) < f / 8 + z / 8 → bs.getD i 0 = 0
def OthA (t : ShT) (L : List Int → Option Int) (p : List Int) : Prop := ∃ c a r u fu m, p = c ++ a :: r ∧ nodA (x0M t) 0 c = some (u, fu) ∧ u.1.sh = 5 ∧ L c = some m ∧ m ≠ a
def IvK (t : ShT) (bs : List Int) (L : List Int → Option Int) (K : KeyU → Option Int) : Prop :=
  ∀ p y f, nodA (x0M t) 0 p = some (y, f) → y.1.sh = 5 → K (f / 8, y.2.2 / 8, p.length) = L p ∨ zroA bs f y.2.2 ∨ OthA t L p
def PasA (t : ShT) (L : List Int → Option Int) (K : KeyU → Option Int) (c : List Int) : Prop :=
  ∀ c' a r u fu, c = c' ++ a :: r → nodA (x0M t) 0 c' = some (u, fu) → u.1.sh = 5 → L c' = some a ∧ K (fu / 8, u.2.2 / 8, c'.length) = some a
theorem clr_get : ∀ (n o : Nat) (l : List Int) (i : Nat), (clrM l o n).getD i 0 = if o ≤ i ∧ i < o + n then 0 else l.getD i 0
  | 0, o, l, i => by rw [if_neg (by omega)]; rfl
  | n + 1, o, l, i => by
    rw [clrM, clr_get n (o + 1) (l.set o 0) i]
    have hset : (l.set o 0).getD i 0 = if i = o then 0 else l.getD i 0 := by
      rw [List.getD_eq_getElem?_getD, List.getD_eq_getElem?_getD, List.getElem?_set]
      by_cases hio : i = o
      · subst hio
        rw [if_pos rfl, if_pos rfl]
        split <;> rfl
      · rw [if_neg (fun e => hio e.symm), if_neg hio]
    rw [hset]
    by_cases h1 : o + 1 ≤ i ∧ i < o + 1 + n
    · rw [if_pos h1, if_pos (by omega)]
    · rw [if_neg h1]
      by_cases h2 : i = o
      · rw [if_pos h2, if_pos (by omega)]
      · rw [if_neg h2, if_neg (by omega)]
theorem clr_id {l : List Int} {o n : Nat} (h : ∀ i, o ≤ i → i < o + n → l.getD i 0 = 0) : clrM l o n = l := by
  refine List.ext_getElem (clr_len _ _ _) fun i h1 h2 => ?_
  have e1 : (clrM l o n)[i] = (clrM l o n).getD i 0 := by simp [List.getD_eq_getElem?_getD, h1]
  have e2 : l[i] = l.getD i 0 := by simp [List.getD_eq_getElem?_getD, h2]
  rw [e1, e2, clr_get]
  split
  · rename_i hh
    exact (h i hh.1 hh.2).symm
  · rfl
theorem tur_id {bs : List Int} {f z : Int} (hf : 0 ≤ f) (hz : 0 ≤ z) (h : zroA bs f z) (o : Option Int) (s : Int) : turS bs o s (f / 8).toNat (z / 8).toNat = bs := by
  unfold turS
  cases o with
  | none => rfl
  | some m =>
    simp only
    split
    · exact clr_id (fun i h1 h2 => h i (by omega) (by omega))
    · rfl
theorem tur_zero {bs : List Int} {f z : Int} (h : zroA bs f z) (o : Option Int) (s : Int) (F Z : Nat) : zroA (turS bs o s F Z) f z := fun i h1 h2 => by
  unfold turS
  cases o with
  | none => exact h i h1 h2
  | some m =>
    simp only
    split
    · rw [clr_get]
      split
      · rfl
      · exact h i h1 h2
    · exact h i h1 h2
theorem app_last {c c' r : List Int} {a s : Int} (h : c ++ [s] = c' ++ a :: r) : (r = [] ∧ c' = c ∧ a = s) ∨ ∃ r', r = r' ++ [s] ∧ c = c' ++ a :: r' := by
  rcases List.eq_nil_or_concat r with rfl | ⟨r', b, rfl⟩
  · obtain ⟨h1, h2⟩ := List.append_inj' h rfl
    exact .inl ⟨rfl, h1.symm, by simpa using h2.symm⟩
  · refine .inr ⟨r', ?_, ?_⟩
    · have h2 : c ++ [s] = (c' ++ a :: r') ++ [b] := by rw [h]; simp
      have h3 := (List.append_inj' h2 rfl).2
      have h4 : s = b := by simpa using h3
      rw [h4]
      simp
    · have h2 : c ++ [s] = (c' ++ a :: r') ++ [b] := by rw [h]; simp
      exact (List.append_inj' h2 rfl).1
/-- A union is come through. -/
theorem pass_one {t : ShT} (hc : ((chkM t).2 == 0) = true) {bs : List Int} {L : List Int → Option Int} {K : KeyU → Option Int} {c : List Int} {x : ShT × Int × Int} {fr : Int} (hn : nodA (x0M t) 0 c = some (x, fr)) (h5 : x.1.sh = 5) (hi : IvK t bs L K) (hp : PasA t L K c) (s : Int) :
    turS bs (L c) s (fr / 8).toNat (x.2.2 / 8).toNat = turS bs (K (fr / 8, x.2.2 / 8, c.length)) s (fr / 8).toNat (x.2.2 / 8).toNat ∧
    IvK t (turS bs (L c) s (fr / 8).toNat (x.2.2 / 8).toNat) (setM L c s) (setK K (fr / 8, x.2.2 / 8, c.length) s) ∧ PasA t (setM L c s) (setK K (fr / 8, x.2.2 / 8, c.length) s) (c ++ [s]) := by
  have hg := GdN.whole hc
  have hr := RiN.whole hc
  obtain ⟨_, _, _, hf0, hf1⟩ := nod_in c 6 _ _ _ _ (Nat.le_refl 6) hg hn
  obtain ⟨hal, z, hz, hz1⟩ := nod_al c 6 _ _ _ _ (Nat.le_refl 6) hr rfl hn h5
  refine ⟨?_, ?_, ?_⟩
  · rcases hi c x fr hn h5 with h | h | ⟨c', a, r, u, fu, m, e, n', u5, hl, hne⟩
    · rw [h]
    · rw [tur_id hf0 (by omega) h, tur_id hf0 (by omega) h]
    · obtain ⟨hl', _⟩ := hp c' a r u fu e n' u5
      rw [hl'] at hl
      exact absurd (Option.some.inj hl).symm hne
  · intro p y f hpn hp5
    obtain ⟨hal2, z2, hz2, hz21⟩ := nod_al p 6 _ _ _ _ (Nat.le_refl 6) hr rfl hpn hp5
    by_cases hpc : p = c
    · subst hpc
      rw [hn] at hpn
      obtain ⟨rfl, rfl⟩ : x = y ∧ fr = f := by simpa using hpn
      exact .inl (by unfold setK setM; rw [if_pos rfl, if_pos rfl])
    · have hL : setM L c s p = L p := by unfold setM; rw [if_neg hpc]
      by_cases hk : (f / 8, y.2.2 / 8, (p.length : Int)) = (fr / 8, x.2.2 / 8, (c.length : Int))
      · obtain ⟨k1, k2, k3⟩ : f / 8 = fr / 8 ∧ y.2.2 / 8 = x.2.2 / 8 ∧ (p.length : Int) = (c.length : Int) := by simpa using hk
        have hlen : p.length = c.length := by omega
        obtain ⟨c', a, r1, b, r2, u, fu, e1, e2, hab, hu, hu5⟩ := nod_part c p 6 _ x y 0 fr f (Nat.le_refl 6) hg hn hpn (by omega) (by omega)
          (fun hh => hpc (hh.eq_of_length hlen.symm).symm) (fun hh => hpc (hh.eq_of_length hlen))
        refine .inr (.inr ⟨c', b, r2, u, fu, a, e2, hu, hu5, ?_, hab⟩)
        have hne : c' ≠ c := fun e => by
          have := congrArg List.length e1
          rw [e] at this
          simp at this
        unfold setM
        rw [if_neg hne]
        exact (hp c' a r1 u fu e1 hu hu5).1
      · have hK : setK K (fr / 8, x.2.2 / 8, (c.length : Int)) s (f / 8, y.2.2 / 8, (p.length : Int)) = K (f / 8, y.2.2 / 8, (p.length : Int)) := by unfold setK; rw [if_neg hk]
        rw [hK, hL]
        rcases hi p y f hpn hp5 with h | h | ⟨c', a, r, u, fu, m, e, n', u5, hl, hne⟩
        · exact .inl h
        · exact .inr (.inl (tur_zero h _ _ _ _))
        · by_cases hcc : c' = c
          · subst hcc
            rw [hn] at n'
            obtain ⟨rfl, rfl⟩ : x = u ∧ fr = fu := by simpa using n'
            by_cases hsa : s = a
            · refine .inr (.inl ?_)
              rw [hl]
              unfold turS
              have hms : (m != s) = true := by simp [hsa, hne]
              simp only [hms, if_true]
              intro i h1 h2
              rw [clr_get, if_pos]
              have hap := nod_app c' (a :: r) (x0M t) 0
              rw [← e, hn] at hap
              simp only [Option.bind_some] at hap
              rw [hap] at hpn
              obtain ⟨d3, hd3, hg3, _, _⟩ := nod_in c' 6 _ _ _ _ (Nat.le_refl 6) hg hn
              obtain ⟨_, _, _, m1, m2⟩ := nod_in (a :: r) d3 _ _ _ _ hd3 hg3 hpn
              omega
            · exact .inr (.inr ⟨c', a, r, x, fr, s, e, hn, u5, by unfold setM; rw [if_pos rfl], hsa⟩)
          · exact .inr (.inr ⟨c', a, r, u, fu, m, e, n', u5, by unfold setM; rw [if_neg hcc]; exact hl, hne⟩)
  · intro c' a r u fu e n' u5
    rcases app_last e with ⟨rfl, rfl, rfl⟩ | ⟨r', rfl, e'⟩
    · rw [hn] at n'
      obtain ⟨rfl, rfl⟩ : x = u ∧ fr = fu := by simpa using n'
      unfold setM setK
      rw [if_pos rfl, if_pos rfl]
      exact ⟨rfl, rfl⟩
    · obtain ⟨g1, g2⟩ := hp c' a r' u fu e' n' u5
      have hlt : c'.length < c.length := by rw [e']; simp
      unfold setM setK
      rw [if_neg (fun e => by rw [e] at hlt; exact Nat.lt_irrefl _ hlt), if_neg (fun e => by
        simp only [Prod.mk.injEq] at e
        omega)]
      exact ⟨g1, g2⟩
theorem pass_all {t : ShT} (hc : ((chkM t).2 == 0) = true) : ∀ (r c : List Int) (x : ShT × Int × Int) (fr : Int) (bs : List Int) (L : List Int → Option Int) (K : KeyU → Option Int), nodA (x0M t) 0 c = some (x, fr) → IvK t bs L K → PasA t L K c → (folM x fr r).1.length = r.length →
    (turM bs L c (folM x fr r).1).1 = (refM bs K c.length (folM x fr r).1).1 ∧ IvK t (turM bs L c (folM x fr r).1).1 (turM bs L c (folM x fr r).1).2 (refM bs K c.length (folM x fr r).1).2 ∧ PasA t (turM bs L c (folM x fr r).1).2 (refM bs K c.length (folM x fr r).1).2 (c ++ r)
  | [], c, x, fr, bs, L, K, hn, hi, hp, _ => ⟨rfl, hi, by rw [List.append_nil]; exact hp⟩
  | s :: r, c, x, fr, bs, L, K, hn, hi, hp, hl => by
    cases hs : stpM x s with
    | none => rw [fol_no hs] at hl; simp at hl
    | some q =>
      obtain ⟨j, y, b⟩ := q
      rw [fol_yes hs] at hl ⊢
      simp only [List.length_cons, Nat.add_right_cancel_iff] at hl
      have hn2 : nodA (x0M t) 0 (c ++ [s]) = some (y, fr + b) := by
        rw [nod_app, hn]
        simp only [Option.bind_some]
        rw [nod_yes hs]
        rfl
      have hlen : ((c ++ [s]).length : Int) = (c.length : Int) + 1 := by simp
      have happ : c ++ s :: r = (c ++ [s]) ++ r := by simp
      rw [turM, refM, happ]
      cases h5 : x.1.sh == 5
      · simp only [Bool.false_eq_true, if_false]
        have h5' : x.1.sh ≠ 5 := by simpa using h5
        have hp2 : PasA t L K (c ++ [s]) := fun c' a r' u fu e n' u5 => by
          rcases app_last e with ⟨rfl, rfl, rfl⟩ | ⟨r'', rfl, e'⟩
          · rw [hn] at n'
            obtain ⟨rfl, rfl⟩ : x = u ∧ fr = fu := by simpa using n'
            exact absurd u5 h5'
          · exact hp c' a r'' u fu e' n' u5
        have := pass_all hc r (c ++ [s]) y (fr + b) bs L K hn2 hi hp2 hl
        rw [hlen] at this
        exact this
      · simp only [if_true]
        obtain ⟨g1, g2, g3⟩ := pass_one hc hn (by simpa using h5) hi hp s
        have := pass_all hc r (c ++ [s]) y (fr + b) _ _ _ hn2 g2 g3 hl
        rw [hlen] at this
        rw [← g1]
        exact this
/-- A byte of which no bit is set is 0. -/
theorem byte_zero : (List.range 256).all (fun x => (List.range 8).any (fun j => bits .and .u8 (x : Int) (mskM j) != 0) || x == 0) = true := by decide +kernel
theorem zero_bits {l : List Int} (hl : OkB l) (i : Nat) (h : ∀ j, j < 8 → bL l (8 * i + j) = false) : l.getD i 0 = 0 := by
  have hx := getD_ok hl i
  have h1 := List.all_eq_true.1 byte_zero (l.getD i 0).toNat (List.mem_range.2 (by omega))
  rw [show (((l.getD i 0).toNat : Nat) : Int) = l.getD i 0 by omega] at h1
  rw [Bool.or_eq_true] at h1
  rcases h1 with h1 | h1
  · obtain ⟨j, hj, hb⟩ := List.any_eq_true.1 h1
    have hj8 := List.mem_range.1 hj
    have := h j hj8
    unfold bL at this
    rw [show (8 * i + j) / 8 = i by omega, msk_eq (b := 8 * i + j) (c := j) (by omega)] at this
    rw [this] at hb
    cases hb
  · have : (l.getD i 0).toNat = 0 := by simpa using h1
    omega
theorem bits_zero {l : List Int} {c : Nat} (h : l.getD (c / 8) 0 = 0) : bL l c = false := by
  unfold bL
  rw [h]
  rcases msk_cases c with e | e | e | e | e | e | e | e <;> rw [e] <;> decide
theorem IvK.write {t : ShT} (hc : ((chkM t).2 == 0) = true) {bs : List Int} {L : List Int → Option Int} {K : KeyU → Option Int} {s : SetT} (ho : okP t s.path = true) (hb : OkB bs) (hl : (bs.length : Int) = (chkM t).1.1) (hi : IvK t bs L K) (hp : PasA t L K s.path) : IvK t (wr1 t bs s) L K := by
  have hg := GdN.whole hc
  have hr := RiN.whole hc
  obtain ⟨o1, o2⟩ := okP_iff.1 ho
  have hnode := nod_fol s.path (x0M t) 0 o1
  have hwb := wr1_bit hc ho hb hl
  obtain ⟨sf1, sf2, sf3, sf4⟩ := sp_fits hc ho
  have hsp : (spP t s.path).1 = (folM (x0M t) 0 s.path).2.2 ∧ (spP t s.path).2.1 = (folM (x0M t) 0 s.path).2.1.2.2 ∧ ((folM (x0M t) 0 s.path).2.1.1.sh = 1 ∨ (folM (x0M t) 0 s.path).2.1.1.sh = 2) := by
    unfold spP
    unfold nuM at o2 ⊢
    split at o2
    · rename_i h1
      rw [if_pos h1]
      exact ⟨rfl, rfl, .inl (by simpa using h1)⟩
    · rename_i h1
      rw [if_neg h1]
      split at o2
      · rename_i h2
        rw [if_pos h2]
        exact ⟨rfl, rfl, .inr (by simpa using h2)⟩
      · cases o2
  obtain ⟨s1, s2, s3⟩ := hsp
  generalize folM (x0M t) 0 s.path = FO at *
  obtain ⟨_, e, fe⟩ := FO
  simp only at hnode s1 s2 s3
  intro p y f hpn hp5
  rcases hi p y f hpn hp5 with h | h | h
  · exact .inl h
  · obtain ⟨hal2, z2, hz2, hz21⟩ := nod_al p 6 _ _ _ _ (Nat.le_refl 6) hr rfl hpn hp5
    obtain ⟨_, _, _, hf0, _⟩ := nod_in p 6 _ _ _ _ (Nat.le_refl 6) hg hpn
    by_cases hov : fe + e.2.2 ≤ f ∨ f + y.2.2 ≤ fe
    · refine .inr (.inl (fun i h1 h2 => zero_bits (wr1_ok t hb s) i (fun j hj => ?_)))
      rw [hwb, if_neg (by omega)]
      exact bits_zero (by rw [show (8 * i + j) / 8 = i by omega]; exact h i h1 h2)
    · by_cases hpre : p <+: s.path
      · obtain ⟨q, hq⟩ := hpre
        cases q with
        | nil =>
          rw [List.append_nil] at hq
          rw [hq, hnode] at hpn
          obtain ⟨rfl, _⟩ : e = y ∧ fe = f := by simpa using hpn
          omega
        | cons a q =>
          obtain ⟨g1, g2⟩ := hp p a q y f hq.symm hpn hp5
          exact .inl (g2.trans g1.symm)
      · by_cases hpre2 : s.path <+: p
        · exfalso
          obtain ⟨q, hq⟩ := hpre2
          rw [← hq, nod_app, hnode] at hpn
          simp only [Option.bind_some] at hpn
          cases q with
          | nil =>
            obtain ⟨rfl, _⟩ : e = y ∧ fe = f := by simpa [nodA] using hpn
            omega
          | cons a q =>
            have hno : stpM e a = none := by
              unfold stpM
              rcases s3 with s3 | s3 <;> rw [s3] <;> rfl
            rw [nod_no hno] at hpn
            cases hpn
        · obtain ⟨c, a, r1, b, r2, u, fu, e1, e2, hab, hu, hu5⟩ := nod_part s.path p 6 _ e y 0 fe f (Nat.le_refl 6) hg hnode hpn (by omega) (by omega) hpre2 hpre
          exact .inr (.inr ⟨c, b, r2, u, fu, a, e2, hu, hu5, (hp c a r1 u fu e1 hu hu5).1, hab⟩)
  · exact .inr (.inr h)
/-- The document's sets, one behind the other. -/
def rfR (t : ShT) (bs : List Int) (K : KeyU → Option Int) (i : Nat) : List SetT → Option (List Int) × Nat
  | [] => (some bs, 0)
  | s :: r => if okP t s.path then rfR t (wr1 t (refM bs K 0 (folM (x0M t) 0 s.path).1).1 s) (refM bs K 0 (folM (x0M t) 0 s.path).1).2 (i + 1) r else (none, i)
theorem PasA.nil (t : ShT) (L : List Int → Option Int) (K : KeyU → Option Int) : PasA t L K [] := fun c' a r u fu e _ _ => by
  have := congrArg List.length e
  simp at this
theorem rf_eq {t : ShT} (hc : ((chkM t).2 == 0) = true) : ∀ (l : List SetT) (bs : List Int) (L : List Int → Option Int) (K : KeyU → Option Int) (i : Nat), IvK t bs L K → OkB bs → (bs.length : Int) = (chkM t).1.1 → mkR t bs L i l = rfR t bs K i l
  | [], _, _, _, _, _, _, _ => rfl
  | s :: r, bs, L, K, i, hi, hb, hl => by
    rw [mkR, rfR]
    by_cases ho : okP t s.path = true
    · rw [if_pos ho, if_pos ho]
      obtain ⟨o1, o2⟩ := okP_iff.1 ho
      obtain ⟨g1, g2, g3⟩ := pass_all hc s.path [] (x0M t) 0 bs L K rfl hi (PasA.nil t L K) o1
      have g1' : (turM bs L [] (folM (x0M t) 0 s.path).1).1 = (refM bs K 0 (folM (x0M t) 0 s.path).1).1 := g1
      have hb2 : OkB (turM bs L [] (folM (x0M t) 0 s.path).1).1 := turM_ok _ _ _ _ hb
      have hl2 : ((turM bs L [] (folM (x0M t) 0 s.path).1).1.length : Int) = (chkM t).1.1 := by rw [turM_len]; exact hl
      have hw := IvK.write hc ho hb2 hl2 g2 (by rw [List.nil_append] at g3; exact g3)
      have := rf_eq hc r _ _ _ (i + 1) hw (wr1_ok t hb2 s) (by rw [wr1_len]; exact hl2)
      rw [← g1']
      exact this
    · rw [if_neg ho, if_neg ho]
theorem mk_rf {t : ShT} (hc : ((chkM t).2 == 0) = true) (l : List SetT) : mkR t (List.replicate (chkM t).1.1.toNat 0) (fun _ => none) 0 l = rfR t (List.replicate (chkM t).1.1.toNat 0) (fun _ => none) 0 l := by
  refine rf_eq hc l _ _ _ 0 (fun p y f _ _ => .inl rfl) (fun x hx => ?_) ?_
  · obtain rfl := (List.mem_replicate.1 hx).2
    omega
  · rw [List.length_replicate]
    have := chk_size t
    have h6 := chk_ok hc
    have hs := chk_small hc
    obtain ⟨hc', _⟩ := chk_of (Nat.le_refl 6) h6 hs
    have := mea_pos 6 t h6
    rw [hc']
    simp only
    omega
/-- What the document keeps of unions, as a list. -/
abbrev StU := Int × Int × Int × Int
def kyU (u : StU) : KeyU := (u.1, u.2.1, u.2.2.1)
def lkp (met : List StU) (k : KeyU) : Option Int := met.foldl (fun o m => if kyU m = k then some m.2.2.2 else o) none
def thrL (met : List StU) (u : StU) : List StU := met.filter (fun m => !decide (kyU m = kyU u)) ++ [u]
def thrB (bs : List Int) (met : List StU) (u : StU) : List Int := turS bs (lkp met (kyU u)) u.2.2.2 u.1.toNat u.2.1.toNat
theorem lkp_flt (k k' : KeyU) (hk : k' ≠ k) : ∀ (met : List StU) (o : Option Int), (met.filter (fun m => !decide (kyU m = k))).foldl (fun o m => if kyU m = k' then some m.2.2.2 else o) o = met.foldl (fun o m => if kyU m = k' then some m.2.2.2 else o) o
  | [], _ => rfl
  | m :: r, o => by
    by_cases h : kyU m = k
    · rw [List.filter_cons_of_neg (by simp [h]), List.foldl_cons, if_neg (by rw [h]; exact fun e => hk e.symm)]
      exact lkp_flt k k' hk r o
    · rw [List.filter_cons_of_pos (by simp [h]), List.foldl_cons, List.foldl_cons]
      exact lkp_flt k k' hk r _
theorem lkp_thr (met : List StU) (u : StU) : lkp (thrL met u) = setK (lkp met) (kyU u) u.2.2.2 := by
  funext k
  unfold lkp thrL setK
  rw [List.foldl_append, List.foldl_cons, List.foldl_nil]
  by_cases h : k = kyU u
  · rw [if_pos h.symm, if_pos h]
  · rw [if_neg (fun e => h e.symm), if_neg h]
    exact lkp_flt (kyU u) k h met none
def thrA (st : List Int × List StU) (u : StU) : List Int × List StU := (thrB st.1 st.2 u, thrL st.2 u)
theorem ref_uni : ∀ (S : List ((ShT × Int × Int) × Int × Int)) (bs : List Int) (met : List StU) (deep : Int), refM bs (lkp met) deep S = (((uniM deep S).foldl thrA (bs, met)).1, lkp ((uniM deep S).foldl thrA (bs, met)).2)
  | [], _, _, _ => rfl
  | (x, fr, s) :: r, bs, met, deep => by
    rw [refM, uniM]
    cases h5 : x.1.sh == 5
    · simp only [Bool.false_eq_true, if_false, List.nil_append]
      exact ref_uni r bs met (deep + 1)
    · simp only [if_true, List.singleton_append, List.foldl_cons]
      have := ref_uni r (thrB bs met (fr / 8, x.2.2 / 8, deep, s)) (thrL met (fr / 8, x.2.2 / 8, deep, s)) (deep + 1)
      rw [lkp_thr] at this
      exact this
end Go.Proofs.Ytkiebejidpebdaa
