/-
  Package expr: an expression where it lies; the parts within.
-/
import Derived.Test.YtmpkgjonbjpohaaGreatDoorAa
import Derived.Test.YtmpkgjonbjpohaaGreatDoorR6
namespace Go.Proofs.YtmpkgjonbjpohaaGreatDoor
open Go Go.RowKit
set_option linter.unusedVariables false
set_option linter.unusedSimpArgs false

/-- An expression and where it lies: its block, the first of its cells, where its parts lie, their room, the parts themselves. -/
inductive LE where
  | mk (x : PE) (g o : Nat) (q : Option Addr) (c : Nat) (ps : List LE)
def LE.x : LE → PE | .mk x _ _ _ _ _ => x
def LE.g : LE → Nat | .mk _ g _ _ _ _ => g
def LE.o : LE → Nat | .mk _ _ o _ _ _ => o
def LE.q : LE → Option Addr | .mk _ _ _ q _ _ => q
def LE.c : LE → Nat | .mk _ _ _ _ c _ => c
def LE.ps : LE → List LE | .mk _ _ _ _ _ ps => ps
def LE.ad (t : LE) : Addr := ⟨t.g, t.o, none⟩
mutual
/-- An expression and all within it, each one with how deep it lies. -/
def LE.all : LE → Nat → List (LE × Nat)
  | .mk x g o q c ps, d => (.mk x g o q c ps, d) :: LE.allL ps (d + 1)
def LE.allL : List LE → Nat → List (LE × Nat)
  | [], _ => []
  | t :: l, d => LE.all t d ++ LE.allL l d
end
theorem LE.all_eq (t : LE) (d : Nat) : t.all d = (t, d) :: LE.allL t.ps (d + 1) := by
  cases t
  rw [LE.all]
  rfl
theorem LE.allL_take (l : List LE) (d : Nat) : ∀ (k : Nat) (h : k < l.length), LE.allL (l.take (k + 1)) d = LE.allL (l.take k) d ++ LE.all l[k] d := by
  induction l with
  | nil => intro k h; simp at h
  | cons t l ih =>
    intro k h
    cases k with
    | zero => simp [LE.allL]
    | succ k =>
      simp only [List.take_succ_cons, LE.allL, List.getElem_cons_succ, List.append_assoc]
      rw [ih k (by simpa using h)]
theorem LE.allL_app (d : Nat) : ∀ (a b : List LE), LE.allL (a ++ b) d = LE.allL a d ++ LE.allL b d
  | [], b => by simp [LE.allL]
  | t :: a, b => by rw [List.cons_append, LE.allL, LE.allL, LE.allL_app d a b, List.append_assoc]
theorem LE.allL_pre (l : List LE) (d k : Nat) : LE.allL (l.take k) d <+: LE.allL l d := by
  have := LE.allL_app d (l.take k) (l.drop k)
  rw [List.take_append_drop] at this
  exact ⟨_, this.symm⟩
/-- An expression's cells lie there. -/
def AtB (W : World) (x : PE) (g o : Nat) (q : Option Addr) (c : Nat) : Prop :=
  ∃ cur fz, W.heap[g]? = some (.cells cur 24 fz) ∧ ∀ (j : Nat) (u : Value), (exC x q c)[j]? = some u → cur[o + j]? = some u
theorem AtB.cell {W : World} {x : PE} {g o : Nat} {q : Option Addr} {c : Nat} (h : AtB W x g o q c) {j : Nat} {u : Value} (hj : (exC x q c)[j]? = some u) : W.cell? ⟨g, o + j, none⟩ = some u := by
  obtain ⟨cur, fz, h1, h2⟩ := h
  simp [World.cell?, h1, h2 j u hj]
mutual
def LE.Lies (W : World) : LE → Prop
  | .mk x g o q c ps => AtB W x g o q c ∧ x.l.length ≤ 1000000000 ∧ LE.LiesL W q x.l 0 ps
def LE.LiesL (W : World) (q : Option Addr) : List PE → Nat → List LE → Prop
  | l, _, [] => l = []
  | l, i, t :: ts => (∃ l', l = t.x :: l' ∧ LE.LiesL W q l' (i + 1) ts) ∧ (∃ o, q = some ⟨t.g, o, none⟩ ∧ t.o = o + i * 7) ∧ LE.Lies W t
end
theorem LE.Lies.at' {W : World} {t : LE} (h : t.Lies W) : AtB W t.x t.g t.o t.q t.c := by
  cases t
  unfold LE.Lies at h
  exact h.1
theorem LE.Lies.few {W : World} {t : LE} (h : t.Lies W) : t.x.l.length ≤ 1000000000 := by
  cases t
  unfold LE.Lies at h
  exact h.2.1
theorem LE.Lies.list {W : World} {t : LE} (h : t.Lies W) : LE.LiesL W t.q t.x.l 0 t.ps := by
  cases t
  unfold LE.Lies at h
  exact h.2.2
theorem LE.LiesL.part {W : World} {q : Option Addr} : ∀ (ts : List LE) (l : List PE) (i : Nat), LE.LiesL W q l i ts → ts.map LE.x = l ∧ ∀ (k : Nat) (hk : k < ts.length), (∃ o, q = some ⟨ts[k].g, o, none⟩ ∧ ts[k].o = o + (i + k) * 7) ∧ ts[k].Lies W
  | [], l, i, h => by
    unfold LE.LiesL at h
    subst h
    exact ⟨rfl, fun k hk => by simp at hk⟩
  | t :: ts, l, i, h => by
    unfold LE.LiesL at h
    obtain ⟨⟨l', rfl, h1⟩, h2, h3⟩ := h
    obtain ⟨e, hp⟩ := LE.LiesL.part ts l' (i + 1) h1
    refine ⟨by rw [List.map_cons, e], fun k hk => ?_⟩
    cases k with
    | zero => exact ⟨by simpa using h2, by simpa using h3⟩
    | succ k =>
      obtain ⟨⟨o, e1, e2⟩, h5⟩ := hp k (by simpa using hk)
      exact ⟨⟨o, by simpa using e1, by simp only [List.getElem_cons_succ]; omega⟩, by simpa using h5⟩
theorem LE.Lies.len {W : World} {t : LE} (h : t.Lies W) : t.ps.length = t.x.l.length := by
  have := (LE.LiesL.part _ _ _ h.list).1
  rw [← this, List.length_map]
mutual
theorem LE.Lies.keep {A B : World} (hk : ∀ (g : Nat) cs fz, A.heap[g]? = some (.cells cs 24 fz) → B.heap[g]? = some (.cells cs 24 fz)) : ∀ (t : LE), t.Lies A → t.Lies B
  | .mk x g o q c ps, h => by
    unfold LE.Lies at h ⊢
    obtain ⟨⟨cur, fz, h1, h2⟩, h3, h4⟩ := h
    exact ⟨⟨cur, fz, hk _ _ _ h1, h2⟩, h3, LE.LiesL.keep hk ps q x.l 0 h4⟩
theorem LE.LiesL.keep {A B : World} (hk : ∀ (g : Nat) cs fz, A.heap[g]? = some (.cells cs 24 fz) → B.heap[g]? = some (.cells cs 24 fz)) : ∀ (ts : List LE) (q : Option Addr) (l : List PE) (i : Nat), LE.LiesL A q l i ts → LE.LiesL B q l i ts
  | [], q, l, i, h => by
    unfold LE.LiesL at h ⊢
    exact h
  | t :: ts, q, l, i, h => by
    unfold LE.LiesL at h ⊢
    obtain ⟨⟨l', h1, h2⟩, h3, h4⟩ := h
    exact ⟨⟨l', h1, LE.LiesL.keep hk ts q l' (i + 1) h2⟩, h3, LE.Lies.keep hk t h4⟩
end
theorem le_list {W : World} {q : Option Addr} (ok : PE → Prop) (hok : ∀ (x : PE) (g o : Nat) (q : Option Addr) (c : Nat), ok x → Kids W (fun _ => True) x q → AtB W x g o q c → ∃ t : LE, t.x = x ∧ t.g = g ∧ t.o = o ∧ t.q = q ∧ t.c = c ∧ t.Lies W) :
    ∀ (l : List PE) (i : Nat), (∀ x ∈ l, ok x) → (∀ (k : Nat) (h : k < l.length), ∃ g o cur fz r cr, q = some ⟨g, o, none⟩ ∧ W.heap[g]? = some (.cells cur 24 fz) ∧ (∀ (j : Nat) (u : Value), (exC l[k] r cr)[j]? = some u → cur[o + (i + k) * 7 + j]? = some u) ∧ Kids W (fun _ => True) l[k] r) → ∃ ts, LE.LiesL W q l i ts
  | [], i, _, _ => ⟨[], by unfold LE.LiesL; rfl⟩
  | x :: l, i, h, hp => by
    obtain ⟨g, o, cur, fz, r, cr, e, hg, hc, hk⟩ := hp 0 (by simp)
    obtain ⟨t, e1, e2, e3, e4, e5, ht⟩ := hok x g (o + i * 7) r cr (h x (by simp)) hk ⟨cur, fz, hg, fun j u hj => by have := hc j u hj; simpa using this⟩
    obtain ⟨ts, hts⟩ := le_list ok hok l (i + 1) (fun y hy => h y (by simp [hy])) (fun k hk => by
      obtain ⟨g, o, cur, fz, r, cr, e, hg, hc, hk⟩ := hp (k + 1) (by simpa using hk)
      exact ⟨g, o, cur, fz, r, cr, e, hg, fun j u hj => by have := hc j u (by simpa using hj); rw [show o + (i + 1 + k) * 7 + j = o + (i + (k + 1)) * 7 + j by omega]; exact this, by simpa using hk⟩)
    refine ⟨t :: ts, ?_⟩
    unfold LE.LiesL
    exact ⟨⟨l, by rw [e1], hts⟩, ⟨o, by rw [e2]; exact e, e3⟩, ht⟩
theorem le_of : ∀ (n : Nat) {W : World} (x : PE) (g o : Nat) (q : Option Addr) (c : Nat), SizeOf.sizeOf x < n → lnP x → Kids W (fun _ => True) x q → AtB W x g o q c → ∃ t : LE, t.x = x ∧ t.g = g ∧ t.o = o ∧ t.q = q ∧ t.c = c ∧ t.Lies W
  | 0, _, _, _, _, _, _, h, _, _, _ => absurd h (Nat.not_lt_zero _)
  | n + 1, W, .mk x0 x1 x2 x3 x4 l x6, g, o, q, c, hn, hl, hk, ha => by
    unfold lnP at hl
    obtain ⟨ts, hts⟩ := le_list (W := W) (q := q) (fun x => SizeOf.sizeOf x < n ∧ lnP x) (fun x g o q c h => le_of n x g o q c h.1 h.2) l 0 (fun x hx => by
      refine ⟨by have := List.sizeOf_lt_of_mem hx; simp at hn; omega, ?_⟩
      obtain ⟨i, hi, rfl⟩ := List.getElem_of_mem hx
      exact hl.2.at' i hi) (fun k hk' => by
      obtain ⟨g, o, cur, fz, r, cr, e, _, hg, hc, hkk⟩ := hk.list k hk'
      exact ⟨g, o, cur, fz, r, cr, e, hg, fun j u hj => by rw [Nat.zero_add]; exact hc j u hj, hkk⟩)
    refine ⟨.mk (.mk x0 x1 x2 x3 x4 l x6) g o q c ts, rfl, rfl, rfl, rfl, rfl, ?_⟩
    unfold LE.Lies
    exact ⟨ha, hl.1, hts⟩
mutual
/-- All that is within lies there. -/
theorem LE.Lies.within {W : World} : ∀ (t : LE) (d : Nat), t.Lies W → ∀ y ∈ t.all d, y.1.Lies W
  | .mk x g o q c ps, d, h, y, hy => by
    have h' := h
    unfold LE.Lies at h'
    rw [LE.all] at hy
    rcases List.mem_cons.1 hy with rfl | hy
    · exact h
    · exact LE.LiesL.within ps q x.l 0 (d + 1) h'.2.2 y hy
theorem LE.LiesL.within {W : World} : ∀ (ts : List LE) (q : Option Addr) (l : List PE) (i d : Nat), LE.LiesL W q l i ts → ∀ y ∈ LE.allL ts d, y.1.Lies W
  | [], q, l, i, d, h, y, hy => by
    rw [LE.allL] at hy
    simp at hy
  | t :: ts, q, l, i, d, h, y, hy => by
    unfold LE.LiesL at h
    obtain ⟨⟨l', h1, h2⟩, h3, h4⟩ := h
    rw [LE.allL] at hy
    rcases List.mem_append.1 hy with hy | hy
    · exact LE.Lies.within t d h4 y hy
    · exact LE.LiesL.within ts q l' (i + 1) d h2 y hy
end
mutual
/-- Parts that lie, as Kids has them. -/
theorem LE.Lies.kid {W : World} : ∀ (t : LE) (d : Nat), t.Lies W → KidD W (fun _ => True) d t.x t.q
  | _, 0, _ => trivial
  | .mk x g o q c ps, d + 1, h => by
    unfold LE.Lies at h
    intro i hi
    have hi' : i < x.l.length := hi
    obtain ⟨g', o', r, cr, e, ha, hk⟩ := LE.LiesL.kid ps q x.l 0 d h.2.2 i hi'
    obtain ⟨cur, fz, h1, h2⟩ := ha
    refine ⟨g', o', cur, fz, r, cr, e, trivial, h1, fun j u hj => ?_, hk⟩
    have := h2 j u hj
    rw [Nat.zero_add] at this
    exact this
theorem LE.LiesL.kid {W : World} : ∀ (ts : List LE) (q : Option Addr) (l : List PE) (i d : Nat), LE.LiesL W q l i ts → ∀ (k : Nat) (hk : k < l.length), ∃ g o r c, q = some ⟨g, o, none⟩ ∧ AtB W l[k] g (o + (i + k) * 7) r c ∧ KidD W (fun _ => True) d l[k] r
  | [], q, l, i, d, h, k, hk => by
    unfold LE.LiesL at h
    subst h
    simp at hk
  | t :: ts, q, l, i, d, h, k, hk => by
    unfold LE.LiesL at h
    obtain ⟨⟨l', rfl, h2⟩, ⟨o, h3, h5⟩, h4⟩ := h
    cases k with
    | zero =>
      refine ⟨t.g, o, t.q, t.c, h3, ?_, ?_⟩
      · have := h4.at'
        rw [h5] at this
        simpa using this
      · exact LE.Lies.kid t d h4
    | succ k =>
      obtain ⟨g, o, r, c, e, ha, hd⟩ := LE.LiesL.kid ts q l' (i + 1) d h2 k (by simpa using hk)
      exact ⟨g, o, r, c, e, by rw [show i + (k + 1) = i + 1 + k by omega]; simpa using ha, by simpa using hd⟩
end
theorem LE.Lies.kids {W : World} {t : LE} (h : t.Lies W) : Kids W (fun _ => True) t.x t.q := fun d => LE.Lies.kid t d h
end Go.Proofs.YtmpkgjonbjpohaaGreatDoor
