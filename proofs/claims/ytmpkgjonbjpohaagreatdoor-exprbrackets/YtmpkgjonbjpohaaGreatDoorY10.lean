/-
  Package expr: an expression where it lies; the parts within.
  Package expr: walk, over whatever its calls tell.
  Package expr: walk, and within: what is told, one by one.
  Package expr: Parse: its results' boxes.
-/
import Derived.Test.YtmpkgjonbjpohaaGreatDoorAa
import Derived.Test.YtmpkgjonbjpohaaGreatDoorY9
import Derived.Test.YtmpkgjonbjpohaaGreatDoorY8
namespace Go.Proofs.YtmpkgjonbjpohaaGreatDoor
open Go Go.RowKit
set_option linter.unusedVariables false
set_option linter.unusedSimpArgs false

/-- An expression and where it lies: its block, the first of its cells, where its parts lie, their room, the parts themselves. -/
inductive LE where
  | mk (x : PE) (g o : Nat) (q : Option Addr) (c : Nat) (ps : List LE)
def LE.x : LE → PE | .mk x _ _ _ _ _ => x
def LE.g : LE → Nat | .mk _ g _ _ _ _ => g
def LE.o : LE → Nat | .mk _ _ o _ _ _ => o
def LE.q : LE → Option Addr | .mk _ _ _ q _ _ => q
def LE.c : LE → Nat | .mk _ _ _ _ c _ => c
def LE.ps : LE → List LE | .mk _ _ _ _ _ ps => ps
def LE.ad (t : LE) : Addr := ⟨t.g, t.o, none⟩
mutual
/-- An expression and all within it, each one with how deep it lies. -/
def LE.all : LE → Nat → List (LE × Nat)
  | .mk x g o q c ps, d => (.mk x g o q c ps, d) :: LE.allL ps (d + 1)
def LE.allL : List LE → Nat → List (LE × Nat)
  | [], _ => []
  | t :: l, d => LE.all t d ++ LE.allL l d
end
theorem LE.all_eq (t : LE) (d : Nat) : t.all d = (t, d) :: LE.allL t.ps (d + 1) := by
  cases t
  rw [LE.all]
  rfl
theorem LE.allL_take (l : List LE) (d : Nat) : ∀ (k : Nat) (h : k < l.length), LE.allL (l.take (k + 1)) d = LE.allL (l.take k) d ++ LE.all l[k] d := by
  induction l with
  | nil => intro k h; simp at h
  | cons t l ih =>
    intro k h
    cases k with
    | zero => simp [LE.allL]
    | succ k =>
      simp only [List.take_succ_cons, LE.allL, List.getElem_cons_succ, List.append_assoc]
      rw [ih k (by simpa using h)]
theorem LE.allL_app (d : Nat) : ∀ (a b : List LE), LE.allL (a ++ b) d = LE.allL a d ++ LE.allL b d
  | [], b => by simp [LE.allL]
  | t :: a, b => by rw [List.cons_append, LE.allL, LE.allL, LE.allL_app d a b, List.append_assoc]
theorem LE.allL_pre (l : List LE) (d k : Nat) : LE.allL (l.take k) d <+: LE.allL l d := by
  have := LE.allL_app d (l.take k) (l.drop k)
  rw [List.take_append_drop] at this
  exact ⟨_, this.symm⟩
/-- An expression's cells lie there. -/
def AtB (W : World) (x : PE) (g o : Nat) (q : Option Addr) (c : Nat) : Prop :=
  ∃ cur fz, W.heap[g]? = some (.cells cur 24 fz) ∧ ∀ (j : Nat) (u : Value), (exC x q c)[j]? = some u → cur[o + j]? = some u
theorem AtB.cell {W : World} {x : PE} {g o : Nat} {q : Option Addr} {c : Nat} (h : AtB W x g o q c) {j : Nat} {u : Value} (hj : (exC x q c)[j]? = some u) : W.cell? ⟨g, o + j, none⟩ = some u := by
  obtain ⟨cur, fz, h1, h2⟩ := h
  simp [World.cell?, h1, h2 j u hj]
mutual
def LE.Lies (W : World) : LE → Prop
  | .mk x g o q c ps => AtB W x g o q c ∧ x.l.length ≤ 1000000000000000 ∧ LE.LiesL W q x.l 0 ps
def LE.LiesL (W : World) (q : Option Addr) : List PE → Nat → List LE → Prop
  | l, _, [] => l = []
  | l, i, t :: ts => (∃ l', l = t.x :: l' ∧ LE.LiesL W q l' (i + 1) ts) ∧ (∃ o, q = some ⟨t.g, o, none⟩ ∧ t.o = o + i * 7) ∧ LE.Lies W t
end
theorem LE.Lies.at' {W : World} {t : LE} (h : t.Lies W) : AtB W t.x t.g t.o t.q t.c := by
  cases t
  unfold LE.Lies at h
  exact h.1
theorem LE.Lies.few {W : World} {t : LE} (h : t.Lies W) : t.x.l.length ≤ 1000000000000000 := by
  cases t
  unfold LE.Lies at h
  exact h.2.1
theorem LE.Lies.list {W : World} {t : LE} (h : t.Lies W) : LE.LiesL W t.q t.x.l 0 t.ps := by
  cases t
  unfold LE.Lies at h
  exact h.2.2
theorem LE.LiesL.part {W : World} {q : Option Addr} : ∀ (ts : List LE) (l : List PE) (i : Nat), LE.LiesL W q l i ts → ts.map LE.x = l ∧ ∀ (k : Nat) (hk : k < ts.length), (∃ o, q = some ⟨ts[k].g, o, none⟩ ∧ ts[k].o = o + (i + k) * 7) ∧ ts[k].Lies W
  | [], l, i, h => by
    unfold LE.LiesL at h
    subst h
    exact ⟨rfl, fun k hk => by simp at hk⟩
  | t :: ts, l, i, h => by
    unfold LE.LiesL at h
    obtain ⟨⟨l', rfl, h1⟩, h2, h3⟩ := h
    obtain ⟨e, hp⟩ := LE.LiesL.part ts l' (i + 1) h1
    refine ⟨by rw [List.map_cons, e], fun k hk => ?_⟩
    cases k with
    | zero => exact ⟨by simpa using h2, by simpa using h3⟩
    | succ k =>
      obtain ⟨⟨o, e1, e2⟩, h5⟩ := hp k (by simpa using hk)
      exact ⟨⟨o, by simpa using e1, by simp only [List.getElem_cons_succ]; omega⟩, by simpa using h5⟩
theorem LE.Lies.len {W : World} {t : LE} (h : t.Lies W) : t.ps.length = t.x.l.length := by
  have := (LE.LiesL.part _ _ _ h.list).1
  rw [← this, List.length_map]
mutual
theorem LE.Lies.keep {A B : World} (hk : ∀ (g : Nat) cs fz, A.heap[g]? = some (.cells cs 24 fz) → B.heap[g]? = some (.cells cs 24 fz)) : ∀ (t : LE), t.Lies A → t.Lies B
  | .mk x g o q c ps, h => by
    unfold LE.Lies at h ⊢
    obtain ⟨⟨cur, fz, h1, h2⟩, h3, h4⟩ := h
    exact ⟨⟨cur, fz, hk _ _ _ h1, h2⟩, h3, LE.LiesL.keep hk ps q x.l 0 h4⟩
theorem LE.LiesL.keep {A B : World} (hk : ∀ (g : Nat) cs fz, A.heap[g]? = some (.cells cs 24 fz) → B.heap[g]? = some (.cells cs 24 fz)) : ∀ (ts : List LE) (q : Option Addr) (l : List PE) (i : Nat), LE.LiesL A q l i ts → LE.LiesL B q l i ts
  | [], q, l, i, h => by
    unfold LE.LiesL at h ⊢
    exact h
  | t :: ts, q, l, i, h => by
    unfold LE.LiesL at h ⊢
    obtain ⟨⟨l', h1, h2⟩, h3, h4⟩ := h
    exact ⟨⟨l', h1, LE.LiesL.keep hk ts q l' (i + 1) h2⟩, h3, LE.Lies.keep hk t h4⟩
end
theorem le_list {W : World} {q : Option Addr} (ok : PE → Prop) (hok : ∀ (x : PE) (g o : Nat) (q : Option Addr) (c : Nat), ok x → Kids W (fun _ => True) x q → AtB W x g o q c → ∃ t : LE, t.x = x ∧ t.g = g ∧ t.o = o ∧ t.q = q ∧ t.c = c ∧ t.Lies W) :
    ∀ (l : List PE) (i : Nat), (∀ x ∈ l, ok x) → (∀ (k : Nat) (h : k < l.length), ∃ g o cur fz r cr, q = some ⟨g, o, none⟩ ∧ W.heap[g]? = some (.cells cur 24 fz) ∧ (∀ (j : Nat) (u : Value), (exC l[k] r cr)[j]? = some u → cur[o + (i + k) * 7 + j]? = some u) ∧ Kids W (fun _ => True) l[k] r) → ∃ ts, LE.LiesL W q l i ts
  | [], i, _, _ => ⟨[], by unfold LE.LiesL; rfl⟩
  | x :: l, i, h, hp => by
    obtain ⟨g, o, cur, fz, r, cr, e, hg, hc, hk⟩ := hp 0 (by simp)
    obtain ⟨t, e1, e2, e3, e4, e5, ht⟩ := hok x g (o + i * 7) r cr (h x (by simp)) hk ⟨cur, fz, hg, fun j u hj => by have := hc j u hj; simpa using this⟩
    obtain ⟨ts, hts⟩ := le_list ok hok l (i + 1) (fun y hy => h y (by simp [hy])) (fun k hk => by
      obtain ⟨g, o, cur, fz, r, cr, e, hg, hc, hk⟩ := hp (k + 1) (by simpa using hk)
      exact ⟨g, o, cur, fz, r, cr, e, hg, fun j u hj => by have := hc j u (by simpa using hj); rw [show o + (i + 1 + k) * 7 + j = o + (i + (k + 1)) * 7 + j by omega]; exact this, by simpa using hk⟩)
    refine ⟨t :: ts, ?_⟩
    unfold LE.LiesL
    exact ⟨⟨l, by rw [e1], hts⟩, ⟨o, by rw [e2]; exact e, e3⟩, ht⟩
theorem le_of : ∀ (n : Nat) {W : World} (x : PE) (g o : Nat) (q : Option Addr) (c : Nat), SizeOf.sizeOf x < n → lnP x → Kids W (fun _ => True) x q → AtB W x g o q c → ∃ t : LE, t.x = x ∧ t.g = g ∧ t.o = o ∧ t.q = q ∧ t.c = c ∧ t.Lies W
  | 0, _, _, _, _, _, _, h, _, _, _ => absurd h (Nat.not_lt_zero _)
  | n + 1, W, .mk x0 x1 x2 x3 x4 l x6, g, o, q, c, hn, hl, hk, ha => by
    unfold lnP at hl
    obtain ⟨ts, hts⟩ := le_list (W := W) (q := q) (fun x => SizeOf.sizeOf x < n ∧ lnP x) (fun x g o q c h => le_of n x g o q c h.1 h.2) l 0 (fun x hx => by
      refine ⟨by have := List.sizeOf_lt_of_mem hx; simp at hn; omega, ?_⟩
      obtain ⟨i, hi, rfl⟩ := List.getElem_of_mem hx
      exact hl.2.at' i hi) (fun k hk' => by
      obtain ⟨g, o, cur, fz, r, cr, e, _, hg, hc, hkk⟩ := hk.list k hk'
      exact ⟨g, o, cur, fz, r, cr, e, hg, fun j u hj => by rw [Nat.zero_add]; exact hc j u hj, hkk⟩)
    refine ⟨.mk (.mk x0 x1 x2 x3 x4 l x6) g o q c ts, rfl, rfl, rfl, rfl, rfl, ?_⟩
    unfold LE.Lies
    exact ⟨ha, hl.1, hts⟩
mutual
/-- All that is within lies there. -/
theorem LE.Lies.within {W : World} : ∀ (t : LE) (d : Nat), t.Lies W → ∀ y ∈ t.all d, y.1.Lies W
  | .mk x g o q c ps, d, h, y, hy => by
    have h' := h
    unfold LE.Lies at h'
    rw [LE.all] at hy
    rcases List.mem_cons.1 hy with rfl | hy
    · exact h
    · exact LE.LiesL.within ps q x.l 0 (d + 1) h'.2.2 y hy
theorem LE.LiesL.within {W : World} : ∀ (ts : List LE) (q : Option Addr) (l : List PE) (i d : Nat), LE.LiesL W q l i ts → ∀ y ∈ LE.allL ts d, y.1.Lies W
  | [], q, l, i, d, h, y, hy => by
    rw [LE.allL] at hy
    simp at hy
  | t :: ts, q, l, i, d, h, y, hy => by
    unfold LE.LiesL at h
    obtain ⟨⟨l', h1, h2⟩, h3, h4⟩ := h
    rw [LE.allL] at hy
    rcases List.mem_append.1 hy with hy | hy
    · exact LE.Lies.within t d h4 y hy
    · exact LE.LiesL.within ts q l' (i + 1) d h2 y hy
end
mutual
/-- Parts that lie, as Kids has them. -/
theorem LE.Lies.kid {W : World} : ∀ (t : LE) (d : Nat), t.Lies W → KidD W (fun _ => True) d t.x t.q
  | _, 0, _ => trivial
  | .mk x g o q c ps, d + 1, h => by
    unfold LE.Lies at h
    intro i hi
    have hi' : i < x.l.length := hi
    obtain ⟨g', o', r, cr, e, ha, hk⟩ := LE.LiesL.kid ps q x.l 0 d h.2.2 i hi'
    obtain ⟨cur, fz, h1, h2⟩ := ha
    refine ⟨g', o', cur, fz, r, cr, e, trivial, h1, fun j u hj => ?_, hk⟩
    have := h2 j u hj
    rw [Nat.zero_add] at this
    exact this
theorem LE.LiesL.kid {W : World} : ∀ (ts : List LE) (q : Option Addr) (l : List PE) (i d : Nat), LE.LiesL W q l i ts → ∀ (k : Nat) (hk : k < l.length), ∃ g o r c, q = some ⟨g, o, none⟩ ∧ AtB W l[k] g (o + (i + k) * 7) r c ∧ KidD W (fun _ => True) d l[k] r
  | [], q, l, i, d, h, k, hk => by
    unfold LE.LiesL at h
    subst h
    simp at hk
  | t :: ts, q, l, i, d, h, k, hk => by
    unfold LE.LiesL at h
    obtain ⟨⟨l', rfl, h2⟩, ⟨o, h3, h5⟩, h4⟩ := h
    cases k with
    | zero =>
      refine ⟨t.g, o, t.q, t.c, h3, ?_, ?_⟩
      · have := h4.at'
        rw [h5] at this
        simpa using this
      · exact LE.Lies.kid t d h4
    | succ k =>
      obtain ⟨g, o, r, c, e, ha, hd⟩ := LE.LiesL.kid ts q l' (i + 1) d h2 k (by simpa using hk)
      exact ⟨g, o, r, c, e, by rw [show i + (k + 1) = i + 1 + k by omega]; simpa using ha, by simpa using hd⟩
end
theorem LE.Lies.kids {W : World} {t : LE} (h : t.Lies W) : Kids W (fun _ => True) t.x t.q := fun d => LE.Lies.kid t d h
end Go.Proofs.YtmpkgjonbjpohaaGreatDoor
namespace Go.Proofs.YtmpkgjonbjpohaaGreatDoor
open Go Go.RowKit
set_option linter.unusedVariables false
set_option linter.unusedSimpArgs false

/-- What rounds leave as it was: what lies below, and all expressions. -/
structure KE (N0 : Nat) (A B : World) : Prop where
  be : Below N0 A B
  bk : ∀ (g : Nat) cs fz, A.heap[g]? = some (.cells cs 24 fz) → B.heap[g]? = some (.cells cs 24 fz)
theorem KE.refl (N0 : Nat) (A : World) : KE N0 A A := ⟨Below.refl _ _, fun _ _ _ h => h⟩
theorem KE.trans {N0 : Nat} {A B C : World} (h : KE N0 A B) (k : KE N0 B C) : KE N0 A C := ⟨h.be.trans k.be, fun g cs fz e => k.bk g cs fz (h.bk g cs fz e)⟩
theorem KE.below {N0 : Nat} {A B : World} (h : Below A.heap.size A B) (hN : N0 ≤ A.heap.size) : KE N0 A B := ⟨h.mono hN, fun g cs fz e => (h.block g (Array.getElem?_eq_some_iff.1 e).1).trans e⟩
theorem KE.put {N0 : Nat} {A : World} {l : Nat} {o : Obj} (hl : A.heap[l]? = some o) (ho : o.isCells = false) (hN : N0 ≤ l) (o' : Obj) : KE N0 A (A.putObj l o') := by
  refine ⟨(Below.refl _ A).grown (grownBy_putObj' A l o') (by have := (Array.getElem?_eq_some_iff.1 hl).1; omega) (fun r e => by cases e; omega), fun j cs fz h => (World.putObj_heap_other (fun e => ?_)).trans h⟩
  subst e
  rw [hl] at h
  cases h
  cases ho
def WkE (JJ : World → Prop) (XX : World → Prop) (N0 B0 : Nat) (w : World) (e : Ending) (W' : World) : Prop :=
  (e = .returned (.bool true) ∧ JJ W' ∧ KeepsO B0 0 w W' ∧ KE N0 w W') ∨ (e = .returned (.bool false) ∧ XX W' ∧ KeepsO B0 0 w W')
set_option maxRecDepth 100000 in
set_option maxHeartbeats 8000000 in
theorem walk_gen (g o : Nat) (q : Option Addr) (c len d : Nat) (l N0 B0 : Nat) (JJ : Nat → World → Prop) (XX : World → Prop) (w : World) (hlen : len ≤ 1000000000000000)
    (hy : YieldAt Fence.wide 3 Tryz.prog l #[.pointer (some ⟨g, o, none⟩), .int .i64 d] w (WkE (JJ 0) XX N0 B0 w))
    (hd : d ≤ 61)
    (hc : ∀ W, KE N0 w W → W.cell? ⟨g, o + 5, none⟩ = some (.slice q len c))
    (hk : ∀ (k : Nat) (W : World), k < len → JJ k W → KE N0 w W → KeepsO B0 0 w W → ∃ g' o', q = some ⟨g', o', none⟩ ∧ Calls Tryz.prog 49 #[.pointer (some ⟨g', o' + k * 7, none⟩), .int .i64 ((d : Int) + 1), .func (.yield l) #[] #[]] W (WkE (JJ (k + 1)) XX N0 B0 W)) :
    Calls Tryz.prog 49 #[.pointer (some ⟨g, o, none⟩), .int .i64 d, .func (.yield l) #[] #[]] w (WkE (JJ len) XX N0 B0 w) := by
  obtain ⟨fn, tmps, assign, body, hyy, hRR⟩ := hy
  have HR := veil hRR
  have HC := veil hc
  have HK := veil hk
  clear hRR hc hk
  refine (callsIn_wide (n := 4)).1 ?_
  refine callsIn_of_wp_marks Tryz.func49 rfl trivial ?_ rfl
  simp only [Tryz.ntmps49, List.size_toArray, List.length_cons, List.length_nil, Nat.reduceAdd, Nat.reduceSub, Array.replicate_succ, Array.replicate_zero, List.push_toArray, List.append_toArray, List.nil_append, List.cons_append]
  refine wpIn_wide.2 ?_
  go_upto_region 1 with fail
  refine (wpIn_wide (n := 4)).1 ?_
  gi_wp2
  refine (unveil HR).mono ?_
  rintro e W1 (⟨rfl, hJ1, hk1, he1⟩ | ⟨rfl, hX1, hk1⟩)
  · have HJ1 := veil hJ1
    have HK1 := veil hk1
    have HE1 := veil he1
    have c5 := unveil HC W1 he1
    clear hJ1 hk1 he1 HR
    gi_wp2
    go_wp2_with fail
    go_loopw [18] (fun i wr => ∃ k : Nat, i = .int .i64 k ∧ k ≤ len ∧ Hid (JJ k wr) ∧ Hid (KE N0 w wr) ∧ Hid (KeepsO B0 0 w wr)) (fun i wr => len - (intOf i).toNat)
    case atStart => exact ⟨0, rfl, Nat.zero_le _, HJ1, HE1, HK1⟩
    case round =>
      clear c5 HJ1 HK1 HE1
      obtain ⟨k, rfl, hk, hJk, hEk, hKk⟩ := hrel
      by_cases hlt : k < len
      · obtain ⟨g', o', hq, hcall⟩ := unveil HK k wr hlt (unveil hJk) (unveil hEk) (unveil hKk)
        have HCALL := veil hcall
        have c5 := unveil HC wr (unveil hEk)
        clear hcall
        subst hq
        go_wp2_with (go_at_call 49; refine (unveil HCALL).mono ?_; rintro e W2 (⟨rfl, hJ2, hk2, he2⟩ | ⟨rfl, hX2, hk2⟩))
        · have HE2 := veil ((unveil hEk).trans he2)
          have HK2 := veil ((unveil hKk).trans hk2)
          go_roundw
          case rel =>
            exact ⟨k + 1, by go_num, by omega, hJ2, HE2, HK2⟩
          case measure => simp [intOf]; omega
        · exact ⟨_, results_tmp rfl _ _ _, .inr ⟨rfl, hX2, (unveil hKk).trans hk2⟩⟩
      · obtain rfl : k = len := by omega
        have c5 := unveil HC wr (unveil hEk)
        go_wp2_with fail
        exact ⟨_, results_tmp rfl _ _ _, .inl ⟨rfl, unveil hJk, unveil hKk, unveil hEk⟩⟩
  · gi_wp2
    go_wp2_with fail
    exact ⟨_, results_tmp rfl _ _ _, .inr ⟨rfl, hX1, hk1⟩⟩
end Go.Proofs.YtmpkgjonbjpohaaGreatDoor
namespace Go.Proofs.YtmpkgjonbjpohaaGreatDoor
open Go Go.RowKit
set_option linter.unusedVariables false
set_option linter.unusedSimpArgs false

/-- How an expression and its depth are handed over. -/
def encE (y : LE × Nat) : Array Value := #[.pointer (some ⟨y.1.g, y.1.o, none⟩), .int .i64 y.2]
/-- What is known of yield. -/
structure YdE (l N0 B0 : Nat) (full : List (LE × Nat)) (J Jx : List (LE × Nat) → World → Prop) : Prop where
  g : ∀ pre W, J pre W → ∀ x ∈ pre, x.2 ≤ 60
  y : ∀ pre x W1, J pre W1 → B0 ≤ W1.heap.size → N0 ≤ W1.heap.size → pre ++ [x] <+: full → ∀ n, YieldAt Fence.wide n Tryz.prog l (encE x) W1 (WkE (J (pre ++ [x])) (fun W => ∃ p, p <+: full ∧ Jx p W) N0 B0 W1)
theorem walk_any : ∀ (n : Nat) (t : LE) (d : Nat), SizeOf.sizeOf t < n → ∀ (l N0 B0 : Nat) (full pre : List (LE × Nat)) (J Jx : List (LE × Nat) → World → Prop) (w : World), YdE l N0 B0 full J Jx → t.Lies w → J pre w → B0 ≤ w.heap.size → N0 ≤ w.heap.size → d ≤ 61 → pre ++ t.all d <+: full →
    Calls Tryz.prog 49 #[.pointer (some ⟨t.g, t.o, none⟩), .int .i64 d, .func (.yield l) #[] #[]] w (WkE (J (pre ++ t.all d)) (fun W => ∃ p, p <+: full ∧ Jx p W) N0 B0 w)
  | 0, _, _, h, _, _, _, _, _, _, _, _, _, _, _, _, _, _, _ => absurd h (Nat.not_lt_zero _)
  | n + 1, t, d, hn, l, N0, B0, full, pre, J, Jx, w, hy, hl, hJ, hB, hN, hd, hp => by
    obtain ⟨hps, hpart⟩ := LE.LiesL.part _ _ _ hl.list
    have hlen := hl.len
    rw [LE.all_eq] at hp ⊢
    have hpre : ∀ k, pre ++ (t, d) :: LE.allL (t.ps.take k) (d + 1) <+: full := fun k => ((List.prefix_append_right_inj pre).2 ((List.cons_prefix_cons).2 ⟨rfl, LE.allL_pre _ _ _⟩)).trans hp
    have hy0 := hy.y pre (t, d) w hJ hB hN (by have := hpre 0; rw [List.take_zero, LE.allL] at this; exact this) 3
    have hg := walk_gen t.g t.o t.q t.c t.x.l.length d l N0 B0 (fun k W => J (pre ++ (t, d) :: LE.allL (t.ps.take k) (d + 1)) W) (fun W => ∃ p, p <+: full ∧ Jx p W) w hl.few (by rw [List.take_zero, LE.allL]; exact hy0) hd (fun W hW => (LE.Lies.keep hW.bk t hl).at'.cell rfl) (fun k W hk hj hW hko => by
      have hk' : k < t.ps.length := by omega
      obtain ⟨⟨o', e1, e2⟩, h3⟩ := hpart k hk'
      refine ⟨t.ps[k].g, o', e1, ?_⟩
      have hd2 := hy.g _ _ hj (t, d) (by simp)
      have hszB : w.heap.size ≤ W.heap.size := hko.size
      have hq := walk_any n t.ps[k] (d + 1) (by
        cases t with
        | mk x g o q c ps =>
          have := List.sizeOf_lt_of_mem (List.getElem_mem hk')
          simp at hn
          have h2 : SizeOf.sizeOf ps[k] < SizeOf.sizeOf ps := this
          show SizeOf.sizeOf ps[k] < n
          omega) l N0 B0 full (pre ++ (t, d) :: LE.allL (t.ps.take k) (d + 1)) J Jx W hy (LE.Lies.keep hW.bk _ h3) hj (Nat.le_trans hB hszB) (Nat.le_trans hN hszB) (by simp at hd2; omega) (by
          have := hpre (k + 1)
          rw [LE.allL_take _ _ _ hk'] at this
          rw [List.append_assoc, List.cons_append]
          exact this)
      rw [e2, Nat.zero_add] at hq
      rw [LE.allL_take _ _ _ hk']
      rw [List.append_assoc, List.cons_append] at hq
      exact hq)
    rw [← hlen, List.take_length] at hg
    exact hg
theorem within_any (a : Addr) (w : World) :
    Calls Tryz.prog 24 #[.pointer (some a)] w fun e w' => e = .returned (.func (.func 48) #[] #[.pointer (some ⟨w.heap.size, 0, none⟩)]) ∧ w' = w.alloc (.cells #[.pointer (some a)] 46) := by
  go_enter Tryz.func24, Tryz.ntmps24
  go_wp2
  go_ret
  exact ⟨rfl, rfl⟩
set_option maxRecDepth 100000 in
set_option maxHeartbeats 8000000 in
theorem within1_in (n : Nat) (lp Bd g o : Nat) (JJ XX : World → Prop) (W : World)
    (hw : Calls Tryz.prog 49 #[.pointer (some ⟨g, o, none⟩), .int .i64 1, .func (.yield lp) #[] #[]] W fun e W' => (∃ v, e = .returned v) ∧ (JJ W' ∨ XX W'))
    (hb : Bk W Bd 46 #[.pointer (some ⟨g, o, none⟩)]) :
    CallsIn Fence.wide n Tryz.prog 48 #[.func (.yield lp) #[] #[], .pointer (some ⟨Bd, 0, none⟩)] W fun e W' => (∃ v, e = .returned v) ∧ (JJ W' ∨ XX W') := by
  have c0 := hb.cell 0
  simp only [List.getElem?_toArray, List.getElem?_cons_zero] at c0
  have HW := veil hw
  clear hw hb
  refine callsIn_of_wp Tryz.func48 rfl trivial ?_ rfl
  simp only [Tryz.ntmps48, List.size_toArray, List.length_cons, List.length_nil, Nat.reduceAdd, Nat.reduceSub, Array.replicate_succ, Array.replicate_zero, List.push_toArray, List.append_toArray, List.nil_append, List.cons_append]
  gi_wp2
  refine ⟨trivial, (fun h => by cases h), (callsIn_wide.2 (unveil HW)).mono ?_⟩
  rintro e W6 ⟨⟨v, rfl⟩, h6⟩
  gi_wp2
  refine bodyPost_end (results_none (fn := Tryz.f48) rfl _ _ _) rfl ?_
  exact ⟨⟨_, rfl⟩, h6⟩
theorem yield_any {n m l : Nat} {P : Program} {args : Array Value} {W : World} {R R' : Ending → World → Prop} (h : YieldAt Fence.wide n P l args W R) (hr : ∀ e w', R e w' → R' e w') : YieldAt Fence.wide m P l args W R' := by
  obtain ⟨fn, tmps, assign, body, h1, h2⟩ := h
  exact ⟨fn, tmps, assign, body, h1, (RoundIn.mono ⟨h2.1, fun c cs _ => h2.2 c cs (room_wide _)⟩ hr)⟩
/-- No part that is told is more than 60 deep. -/
def G60 (pre : List (LE × Nat)) : Prop := ∀ x ∈ pre, x.2 ≤ 60
theorem within_stops (n Bd N0 : Nat) (t : LE) (w : World) (hN : N0 ≤ w.heap.size) (hb : Bk w Bd 46 #[.pointer (some ⟨t.g, t.o, none⟩)]) (hl : t.Lies w) :
    SeqStopsG G60 Fence.wide n 0 Tryz.prog 48 #[.pointer (some ⟨Bd, 0, none⟩)] encE (KE N0) (t.all 1) w := by
  intro lp J Jx W hW hJ hJx hG hY h0
  have hlW : t.Lies W := LE.Lies.keep (fun g cs fz e => (hW.block g (Array.getElem?_eq_some_iff.1 e).1).trans e) t hl
  have hy : YdE lp N0 W.heap.size (t.all 1) J Jx := ⟨hG, fun pre x W1 h1 h2 h3 h4 m => yield_any (hY pre x W1 h1 (by simpa using h2) (fun j c fz q1 q2 => by omega) h4) (fun e w' h => by
    rcases h with ⟨q1, q2, q3, q4⟩ | ⟨q1, q2, q3⟩
    · exact .inl ⟨q1, q2, q3, q4⟩
    · exact .inr ⟨q1, ⟨_, h4, q2⟩, q3⟩)⟩
  have hwk := walk_any (SizeOf.sizeOf t + 1) t 1 (by omega) lp N0 W.heap.size (t.all 1) [] J Jx W hy hlW h0 (Nat.le_refl _) (Nat.le_trans hN hW.size) (by omega) (by rw [List.nil_append]; exact List.prefix_refl _)
  rw [List.nil_append] at hwk
  refine within1_in n lp Bd t.g t.o (J (t.all 1)) (fun W' => ∃ p, p <+: t.all 1 ∧ Jx p W') W (hwk.mono fun e W' h => ?_) (hb.below hW)
  rcases h with ⟨q1, q2, _⟩ | ⟨q1, q2, _⟩
  · exact ⟨⟨_, q1⟩, .inl q2⟩
  · exact ⟨⟨_, q1⟩, .inr q2⟩
mutual
/-- Is something more than 60 deep? -/
def dpP : PE → Nat → Bool
  | .mk _ _ _ _ _ l _, d => decide (60 < d) || dpL l (d + 1)
def dpL : List PE → Nat → Bool
  | [], _ => false
  | x :: l, d => dpP x d || dpL l d
end
mutual
theorem all_dp {W : World} : ∀ (t : LE) (d : Nat), t.Lies W → (t.all d).any (fun y => decide (60 < y.2)) = dpP t.x d
  | .mk (.mk x0 x1 x2 x3 x4 l x6) g o q c ps, d, h => by
    unfold LE.Lies at h
    have := allL_dp ps q l 0 (d + 1) h.2.2
    rw [LE.all, List.any_cons, this]
    show _ = dpP (.mk x0 x1 x2 x3 x4 l x6) d
    rw [dpP]
theorem allL_dp {W : World} : ∀ (ts : List LE) (q : Option Addr) (l : List PE) (i d : Nat), LE.LiesL W q l i ts → (LE.allL ts d).any (fun y => decide (60 < y.2)) = dpL l d
  | [], q, l, i, d, h => by
    unfold LE.LiesL at h
    subst h
    rw [LE.allL, dpL]
    rfl
  | t :: ts, q, l, i, d, h => by
    unfold LE.LiesL at h
    obtain ⟨⟨l', rfl, h2⟩, h3, h4⟩ := h
    rw [LE.allL, List.any_append, all_dp t d h4, allL_dp ts q l' (i + 1) d h2, dpL]
end
end Go.Proofs.YtmpkgjonbjpohaaGreatDoor
namespace Go.Proofs.YtmpkgjonbjpohaaGreatDoor
open Go Go.RowKit
set_option linter.unusedVariables false
set_option linter.unusedSimpArgs false

theorem res_p {f : Func} {k1 k2 k3 k4 : Nat} {tmps : Array Value} {w : World} {R1 R2 R3 R4 : Nat} {cs : Array Value} {a e l : Value} (hr : f.results = #[.cell k1 24, .cell k2 3, .cell k3 27, .cell k4 3])
    (hp1 : tmps.getD k1 undef = .pointer (some ⟨R1, 0, none⟩)) (hp2 : tmps.getD k2 undef = .pointer (some ⟨R2, 0, none⟩)) (hp3 : tmps.getD k3 undef = .pointer (some ⟨R3, 0, none⟩)) (hp4 : tmps.getD k4 undef = .pointer (some ⟨R4, 0, none⟩))
    (hg1 : Bk w R1 24 cs) (hz : cs.size = 7) (hg2 : Bk w R2 3 #[a]) (hg3 : Bk w R3 27 #[e]) (hg4 : Bk w R4 3 #[l]) :
    (results f tmps).run Tryz.prog w = .ok (.tuple #[.agg cs, a, e, l]) w := by
  have hi : (Tryz.prog.info? 24).map (·.size) = some cs.size := by rw [hz]; kernel_rfl
  have hp1' : tmps[k1]?.getD undef = .pointer (some ⟨R1, 0, none⟩) := by simpa using hp1
  have hp2' : tmps[k2]?.getD undef = .pointer (some ⟨R2, 0, none⟩) := by simpa using hp2
  have hp3' : tmps[k3]?.getD undef = .pointer (some ⟨R3, 0, none⟩) := by simpa using hp3
  have hp4' : tmps[k4]?.getD undef = .pointer (some ⟨R4, 0, none⟩) := by simpa using hp4
  have c2 := hg2.cell 0
  have c3 := hg3.cell 0
  have c4 := hg4.cell 0
  simp only [List.getElem?_toArray, List.getElem?_cons_zero] at c2 c3 c4
  have h1 := run_loadVar_row w R1 24 24 cs (0, 0) _ hg1 Tryz.underlying24 rfl hi
  simp [results, hr, hp1', hp2', hp3', hp4', asAddr, h1]
  simp [loadVar, go_sem, c2, c3, c4, Tryz.underlying3, Tryz.underlying27]
/-- The boxes of the results. -/
structure PaS (w W : World) (cs : Array Value) (a e l : Value) : Prop where
  x : Bk W w.heap.size 24 cs
  a : Bk W (w.heap.size + 1) 3 #[a]
  e : Bk W (w.heap.size + 1 + 1) 27 #[e]
  l : Bk W (w.heap.size + 1 + 1 + 1) 3 #[l]
  be : Below w.heap.size w W
def zrE : Array Value := #[.int .i64 0, .int .i64 0, .int .i64 0, .int .i64 0, .string ⟨#[]⟩, .slice none 0 0, .int .i64 0]
theorem PaS.new (w : World) : PaS w ((((w.alloc (.cells zrE 24)).alloc (.cells #[.int .i64 0] 3)).alloc (.cells #[.int .i64 0] 27)).alloc (.cells #[.int .i64 0] 3)) zrE (.int .i64 0) (.int .i64 0) (.int .i64 0) := by
  have h1 := Bk.new w 24 zrE
  have h2 := Bk.new (w.alloc (.cells zrE 24)) 3 #[.int .i64 0]
  have h3 := Bk.new ((w.alloc (.cells zrE 24)).alloc (.cells #[.int .i64 0] 3)) 27 #[.int .i64 0]
  have h4 := Bk.new (((w.alloc (.cells zrE 24)).alloc (.cells #[.int .i64 0] 3)).alloc (.cells #[.int .i64 0] 27)) 3 #[.int .i64 0]
  simp only [World.size_alloc] at h2 h3 h4
  exact ⟨((h1.alloc _).alloc _).alloc _, (h2.alloc _).alloc _, h3.alloc _, h4, ((((Below.refl _ w).alloc (Nat.le_refl _) _).alloc (by simp) _).alloc (by simp; omega) _).alloc (by simp; omega) _⟩
theorem PaS.keep {w W W' : World} {cs : Array Value} {a e l : Value} (h : PaS w W cs a e l) (hb : Below (w.heap.size + 4) W W') : PaS w W' cs a e l :=
  ⟨(hb.block _ (by omega)).trans h.x, (hb.block _ (by omega)).trans h.a, (hb.block _ (by omega)).trans h.e, (hb.block _ (by omega)).trans h.l, h.be.trans (hb.mono (by omega))⟩
theorem PaS.cells {w W : World} {c0 c1 c2 c3 c4 c5 c6 : Value} {a e l : Value} (h : PaS w W #[c0, c1, c2, c3, c4, c5, c6] a e l) :
    (W.frozen? ⟨w.heap.size, 0, none⟩ = false ∧ W.frozen? ⟨w.heap.size, 1, none⟩ = false ∧ W.frozen? ⟨w.heap.size, 2, none⟩ = false ∧ W.frozen? ⟨w.heap.size, 3, none⟩ = false ∧ W.frozen? ⟨w.heap.size, 4, none⟩ = false ∧ W.frozen? ⟨w.heap.size, 5, none⟩ = false ∧ W.frozen? ⟨w.heap.size, 6, none⟩ = false) ∧
    (W.cell? ⟨w.heap.size, 0, none⟩ = some c0 ∧ W.cell? ⟨w.heap.size, 1, none⟩ = some c1 ∧ W.cell? ⟨w.heap.size, 2, none⟩ = some c2 ∧ W.cell? ⟨w.heap.size, 3, none⟩ = some c3 ∧ W.cell? ⟨w.heap.size, 4, none⟩ = some c4 ∧ W.cell? ⟨w.heap.size, 5, none⟩ = some c5 ∧ W.cell? ⟨w.heap.size, 6, none⟩ = some c6) ∧
    (W.frozen? ⟨w.heap.size + 1, 0, none⟩ = false ∧ W.frozen? ⟨w.heap.size + 1 + 1, 0, none⟩ = false ∧ W.frozen? ⟨w.heap.size + 1 + 1 + 1, 0, none⟩ = false) ∧
    (W.cell? ⟨w.heap.size + 1, 0, none⟩ = some a ∧ W.cell? ⟨w.heap.size + 1 + 1, 0, none⟩ = some e ∧ W.cell? ⟨w.heap.size + 1 + 1 + 1, 0, none⟩ = some l) ∧ w.heap.size + 1 + 1 + 1 < W.heap.size :=
  ⟨⟨h.x.frozen 0, h.x.frozen 1, h.x.frozen 2, h.x.frozen 3, h.x.frozen 4, h.x.frozen 5, h.x.frozen 6⟩, ⟨h.x.cell 0, h.x.cell 1, h.x.cell 2, h.x.cell 3, h.x.cell 4, h.x.cell 5, h.x.cell 6⟩, ⟨h.a.frozen 0, h.e.frozen 0, h.l.frozen 0⟩, ⟨h.a.cell 0, h.e.cell 0, h.l.cell 0⟩, h.l.lt⟩
/-- All results are put. -/
theorem PaS.put {w W : World} {c0 c1 c2 c3 c4 c5 c6 : Value} {a e l : Value} (h : PaS w W #[c0, c1, c2, c3, c4, c5, c6] a e l) (b0 b1 b2 b3 b4 b5 b6 a' e' l' : Value) : ∀ W', W' = ((((((((((W.setCell ⟨w.heap.size, 0, none⟩ b0).setCell ⟨w.heap.size, 1, none⟩ b1).setCell ⟨w.heap.size, 2, none⟩ b2).setCell ⟨w.heap.size, 3, none⟩ b3).setCell ⟨w.heap.size, 4, none⟩ b4).setCell ⟨w.heap.size, 5, none⟩ b5).setCell ⟨w.heap.size, 6, none⟩ b6).setCell ⟨w.heap.size + 1, 0, none⟩ a').setCell ⟨w.heap.size + 1 + 1, 0, none⟩ e').setCell ⟨w.heap.size + 1 + 1 + 1, 0, none⟩ l') →
    PaS w W' #[b0, b1, b2, b3, b4, b5, b6] a' e' l' ∧ (∀ (j : Nat) (o : Obj), w.heap.size + 4 ≤ j → W.heap[j]? = some o → W'.heap[j]? = some o) ∧ W'.heap.size = W.heap.size ∧ ∀ B, KeepsFrom B W W' := fun W' hW => by
  obtain ⟨r1, r2, r3, r4⟩ := ex_put h.x b0 b1 b2 b3 b4 b5 b6 _ rfl
  obtain ⟨V, hV⟩ : ∃ V, (((((((W.setCell ⟨w.heap.size, 0, none⟩ b0).setCell ⟨w.heap.size, 1, none⟩ b1).setCell ⟨w.heap.size, 2, none⟩ b2).setCell ⟨w.heap.size, 3, none⟩ b3).setCell ⟨w.heap.size, 4, none⟩ b4).setCell ⟨w.heap.size, 5, none⟩ b5).setCell ⟨w.heap.size, 6, none⟩ b6) = V := ⟨_, rfl⟩
  rw [hV] at r1 r2 r3 r4 hW
  have ha : Bk V (w.heap.size + 1) 3 #[a] := r3 _ _ (by omega) h.a
  have he : Bk V (w.heap.size + 1 + 1) 27 #[e] := r3 _ _ (by omega) h.e
  have hl : Bk V (w.heap.size + 1 + 1 + 1) 3 #[l] := r3 _ _ (by omega) h.l
  have hbe : Below w.heap.size w V := h.be.trans (r2 _ (Nat.le_refl _))
  have hkf : ∀ B, KeepsFrom B W V := fun B => by
    rw [← hV]
    exact ((((((((KeepsOthers.setCell _ _ _).from B).trans ((KeepsOthers.setCell _ _ _).from B)).trans ((KeepsOthers.setCell _ _ _).from B)).trans ((KeepsOthers.setCell _ _ _).from B)).trans ((KeepsOthers.setCell _ _ _).from B)).trans ((KeepsOthers.setCell _ _ _).from B)).trans ((KeepsOthers.setCell _ _ _).from B))
  subst hW
  refine ⟨⟨((r1.other 0 a' (by omega)).other 0 e' (by omega)).other 0 l' (by omega), ((ha.set 0 a').other 0 e' (by omega)).other 0 l' (by omega), ((he.other 0 a' (by omega)).set 0 e').other 0 l' (by omega), ((hl.other 0 a' (by omega)).other 0 e' (by omega)).set 0 l', ((hbe.setCell (p := ⟨w.heap.size + 1, 0, none⟩) (by show w.heap.size ≤ w.heap.size + 1; omega) a').setCell (p := ⟨w.heap.size + 1 + 1, 0, none⟩) (by show w.heap.size ≤ w.heap.size + 1 + 1; omega) e').setCell (p := ⟨w.heap.size + 1 + 1 + 1, 0, none⟩) (by show w.heap.size ≤ w.heap.size + 1 + 1 + 1; omega) l'⟩, fun j o hj ho => ?_, ?_, fun B => (((hkf B).trans ((KeepsOthers.setCell _ _ _).from B)).trans ((KeepsOthers.setCell _ _ _).from B)).trans ((KeepsOthers.setCell _ _ _).from B)⟩
  · exact (Below.heap_setCell _ ⟨w.heap.size + 1 + 1 + 1, 0, none⟩ l' j (by simp only [ne_eq]; omega)).trans ((Below.heap_setCell _ ⟨w.heap.size + 1 + 1, 0, none⟩ e' j (by simp only [ne_eq]; omega)).trans ((Below.heap_setCell _ ⟨w.heap.size + 1, 0, none⟩ a' j (by simp only [ne_eq]; omega)).trans (r3 j o (by omega) ho)))
  · simp only [World.size_setCell, r4]
theorem ko_of {B0 B : Nat} {W W' : World} (h : KeepsFrom B0 W W') (hB : B0 ≤ B) : KeepsO B 0 W W' := ⟨h.size, fun j o hj h0 ho => h.same j o (Nat.le_trans hB hj) h0 (ho.resolve_right (by omega))⟩
end Go.Proofs.YtmpkgjonbjpohaaGreatDoor
