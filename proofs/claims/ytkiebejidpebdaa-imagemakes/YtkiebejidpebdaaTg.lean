/-
  burinref11.walk: numbers, and paths that lead to none at once.
-/
import Derived.Test.YtkiebejidpebdaaTa
import Derived.Test.YtkiebejidpebdaaZ6
import Derived.Test.YtkiebejidpebdaaZ5
namespace Go.Proofs.Ytkiebejidpebdaa
open Go Go.RowKit Go.Shelf
set_option linter.unusedVariables false
set_option linter.unusedSimpArgs false

/-- A union on a path, as the document has it: where it begins, its bytes, how deep, which member. -/
def usC (u : Int × Int × Int × Int) : List Value := [.int .i64 u.1, .int .i64 u.2.1, .int .i64 u.2.2.1, .int .i64 u.2.2.2]
def usCs (l : List (Int × Int × Int × Int)) : List Value := l.flatMap usC
def uniM (deep : Int) : List ((ShT × Int × Int) × Int × Int) → List (Int × Int × Int × Int)
  | [] => []
  | (x, fr, s) :: r => (if x.1.sh == 5 then [(fr / 8, x.2.2 / 8, deep, s)] else []) ++ uniM (deep + 1) r
/-- Does a path lead on to a number? To which? -/
def okN (x : ShT × Int × Int) (fr : Int) (path : List Int) : Bool := decide ((folM x fr path).1.length = path.length) && (nuM (folM x fr path).2.1.1 (folM x fr path).2.1.2.2 (folM x fr path).2.2).2
def spN (x : ShT × Int × Int) (fr : Int) (path : List Int) : Int × Int × Int := (nuM (folM x fr path).2.1.1 (folM x fr path).2.1.2.2 (folM x fr path).2.2).1
/-- What the document's walk tells. -/
def RwP (w : World) (x : ShT × Int × Int) (fr deep : Int) (path : List Int) (e : Ending) (w' : World) : Prop :=
  ∃ a b c q n cp U, e = .returned (.tuple #[.agg #[.int .i64 a, .int .i64 b, .int .i64 c], .slice q n cp, .bool (okN x fr path)]) ∧ w'.ownsRow w.heap.size 103 4 (.slice q n cp) (List.length U) (usCs U) ∧ Below w.heap.size w w' ∧
    (okN x fr path = true → (a, b, c) = spN x fr path ∧ U = uniM deep (folM x fr path).1) ∧ U.length ≤ 20 - deep.toNat
theorem RwP.no {w w' : World} {x : ShT × Int × Int} {fr deep : Int} {path : List Int} (h : okN x fr path = false) (hb : Below w.heap.size w w') (a b c : Int) : RwP w x fr deep path (.returned (.tuple #[.agg #[.int .i64 a, .int .i64 b, .int .i64 c], .slice none 0 0, .bool false])) w' :=
  ⟨a, b, c, none, 0, 0, [], by rw [h], World.ownsRow_nil _ _ _ _, hb, fun h' => (by rw [h] at h'; cases h'), Nat.zero_le _⟩
theorem okN_no {x : ShT × Int × Int} {s : Int} (h : stpM x s = none) (fr : Int) (r : List Int) : okN x fr (s :: r) = false := by
  unfold okN
  rw [fol_no h]
  simp
theorem okN_yes {x y : ShT × Int × Int} {s b : Int} {j : Nat} (h : stpM x s = some (j, y, b)) (fr : Int) (r : List Int) : okN x fr (s :: r) = okN y (fr + b) r ∧ spN x fr (s :: r) = spN y (fr + b) r ∧ (folM x fr (s :: r)).1 = (x, fr, s) :: (folM y (fr + b) r).1 := by
  unfold okN spN
  rw [fol_yes h]
  simp
/-- The boxes of walk: the type's, the answer's, the box's. -/
structure RwS (w W : World) (t : ShT) (BB : Nat) (z a : Int) (u : Value) : Prop where
  f : FdS w W t
  b : Bk W BB 32 (bxC z a false u)
theorem RwS.below {w W W' : World} {t : ShT} {BB : Nat} {z a : Int} {u : Value} (h : RwS w W t BB z a u) (hb : Below W.heap.size W W') : RwS w W' t BB z a u := ⟨h.f.below hb, h.b.below hb⟩
theorem res_slb {f : Func} {k i j : Nat} {tmps : Array Value} {w : World} {R : Nat} {cs : Array Value} (hr : f.results = #[.cell k 42, .tmp i, .tmp j]) (hp : tmps.getD k undef = .pointer (some ⟨R, 0, none⟩)) (hg : w.heap[R]? = some (.cells cs 42 (0, 0))) (hz : cs.size = 3) :
    (results f tmps).run Try.prog w = .ok (.tuple #[.agg cs, tmps.getD i undef, tmps.getD j undef]) w := by
  have hi : (Try.prog.info? 42).map (·.size) = some cs.size := by rw [hz]; kernel_rfl
  have hp' : tmps[k]?.getD undef = .pointer (some ⟨R, 0, none⟩) := by simpa using hp
  simp [results, hr, hp', asAddr, run_loadVar_row w R 42 42 cs (0, 0) _ hg Try.underlying42 rfl hi]
theorem rw_of {d : Nat} {x : ShT × Int × Int} (hd : d ≤ 6) (h : RiN d x) {w : World} (hin : x.1.In w.heap.size w) (hle : x.1.Len) :
    ∃ z a, x.2.2 = 8 * z ∧ 1 ≤ z ∧ z ≤ 65536 ∧ ∀ W, Below w.heap.size w W → Calls Try.prog 19 #[x.1.v] W fun e w' => ∃ q n c, e = .returned (.tuple #[.agg #[.int .i64 z, .int .i64 a, .bool false, .slice q n c], .int .i64 0]) ∧ Below W.heap.size W w' ∧ w'.ownsRow W.heap.size 42 3 (.slice q n c) (ofL x.1).length (spCs (ofL x.1)) := by
  obtain ⟨h1, h2, h3⟩ := h
  obtain ⟨hc, _⟩ := chk_of hd h1 h3
  refine ⟨(meaM d x.1).1, (meaM d x.1).2, h2, mea_pos d x.1 h1, h3, fun W hb => ?_⟩
  have := Of_any x.1 W ((hin.below hb).mono hb.size) hle
  rw [hc] at this
  exact this
set_option maxRecDepth 100000 in
set_option maxHeartbeats 20000000 in
/-- A number, or a pointer. -/
theorem rwalk_num (d : Nat) (x : ShT × Int × Int) (fr deep : Int) (p : Option Addr) (cap : Nat) (path : List Int) (w : World) (hd : d ≤ 6) (h : RiN d x) (hin : x.1.In w.heap.size w) (hle : x.1.Len) (h0 : 0 ≤ fr) (h1 : fr + x.2.2 ≤ 524288) (hs : (x.1.sh == 1 || x.1.sh == 2) = true) (hpl : path.length ≤ maxLen) :
    Calls Try.prog 52 #[x.1.v, .int .i64 fr, .int .i64 deep, .slice p path.length cap] w (RwP w x fr deep path) := by
  obtain ⟨z, a, hz, hz1, hz2, hof⟩ := rw_of hd h hin hle
  have HOF := veil hof
  have HT0 := veil (FdS.new w x.1)
  have hstp : ∀ s, stpM x s = none := fun s => by
    have h' : x.1.sh = 1 ∨ x.1.sh = 2 := by simpa using hs
    unfold stpM
    rcases h' with e | e <;> rw [e] <;> rfl
  have hfo : folM x fr path = ([], x, fr) := by
    cases path with
    | nil => rfl
    | cons s r => exact fol_no (hstp s) fr r
  have HPO : Hid (∀ k w', Below w.heap.size w w' → (x.1.sh = 1 → k = x.1.k) → (x.1.sh = 2 → k = 8) → RwP w x fr deep path (.returned (.tuple #[.agg #[.int .i64 fr, .int .i64 (8 * z), .int .i64 k], .slice none 0 0, .bool ((path.length : Int) == 0)])) w') := fun k w' hb k1 k2 => by
    have h' : x.1.sh = 1 ∨ x.1.sh = 2 := by simpa using hs
    have hnu : nuM x.1 x.2.2 fr = ((fr, 8 * z, k), true) := by
      unfold nuM
      rcases h' with e | e
      · rw [if_pos (by rw [e]; rfl), hz, k1 e]
      · rw [if_neg (by rw [e]; decide), if_pos (by rw [e]; rfl), hz, k2 e]
    have hok : okN x fr path = ((path.length : Int) == 0) := by
      unfold okN
      rw [hfo]
      simp only [hnu, Bool.and_true, List.length_nil]
      cases path <;> simp <;> omega
    refine ⟨fr, 8 * z, k, none, 0, 0, [], by rw [hok], World.ownsRow_nil _ _ _ _, hb, fun _ => ⟨?_, ?_⟩, Nat.zero_le _⟩
    · unfold spN
      rw [hfo]
      simp only [hnu]
    · rw [hfo]
      rfl
  clear hof hfo hstp hin hle h
  obtain ⟨PO, hPO⟩ : ∃ PO, RwP w x fr deep path = PO := ⟨_, rfl⟩
  rw [hPO] at HPO ⊢
  clear hPO
  generalize ofL x.1 = OL at *
  have hsh := hs
  generalize x.1 = t at *
  have h8z : 8 * z ≤ 524288 := by omega
  have hw8 : IntKind.i64.wrap (8 * z) = 8 * z := by rw [IntKind.wrap_i64]; omega
  unfold ShT.v ShT.cs at *
  go_enter Try.func52, Try.ntmps52
  go_upto_region 1 with fail
  generalize ((w.alloc (.cells #[.int .i64 t.sh, .int .i64 t.k, .int .i64 t.n, .slice t.op t.of.length t.oc, .slice t.fp t.fs.length t.fc, .bool t.pk, .int .i64 t.al] 25)).alloc (.cells #[.int .i64 0, .int .i64 0, .int .i64 0] 42)) = W0 at HT0 ⊢
  obtain ⟨y0, y1, y2, y3, y4, y5, y6⟩ := (unveil HT0).t.seven
  go_upto_region 2 with (go_at_call 19; refine (unveil HOF _ (unveil HT0).be).mono ?_; rintro e W1 ⟨q1, n1, c1, rfl, hb1, hr1⟩; have HS1 := veil (And.intro (RwS.mk (((unveil HT0).below hb1).below ((Below.refl _ W1).alloc (Nat.le_refl _) (.cells (bxC z a false (.slice q1 n1 c1)) 32))) (Bk.new W1 32 (bxC z a false (.slice q1 n1 c1)))) hb1); clear hb1 hr1)
  clear y0 y1 y2 y3 y4 y5 y6
  unfold bxC at HS1
  have HR1 : Hid (RwS w (W1.alloc (.cells #[.int .i64 z, .int .i64 a, .bool false, .slice q1 n1 c1] 32)) t W1.heap.size z a (.slice q1 n1 c1)) := (unveil HS1).1
  clear HS1
  generalize (W1.alloc (.cells #[.int .i64 z, .int .i64 a, .bool false, .slice q1 n1 c1] 32)) = W2 at *
  generalize W1.heap.size = BB at *
  obtain ⟨y0, y1, y2, y3, y4, y5, y6⟩ := (unveil HR1).f.t.seven
  obtain ⟨⟨z0, z1, z2⟩, ⟨f0, f1, f2⟩, zl⟩ := (unveil HR1).f.cells
  have b0 : W2.cell? ⟨BB, 0, none⟩ = some (.int .i64 z) := (unveil HR1).b.cell 0
  have bl := (unveil HR1).b.lt
  have h12 : t.sh = 1 ∨ t.sh = 2 := by simpa using hs
  rcases h12 with e | e
  · have e1 : (t.sh == 1) = true := by rw [e]; rfl
    have e2 : (t.sh == 2) = false := by rw [e]; rfl
    have HP2 : Hid (∀ w', Below w.heap.size w w' → PO (.returned (.tuple #[.agg #[.int .i64 fr, .int .i64 (8 * z), .int .i64 t.k], .slice none 0 0, .bool ((path.length : Int) == 0)])) w') := fun w' hb => unveil HPO t.k w' hb (fun _ => rfl) (fun h => by rw [e] at h; cases h)
    clear e hs hsh HPO
    go_wp2_with fail
    obtain ⟨r1, r2⟩ := (unveil HR1).f.fin (.int .i64 fr) (.int .i64 (8 * z)) (.int .i64 t.k) _ rfl
    exact bodyPost_ret (res_slb (f := Try.f52) (i := 9) (j := 10) rfl rfl r1 rfl) rfl (unveil HP2 _ r2)
  · have e1 : (t.sh == 1) = false := by rw [e]; rfl
    have e2 : (t.sh == 2) = true := by rw [e]; rfl
    have HP2 : Hid (∀ w', Below w.heap.size w w' → PO (.returned (.tuple #[.agg #[.int .i64 fr, .int .i64 (8 * z), .int .i64 8], .slice none 0 0, .bool ((path.length : Int) == 0)])) w') := fun w' hb => unveil HPO 8 w' hb (fun h => by rw [e] at h; cases h) (fun _ => rfl)
    clear e hs hsh HPO
    go_wp2_with fail
    obtain ⟨r1, r2⟩ := (unveil HR1).f.fin (.int .i64 fr) (.int .i64 (8 * z)) (.int .i64 8) _ rfl
    exact bodyPost_ret (res_slb (f := Try.f52) (i := 9) (j := 10) rfl rfl r1 rfl) rfl (unveil HP2 _ r2)
end Go.Proofs.Ytkiebejidpebdaa
