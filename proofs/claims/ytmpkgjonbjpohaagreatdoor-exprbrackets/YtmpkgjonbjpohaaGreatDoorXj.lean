/-
  Package lex: Words.
-/
import Derived.Test.YtmpkgjonbjpohaaGreatDoorXi
namespace Go.Proofs.YtmpkgjonbjpohaaGreatDoor
open Go Go.RowKit Go.Shelf
attribute [local go_sem] Oper.semAt_some
set_option linter.unusedVariables false
set_option linter.unusedSimpArgs false

def wdCells (l : List Wd) : List Value := l.flatMap wdC
theorem wdCells_snoc (l : List Wd) (t : Wd) : wdCells (l ++ [t]) = wdCells l ++ wdC t := by simp [wdCells]
theorem wdCells_length (l : List Wd) : (wdCells l).length = l.length * 6 := by
  induction l with
  | nil => rfl
  | cons x l ih => simp [wdCells, wdC] at ih ⊢; omega
theorem Tryz.infoW : (Tryz.prog.info? 42).map (fun i => (i.zero, i.size, i.bytes)) = some (some (.agg #[.int .i64 0, .string ⟨#[]⟩, .int .i64 0, .int .i64 0, .string ⟨#[]⟩, .int .i64 0]), 6, 64) := by kernel_rfl
theorem sixw_cells (W : World) (t : Wd) (ty : TypeId) : ∀ (j : Nat) (u : Value), (wdC t)[j]? = some u → (W.alloc (.cells (wdC t).toArray ty)).cell? ((⟨W.heap.size, 0, none⟩ : Addr).add j) = some u := by
  intro j u h
  unfold wdC at *
  match j, h with
  | 0, h => simp at h; subst h; simp [Addr.add]
  | 1, h => simp at h; subst h; simp [Addr.add]
  | 2, h => simp at h; subst h; simp [Addr.add]
  | 3, h => simp at h; subst h; simp [Addr.add]
  | 4, h => simp at h; subst h; simp [Addr.add]
  | 5, h => simp at h; subst h; simp [Addr.add]
theorem wevF_len : ∀ (f : Nat) (l : List Gt), (wevF f l).length ≤ f
  | 0, _ => by simp [wevF]
  | f + 1, [] => by simp [wevF]
  | f + 1, t :: r => by
    rw [wevF]
    have := wevF_len f ((t :: r).drop (fiM (t :: r)).2.1)
    split
    · simp; omega
    · simp
theorem wev_len (l : List Gt) : (wev l).length ≤ l.length := wevF_len _ _
/-- The words that were told, the error and its place. -/
def wcol : List Wd → List (Wd × Bool) → List Wd × Int × List UInt8 × Int
  | out, [] => (out, 0, [], 0)
  | out, (x, ok) :: r => if ok then wcol (out ++ [x]) r else ([], 70, x.f, x.line)
/-- What Words tells of tokens. -/
def wsM (l : List Gt) : List Wd × Int × List UInt8 × Int := wcol [] (wev l)
theorem words_stops (n : Nat) (h1 : 1 ≤ n) (Bd B0 : Nat) (p : Option Addr) (cap : Nat) (l : List Gt) (hl : l.length ≤ 1000000) (hcap : l.length ≤ cap) (hok : ∀ t ∈ l, TokOK t) (w : World) (hB0 : 10 < B0) (hBw : B0 ≤ w.heap.size) (hb : Boxed w Bd 74 (.slice p l.length cap)) (hT : TkG B0 w (.slice p l.length cap) l) (hgl : Gl w) :
    SeqStopsO Fence.wide n 0 Tryz.prog 106 #[.pointer (some ⟨Bd, 0, none⟩)] encW (Below B0) (wev l) w :=
  fun lp J Jx W hW hJ hJx hY h0 => words1_in n h1 lp Bd B0 p cap l hl hcap hok J Jx W hJ hJx hY hB0 (Nat.le_trans hBw hW.size) (Boxed.below hb hW hb.lt) (hT.below (hW.mono hBw)) (hgl.next hW) h0
/-- What a round of Words hands on; what it leaves when it ends. -/
def WrI (w : World) (full : List (Wd × Bool)) (R : List Wd × Int × List UInt8 × Int) (pre : List (Wd × Bool)) (W : World) : Prop :=
  (∃ v, Boxed W w.heap.size 26 v ∧ W.ownsRow (w.heap.size + 6) 42 6 v pre.length (wdCells (pre.map Prod.fst))) ∧ WBox W (w.heap.size + 1) zW ∧ Boxed W (w.heap.size + 2) 27 (.int .i64 0) ∧
    Below w.heap.size w W ∧ pre.length ≤ 1000000 ∧ Hid (∀ rest, pre ++ rest = full → wcol (pre.map Prod.fst) rest = R)
def WrX (w : World) (R : List Wd × Int × List UInt8 × Int) (id : Nat) (c : Code) (W : World) : Prop :=
  c = .exit id ∧ ∃ x : Wd, Boxed W w.heap.size 26 (.slice none 0 0) ∧ WBox W (w.heap.size + 1) x ∧ Boxed W (w.heap.size + 2) 27 (.int .i64 70) ∧ Below w.heap.size w W ∧ Hid (R = ([], 70, x.f, x.line))
theorem WBox.turn {W W' : World} {row : Option Nat} {b : Nat} {x : Wd} (h : WBox W b x) (hg : W.grownBy W' row) (hr : ∀ r, row = some r → b < r) : WBox W' b x :=
  (hg.block b h.lt (fun e => by have := hr b e.symm; omega)).trans h
theorem Boxed.drewB {W : World} {b : Nat} {t : TypeId} {v : Value} (h : Boxed W b t v) : Boxed W.drew b t v := h
theorem WBox.drewB {W : World} {b : Nat} {x : Wd} (h : WBox W b x) : WBox W.drew b x := h
theorem Boxed.put6 {W : World} {j b : Nat} {t : TypeId} {v : Value} (h : Boxed W j t v) (hne : j ≠ b) (a0 a1 a2 a3 a4 a5 : Value) : Boxed (put6 W b a0 a1 a2 a3 a4 a5) j t v := by
  unfold Go.Proofs.YtmpkgjonbjpohaaGreatDoor.put6
  exact Boxed.setCell (Boxed.setCell (Boxed.setCell (Boxed.setCell (Boxed.setCell (Boxed.setCell h hne _) hne _) hne _) hne _) hne _) hne _
theorem WBox.put6 {W : World} {b : Nat} {z x : Wd} (h : WBox W b z) : WBox (put6 W b (.int .i64 x.kind) (.string ⟨x.s.toArray⟩) (.int .i64 x.v) (.int .i64 x.t) (.string ⟨x.f.toArray⟩) (.int .i64 x.line)) b x := sixw_set h _ _ _ _ _ _
theorem keepsO_put6 {B k b : Nat} (W : World) (hb : b < B) (a0 a1 a2 a3 a4 a5 : Value) : KeepsO B k W (put6 W b a0 a1 a2 a3 a4 a5) := by
  have h : ∀ (W : World) (i : Nat) (v : Value), KeepsO B k W (W.setCell ⟨b, i, none⟩ v) := fun W i v => KeepsO.grown (grown_set W b i v) (fun r e => .inl (by cases e; omega))
  unfold Go.Proofs.YtmpkgjonbjpohaaGreatDoor.put6
  exact (((((h _ 0 _).trans (h _ 1 _)).trans (h _ 2 _)).trans (h _ 3 _)).trans (h _ 4 _)).trans (h _ 5 _)
theorem keepsFrom_put6 {B b : Nat} (W : World) (a0 a1 a2 a3 a4 a5 : Value) : KeepsFrom B W (put6 W b a0 a1 a2 a3 a4 a5) := by
  have h : ∀ (W : World) (i : Nat) (v : Value), KeepsFrom B W (W.setCell ⟨b, i, none⟩ v) := fun W i v => (KeepsOthers.setCell _ _ _).from _
  unfold Go.Proofs.YtmpkgjonbjpohaaGreatDoor.put6
  exact (((((h _ 0 _).trans (h _ 1 _)).trans (h _ 2 _)).trans (h _ 3 _)).trans (h _ 4 _)).trans (h _ 5 _)
theorem results_tmp4 {fn : Func} {t u v x : Tmp} (h : fn.results = #[.tmp t, .tmp u, .tmp v, .tmp x]) (tmps : Array Value) (P : Program) (w : World) :
    (results fn tmps).run P w = .ok (.tuple #[tmps.getD t undef, tmps.getD u undef, tmps.getD v undef, tmps.getD x undef]) w := by
  simp [results, h]
theorem WrI.abides (w : World) (full : List (Wd × Bool)) (R : List Wd × Int × List UInt8 × Int) : AbidesO (w.heap.size + 4) (w.heap.size + 6) 0 (WrI w full R) := by
  refine ⟨fun pre X Y row hs hg hr => ?_, fun pre X hs => ?_⟩
  · obtain ⟨⟨v, h1, h2⟩, h3, h4, h6, h7, h8⟩ := hs
    have hr' : ∀ r, row = some r → w.heap.size + 4 ≤ r := fun r e => (hr r e).1
    refine ⟨⟨v, Boxed.turn h1 hg (fun r e => by have := hr' r e; omega), h2.kept hg ?_⟩, h3.turn hg (fun r e => by have := hr' r e; omega), Boxed.turn h4 hg (fun r e => by have := hr' r e; omega), h6.grown hg h6.size (fun r e => by have := hr' r e; omega), h7, h8⟩
    rcases h2.2 with ⟨rfl, _⟩ | ⟨g, cap, cur, rfl, hbg, hgb, _⟩
    · exact .inl rfl
    · refine .inr fun e' => ?_
      rcases (hr g (by simpa [Value.ownBlock] using e'.symm)).2 with h | ⟨o, ho, hc⟩
      · omega
      · rw [hgb] at ho; cases ho; cases hc
  · obtain ⟨⟨v, h1, h2⟩, h3, h4, h6, h7, h8⟩ := hs
    exact ⟨⟨v, h1, h2.drew⟩, h3, h4, h6.drew, h7, h8⟩
theorem WrX.abides (w : World) (R : List Wd × Int × List UInt8 × Int) (id : Nat) (c : Code) : AbidesO (w.heap.size + 4) (w.heap.size + 6) 0 (fun (_ : List (Wd × Bool)) W => WrX w R id c W) := by
  refine ⟨fun pre X Y row hs hg hr => ?_, fun pre X hs => ?_⟩
  · obtain ⟨rfl, x, h3, h4, h5, h6, h7⟩ := hs
    have hr' : ∀ r, row = some r → w.heap.size + 4 ≤ r := fun r e => (hr r e).1
    exact ⟨rfl, x, Boxed.turn h3 hg (fun r e => by have := hr' r e; omega), h4.turn hg (fun r e => by have := hr' r e; omega), Boxed.turn h5 hg (fun r e => by have := hr' r e; omega), h6.grown hg h6.size (fun r e => by have := hr' r e; omega), h7⟩
  · obtain ⟨rfl, x, h3, h4, h5, h6, h7⟩ := hs
    exact ⟨rfl, x, h3, h4, h5, h6.drew, h7⟩
set_option maxRecDepth 100000 in
set_option maxHeartbeats 4000000 in
theorem Words_any (p : Option Addr) (cap : Nat) (l : List Gt) (w : World) (hl : l.length ≤ 1000000) (hcap : l.length ≤ cap) (hT : TkG w.heap.size w (.slice p l.length cap) l) (hok : ∀ t ∈ l, TokOK t) (hgl : Gl w) :
    Calls Tryz.prog 37 #[.slice p l.length cap] w fun e w' => ∃ v', e = .returned (.tuple #[v', .int .i64 (wsM l).2.1, .string ⟨(wsM l).2.2.1.toArray⟩, .int .i64 (wsM l).2.2.2]) ∧
      w'.ownsRow w.heap.size 42 6 v' (wsM l).1.length (wdCells (wsM l).1) ∧ Below w.heap.size w w' := by
  have HT := hide hT
  have HOK := hide hok
  have HGL := hide hgl
  have hgs := hgl.size
  obtain ⟨R, hR0⟩ : ∃ R, wsM l = R := ⟨_, rfl⟩
  rw [hR0]
  have HR0 := hide hR0
  clear hR0 hT hok hgl
  refine (callsIn_wide (n := 4)).1 ?_
  refine callsIn_of_wp_marks Tryz.func37 rfl trivial ?_ rfl
  simp only [Tryz.ntmps37, List.size_toArray, List.length_cons, List.length_nil, Nat.reduceAdd, Nat.reduceSub, Array.replicate_succ, Array.replicate_zero, List.push_toArray, List.append_toArray, List.nil_append, List.cons_append]
  gi_wp2
  refine wpIn_scope_straight ?_
  gi_wp2
  refine wpIn_label ?_
  gi_wp2_with (refine ⟨trivial, ?_⟩; gi_at_call 72; refine (callsIn_wide.2 (words_any p l.length cap _)).mono ?_; rintro e w' ⟨rfl, rfl⟩)
  have b0 : Boxed ((((w.alloc (.cells #[.slice none 0 0] 26)).alloc (.cells #[.int .i64 0, .string ⟨#[]⟩, .int .i64 0, .int .i64 0, .string ⟨#[]⟩, .int .i64 0] 42)).alloc (.cells #[.int .i64 0] 27)).alloc (.cells #[.slice p l.length cap] 74)) w.heap.size 26 (.slice none 0 0) := (((Boxed.new w 26 _).alloc _).alloc _).alloc _
  have b1 : WBox ((((w.alloc (.cells #[.slice none 0 0] 26)).alloc (.cells #[.int .i64 0, .string ⟨#[]⟩, .int .i64 0, .int .i64 0, .string ⟨#[]⟩, .int .i64 0] 42)).alloc (.cells #[.int .i64 0] 27)).alloc (.cells #[.slice p l.length cap] 74)) (w.heap.size + 1) zW := by
    have := (WBox.below (WBox.below (WBox.new (w.alloc (.cells #[.slice none 0 0] 26)) zW) (below_new _ (.cells #[.int .i64 0] 27)) (by simp)) (below_new _ (.cells #[.slice p l.length cap] 74)) (by simp))
    rwa [World.size_alloc] at this
  have b2 : Boxed ((((w.alloc (.cells #[.slice none 0 0] 26)).alloc (.cells #[.int .i64 0, .string ⟨#[]⟩, .int .i64 0, .int .i64 0, .string ⟨#[]⟩, .int .i64 0] 42)).alloc (.cells #[.int .i64 0] 27)).alloc (.cells #[.slice p l.length cap] 74)) (w.heap.size + 2) 27 (.int .i64 0) := by
    have := (Boxed.new ((w.alloc (.cells #[.slice none 0 0] 26)).alloc (.cells #[.int .i64 0, .string ⟨#[]⟩, .int .i64 0, .int .i64 0, .string ⟨#[]⟩, .int .i64 0] 42)) 27 (.int .i64 0)).alloc (.cells #[.slice p l.length cap] 74)
    rwa [World.size_alloc, World.size_alloc] at this
  have b3 : Boxed ((((w.alloc (.cells #[.slice none 0 0] 26)).alloc (.cells #[.int .i64 0, .string ⟨#[]⟩, .int .i64 0, .int .i64 0, .string ⟨#[]⟩, .int .i64 0] 42)).alloc (.cells #[.int .i64 0] 27)).alloc (.cells #[.slice p l.length cap] 74)) (w.heap.size + 3) 74 (.slice p l.length cap) := by
    have := Boxed.new (((w.alloc (.cells #[.slice none 0 0] 26)).alloc (.cells #[.int .i64 0, .string ⟨#[]⟩, .int .i64 0, .int .i64 0, .string ⟨#[]⟩, .int .i64 0] 42)).alloc (.cells #[.int .i64 0] 27)) 74 (.slice p l.length cap)
    rwa [World.size_alloc, World.size_alloc, World.size_alloc] at this
  have hz : ((((w.alloc (.cells #[.slice none 0 0] 26)).alloc (.cells #[.int .i64 0, .string ⟨#[]⟩, .int .i64 0, .int .i64 0, .string ⟨#[]⟩, .int .i64 0] 42)).alloc (.cells #[.int .i64 0] 27)).alloc (.cells #[.slice p l.length cap] 74)).heap.size = w.heap.size + 4 := by simp
  have hbe : Below w.heap.size w ((((w.alloc (.cells #[.slice none 0 0] 26)).alloc (.cells #[.int .i64 0, .string ⟨#[]⟩, .int .i64 0, .int .i64 0, .string ⟨#[]⟩, .int .i64 0] 42)).alloc (.cells #[.int .i64 0] 27)).alloc (.cells #[.slice p l.length cap] 74)) := ((((Below.refl _ w).alloc (Nat.le_refl _) _).alloc (by simp) _).alloc (by simp; omega) _).alloc (by simp; omega) _
  generalize ((((w.alloc (.cells #[.slice none 0 0] 26)).alloc (.cells #[.int .i64 0, .string ⟨#[]⟩, .int .i64 0, .int .i64 0, .string ⟨#[]⟩, .int .i64 0] 42)).alloc (.cells #[.int .i64 0] 27)).alloc (.cells #[.slice p l.length cap] 74)) = W0 at *
  refine wpIn_rangeFunc_ownA (k := 0) rfl (by decide) (gf := 106) (lb := #[.pointer (some ⟨w.heap.size + 1 + 1 + 1, 0, none⟩)]) rfl trivial (enters_of Tryz.func106 (by kernel_rfl) rfl)
    (words_stops 3 (by decide) (w.heap.size + 3) w.heap.size p cap l hl hcap (unhide HOK) W0 hgs (by omega) b3 ((unhide HT).below hbe) ((unhide HGL).below hbe hgs)) Below.trans (fun W lb o o' hlb hlo _ _ => ?kb)
    (fun W o hW => (Below.refl _ W).alloc (by omega) o) (Below.refl _ _) (fun _ => rfl)
    (WrI w (wev l) R) (fun c _ W => WrX w R 0 c W) (by rw [hz]; exact WrI.abides w _ R) (fun c => by rw [hz]; exact WrX.abides w R 0 c)
    ⟨⟨_, b0, World.ownsRow_nil _ _ _ _⟩, b1, b2, hbe, by simp, fun rest h => by rw [List.nil_append] at h; rw [h]; exact unhide HR0⟩
    (fun x => .cells (wdC x.1).toArray 42)
    (fun x A => { tmps := #[.slice p l.length cap, undef, .slice none 0 0, .int .i64 0, .string ⟨#[]⟩, .int .i64 0, .pointer (some ⟨w.heap.size, 0, none⟩), .pointer (some ⟨w.heap.size + 1, 0, none⟩), .pointer (some ⟨w.heap.size + 1 + 1, 0, none⟩), .pointer (some ⟨A, 0, none⟩), .bool x.2, .slice p l.length cap, .func (.func 106) #[] #[.pointer (some ⟨w.heap.size + 1 + 1 + 1, 0, none⟩)], wdV x.1, .bool x.2, undef, undef, undef, undef, undef, undef, undef, undef, undef, undef, undef, undef, undef], defers := [] })
    ?assign ?body ?done ?stop
  case kb =>
    have hlt := (Array.getElem?_eq_some_iff.1 hlo).1
    exact (Below.refl _ W).grown (grownBy_putObj' W lb o') (by omega) (fun r e => by cases e; omega)
  case assign =>
    intro l' x W' K hK
    simp only [encW, wdV, wdC] at hK ⊢
    gi_wp2
    simpa using hK
  case body =>
    rintro l' pre ⟨⟨xk, xs, xv, xt, xf, xl⟩, ok⟩ W1 A hA hAo hno ⟨⟨v, c0, hrow⟩, c1, c2, hbe1, hlen, hcol⟩ hpre
    rw [hz] at hA hno
    obtain ⟨rest, hrest⟩ := hpre
    have hcol1 := unhide hcol ((⟨xk, xs, xv, xt, xf, xl⟩, ok) :: rest) (by rw [← hrest]; simp)
    have hAw : WBox W1 A ⟨xk, xs, xv, xt, xf, xl⟩ := hAo
    obtain ⟨a0, a1, a2, a3, a4, a5⟩ := WBox.six hAw
    have hAlt := hAw.lt
    have hplen : pre.length + 1 ≤ 1000000 := by
      have h1 := congrArg List.length hrest
      have h2 := wev_len l
      simp at h1
      omega
    have HCO := hide hcol1
    have HRE := hide hrest
    clear hcol1 hrest hcol
    have d0 := c0.cell
    have e0 := c0.frozen
    have d2 := c2.cell
    have e2 := c2.frozen
    obtain ⟨y0, y1, y2, y3, y4, y5⟩ := WBox.six c1
    have z0 := WBox.frozen c1 0
    have z1 := WBox.frozen c1 1
    have z2 := WBox.frozen c1 2
    have z3 := WBox.frozen c1 3
    have z4 := WBox.frozen c1 4
    have z5 := WBox.frozen c1 5
    have hzl : ∃ q cp, v = .slice q pre.length cp := by
      rcases hrow.2 with ⟨rfl, h0⟩ | ⟨g, cp, cur, rfl, _⟩
      · exact ⟨none, 0, by rw [h0]⟩
      · exact ⟨_, _, rfl⟩
    obtain ⟨q, cp, rfl⟩ := hzl
    have hK0 : KeepsO (W0.heap.size + 2) 0 W1 ((put6 (W1.setCell ⟨w.heap.size, 0, none⟩ (.slice none 0 0)) (w.heap.size + 1) (.int .i64 xk) (.string ⟨xs.toArray⟩) (.int .i64 xv) (.int .i64 xt) (.string ⟨xf.toArray⟩) (.int .i64 xl)).setCell ⟨w.heap.size + 1 + 1, 0, none⟩ (.int .i64 70)).drew := KeepsO.trans (KeepsO.trans (KeepsO.trans (KeepsO.setCell (.inl (by omega))) (keepsO_put6 _ (by omega) _ _ _ _ _ _)) (KeepsO.setCell (.inl (by omega)))) (KeepsO.drew _)
    have hKF : KeepsFrom W0.heap.size W1 ((put6 (W1.setCell ⟨w.heap.size, 0, none⟩ (.slice none 0 0)) (w.heap.size + 1) (.int .i64 xk) (.string ⟨xs.toArray⟩) (.int .i64 xv) (.int .i64 xt) (.string ⟨xf.toArray⟩) (.int .i64 xl)).setCell ⟨w.heap.size + 1 + 1, 0, none⟩ (.int .i64 70)).drew := KeepsFrom.trans (KeepsFrom.trans (KeepsFrom.trans ((KeepsOthers.setCell _ _ _).from _) (keepsFrom_put6 _ _ _ _ _ _ _)) ((KeepsOthers.setCell _ _ _).from _)) ((KeepsOthers.drew _).from _)
    have x0 : Boxed ((put6 (W1.setCell ⟨w.heap.size, 0, none⟩ (.slice none 0 0)) (w.heap.size + 1) (.int .i64 xk) (.string ⟨xs.toArray⟩) (.int .i64 xv) (.int .i64 xt) (.string ⟨xf.toArray⟩) (.int .i64 xl)).setCell ⟨w.heap.size + 1 + 1, 0, none⟩ (.int .i64 70)) w.heap.size 26 (.slice none 0 0) := Boxed.setCell (Boxed.put6 (Boxed.set _ c0) (by omega) _ _ _ _ _ _) (by omega) _
    have x1 : WBox ((put6 (W1.setCell ⟨w.heap.size, 0, none⟩ (.slice none 0 0)) (w.heap.size + 1) (.int .i64 xk) (.string ⟨xs.toArray⟩) (.int .i64 xv) (.int .i64 xt) (.string ⟨xf.toArray⟩) (.int .i64 xl)).setCell ⟨w.heap.size + 1 + 1, 0, none⟩ (.int .i64 70)) (w.heap.size + 1) ⟨xk, xs, xv, xt, xf, xl⟩ := WBox.setCell (WBox.put6 (x := ⟨xk, xs, xv, xt, xf, xl⟩) (WBox.setCell c1 (by omega) _)) (by omega) _
    have x2 : Boxed ((put6 (W1.setCell ⟨w.heap.size, 0, none⟩ (.slice none 0 0)) (w.heap.size + 1) (.int .i64 xk) (.string ⟨xs.toArray⟩) (.int .i64 xv) (.int .i64 xt) (.string ⟨xf.toArray⟩) (.int .i64 xl)).setCell ⟨w.heap.size + 1 + 1, 0, none⟩ (.int .i64 70)) (w.heap.size + 2) 27 (.int .i64 70) := Boxed.set _ (Boxed.put6 (Boxed.setCell c2 (by omega) _) (by omega) _ _ _ _ _ _)
    have x3 : Below w.heap.size w ((put6 (W1.setCell ⟨w.heap.size, 0, none⟩ (.slice none 0 0)) (w.heap.size + 1) (.int .i64 xk) (.string ⟨xs.toArray⟩) (.int .i64 xv) (.int .i64 xt) (.string ⟨xf.toArray⟩) (.int .i64 xl)).setCell ⟨w.heap.size + 1 + 1, 0, none⟩ (.int .i64 70)) := (below_put6 (hbe1.setCell (p := ⟨w.heap.size, 0, none⟩) (Nat.le_refl _) _) (by omega) _ _ _ _ _ _).setCell (p := ⟨w.heap.size + 1 + 1, 0, none⟩) (by show _ ≤ w.heap.size + 1 + 1; omega) _
    have hX : ok = false → WrX w R 0 (.exit 0) ((put6 (W1.setCell ⟨w.heap.size, 0, none⟩ (.slice none 0 0)) (w.heap.size + 1) (.int .i64 xk) (.string ⟨xs.toArray⟩) (.int .i64 xv) (.int .i64 xt) (.string ⟨xf.toArray⟩) (.int .i64 xl)).setCell ⟨w.heap.size + 1 + 1, 0, none⟩ (.int .i64 70)).drew := fun hok => by
      refine ⟨rfl, ⟨xk, xs, xv, xt, xf, xl⟩, Boxed.drewB x0, WBox.drewB x1, Boxed.drewB x2, drewB x3, ?_⟩
      have := unhide HCO
      rw [hok, wcol] at this
      simpa [Hid] using this.symm
    clear x0 x1 x2 x3
    unfold put6 at hK0 hKF hX
    have HK0 := hide hK0
    have HKF := hide hKF
    have HX := hide hX
    clear hK0 hKF hX
    cases ok
    · gi_wp2
      gi_region
      all_goals (
        gi_wp2
        exact ⟨unhide HKF, unhide HK0, unhide HX trivial⟩)
    · have hcolN : Hid (∀ rest', (pre ++ [((⟨xk, xs, xv, xt, xf, xl⟩ : Wd), true)]) ++ rest' = wev l → wcol ((pre ++ [((⟨xk, xs, xv, xt, xf, xl⟩ : Wd), true)]).map Prod.fst) rest' = R) := by
        intro rest' h
        have e1 := unhide HRE
        rw [← e1] at h
        have e2 := List.append_cancel_left h
        subst e2
        have := unhide HCO
        rw [wcol, if_pos rfl] at this
        simpa using this
      obtain ⟨i0, hi, hz0, hz1, hz2'⟩ := info_parts Tryz.infoW
      have hrowa : (W1.alloc (.cells (wdC ⟨xk, xs, xv, xt, xf, xl⟩).toArray 42)).ownsRow (w.heap.size + 6) 42 6 (.slice q pre.length cp) pre.length (wdCells (pre.map Prod.fst)) := hrow.alloc _
      have hzW : w.heap.size + 6 ≤ W1.heap.size := by omega
      simp only [wdV, wdC]
      gi_wp2_with (gi_at_builtin; refine wpListIn_append_own _ rfl _ _ 26 rfl (w.heap.size + 6) 42 i0 _ 6 64 Tryz.underlying26 hi hz0 hz1 hz2' rfl (by decide) _ _ _ rfl hrowa ⟨W1.heap.size, 0, none⟩ 1 1 (wdC ⟨xk, xs, xv, xt, xf, xl⟩) rfl rfl (sixw_cells W1 ⟨xk, xs, xv, xt, xf, xl⟩ 42) ?c2 ?c3 ?c4 ?c5 ?_)
      case c2 => intro u hu; simp [wdC] at hu; rcases hu with rfl | rfl | rfl | rfl | rfl | rfl <;> rfl
      case c3 => unfold maxLen; omega
      case c4 => omega
      case c5 => omega
      intro v' W5 hown' hgrow _
      obtain ⟨g', cap', rfl⟩ := ownsRow_succ hown'
      have p0 : Boxed W5 w.heap.size 26 (.slice q pre.length cp) := Boxed.row (c0.alloc _) hrowa hgrow (by omega)
      have p2 : Boxed W5 (w.heap.size + 2) 27 (.int .i64 0) := Boxed.row (c2.alloc _) hrowa hgrow (by omega)
      have p1 : WBox W5 (w.heap.size + 1) zW := (WBox.below c1 (below_new W1 _) c1.lt).turn hgrow (fun r e => by have := (row_turn hrowa r e).1; omega)
      have pb : Below w.heap.size w W5 := (hbe1.alloc hbe1.size _).grown hgrow (by simp; omega) (fun r e => by have := (row_turn hrowa r e).1; omega)
      have pko : KeepsO (W0.heap.size + 2) 0 W1 W5 := (KeepsO.alloc W1 _).trans (KeepsO.rowG hrowa hgrow (by omega))
      have pkf : KeepsFrom W0.heap.size W1 W5 := ((KeepsOthers.alloc W1 _).from _).trans (KeepsFrom.rowG hrowa hgrow)
      have pk : Below w.heap.size W1 W5 := ((Below.refl _ W1).alloc (by omega) _).grown hgrow (by simp; omega) (fun r e => by have := (row_turn hrowa r e).1; omega)
      have p0c := p0.cell
      have p0f := p0.frozen
      gi_wp2
      refine ⟨pkf.trans ((KeepsOthers.setCell _ _ _).from _), pko.trans (KeepsO.setCell (.inl (by omega))), pk.setCell (p := ⟨w.heap.size, 0, none⟩) (Nat.le_refl _) _, ⟨_, Boxed.set _ p0, ?_⟩, p1.setCell (by omega) _, Boxed.setCell p2 (by omega) _, pb.setCell (p := ⟨w.heap.size, 0, none⟩) (Nat.le_refl _) _, by simp; omega, hcolN⟩
      have := ownsRow_setCell (b := w.heap.size) (i := 0) hown' (by omega) (.slice (some ⟨g', 0, none⟩) (pre.length + 1) cap')
      rw [List.map_append, List.map_cons, List.map_nil, wdCells_snoc]
      simpa using this
  case done =>
    rintro D W' hD ⟨⟨v, c0, hrow⟩, c1, c2, hbe1, hlen, hcol⟩ hK
    have hRR := hide (unhide hcol [] (by simp))
    have d0 := c0.cell
    have d2 := c2.cell
    obtain ⟨y0, y1, y2, y3, y4, y5⟩ := WBox.six c1
    have hzl : ∃ q cp n, v = .slice q n cp := by
      rcases hrow.2 with ⟨rfl, h0⟩ | ⟨g, cp, cur, rfl, _⟩
      · exact ⟨none, 0, 0, rfl⟩
      · exact ⟨_, _, _, rfl⟩
    obtain ⟨q, cp, nn, rfl⟩ := hzl
    have hKlt := (Array.getElem?_eq_some_iff.1 hK).1
    simp only [zW] at y4 y5
    have HQ := hide hrow
    have HBB := hide hbe1
    have HK := hide hK
    gi_wp2
    gi_region
    all_goals (
      gi_wp2
      have hK' : W'.drew.heap[D]? = some (.deferred (some [])) := unhide HK
      have hr' : W'.drew.ownsRow (w.heap.size + 6) 42 6 (.slice q nn cp) _ _ := (unhide HQ).drew
      have hb' : Below w.heap.size w W'.drew := drewB (unhide HBB)
      generalize W'.drew = W6 at *
      refine ⟨by simp, .inl ⟨_, _, rfl, run_takeDeferred hK', ?_⟩⟩
      rw [← unhide hRR, wcol]
      refine ⟨_, results_tmp4 (fn := Tryz.f37) rfl _ _ _, .slice q nn cp, rfl, ?_, ?_⟩
      · have := ownsRow_base (ownsRow_putObj hr' (.deferred none) hK' rfl) (by omega : w.heap.size ≤ w.heap.size + 6)
        simpa using this
      · exact hb'.grown (grownBy_putObj' W6 D _) hb'.size (fun r e => by cases e; omega))
  case stop =>
    rintro D c pre W' hD _ ⟨rfl, x, c0, c1, c2, hbe1, hR⟩ hK
    have d0 := c0.cell
    have d2 := c2.cell
    obtain ⟨y0, y1, y2, y3, y4, y5⟩ := WBox.six c1
    have hKlt := (Array.getElem?_eq_some_iff.1 hK).1
    have HBB := hide hbe1
    have HK := hide hK
    gi_wp2
    gi_region
    all_goals (
      gi_wp2
      have hK' : W'.drew.heap[D]? = some (.deferred (some [])) := unhide HK
      have hb' : Below w.heap.size w W'.drew := drewB (unhide HBB)
      generalize W'.drew = W6 at *
      refine ⟨by simp, .inl ⟨_, _, rfl, run_takeDeferred hK', ?_⟩⟩
      rw [unhide hR]
      refine ⟨_, results_tmp4 (fn := Tryz.f37) rfl _ _ _, .slice none 0 0, rfl, World.ownsRow_nil _ _ _ _, ?_⟩
      exact hb'.grown (grownBy_putObj' W6 D _) hb'.size (fun r e => by cases e; omega))
end Go.Proofs.YtmpkgjonbjpohaaGreatDoor
