/-
  Both tables side by side: Define and Undef of each, as the other one stays.
  What the walk of MacroTable keeps, and what the calls at the end of its round tell.
  Lists that do not lie in a block: what Define and Undef keep of that, for both tables.
  Both Defines, with lists that do not lie in a block.
-/
import Derived.Test.YticiddcgafhkhaaGreatDoorB8
import Derived.Test.YticiddcgafhkhaaGreatDoorBi
import Derived.Test.YticiddcgafhkhaaGreatDoorOa
namespace Go.Proofs.YticiddcgafhkhaaGreatDoor
open Go Go.RowKit
set_option linter.unusedVariables false
set_option linter.unusedSimpArgs false

/-- What Define answers, and what the table holds behind it. -/
def defM (es : List Mc) (m : Mc) : Int × List Mc :=
  if rightM m = false then (2, es) else if m.name ∈ es.map Mc.name then (if m ∈ es then 0 else 31, es) else (0, insL Mc.name es m)
def defE (ms : List Me) (x : Me) : List Me :=
  if rightM x.m = false then ms else if x.m.name ∈ ms.map nmE then ms else insL nmE ms x
theorem same_of_name {es : List Mc} (hnd : (es.map Mc.name).Nodup) {y m : Mc} (hy : y ∈ es) (hm : m ∈ es) (h : y.name = m.name) : y = m := by
  induction es with
  | nil => cases hy
  | cons z r ih =>
    simp only [List.map_cons, List.nodup_cons] at hnd
    rcases List.mem_cons.1 hy with e1 | h1 <;> rcases List.mem_cons.1 hm with e2 | h2
    · rw [e1, e2]
    · subst e1
      exact absurd (h ▸ List.mem_map_of_mem h2) hnd.1
    · subst e2
      exact absurd (h ▸ List.mem_map_of_mem h1) hnd.1
    · exact ih hnd.2 h1 h2
theorem code_old {es : List Mc} (hnd : (es.map Mc.name).Nodup) {y m : Mc} (hy : y ∈ es) (h : y.name = m.name) : (if y = m then (0 : Int) else 31) = if m ∈ es then 0 else 31 := by
  by_cases e : y = m
  · subst e; rw [if_pos rfl, if_pos hy]
  · rw [if_neg e, if_neg (fun hm => e (same_of_name hnd hy hm h))]
/-- What lies: both tables, a macro, blocks that stay. -/
structure Qs (w0 : World) (t mb rb : Nat) (K : List (Nat × Obj)) (x : Me) (es : List Mc) (ms : List Me) (W : World) : Prop where
  tab : Tab W t mb es
  rt : RTab W rb ms
  bl : Below w0.heap.size w0 W
  n1 : t ≠ rb
  n2 : mb ≠ rb
  o1 : w0.heap.size ≤ mb
  o2 : w0.heap.size ≤ rb
  xv : McV W.heap.size W x.v x.m
  kp : ∀ b o, (b, o) ∈ K → W.heap[b]? = some o ∧ b ≠ mb ∧ b ≠ rb
section
variable {w0 W W' : World} {t mb rb : Nat} {K : List (Nat × Obj)} {x : Me} {es es' : List Mc} {ms ms' : List Me}
theorem Qs.next (h : Qs w0 t mb rb K x es ms W) (hb : Below W.heap.size W W') : Qs w0 t mb rb K x es ms W' :=
  ⟨h.tab.next hb, h.rt.next hb, h.bl.trans (hb.mono h.bl.size), h.n1, h.n2, h.o1, h.o2, h.xv.below hb, fun b o hk => by
    obtain ⟨h1, h2⟩ := h.kp b o hk
    exact ⟨(hb.block b (Array.getElem?_eq_some_iff.1 h1).1).trans h1, h2⟩⟩
theorem Qs.turnP (h : Qs w0 t mb rb K x es ms W) (ht : Tab W' t mb es') (hb : Below mb W W') (hf : Fr W W' mb) : Qs w0 t mb rb K x es' ms W' := by
  obtain ⟨n, D, hT⟩ := h.tab
  exact ⟨ht, h.rt.frM hf hT.tbl, h.bl.trans (hb.mono h.o1), h.n1, h.n2, h.o1, h.o2, h.xv.frM hf hT.tbl, fun b o hk => by
    obtain ⟨h1, h2, h3⟩ := h.kp b o hk
    exact ⟨(hf.2 b (Array.getElem?_eq_some_iff.1 h1).1 h2).trans h1, h2, h3⟩⟩
theorem Qs.turnR (h : Qs w0 t mb rb K x es ms W) (ht : RTab W' rb ms') (hb : Below rb W W') (hf : Fr W W' rb) : Qs w0 t mb rb K x es ms' W' := by
  obtain ⟨p, cap, hx, _⟩ := h.rt
  exact ⟨h.tab.frR hf hx h.n1 h.n2, ht, h.bl.trans (hb.mono h.o2), h.n1, h.n2, h.o1, h.o2, h.xv.frR hf hx, fun b o hk => by
    obtain ⟨h1, h2, h3⟩ := h.kp b o hk
    exact ⟨(hf.2 b (Array.getElem?_eq_some_iff.1 h1).1 h3).trans h1, h2, h3⟩⟩
theorem def8 (h : Qs w0 t mb rb K x es ms W) (hsg : Sg w0) (hw0 : 1 < w0.heap.size) (hf : McFits x.m) (hfs : ∀ y ∈ es, McFits y) (hs : Srt Mc.name es) (hl : es.length < 1000) :
    Calls Tryz.prog 8 #[.pointer (some ⟨t, 0, none⟩), x.v] W fun e W' => e = .returned (.int .i64 (defM es x.m).1) ∧ Qs w0 t mb rb K x (defM es x.m).2 ms W' := by
  have hsg' := hsg.below h.bl hw0
  have hw' : 1 < W.heap.size := Nat.lt_of_lt_of_le hw0 h.bl.size
  unfold defM
  cases hr : rightM x.m with
  | false =>
    refine (Define_badM t x W hf hr h.xv hw' hsg').mono ?_
    rintro e W' ⟨rfl, hb⟩
    exact ⟨rfl, h.next hb⟩
  | true =>
    simp only [Bool.true_eq_false, if_false]
    by_cases hin : x.m.name ∈ es.map Mc.name
    · rw [if_pos hin]
      refine (Define_oldM t mb es x W hf hfs hr h.tab hin h.xv hw' hsg').mono ?_
      rintro e W' ⟨⟨y, hy, hn, rfl⟩, hb⟩
      exact ⟨by rw [code_old hs.nodup hy hn], h.next hb⟩
    · rw [if_neg hin]
      obtain ⟨q1, k1, q2, k2, e1, e2⟩ := me_slices h.xv
      have hv : x.v = .agg #[.string ⟨x.m.name.toArray⟩, .bool x.m.fn, .slice q1 x.m.ps.length k1, .bool x.m.more, .slice q2 x.m.body.length k2] := by rw [Me.v, e1, e2]
      have hxv := h.xv
      rw [hv] at hxv ⊢
      refine (Define_tab t mb es x.m q1 q2 k1 k2 W hf hr h.tab hin hl hs.nodup hxv hw' hsg').mono ?_
      rintro e W' ⟨rfl, ht, hb, hfr⟩
      exact ⟨rfl, h.turnP (ht.perm (insL_perm Mc.name es x.m)) hb hfr⟩
theorem def9 (h : Qs w0 t mb rb K x es ms W) (hf : McFits x.m) (hfs : ∀ y ∈ ms, McFits y.m) (hs : Srt nmE ms) (hl : ms.length < 1000) :
    Calls Tryz.prog 9 #[.pointer (some ⟨rb, 0, none⟩), x.v] W fun e W' => e = .returned (.int .i64 (defM (ms.map Me.m) x.m).1) ∧ Qs w0 t mb rb K x es (defE ms x) W' := by
  have hnm : (ms.map Me.m).map Mc.name = ms.map nmE := by rw [List.map_map]; rfl
  unfold defM defE
  rw [hnm]
  cases hr : rightM x.m with
  | false =>
    refine (rDefine_bad rb x W hf hr h.xv).mono ?_
    rintro e W' ⟨rfl, hb⟩
    exact ⟨rfl, h.next hb⟩
  | true =>
    simp only [Bool.true_eq_false, if_false]
    by_cases hin : x.m.name ∈ ms.map nmE
    · rw [if_pos hin, if_pos hin]
      refine (rDefine_old rb ms x W h.rt (by omega) hf hfs hr h.xv hin).mono ?_
      rintro e W' ⟨⟨y, hy, hn, rfl⟩, hb⟩
      exact ⟨by rw [code_old (es := ms.map Me.m) (by rw [hnm]; exact hs.nodup) (List.mem_map_of_mem hy) hn], h.next hb⟩
    · rw [if_neg hin, if_neg hin]
      refine (rDefine_new rb ms x W h.rt hl hf hr h.xv hin).mono ?_
      rintro e W' ⟨rfl, ht, hfr, hb, _⟩
      exact ⟨rfl, h.turnR ht hb hfr⟩
theorem und10 (h : Qs w0 t mb rb K x es ms W) (s : List UInt8) (hsl : s.length ≤ 140737488355328) (hs : Srt Mc.name es) :
    Calls Tryz.prog 10 #[.pointer (some ⟨t, 0, none⟩), .string ⟨s.toArray⟩] W fun e W' => e = .returned (.int .i64 0) ∧ Qs w0 t mb rb K x (wo s es) ms W' := by
  refine (Undef_tab t mb es s W hsl h.tab hs.nodup).mono ?_
  rintro e W' ⟨rfl, ht, hb, hfr⟩
  exact ⟨rfl, h.turnP ht hb hfr⟩
theorem und11 (h : Qs w0 t mb rb K x es ms W) (s : List UInt8) (hl : ms.length ≤ 1000) :
    Calls Tryz.prog 11 #[.pointer (some ⟨rb, 0, none⟩), .string ⟨s.toArray⟩] W fun e W' => e = .returned (.tuple #[]) ∧ Qs w0 t mb rb K x es (woM s ms) W' := by
  refine (rUndef_any rb ms s W h.rt hl).mono ?_
  rintro e W' ⟨rfl, ht, hfr, hb, _⟩
  exact ⟨rfl, h.turnR ht hb hfr⟩
end
/-! The two lists stay the same. -/
theorem take_map (ms : List Me) (s : List UInt8) : atL nmE ms s = atL Mc.name (ms.map Me.m) s := by
  unfold atL
  induction ms with
  | nil => rfl
  | cons y r ih =>
    simp only [List.map_cons, List.takeWhile_cons]
    by_cases h : y.m.name < s
    · simp only [nmE, h, decide_true, if_true, List.length_cons]
      rw [← ih]
    · simp [nmE, h]
theorem ins_map (ms : List Me) (x : Me) : (insL nmE ms x).map Me.m = insL Mc.name (ms.map Me.m) x.m := by
  unfold insL
  rw [show nmE x = x.m.name from rfl, take_map ms x.m.name, List.map_append, List.map_cons, List.map_take, List.map_drop]
theorem defE_map (ms : List Me) (x : Me) : (defE ms x).map Me.m = (defM (ms.map Me.m) x.m).2 := by
  unfold defE defM
  have hnm : (ms.map Me.m).map Mc.name = ms.map nmE := by rw [List.map_map]; rfl
  rw [hnm]
  split
  · rfl
  · split
    · rfl
    · exact ins_map ms x
theorem woM_map (s : List UInt8) (ms : List Me) : (woM s ms).map Me.m = wo s (ms.map Me.m) := by
  unfold woM wo
  rw [List.filter_map]
  rfl
/-- What both lists are. -/
structure Gd (i : Nat) (es : List Mc) (ms : List Me) : Prop where
  same : ms.map Me.m = es
  srt : Srt Mc.name es
  fit : ∀ y ∈ es, McFits y ∧ rightM y = true
  few : es.length ≤ i
theorem Gd.srtE {i : Nat} {es : List Mc} {ms : List Me} (h : Gd i es ms) : Srt nmE ms := by
  have := h.srt
  rw [← h.same] at this
  unfold Srt at this ⊢
  rw [List.pairwise_map] at this
  exact this
theorem Gd.len {i : Nat} {es : List Mc} {ms : List Me} (h : Gd i es ms) : ms.length = es.length := by rw [← h.same, List.length_map]
theorem Gd.fitE {i : Nat} {es : List Mc} {ms : List Me} (h : Gd i es ms) : ∀ y ∈ ms, McFits y.m := fun y hy => (h.fit y.m (by rw [← h.same]; exact List.mem_map_of_mem hy)).1
theorem Gd.define {i : Nat} {es : List Mc} {ms : List Me} (h : Gd i es ms) (x : Me) (hf : McFits x.m) : Gd (i + 1) (defM es x.m).2 (defE ms x) := by
  refine ⟨by rw [defE_map, h.same], ?_, ?_, ?_⟩ <;> unfold defM <;> split
  · exact h.srt
  · split
    · exact h.srt
    · exact Srt.ins Mc.name h.srt (by assumption)
  · exact h.fit
  · split
    · exact h.fit
    · intro y hy
      rcases List.mem_append.1 ((insL_perm Mc.name es x.m).mem_iff.1 hy) with h1 | h1
      · exact h.fit y h1
      · obtain rfl : y = x.m := by simpa using h1
        exact ⟨hf, by simp_all⟩
  · have := h.few; simp only; omega
  · split
    · have := h.few; simp only; omega
    · have := (insL_perm Mc.name es x.m).length_eq; have := h.few; simp at this ⊢; simp_all
theorem Gd.undef {i : Nat} {es : List Mc} {ms : List Me} (h : Gd i es ms) (s : List UInt8) : Gd (i + 1) (wo s es) (woM s ms) :=
  ⟨by rw [woM_map, h.same], Srt.filter Mc.name h.srt _, fun y hy => h.fit y (List.mem_filter.1 hy).1, by have := List.length_filter_le (fun m : Mc => !decide (m.name = s)) es; have := h.few; unfold wo; omega⟩
end Go.Proofs.YticiddcgafhkhaaGreatDoor
namespace Go.Proofs.YticiddcgafhkhaaGreatDoor
open Go Go.RowKit
set_option linter.unusedVariables false
set_option linter.unusedSimpArgs false

/-- No macro. -/
def zE : Me := ⟨zMc, .slice none 0 0, .slice none 0 0⟩
theorem zE_v : zE.v = .agg zeroM := by rw [zero_agg]; rfl
theorem zE_has (B : Nat) (W : World) : McV B W zE.v zE.m := ⟨_, _, rfl, ⟨none, 0, rfl, fun i hi => by simp [zE, zMc] at hi⟩, ⟨none, 0, rfl, fun i hi => by simp [zE, zMc] at hi⟩, fun p n c h => by simp [zE] at h; obtain ⟨_, rfl, rfl⟩ := h; exact ⟨Nat.le_refl _, Nat.zero_le _⟩⟩
section
variable {w0 W W' : World} {t mb rb : Nat} {K : List (Nat × Obj)} {x x' : Me} {es es' : List Mc} {ms ms' : List Me}
theorem Qs.with (h : Qs w0 t mb rb K x es ms W) (hx : McV W.heap.size W x'.v x'.m) : Qs w0 t mb rb K x' es ms W := ⟨h.tab, h.rt, h.bl, h.n1, h.n2, h.o1, h.o2, hx, h.kp⟩
theorem Qs.keep (h : Qs w0 t mb rb K x es ms W) {b : Nat} {o : Obj} (hb : W.heap[b]? = some o) (h1 : b ≠ mb) (h2 : b ≠ rb) : Qs w0 t mb rb ((b, o) :: K) x es ms W :=
  ⟨h.tab, h.rt, h.bl, h.n1, h.n2, h.o1, h.o2, h.xv, fun b' o' hk => by
    rcases List.mem_cons.1 hk with e | hk
    · cases e; exact ⟨hb, h1, h2⟩
    · exact h.kp b' o' hk⟩
theorem Qs.none (h : Qs w0 t mb rb K x es ms W) : Qs w0 t mb rb [] zE es ms W := ⟨h.tab, h.rt, h.bl, h.n1, h.n2, h.o1, h.o2, zE_has _ _, fun b o hk => by cases hk⟩
theorem Qs.mbl (h : Qs w0 t mb rb K x es ms W) : mb < W.heap.size ∧ rb < W.heap.size := ⟨Nat.lt_trans h.tab.ord h.tab.lt, h.rt.lt⟩
end
/-- What the reference's Get tells, as the program's. -/
theorem rGet_all {i : Nat} (rb : Nat) (es : List Mc) (ms : List Me) (s : List UInt8) (w : World) (hT : RTab w rb ms) (hD : Gd i es ms) (hl : es.length ≤ 1000) :
    Calls Tryz.prog 13 #[.pointer (some ⟨rb, 0, none⟩), .string ⟨s.toArray⟩] w fun e w' => GetP s es w e w' := by
  have hnm : ms.map (fun x => x.m.name) = es.map Mc.name := by rw [← hD.same, List.map_map]; rfl
  refine (rGet_any rb ms s w hT (by rw [hD.len]; exact hl)).mono ?_
  rintro e w' ⟨hb, ⟨hno, rfl⟩ | ⟨x, hx, hn, rfl⟩⟩
  · rw [hnm] at hno
    exact ⟨hb, zE, by rw [decide_eq_false hno, zE_v], zE_has _ _, fun h => absurd h hno, fun _ => rfl⟩
  · have hin : s ∈ es.map Mc.name := by rw [← hnm]; exact List.mem_map.2 ⟨x, hx, hn⟩
    obtain ⟨p, cap, _, hG⟩ := hT
    exact ⟨hb, x, by rw [decide_eq_true hin], (hG.each x hx).below hb, fun _ => ⟨by rw [← hD.same]; exact List.mem_map_of_mem hx, hn⟩, fun h => absurd hin h⟩
theorem get_same {i : Nat} {es : List Mc} {ms : List Me} {s : List UInt8} (hD : Gd i es ms) {a b : Mc} (ha1 : s ∈ es.map Mc.name → a ∈ es ∧ a.name = s) (ha2 : s ∉ es.map Mc.name → a = zMc) (hb1 : s ∈ es.map Mc.name → b ∈ es ∧ b.name = s) (hb2 : s ∉ es.map Mc.name → b = zMc) : a = b := by
  by_cases h : s ∈ es.map Mc.name
  · obtain ⟨a1, a2⟩ := ha1 h
    obtain ⟨b1, b2⟩ := hb1 h
    exact same_of_name hD.srt.nodup a1 b1 (a2.trans b2.symm)
  · rw [ha2 h, hb2 h]
theorem get_fits {i : Nat} {es : List Mc} {ms : List Me} {s : List UInt8} (hD : Gd i es ms) {a : Mc} (ha1 : s ∈ es.map Mc.name → a ∈ es ∧ a.name = s) (ha2 : s ∉ es.map Mc.name → a = zMc) : McFits a := by
  by_cases h : s ∈ es.map Mc.name
  · exact (hD.fit a (ha1 h).1).1
  · rw [ha2 h]
    exact ⟨by simp [zMc], by simp [zMc], by simp [zMc], by simp [zMc], fun _ => by simp [zMc, spG, spP]⟩
theorem rem3 (kind : Int) : ∃ j : Nat, j < 3 ∧ (wrap64 (kind.tmod 3 + 3)).tmod 3 = (j : Int) := by
  have h1 : -3 < kind.tmod 3 := Int.lt_tmod_of_pos kind (by decide)
  have h2 : kind.tmod 3 < 3 := Int.tmod_lt_of_pos kind (by decide)
  generalize kind.tmod 3 = x at *
  have hw : wrap64 (x + 3) = x + 3 := by unfold wrap64; omega
  rw [hw]
  refine ⟨((x + 3).tmod 3).toNat, ?_, ?_⟩
  · have h3 : 0 ≤ (x + 3).tmod 3 := Int.tmod_nonneg _ (by omega)
    have h4 : (x + 3).tmod 3 < 3 := Int.tmod_lt_of_pos _ (by decide)
    omega
  · have h3 : 0 ≤ (x + 3).tmod 3 := Int.tmod_nonneg _ (by omega)
    omega
/-- A call of the script. -/
structure Oq where
  kind : Int
  s : List UInt8
  x : Me
structure OpG (B : Nat) (W : World) (p : Option Addr) (l : List Oq) : Prop where
  cell : ∀ (i : Nat) (h : i < l.length), ∃ g o, p = some ⟨g, o, none⟩ ∧ g < B ∧ W.cell? ⟨g, o + i * 7, none⟩ = some (.int .i64 l[i].kind) ∧ W.cell? ⟨g, o + i * 7 + 1, none⟩ = some (.string ⟨l[i].s.toArray⟩) ∧ FiveOf W g (o + i * 7 + 2) l[i].x
  each : ∀ q ∈ l, McV B W q.x.v q.x.m
theorem OpG.next {W W' : World} {p : Option Addr} {l : List Oq} (h : OpG W.heap.size W p l) (hb : Below W.heap.size W W') : OpG W'.heap.size W' p l :=
  ⟨fun i hi => by
    obtain ⟨g, o, e, h1, c0, c1, c2⟩ := h.cell i hi
    exact ⟨g, o, e, Nat.lt_of_lt_of_le h1 hb.size, (hb.cell (p := ⟨g, o + i * 7, none⟩) h1).trans c0, (hb.cell (p := ⟨g, o + i * 7 + 1, none⟩) h1).trans c1, c2.next (hb.block g h1)⟩, fun q hq => (h.each q hq).below hb⟩
end Go.Proofs.YticiddcgafhkhaaGreatDoor
namespace Go.Proofs.YticiddcgafhkhaaGreatDoor
open Go Go.RowKit
set_option linter.unusedVariables false
set_option linter.unusedSimpArgs false

/-- A list that does not lie in block N (an empty one lies nowhere). -/
def Sep (N : Nat) (v : Value) : Prop := ∀ g o n c, v = .slice (some ⟨g, o, none⟩) n c → 0 < n → g ≠ N
def SepM (N : Nat) (v : Value) : Prop := ∀ a f pv mo bv, v = .agg #[a, f, pv, mo, bv] → Sep N pv ∧ Sep N bv
theorem Sep.none (N n c : Nat) : Sep N (.slice none n c) := fun g o n' c' h => by cases h
theorem Sep.row {W : World} {base size n N : Nat} {e : TypeId} {v : Value} {xs : List Value} (h : W.ownsRow base e size v n xs) (hN : N < base) : Sep N v := by
  intro g o n' c' e' hn
  rcases h.2 with ⟨rfl, _⟩ | ⟨g', cap, cur, rfl, hb, _⟩
  · cases e'
  · simp at e'
    obtain ⟨⟨rfl, _⟩, _⟩ := e'
    omega
theorem SepM.zero (N : Nat) : SepM N (.agg zeroM) := by
  rw [zero_agg]
  intro a f pv mo bv h
  simp at h
  obtain ⟨_, _, rfl, _, rfl⟩ := h
  exact ⟨Sep.none _ _ _, Sep.none _ _ _⟩
theorem SepM.of {B N : Nat} {W : World} {v : Value} {m : Mc} (h : McV B W v m) (hB : B ≤ N) : SepM N v := by
  obtain ⟨pv, bv, rfl, ⟨p, c, rfl, h1⟩, ⟨q, d, rfl, h2⟩, _⟩ := h
  intro a f pv' mo bv' e
  simp at e
  obtain ⟨_, _, rfl, _, rfl⟩ := e
  constructor
  · intro g o n c' e' hn
    simp at e'
    obtain ⟨rfl, rfl, rfl⟩ := e'
    obtain ⟨g', o', e2, h3, _⟩ := h1 0 hn
    obtain ⟨rfl, _⟩ : g = g' ∧ _ := by simpa using e2
    omega
  · intro g o n c' e' hn
    simp at e'
    obtain ⟨rfl, rfl, rfl⟩ := e'
    obtain ⟨g', o', e2, h3, _⟩ := h2 0 hn
    obtain ⟨rfl, _⟩ : g = g' ∧ _ := by simpa using e2
    omega
/-- A macro stays where another block is written. -/
theorem McV.frN {W W' : World} {x : Value} {m : Mc} {N : Nat} (h : McV W.heap.size W x m) (hs : SepM N x) (hf : Fr W W' N) : McV W'.heap.size W' x m := by
  obtain ⟨pv, bv, rfl, a, b, c'⟩ := h
  obtain ⟨s1, s2⟩ := hs _ _ _ _ _ rfl
  refine ⟨pv, bv, rfl, ?_, ?_, c'⟩
  · obtain ⟨p', cap, rfl, hc⟩ := a
    refine ⟨p', cap, rfl, fun i hi => ?_⟩
    obtain ⟨g, o, rfl, h1, c0⟩ := hc i hi
    exact ⟨g, o, rfl, Nat.lt_of_lt_of_le h1 hf.1, (hf.cell h1 (s1 g o _ _ rfl (by omega))).trans c0⟩
  · obtain ⟨p', cap, rfl, hc⟩ := b
    refine ⟨p', cap, rfl, fun i hi => ?_⟩
    obtain ⟨g, o, rfl, h1, c0, c1, c2, c3, c4, c5⟩ := hc i hi
    have key : ∀ j u, W.cell? ⟨g, j, none⟩ = some u → W'.cell? ⟨g, j, none⟩ = some u := fun j u hu => (hf.cell h1 (s2 g o _ _ rfl (by omega))).trans hu
    exact ⟨g, o, rfl, Nat.lt_of_lt_of_le h1 hf.1, key _ _ c0, key _ _ c1, key _ _ c2, key _ _ c3, key _ _ c4, key _ _ c5⟩
/-- All that the program's map holds lies elsewhere. -/
def MSep (N : Nat) (W : World) (mb : Nat) : Prop := ∀ n D, W.ownsMap Tryz.prog 9 rawE mb n D → ∀ k v, D.atKey (.string k) (.held (.agg zeroM)) = .held v → SepM N v
theorem map_one {W : World} {mb n n' : Nat} {D D' : DataW Value} (h : W.ownsMap Tryz.prog 9 rawE mb n D) (h' : W.ownsMap Tryz.prog 9 rawE mb n' D') : D = D' := by
  obtain ⟨es, clock, hb, _, _, rfl⟩ := h
  obtain ⟨es', clock', hb', _, _, rfl⟩ := h'
  rw [hb] at hb'
  cases hb'
  rfl
theorem map_block {W W' : World} {mb n : Nat} {D : DataW Value} (h : W'.ownsMap Tryz.prog 9 rawE mb n D) (hb : W'.heap[mb]? = W.heap[mb]?) : W.ownsMap Tryz.prog 9 rawE mb n D := by
  obtain ⟨es, clock, h1, h2⟩ := h
  exact ⟨es, clock, hb.symm.trans h1, h2⟩
theorem MSep.same {N mb : Nat} {W W' : World} (h : MSep N W mb) (hb : W'.heap[mb]? = W.heap[mb]?) : MSep N W' mb := fun n D hD k v hv => h n D (map_block hD hb) k v hv
theorem MSep.of {N t mb : Nat} {W : World} {es : List Mc} (h : Tab W t mb es) (hN : W.heap.size ≤ N) : MSep N W mb := by
  obtain ⟨n, D, hT⟩ := h
  intro n' D' hD k v hv
  obtain rfl := map_one hT.tbl.2.1 hD
  by_cases hk : k ∈ es.map Mc.name
  · obtain ⟨m, hm, rfl⟩ := List.mem_map.1 hk
    obtain ⟨v', h1, h2⟩ := hT.ent m hm
    rw [h1] at hv
    obtain rfl : v' = v := by simpa using hv
    exact SepM.of h2 hN
  · have hhas : Maps.has D (.string k) = false := by rw [hT.has]; exact decide_eq_false hk
    rw [Maps.atKey_of_not_has hhas] at hv
    obtain rfl : (.agg zeroM : Value) = v := by simpa using hv
    exact SepM.zero N
/-- The reference's row lies elsewhere. -/
def RSep (N : Nat) (W : World) (rb : Nat) : Prop := ∀ p n c g o, W.heap[rb]? = some (.cells #[.slice p n c] 29 (0, 0)) → p = some ⟨g, o, none⟩ → 0 < n → g ≠ N
theorem RSep.same {N rb : Nat} {W W' : World} (h : RSep N W rb) (hb : W'.heap[rb]? = W.heap[rb]?) : RSep N W' rb := fun p n c g o h1 => h p n c g o (hb.symm.trans h1)
theorem RSep.of {N rb : Nat} {W : World} {ms : List Me} (h : RTab W rb ms) (hN : W.heap.size ≤ N) : RSep N W rb := by
  obtain ⟨p, cap, hb, hG⟩ := h
  intro p' n c g o h1 e hn
  rw [hb] at h1
  simp at h1
  obtain ⟨rfl, rfl, rfl⟩ := h1
  obtain ⟨g', o', e2, h3, _⟩ := hG.five 0 hn
  rw [e] at e2
  obtain ⟨rfl, _⟩ : g = g' ∧ _ := by simpa using e2
  omega
/-- Neither table has a list in block N. -/
structure Sx (N mb rb : Nat) (ms : List Me) (W : World) : Prop where
  m : MSep N W mb
  r : RSep N W rb
  e : ∀ y ∈ ms, SepM N y.v
  lt : N < W.heap.size
theorem Sx.of {w0 W : World} {t mb rb : Nat} {K : List (Nat × Obj)} {x : Me} {es : List Mc} {ms : List Me} (h : Qs w0 t mb rb K x es ms W) (o : Obj) : Sx W.heap.size mb rb ms (W.alloc o) := by
  have hb := (Below.refl W.heap.size W).alloc (Nat.le_refl _) o
  have hm := h.mbl
  obtain ⟨p, cap, _, hG⟩ := h.rt
  exact ⟨(MSep.of h.tab (Nat.le_refl _)).same (hb.block mb hm.1), (RSep.of h.rt (Nat.le_refl _)).same (hb.block rb hm.2), fun y hy => SepM.of (hG.each y hy) (Nat.le_refl _), by simp⟩
theorem Sx.next {N mb rb : Nat} {ms : List Me} {W W' : World} (h : Sx N mb rb ms W) (hb : Below W.heap.size W W') (h1 : mb < W.heap.size) (h2 : rb < W.heap.size) : Sx N mb rb ms W' :=
  ⟨h.m.same (hb.block mb h1), h.r.same (hb.block rb h2), h.e, Nat.lt_of_lt_of_le h.lt hb.size⟩
theorem FiveOf.frN {W W' : World} {g o N : Nat} {x : Me} (h : FiveOf W g o x) (hg : g < W.heap.size) (hne : g ≠ N) (hf : Fr W W' N) : FiveOf W' g o x := h.next (hf.2 g hg hne)
/-- A cell of the block is written: both tables stay. -/
theorem qs_store {w0 W : World} {t mb rb N i : Nat} {K : List (Nat × Obj)} {x : Me} {es : List Mc} {ms : List Me} (h : Qs w0 t mb rb K x es ms W) (hs : Sx N mb rb ms W) (hx : SepM N x.v) (h1 : N ≠ mb) (h2 : N ≠ rb) (h3 : N ≠ t) (h4 : w0.heap.size ≤ N) (v : Value) : Qs w0 t mb rb [] x es ms (W.setCell ⟨N, i, none⟩ v) := by
  have hf : Fr W (W.setCell ⟨N, i, none⟩ v) N := (Fr.refl W N).setCell i v
  have hrl := h.rt.lt
  obtain ⟨n, D, hT⟩ := h.tab
  obtain ⟨p, cap, hb, hG⟩ := h.rt
  refine ⟨⟨n, D, hT.tbl.fr hf (Ne.symm h3) (Ne.symm h1), hT.few, hT.has, fun m hm => ?_⟩, ⟨p, cap, (hf.2 rb hrl (Ne.symm h2)).trans hb, hG.len, hG.nil, hG.cap, fun j hj => ?_, fun y hy => (hG.each y hy).frN (hs.e y hy) hf⟩, h.bl.setCell (p := ⟨N, i, none⟩) h4 v, h.n1, h.n2, h.o1, h.o2, h.xv.frN hx hf, fun b o hk => by cases hk⟩
  · obtain ⟨u, a1, a2⟩ := hT.ent m hm
    exact ⟨u, a1, a2.frN (hs.m n D hT.tbl.2.1 _ _ a1) hf⟩
  · obtain ⟨g, o, e, g1, g2⟩ := hG.five j hj
    exact ⟨g, o, e, Nat.lt_of_lt_of_le g1 hf.1, g2.frN g1 (hs.r p ms.length cap g o hb e (by omega)) hf⟩
end Go.Proofs.YticiddcgafhkhaaGreatDoor
namespace Go.Proofs.YticiddcgafhkhaaGreatDoor
open Go Go.RowKit
set_option linter.unusedVariables false
set_option linter.unusedSimpArgs false

theorem Define_tabS (t mb : Nat) (es : List Mc) (m : Mc) (q r : Option Addr) (c k : Nat) (w : World) (hf : McFits m) (hr : rightM m = true) (hT : Tab w t mb es) (hnew : m.name ∉ es.map Mc.name) (hes : es.length < 1000) (hnd : (es.map Mc.name).Nodup)
    (hx : McV w.heap.size w (.agg #[.string ⟨m.name.toArray⟩, .bool m.fn, .slice q m.ps.length c, .bool m.more, .slice r m.body.length k]) m) (hw0 : 1 < w.heap.size) (hsg : Sg w) :
    Calls Tryz.prog 8 #[.pointer (some ⟨t, 0, none⟩), .agg #[.string ⟨m.name.toArray⟩, .bool m.fn, .slice q m.ps.length c, .bool m.more, .slice r m.body.length k]] w fun e w' => DefP t mb (es ++ [m]) w e w' ∧ ∀ N, N < w.heap.size → MSep N w mb → MSep N w' mb := by
  obtain ⟨n, D, hT⟩ := hT
  obtain ⟨pv, bv, e, s1, s2, s3⟩ := hx
  simp at e
  obtain ⟨rfl, rfl⟩ := e
  have hsm := rightM_small hr
  have hhas : Maps.has D (.string m.name) = false := by rw [hT.has]; exact decide_eq_false hnew
  have hsz := (hT.size hnd).1
  have := Define_new t mb n D m q r c k w hf (s3 _ _ _ rfl) hr (by unfold maxLen; have := hT.few; omega) (by omega) (by omega) hT.tbl hhas (Maps.atKey_of_not_has hhas _) (by omega) s1 s2 hw0 hsg
  refine this.mono ?_
  rintro e w' ⟨pv', bv', rfl, hT', o1, o2, hb, hk⟩
  have hmb : mb < w.heap.size := Nat.lt_trans hT.tbl.2.2 hT.tbl.lt
  have hsz' : w.heap.size ≤ w'.heap.size := hb.size
  have hfr : Fr w w' mb := ⟨hsz', hk⟩
  refine ⟨⟨rfl, ⟨n + 1, _, hT', by have := hT.few; simp; omega, fun x => ?_, fun m' hm' => ?_⟩, hb, hfr⟩, fun N hN hM n' D' hD' kk v hv => ?_⟩
  · by_cases hx : x = m.name
    · subst hx
      rw [Maps.has_put_same hT.tbl.2.1.isMap (show WideAt.IsKeyLit (.string m.name) from trivial)]
      simp
    · rw [Maps.has_put_other (fun e => hx (by simpa using e)), hT.has]
      simp [hx]
  · rcases List.mem_append.1 hm' with hm' | hm'
    · obtain ⟨v, h1, h2⟩ := hT.ent m' hm'
      have hne : m'.name ≠ m.name := fun e => hnew (e ▸ List.mem_map_of_mem hm')
      exact ⟨v, by rw [Maps.atKey_put_other (fun e => hne (by simpa using e)), h1], h2.frM hfr hT.tbl⟩
    · obtain rfl : m' = m := by simpa using hm'
      exact ⟨_, Maps.atKey_put_same hT.tbl.2.1.isMap (show WideAt.IsKeyLit (.string m'.name) from trivial) _ _, McV.ofRows o1 o2⟩
  · obtain rfl := map_one hT'.2.1 hD'
    by_cases hx : kk = m.name
    · subst hx
      rw [Maps.atKey_put_same hT.tbl.2.1.isMap (show WideAt.IsKeyLit (.string m.name) from trivial)] at hv
      simp at hv
      subst hv
      intro a f pv mo bv e
      simp at e
      obtain ⟨_, _, rfl, _, rfl⟩ := e
      exact ⟨Sep.row o1 hN, Sep.row o2 hN⟩
    · rw [Maps.atKey_put_other (fun e => hx (by simpa using e))] at hv
      exact hM n D hT.tbl.2.1 kk v hv
section
variable {w0 W : World} {t mb rb N : Nat} {K : List (Nat × Obj)} {x : Me} {es es1 : List Mc} {ms : List Me}
theorem def8s (h : Qs w0 t mb rb K x es ms W) (hS : Sx N mb rb ms W) (hsg : Sg w0) (hw0 : 1 < w0.heap.size) (hf : McFits x.m) (hfs : ∀ y ∈ es, McFits y) (hs : Srt Mc.name es) (hl : es.length < 1000) :
    Calls Tryz.prog 8 #[.pointer (some ⟨t, 0, none⟩), x.v] W fun e W' => e = .returned (.int .i64 (defM es x.m).1) ∧ Qs w0 t mb rb K x (defM es x.m).2 ms W' ∧ Sx N mb rb ms W' := by
  have hsg' := hsg.below h.bl hw0
  have hw' : 1 < W.heap.size := Nat.lt_of_lt_of_le hw0 h.bl.size
  have hml := h.mbl
  unfold defM
  cases hr : rightM x.m with
  | false =>
    refine (Define_badM t x W hf hr h.xv hw' hsg').mono ?_
    rintro e W' ⟨rfl, hb⟩
    exact ⟨rfl, h.next hb, hS.next hb hml.1 hml.2⟩
  | true =>
    simp only [Bool.true_eq_false, if_false]
    by_cases hin : x.m.name ∈ es.map Mc.name
    · rw [if_pos hin]
      refine (Define_oldM t mb es x W hf hfs hr h.tab hin h.xv hw' hsg').mono ?_
      rintro e W' ⟨⟨y, hy, hn, rfl⟩, hb⟩
      exact ⟨by rw [code_old hs.nodup hy hn], h.next hb, hS.next hb hml.1 hml.2⟩
    · rw [if_neg hin]
      obtain ⟨q1, k1, q2, k2, e1, e2⟩ := me_slices h.xv
      have hv : x.v = .agg #[.string ⟨x.m.name.toArray⟩, .bool x.m.fn, .slice q1 x.m.ps.length k1, .bool x.m.more, .slice q2 x.m.body.length k2] := by rw [Me.v, e1, e2]
      have hxv := h.xv
      rw [hv] at hxv ⊢
      refine (Define_tabS t mb es x.m q1 q2 k1 k2 W hf hr h.tab hin hl hs.nodup hxv hw' hsg').mono ?_
      rintro e W' ⟨⟨rfl, ht, hb, hfr⟩, hM⟩
      exact ⟨rfl, h.turnP (ht.perm (insL_perm Mc.name es x.m)) hb hfr, hM N hS.lt hS.m, hS.r.same (hfr.2 rb hml.2 (Ne.symm h.n2)), hS.e, Nat.lt_of_lt_of_le hS.lt hfr.1⟩
theorem def9s {i : Nat} (h : Qs w0 t mb rb K x es1 ms W) (hS : Sx N mb rb ms W) (hxs : SepM N x.v) (hD : Gd i es ms) (hf : McFits x.m) (hl : es.length < 1000) :
    Calls Tryz.prog 9 #[.pointer (some ⟨rb, 0, none⟩), x.v] W fun e W' => e = .returned (.int .i64 (defM es x.m).1) ∧ Qs w0 t mb rb K x es1 (defE ms x) W' ∧ Sx N mb rb (defE ms x) W' := by
  have hnm : es.map Mc.name = ms.map nmE := by rw [← hD.same, List.map_map]; rfl
  have hml := h.mbl
  have hlm : ms.length < 1000 := by rw [hD.len]; exact hl
  unfold defM defE
  rw [hnm]
  cases hr : rightM x.m with
  | false =>
    refine (rDefine_bad rb x W hf hr h.xv).mono ?_
    rintro e W' ⟨rfl, hb⟩
    exact ⟨rfl, h.next hb, hS.next hb hml.1 hml.2⟩
  | true =>
    simp only [Bool.true_eq_false, if_false]
    by_cases hin : x.m.name ∈ ms.map nmE
    · rw [if_pos hin, if_pos hin]
      refine (rDefine_old rb ms x W h.rt (by omega) hf hD.fitE hr h.xv hin).mono ?_
      rintro e W' ⟨⟨y, hy, hn, rfl⟩, hb⟩
      exact ⟨by rw [code_old hD.srt.nodup (by rw [← hD.same]; exact List.mem_map_of_mem hy) hn], h.next hb, hS.next hb hml.1 hml.2⟩
    · rw [if_neg hin, if_neg hin]
      refine (rDefine_new rb ms x W h.rt hlm hf hr h.xv hin).mono ?_
      rintro e W' ⟨rfl, ht, hfr, hb, hnew⟩
      refine ⟨rfl, h.turnR ht hb hfr, hS.m.same (hfr.2 mb hml.1 h.n2), fun p n c g o h1 e hn => ?_, fun y hy => ?_, Nat.lt_of_lt_of_le hS.lt hfr.1⟩
      · have := hnew p n c g o h1 e hn
        have := hS.lt
        omega
      · rcases List.mem_append.1 ((insL_perm nmE ms x).mem_iff.1 hy) with h1 | h1
        · exact hS.e y h1
        · obtain rfl : y = x := by simpa using h1
          exact hxs
end
end Go.Proofs.YticiddcgafhkhaaGreatDoor
