/-
  Lengths of a type that is handed in; how deep it is; the sameness of two types.
-/
import Derived.Test.YtgomlfaekfabpaaUq
namespace Go.Proofs.Ytgomlfaekfabpaa
open Go.ChangeShapes Go.WideShapes Go.RowKit
set_option linter.unusedVariables false

def ShT.LenD : Nat → ShT → Prop
  | 0, _ => True
  | d + 1, t => t.of.length ≤ maxLen ∧ t.fs.length ≤ maxLen ∧ ∀ x ∈ t.parts, ShT.LenD d x
def ShT.Len (t : ShT) : Prop := ∀ d, t.LenD d
theorem ShT.Len.one {t : ShT} (h : t.Len) : t.of.length ≤ maxLen ∧ t.fs.length ≤ maxLen := ⟨(h 1).1, (h 1).2.1⟩
theorem ShT.Len.part {t x : ShT} (h : t.Len) (hx : x ∈ t.parts) : x.Len := fun d => (h (d + 1)).2.2 x hx
theorem sz_of {t x : ShT} (h : x ∈ t.of) : SizeOf.sizeOf x < SizeOf.sizeOf t := by
  cases t
  have := List.sizeOf_lt_of_mem h
  simp only [ShT.of] at this
  simp only [ShT.mk.sizeOf_spec]
  omega
theorem sz_fs {t : ShT} {f : FdOf ShT} (h : f ∈ t.fs) : SizeOf.sizeOf f.t < SizeOf.sizeOf t := by
  cases t
  have := List.sizeOf_lt_of_mem h
  simp only [ShT.fs] at this
  have h2 : SizeOf.sizeOf f.t < SizeOf.sizeOf f := by cases f; simp only [FdOf.mk.sizeOf_spec]; omega
  simp only [ShT.mk.sizeOf_spec]
  omega
/-- Two lists, place by place. -/
def all2 {α : Type} (R : α → α → Bool) : List α → List α → Bool
  | [], [] => true
  | x :: r, y :: s => R x y && all2 R r s
  | _, _ => false
theorem all2_len {α : Type} {R : α → α → Bool} : ∀ {l m : List α}, l.length ≠ m.length → all2 R l m = false
  | [], [], h => absurd rfl h
  | [], _ :: _, _ => rfl
  | _ :: _, [], _ => rfl
  | x :: r, y :: s, h => by rw [all2, all2_len (by simpa using h), Bool.and_false]
theorem all2_at {α : Type} {R : α → α → Bool} : ∀ {l m : List α} (i : Nat) (h : i < l.length) (h' : i < m.length), R l[i] m[i] = false → all2 R l m = false
  | x :: r, y :: s, 0, _, _, h => by simp only [List.getElem_cons_zero] at h; rw [all2, h, Bool.false_and]
  | x :: r, y :: s, i + 1, h, h', hR => by rw [all2, all2_at i (by simpa using h) (by simpa using h') (by simpa using hR), Bool.and_false]
theorem all2_yes {α : Type} {R : α → α → Bool} : ∀ {l m : List α} (hl : l.length = m.length), (∀ (i : Nat) (h : i < l.length) (h' : i < m.length), R l[i] m[i] = true) → all2 R l m = true
  | [], [], _, _ => rfl
  | x :: r, y :: s, hl, h => by
    rw [all2, show R x y = true from h 0 (by simp) (by simp), Bool.true_and]
    exact all2_yes (by simpa using hl) (fun i hi hi' => h (i + 1) (Nat.succ_lt_succ hi) (Nat.succ_lt_succ hi'))
def hdM (a b : ShT) : Bool := a.sh == b.sh && a.k == b.k && a.n == b.n && a.pk == b.pk && a.al == b.al
/-- Are both alike, down to so much depth? -/
def samM : Nat → ShT → ShT → Bool
  | 0, _, _ => false
  | d + 1, a, b => hdM a b && all2 (samM d) a.of b.of && all2 (fun f g => f.nm == g.nm && f.bits == g.bits && samM d f.t g.t) a.fs b.fs
set_option maxRecDepth 100000 in
theorem open_typeL {H : Type} {enc : TypeId × Value → H} {W : World} : ∀ (b fuel : Nat) (cs : List Value) (x : DataW H × List MemPlace), Rows.uptoBulk x.1 ≤ b →
    DataW.trod enc Try.prog W 0 (fun _ => true) true fuel 25 cs = some x → ∃ t : ShT, cs = t.cs.toList ∧ t.In W.heap.size W ∧ t.Len := by
  intro b
  induction b with
  | zero =>
    intro fuel cs x hb h
    obtain ⟨xs, k, _, hxy, hl, hxl, hf⟩ := DataW.trod_struct Try.underlying25 h
    rw [hxy] at hb
    simp only [Rows.uptoBulk] at hb
    omega
  | succ b ih =>
    intro fuel cs x hb h
    obtain ⟨xs, k, _, hxy, hl, hxl, hf⟩ := DataW.trod_struct Try.underlying25 h
    rw [cellsTy] at hl
    match xs, hxl, cs, hl with
    | [y0, y1, y2, y3, y4, y5, y6], _, [v0, v1, v2, v3, v4, v5, v6], _ =>
      have g0 := hf 0 _ rfl
      have g1 := hf 1 _ rfl
      have g2 := hf 2 _ rfl
      have g3 := hf 3 _ rfl
      have g4 := hf 4 _ rfl
      have g5 := hf 5 _ rfl
      have g6 := hf 6 _ rfl
      simp [cellsT2, cellsT3, cellsT4, cellsTs, cellsTf] at g0 g1 g2 g3 g4 g5 g6
      obtain ⟨sh, e0, _, _⟩ := DataW.trod_int Try.underlying3 g0
      obtain ⟨kk, e1, _, _⟩ := DataW.trod_int Try.underlying3 g1
      obtain ⟨nn, e2, _, _⟩ := DataW.trod_int Try.underlying2 g2
      obtain ⟨pk, e5, _⟩ := DataW.trod_bool Try.underlying4 g5
      obtain ⟨al, e6, _, _⟩ := DataW.trod_int Try.underlying2 g6
      simp only [List.cons.injEq, and_true] at e0 e1 e2 e5 e6
      rw [hxy] at hb
      simp only [List.map_cons, List.map_nil, Rows.uptoBulk, Rows.uptoBulkAll] at hb
      have hO : ∃ (op : Option Addr) (oc : Nat) (of : List ShT), v3 = .slice op of.length oc ∧ of.length ≤ maxLen ∧ ∀ (i : Nat) (h : i < of.length), ∃ g o, op = some ⟨g, o, none⟩ ∧ g < W.heap.size ∧ (∀ (j : Nat), j < 7 → W.cell? ⟨g, o + i * 7 + j, none⟩ = of[i].cs[j]?) ∧ of[i].In W.heap.size W ∧ of[i].Len := by
        rcases Go.Deep.open_slice Try.underlying22 g3 with ⟨hc, hx⟩ | ⟨a, len, cap, m, n, D, Pl, hc, _, hl, hm, hmm, hx, hall⟩
        · exact ⟨none, 0, [], by simpa using hc, Nat.zero_le _, fun i hi => by simp at hi⟩
        · simp only [if_true] at hmm
          subst hmm
          have hbs : Rows.uptoBulkAll ((List.range len).map D) ≤ b := by
            have : Rows.uptoBulk y3.1 = Rows.uptoBulk (DataW.slice ((List.range len).map D) ((List.range (m - len)).map fun j => D (len + j))) := by rw [hx]
            simp only [Rows.uptoBulk] at this
            omega
          have key : ∀ i, ∃ t : ShT, i < len → (∀ j, j < 7 → W.cell? (a.add (i * 7 + j)) = t.cs[j]?) ∧ t.In W.heap.size W ∧ t.Len := fun i => by
            by_cases hi : i < len
            · obtain ⟨cs', h1, h2⟩ := hall i (by omega)
              rw [cellsTy] at h1
              obtain ⟨_, hlen, hcell⟩ := World.cells?_some h1
              obtain ⟨t, rfl, htin, htl⟩ := ih n cs' _ (Nat.le_trans (bulk_mem _ _ (List.mem_map.2 ⟨i, List.mem_range.2 hi, rfl⟩)) hbs) h2
              refine ⟨t, fun _ => ⟨fun j hj => ?_, htin, htl⟩⟩
              have := hcell j hj
              rw [Go.Deep.add_add] at this
              simpa using this
            · exact ⟨zT, fun h => absurd h hi⟩
          obtain ⟨G, hG⟩ := pick_funS key
          refine ⟨some a, m, (List.range len).map G, by simpa using hc, by simp; omega, fun i hi => ?_⟩
          have hi' : i < len := by simpa using hi
          obtain ⟨bb, off, spot⟩ := a
          have c00 := (hG i hi').1 0 (by decide)
          have c000 := (hG 0 (by omega)).1 0 (by decide)
          have hspot : spot = none := by simpa [Addr.add] using World.cell?_spot (c000.trans (show (G 0).cs[0]? = some _ from rfl))
          subst hspot
          simp only [List.getElem_map, List.getElem_range]
          refine ⟨bb, off, rfl, ?_, fun j hj => ?_, (hG i hi').2.1, (hG i hi').2.2⟩
          · have := c00.trans (show (G i).cs[0]? = some _ from rfl)
            rw [add_plainS] at this
            exact World.block_lt_of_cell? W _ this
          · have := (hG i hi').1 j hj
            rw [add_plainS] at this
            rw [Nat.add_assoc]
            exact this
      have hF : ∃ (op : Option Addr) (oc : Nat) (of : List (FdOf ShT)), v4 = .slice op of.length oc ∧ of.length ≤ maxLen ∧ ∀ (i : Nat) (h : i < of.length), ∃ g o, op = some ⟨g, o, none⟩ ∧ g < W.heap.size ∧ (∀ (j : Nat), j < 9 → W.cell? ⟨g, o + i * 9 + j, none⟩ = of[i].cs[j]?) ∧ of[i].nm.length ≤ maxLen ∧ of[i].t.In W.heap.size W ∧ of[i].t.Len := by
        rcases Go.Deep.open_slice Try.underlying23 g4 with ⟨hc, hx⟩ | ⟨a, len, cap, m, n, D, Pl, hc, _, hl, hm, hmm, hx, hall⟩
        · exact ⟨none, 0, [], by simpa using hc, Nat.zero_le _, fun i hi => by simp at hi⟩
        · simp only [if_true] at hmm
          subst hmm
          have hbs : Rows.uptoBulkAll ((List.range len).map D) ≤ b := by
            have : Rows.uptoBulk y4.1 = Rows.uptoBulk (DataW.slice ((List.range len).map D) ((List.range (m - len)).map fun j => D (len + j))) := by rw [hx]
            simp only [Rows.uptoBulk] at this
            omega
          have key : ∀ i, ∃ t : FdOf ShT, i < len → (∀ j, j < 9 → W.cell? (a.add (i * 9 + j)) = t.cs[j]?) ∧ t.nm.length ≤ maxLen ∧ t.t.In W.heap.size W ∧ t.t.Len := fun i => by
            by_cases hi : i < len
            · obtain ⟨cs', h1, h2⟩ := hall i (by omega)
              rw [cellsFd] at h1
              obtain ⟨_, hlen, hcell⟩ := World.cells?_some h1
              obtain ⟨zs, kz, _, hzy, hzl, hzx, hzf⟩ := DataW.trod_struct Try.underlying45 h2
              rw [cellsFd] at hzl
              have hbD : Rows.uptoBulk (D i) ≤ b := Nat.le_trans (bulk_mem _ _ (List.mem_map.2 ⟨i, List.mem_range.2 hi, rfl⟩)) hbs
              match zs, hzx, cs', hzl with
              | [z0, z1, z2], _, [u0, u1, u2, u3, u4, u5, u6, u7, u8], _ =>
              have r0 := hzf 0 _ rfl
              have r1 := hzf 1 _ rfl
              have r2 := hzf 2 _ rfl
              simp [cellsT9, cellsT3, cellsTy] at r0 r1 r2
              obtain ⟨st, q0, _, qn⟩ := DataW.trod_string Try.underlying9 r0
              obtain ⟨bi, q2, _, _⟩ := DataW.trod_int Try.underlying3 r2
              have hbz : Rows.uptoBulk z1.1 ≤ b := by
                have h3 : D i = .agg ([z0, z1, z2].map (·.1)) := congrArg Prod.fst hzy
                rw [h3] at hbD
                simp only [List.map_cons, List.map_nil, Rows.uptoBulk, Rows.uptoBulkAll] at hbD
                omega
              obtain ⟨t, q1, htin, htl⟩ := ih kz _ _ hbz r1
              simp only [List.cons.injEq, and_true] at q0 q2
              refine ⟨⟨st.data.toList, t, bi⟩, fun _ => ⟨fun j hj => ?_, by simpa using qn, htin, htl⟩⟩
              have := hcell j hj
              rw [Go.Deep.add_add] at this
              rw [this, q0, q2]
              simp only [ShT.cs, List.cons.injEq, and_true] at q1
              obtain ⟨q11, q12, q13, q14, q15, q16, q17⟩ := q1
              rw [q11, q12, q13, q14, q15, q16, q17]
              simp [FdOf.cs]
            · exact ⟨⟨[], zT, 0⟩, fun h => absurd h hi⟩
          obtain ⟨G, hG⟩ := pick_funS key
          refine ⟨some a, m, (List.range len).map G, by simpa using hc, by simp; omega, fun i hi => ?_⟩
          have hi' : i < len := by simpa using hi
          obtain ⟨bb, off, spot⟩ := a
          have c00 := (hG i hi').1 0 (by decide)
          have c000 := (hG 0 (by omega)).1 0 (by decide)
          have hspot : spot = none := by simpa [Addr.add] using World.cell?_spot (c000.trans (show (G 0).cs[0]? = some _ from rfl))
          subst hspot
          simp only [List.getElem_map, List.getElem_range]
          refine ⟨bb, off, rfl, ?_, fun j hj => ?_, (hG i hi').2.1, (hG i hi').2.2.1, (hG i hi').2.2.2⟩
          · have := c00.trans (show (G i).cs[0]? = some _ from rfl)
            rw [add_plainS] at this
            exact World.block_lt_of_cell? W _ this
          · have := (hG i hi').1 j hj
            rw [add_plainS] at this
            rw [Nat.add_assoc]
            exact this
      obtain ⟨op, oc, of, ho, hol, hof⟩ := hO
      obtain ⟨fp, fc, fs, hfp, hfl, hfs⟩ := hF
      refine ⟨.mk sh kk nn op oc of fp fc fs pk al, ?_, fun d => ?_, fun d => ?_⟩
      · rw [e0, e1, e2, ho, hfp, e5, e6]
        rfl
      · cases d with
        | zero => trivial
        | succ d =>
          refine ⟨fun i hi => ?_, fun i hi => ?_⟩
          · obtain ⟨g, o, p1, p2, p3, p4, _⟩ := hof i hi
            exact ⟨g, o, p1, p2, p3, p4 d⟩
          · obtain ⟨g, o, p1, p2, p3, p4, p5, _⟩ := hfs i hi
            exact ⟨g, o, p1, p2, p3, p4, p5 d⟩
      · cases d with
        | zero => trivial
        | succ d =>
          refine ⟨hol, hfl, fun x hx => ?_⟩
          rcases List.mem_append.1 hx with hx | hx
          · obtain ⟨i, hi, rfl⟩ := List.getElem_of_mem hx
            obtain ⟨_, _, _, _, _, _, p5⟩ := hof i hi
            exact p5 d
          · obtain ⟨f, hf, rfl⟩ := List.mem_map.1 hx
            obtain ⟨i, hi, rfl⟩ := List.getElem_of_mem hf
            obtain ⟨_, _, _, _, _, _, _, p6⟩ := hfs i hi
            exact p6 d
end Go.Proofs.Ytgomlfaekfabpaa
