/-
  Package expr: arguments.
-/
import Derived.Test.YtmpkgjonbjpohaaGreatDoorRu
import Derived.Maps.AppendAt
import Derived.Laws.OwnMore
namespace Go.Proofs.YtmpkgjonbjpohaaGreatDoor
open Go Go.RowKit
set_option linter.unusedVariables false
set_option linter.unusedSimpArgs false

theorem FrE.grow {R : Nat} {A B C : World} {row : Option Nat} (h : FrE R A B) (hg : B.grownBy C row) (hr : ∀ r, row = some r → A.heap.size ≤ r ∧ R ≤ r) (hR : R ≤ B.heap.size) : FrE R A C :=
  ⟨h.be.trans ⟨hg.os, hg.tape, hg.output, hg.size, fun i hi => hg.block i (by omega) (fun e => by have := hr i e.symm; omega)⟩, fun i cs T fz h1 h2 h3 => (hg.block i (by have := (Array.getElem?_eq_some_iff.1 h3).1; have := h.be.size; omega) (fun e => by have := hr i e.symm; have := (Array.getElem?_eq_some_iff.1 h3).1; omega)).trans (h.bk i cs T fz h1 h2 h3)⟩
theorem Kids.grow {A B : World} {K K' : Nat → Prop} {x : PE} {p : Option Addr} {row : Option Nat} (h : Kids A K x p) (hg : A.grownBy B row) (hr : ∀ g, g < A.heap.size → K g → row ≠ some g ∧ K' g) : Kids B K' x p := h.keep (fun g cs fz hK hx => by
  have hl := (Array.getElem?_eq_some_iff.1 hx).1
  obtain ⟨h1, h2⟩ := hr g hl hK
  exact ⟨(hg.block g hl (fun e => h1 e.symm)).trans hx, h2⟩)
abbrev ExN := PE × Option Addr × Nat
def exs (L : List ExN) : List Value := L.flatMap fun t => (exC t.1 t.2.1 t.2.2).toList
theorem exs_app (L : List ExN) (t : ExN) : exs (L ++ [t]) = exs L ++ (exC t.1 t.2.1 t.2.2).toList := by unfold exs; simp
theorem exs_at : ∀ (L : List ExN) (i : Nat) (h : i < L.length) (j : Nat), j < 7 → (exs L)[i * 7 + j]? = (exC L[i].1 L[i].2.1 L[i].2.2)[j]?
  | [], _, h, _, _ => absurd h (Nat.not_lt_zero _)
  | t :: r, 0, _, j, hj => by
    show ((exC t.1 t.2.1 t.2.2).toList ++ exs r)[0 * 7 + j]? = _
    rw [Nat.zero_mul, Nat.zero_add, List.getElem?_append_left (by exact hj)]
    simp
  | t :: r, i + 1, h, j, hj => by
    have hi : i < r.length := by simpa using h
    have ih := exs_at r i hi j hj
    show ((exC t.1 t.2.1 t.2.2).toList ++ exs r)[(i + 1) * 7 + j]? = (exC r[i].1 r[i].2.1 r[i].2.2)[j]?
    rw [← ih, List.getElem?_append_right (by show 7 ≤ _; omega)]
    congr 1
    show (i + 1) * 7 + j - 7 = _
    omega
theorem KidL.row {W : World} {base n c : Nat} {lp : Option Addr} {L : List ExN} {K : Nat → Prop} (h : W.ownsRow base 24 7 (.slice lp n c) L.length (exs L)) (hb : ∀ g, base ≤ g → K g) (hk : ∀ t ∈ L, Kids W K t.1 t.2.1) : n = L.length ∧ KidL W K (L.map Prod.fst) lp := by
  obtain ⟨_, ⟨h1, h0⟩ | ⟨g, cap, cur, he, hbg, hg, hc, hm, hs, hx⟩⟩ := h
  · cases h1
    exact ⟨h0.symm, fun i hi => by rw [List.length_map] at hi; omega⟩
  · cases he
    refine ⟨rfl, fun i hi => ?_⟩
    rw [List.length_map] at hi
    refine ⟨g, 0, cur, (0, 0), L[i].2.1, L[i].2.2, rfl, hb g hbg, hg, fun j u hu => ?_, by rw [List.getElem_map]; exact hk _ (List.getElem_mem hi)⟩
    rw [List.getElem_map] at hu
    have hj : j < 7 := (Array.getElem?_eq_some_iff.1 hu).1
    have e := exs_at L i hi j hj
    rw [hu, ← hx, List.getElem?_take] at e
    split at e
    · rw [Nat.zero_add]
      simpa using e
    · cases e
theorem infoEx : (Tryz.prog.info? 24).map (fun i => (i.zero, i.size, i.bytes)) = some (some (.agg #[.int .i64 0, .int .i64 0, .int .i64 0, .int .i64 0, .string ⟨#[]⟩, .slice none 0 0, .int .i64 0]), 7, 80) := by kernel_rfl
theorem ex_src (W : World) (x : PE) (q : Option Addr) (c : Nat) : ∀ (j : Nat) (u : Value), (exC x q c).toList[j]? = some u → (W.alloc (.cells (exC x q c) 24)).cell? ((⟨W.heap.size, 0, none⟩ : Addr).add j) = some u := by
  intro j u h
  have hadd : (⟨W.heap.size, 0, none⟩ : Addr).add j = ⟨W.heap.size, j, none⟩ := by unfold Addr.add; split <;> simp_all
  rw [hadd, Bk.cell (Bk.new W 24 _)]
  simpa using h
theorem ex_one (x : PE) (q : Option Addr) (c : Nat) : ∀ u ∈ (exC x q c).toList, u.oneCell' = true := by
  intro u hu
  simp [exC] at hu
  rcases hu with rfl | rfl | rfl | rfl | rfl | rfl | rfl <;> rfl
theorem row_sliceX {W : World} {base n size : Nat} {e : TypeId} {v : Value} {xs : List Value} (h : W.ownsRow base e size v n xs) : ∃ q cp, v = .slice q n cp := by
  rcases h.2 with ⟨h, h0⟩ | ⟨g, cap, cur, h, _⟩
  · exact ⟨none, 0, by rw [h, h0]⟩
  · exact ⟨_, _, h⟩
theorem row_turnX {W : World} {base n size : Nat} {e : TypeId} {v : Value} {xs : List Value} (h : W.ownsRow base e size v n xs) : ∀ r, v.ownBlock = some r → base ≤ r ∧ r < W.heap.size ∧ ∃ cur, W.heap[r]? = some (.cells cur e (0, 0)) := by
  intro r hr
  rcases h.2 with ⟨rfl, _⟩ | ⟨g, cap, cur, rfl, hbg, hg, _⟩
  · simp [Value.ownBlock] at hr
  · have : g = r := by simpa [Value.ownBlock] using hr
    subst this
    exact ⟨hbg, (Array.getElem?_eq_some_iff.1 hg).1, cur, hg⟩
/-- A list of expressions grows: the reader does not know it. -/
theorem Cx.grow {R : Nat} {wv : Value} {ws : List Wd} {tw : Value} {W W' : World} {p : Nat} {cr : List Int} {row : Option Nat} (h : Cx R wv ws tw W p cr) (hg : W.grownBy W' row) (hr : ∀ r, row = some r → R < r ∧ ∃ cur, W.heap[r]? = some (.cells cur 24 (0, 0))) : Cx R wv ws tw W' p cr := by
  cases row with
  | none => exact h.below ⟨hg.os, hg.tape, hg.output, hg.size, fun i hi => hg.block i hi (by simp)⟩
  | some r =>
    obtain ⟨h1, cur, h2⟩ := hr r rfl
    exact h.late h1 (cs := cur) h2 (fun j o hj hj2 => (hg.block j (Array.getElem?_eq_some_iff.1 hj2).1 (fun e => hj (by cases e; rfl))).trans hj2) (fun n hn => ⟨hg.os, hg.tape, hg.output, hg.size, fun i hi => hg.block i (by have := (Array.getElem?_eq_some_iff.1 h2).1; omega) (fun e => by cases e; omega)⟩)
def OkA (R : Nat) (wv : Value) (ws : List Wd) (tw : Value) (p : Nat) : Prop := ∀ (W : World) (cr : List Int), Cx R wv ws tw W p cr → Calls Tryz.prog 124 #[.pointer (some ⟨R, 0, none⟩)] W fun e W' =>
  ∃ (l : List PE) (lp : Option Addr) (lc : Nat) (o : Option (List PE)) (p' : Nat) (cr' : List Int) (f : Nat), e = .returned (.tuple #[.slice lp l.length lc, .bool (Option.isSome o)]) ∧ gM (nxt ws) f .args p cr = some (o, p', cr') ∧ (o = none → l = []) ∧ (∀ l', o = some l' → l' = l) ∧ KidL W' (fun g => W.heap.size ≤ g) l lp ∧ Cx R wv ws tw W' p' cr' ∧ FrE R W W' ∧ l.length ≤ 1000000
theorem args_yes {N : Nat → Wd} {p : Nat} {cr : List Int} (h : (sgW (N p) == [41]) = true) : gM N 1 .args p cr = some (some [], p + 1, cr) := by rw [gM, h]; rfl
theorem args_go {N : Nat → Wd} {f p : Nat} {cr : List Int} {r : Option (List PE) × Nat × List Int} (h : (sgW (N p) == [41]) = false) (h2 : gM N f (.arg []) p cr = some r) : gM N (f + 1) .args p cr = some r := by rw [gM, h]; exact h2
theorem arg_bad {N : Nat → Wd} {f p p1 : Nat} {cr cr1 : List Int} {acc : List PE} (h : gM N f .exp p cr = some (none, p1, cr1)) : gM N (f + 1) (.arg acc) p cr = some (none, p1, cr1) := by rw [gM, h]; rfl
theorem arg_more {N : Nat → Wd} {f f2 p p1 : Nat} {cr cr1 : List Int} {acc : List PE} {x : PE} {r : Option (List PE) × Nat × List Int} (h : gM N f .exp p cr = some (some [x], p1, cr1)) (hc : (sgW (N p1) == [44]) = true) (h2 : gM N f2 (.arg (acc ++ [x])) (p1 + 1) cr1 = some r) : gM N (f + f2 + 1) (.arg acc) p cr = some r := by
  rw [gM, gM_ge h (f + f2) (by omega)]
  simp only [bnd]
  rw [hc, if_pos rfl]
  exact gM_ge h2 _ (by omega)
theorem arg_end {N : Nat → Wd} {f p p1 : Nat} {cr cr1 : List Int} {acc : List PE} {x : PE} (h : gM N f .exp p cr = some (some [x], p1, cr1)) (hc : (sgW (N p1) == [44]) = false) (hd : (sgW (N p1) == [41]) = true) : gM N (f + 1) (.arg acc) p cr = some (some (acc ++ [x]), p1 + 1, cr1) := by
  rw [gM, h]
  simp only [bnd]
  rw [hc, hd]
  rfl
theorem arg_no {N : Nat → Wd} {f p p1 : Nat} {cr cr1 : List Int} {acc : List PE} {x : PE} (h : gM N f .exp p cr = some (some [x], p1, cr1)) (hc : (sgW (N p1) == [44]) = false) (hd : (sgW (N p1) == [41]) = false) : gM N (f + 1) (.arg acc) p cr = some (none, p1, cr1) := by
  rw [gM, h]
  simp only [bnd]
  rw [hc, hd]
  rfl
set_option maxRecDepth 100000 in
set_option maxHeartbeats 16000000 in
theorem arguments_any (R : Nat) (wv : Value) (ws : List Wd) (tw : Value) (hl : ws.length ≤ 1000000) (hws : ∀ y ∈ ws, y.s.length ≤ 140737488355328) (p : Nat) (he : ∀ p', p ≤ p' → OkE R wv ws tw p') : OkA R wv ws tw p := fun w cr hC => by
  have HE := veil he
  have HC0 := veil hC
  have hR := hC.lt
  obtain ⟨crv0, hX0, hL0, hp0⟩ := id hC
  have HL0 := veil hL0
  have HSK := veil (skip_any hX0 [41] (by simp) hl hws)
  clear hX0 hL0 hC he
  cases hQ : sgW (nxt ws p) == [41]
  · rw [hQ] at HSK
    simp only [Bool.false_eq_true, if_false] at HSK
    have HQ := veil hQ
    clear hQ
    go_enter Tryz.func124, Tryz.ntmps124
    go_wp2_with fail
    refine wp_scope_straight ?_
    go_wp2_with (go_at_call 67; (refine (unveil HSK).mono ?_; rintro e W1 ⟨rfl, hf, hx⟩; have HC1 : Hid (Cx R wv ws tw W1 p cr) := ⟨_, hx, LvC.fr hf 10 tw (unveil HL0), hp0⟩; have HF1 := veil hf; clear hf hx))
    clear HSK HL0 HC0
    refine wp_label ?_
    go_upto_region 4 with fail
    go_loopg [4] (ws.length - p) (fun gk lv wr => ∃ (L : List ExN) (lp : Option Addr) (lc p1 : Nat) (cr1 : List Int), gk = ws.length - p1 ∧ lv = .slice lp L.length lc ∧ p ≤ p1 ∧ L.length ≤ p1 ∧ Hid (Cx R wv ws tw wr p1 cr1) ∧ Hid (wr.ownsRow w.heap.size 24 7 (.slice lp L.length lc) L.length (exs L)) ∧ Hid (∀ t ∈ L, Kids wr (fun g => w.heap.size ≤ g ∧ (Value.slice lp L.length lc).ownBlock ≠ some g) t.1 t.2.1) ∧ Hid (FrE R w wr) ∧ Hid (∀ f2 r, gM (nxt ws) f2 (.arg (L.map Prod.fst)) p1 cr1 = some r → ∃ f, gM (nxt ws) f .args p cr = some r))
    case atStart => exact ⟨[], none, 0, p, cr, rfl, rfl, Nat.le_refl _, Nat.zero_le _, HC1, World.ownsRow_nil _ _ _ _, (fun t ht => by cases ht), HF1, fun f2 r h => ⟨_, args_go (unveil HQ) h⟩⟩
    case round =>
      clear HC1 HF1
      rename World => wr
      obtain ⟨L, lp, lc, p1, cr1, rfl, rfl, hp1, hLp, HC1, HRW, HKL, HF1, HCN⟩ := hrel
      have hR1 := (unveil HC1).lt
      obtain ⟨csR, hbkR⟩ := (unveil HC1).bk
      have HBR := veil hbkR
      have hpl1 : p1 ≤ ws.length := by obtain ⟨_, _, _, h, _⟩ := unveil HC1; exact h
      have hws0 := (unveil HF1).be.size
      have HE1 := veil ((unveil HE) p1 hp1 wr cr1 (unveil HC1))
      have hwle : w.heap.size ≤ wr.heap.size := (unveil HF1).be.size
      go_upto_region 5 with (go_at_call 32; refine (unveil HE1).mono ?_; rintro e W2 ⟨x, q, cx, o, p2, cr2, f, rfl, hg, ho, hk, hc, hf, hp⟩; have HG := veil (And.intro hg ho); have HK2 := veil hk; have HC2 := veil hc; have HF2 := veil hf; have HP2 := veil hp; clear hg ho hk hc hf hp; obtain ⟨x0, x1, x2, x3, x4, x5, x6⟩ := x; simp only [exC, PE.is, PE.op, PE.k, PE.v, PE.nm, PE.l, PE.line])
      have hb3 : Below W2.heap.size W2 (W2.alloc (.cells #[.int .i64 x0, .int .i64 x1, .int .i64 x2, .int .i64 x3, .string ⟨x4.toArray⟩, .slice q x5.length cx, .int .i64 x6] 24)) := (Below.refl _ W2).alloc (Nat.le_refl _) _
      have hOW := row_turnX (unveil HRW)
      have HC3 := veil ((unveil HC2).below hb3)
      have HF3 := veil (((unveil HF1).trans (unveil HF2)).trans (FrE.below hb3 (Nat.le_of_lt (unveil HC2).lt)))
      have HR3 := veil (row_kept (row_kept (unveil HRW) (fun g cur hg hk => (unveil HF2).bk g cur _ (0, 0) (by decide) (by omega) hk)) (fun g cur _ hk => (hb3.block g (Array.getElem?_eq_some_iff.1 hk).1).trans hk))
      have HL3 : Hid (∀ t ∈ L, Kids (W2.alloc (.cells #[.int .i64 x0, .int .i64 x1, .int .i64 x2, .int .i64 x3, .string ⟨x4.toArray⟩, .slice q x5.length cx, .int .i64 x6] 24)) (fun g => w.heap.size ≤ g ∧ (Value.slice lp L.length lc).ownBlock ≠ some g) t.1 t.2.1) := fun t ht => ((unveil HKL t ht).fr (unveil HF2) (unveil HBR)).below hb3
      have HK3 : Hid (Kids (W2.alloc (.cells #[.int .i64 x0, .int .i64 x1, .int .i64 x2, .int .i64 x3, .string ⟨x4.toArray⟩, .slice q x5.length cx, .int .i64 x6] 24)) (fun g => w.heap.size ≤ g ∧ (Value.slice lp L.length lc).ownBlock ≠ some g) (PE.mk x0 x1 x2 x3 x4 x5 x6) q) := ((unveil HK2).mono (K' := fun g => w.heap.size ≤ g ∧ (Value.slice lp L.length lc).ownBlock ≠ some g) (fun g _ h => ⟨by omega, fun e => by have := (hOW g e).2.1; omega⟩)).below hb3
      have HX3 : Hid (Bk (W2.alloc (.cells #[.int .i64 x0, .int .i64 x1, .int .i64 x2, .int .i64 x3, .string ⟨x4.toArray⟩, .slice q x5.length cx, .int .i64 x6] 24)) W2.heap.size 24 #[.int .i64 x0, .int .i64 x1, .int .i64 x2, .int .i64 x3, .string ⟨x4.toArray⟩, .slice q x5.length cx, .int .i64 x6]) := Bk.new _ _ _
      have hsz3 : w.heap.size ≤ (W2.alloc (.cells #[.int .i64 x0, .int .i64 x1, .int .i64 x2, .int .i64 x3, .string ⟨x4.toArray⟩, .slice q x5.length cx, .int .i64 x6] 24)).heap.size := (unveil HF3).be.size
      clear hb3 HK2 HC2 HC1 HRW HKL HE1 hbkR HBR hOW HF1 HF2
      generalize (W2.alloc (.cells #[.int .i64 x0, .int .i64 x1, .int .i64 x2, .int .i64 x3, .string ⟨x4.toArray⟩, .slice q x5.length cx, .int .i64 x6] 24)) = W3 at *
      generalize W2.heap.size = EB at *
      cases o with
      | none =>
        obtain ⟨fN, hfN⟩ := (unveil HCN) _ _ (arg_bad (unveil HG).1)
        have HGF := veil hfN
        clear hfN HCN HG HE
        simp only [Option.isSome_none]
        go_wp2_with fail
        rw [Exit.noGoto_ret]
        refine bodyPost_ret (results_tmp2 rfl _ _ _) rfl ?_
        exact ⟨[], none, 0, none, p2, cr2, fN, rfl, unveil HGF, fun _ => rfl, (fun l' h => (by cases h)), (fun i hi => (by cases hi)), unveil HC3, unveil HF3, Nat.zero_le _⟩
      | some l1 =>
        obtain rfl := (unveil HG).2 l1 rfl
        have HGA := veil (unveil HG).1
        clear HG
        simp only [Option.isSome_some]
        obtain ⟨⟨b0, b1, b2, b3, b4, b5, b6⟩, bl, _⟩ := ex_cells (unveil HX3)
        have hb4 : Below W3.heap.size W3 (W3.alloc (.cells (exC (PE.mk x0 x1 x2 x3 x4 x5 x6) q cx) 24)) := (Below.refl _ W3).alloc (Nat.le_refl _) _
        have hrowa := row_kept (unveil HR3) (fun g cur _ hk => (hb4.block g (Array.getElem?_eq_some_iff.1 hk).1).trans hk)
        have HC4 := veil ((unveil HC3).below hb4)
        have HF4 := veil ((unveil HF3).trans (FrE.below hb4 (Nat.le_of_lt (unveil HC3).lt)))
        have HL4 : Hid (∀ t ∈ L, Kids (W3.alloc (.cells (exC (PE.mk x0 x1 x2 x3 x4 x5 x6) q cx) 24)) (fun g => w.heap.size ≤ g ∧ (Value.slice lp L.length lc).ownBlock ≠ some g) t.1 t.2.1) := fun t ht => (unveil HL3 t ht).below hb4
        have HK4 := veil ((unveil HK3).below hb4)
        have hsz4 : W3.heap.size < (W3.alloc (.cells (exC (PE.mk x0 x1 x2 x3 x4 x5 x6) q cx) 24)).heap.size := by simp
        have hOW4 := row_turnX hrowa
        obtain ⟨i0, hi, hz0, hz1, hz2'⟩ := info_parts infoEx
        have hLb : L.length ≤ 1000000 := by omega
        clear hb4 HC3 HF3 HL3 HK3 HR3
        go_upto_region 7 with (at_builtin; go_loud (refine wpList_append_own_at _ rfl _ _ 22 rfl w.heap.size 24 i0 _ 7 80 Tryz.underlying22 hi hz0 hz1 hz2' rfl (by decide) _ _ _ rfl hrowa ⟨W3.heap.size, 0, none⟩ 1 1 (exC (PE.mk x0 x1 x2 x3 x4 x5 x6) q cx).toList rfl rfl (ex_src W3 (PE.mk x0 x1 x2 x3 x4 x5 x6) q cx) (ex_one (PE.mk x0 x1 x2 x3 x4 x5 x6) q cx) (by unfold maxLen; omega) (by omega) (Nat.le_trans hsz3 (Nat.le_of_lt hsz4)) ?_; intro v5 W5 hown5 hg5 _ hwh; obtain ⟨lq, lqc, rfl⟩ := row_sliceX hown5; have HOWN := veil (And.intro hown5 (And.intro hg5 hwh)); clear hown5 hg5 hwh))
        obtain ⟨hown5, hg5, hwh⟩ := unveil HOWN
        have hL5 : (L ++ [((PE.mk x0 x1 x2 x3 x4 x5 x6), q, cx)]).length = L.length + 1 := by simp
        have HR5 : Hid (W5.ownsRow w.heap.size 24 7 (.slice lq (L.length + 1) lqc) (L ++ [((PE.mk x0 x1 x2 x3 x4 x5 x6), q, cx)]).length (exs (L ++ [((PE.mk x0 x1 x2 x3 x4 x5 x6), q, cx)]))) := by
          rw [Hid, hL5, exs_app]
          exact hown5
        have HC5 := veil ((unveil HC4).grow hg5 (fun r e => by obtain ⟨h1, _, h3⟩ := hOW4 r e; exact ⟨by omega, h3⟩))
        have HF5 := veil ((unveil HF4).grow hg5 (fun r e => by obtain ⟨h1, _, h3⟩ := hOW4 r e; exact ⟨h1, by omega⟩) (Nat.le_of_lt (unveil HC4).lt))
        have hnew : ∀ g, g < (W3.alloc (.cells (exC (PE.mk x0 x1 x2 x3 x4 x5 x6) q cx) 24)).heap.size → (w.heap.size ≤ g ∧ (Value.slice lp L.length lc).ownBlock ≠ some g) → (Value.slice lp L.length lc).ownBlock ≠ some g ∧ (w.heap.size ≤ g ∧ (Value.slice lq (L.length + 1) lqc).ownBlock ≠ some g) := fun g hg h => ⟨h.2, h.1, fun e => by
          rcases hwh with hh | hh
          · rw [hh] at e; exact h.2 e
          · rw [hh] at e; simp only [Option.some.injEq] at e; exact absurd e (Nat.ne_of_gt hg)⟩
        have HL5 : Hid (∀ t ∈ L ++ [((PE.mk x0 x1 x2 x3 x4 x5 x6), q, cx)], Kids W5 (fun g => w.heap.size ≤ g ∧ (Value.slice lq (L.length + 1) lqc).ownBlock ≠ some g) t.1 t.2.1) := fun t ht => by
          rcases List.mem_append.1 ht with ht | ht
          · exact (unveil HL4 t ht).grow hg5 hnew
          · obtain rfl := List.mem_singleton.1 ht
            exact (unveil HK4).grow hg5 hnew
        have HMF : Hid ((L ++ [((PE.mk x0 x1 x2 x3 x4 x5 x6), q, cx)]).map Prod.fst = L.map Prod.fst ++ [PE.mk x0 x1 x2 x3 x4 x5 x6]) := by simp [Hid]
        clear hown5 hg5 hwh hnew HOWN hrowa hOW4 hi hz0 hz1 hz2' HL4 HK4 HC4 HF4 b0 b1 b2 b3 b4 b5 b6 bl HX3
        have hLN : Hid ((L ++ [((PE.mk x0 x1 x2 x3 x4 x5 x6), q, cx)]).length = L.length + 1) := hL5
        generalize hLL : L ++ [((PE.mk x0 x1 x2 x3 x4 x5 x6), q, cx)] = LN at *
        clear hLL hL5
        obtain ⟨crv5, hX5, hLv5, hp5⟩ := id (unveil HC5)
        have HSG := veil (sign_any hX5)
        have HTK := veil (fun (hin : p2 < ws.length) => etake_any hX5 hin hl hws)
        have HLV := veil hLv5
        clear hX5 hLv5
        have HIN := veil (@sg_in ws p2)
        cases hC : sgW (nxt ws p2) == [44]
        · cases hD : sgW (nxt ws p2) == [41]
          · obtain ⟨fN, hfN⟩ := (unveil HCN) _ _ (arg_no (unveil HGA) hC hD)
            have HGF := veil hfN
            clear hfN HCN HGA HE HTK
            generalize sgW (nxt ws p2) = S at *
            go_wp2_with (go_at_call 65; refine (unveil HSG).mono ?_; rintro e W6 ⟨rfl, hw'⟩; obtain rfl := hw'.symm)
            rw [Exit.noGoto_ret]
            refine bodyPost_ret (results_tmp2 rfl _ _ _) rfl ?_
            exact ⟨[], none, 0, none, p2, cr2, fN, rfl, unveil HGF, fun _ => rfl, (fun l' h => (by cases h)), (fun i hi => (by cases hi)), unveil HC5, unveil HF5, Nat.zero_le _⟩
          · obtain ⟨fN, hfN⟩ := (unveil HCN) _ _ (arg_end (unveil HGA) hC hD)
            rw [← unveil HMF] at hfN
            have HGF := veil hfN
            have hin := unveil HIN (by intro e; rw [e] at hD; cases hD)
            have HTA := veil (unveil HTK hin)
            clear hfN HCN HGA HE HTK
            generalize sgW (nxt ws p2) = S at *
            go_wp2_with (first
              | (go_at_call 65; refine (unveil HSG).mono ?_; rintro e W6 ⟨rfl, hw'⟩; obtain rfl := hw'.symm)
              | (go_at_call 66; refine (unveil HTA).mono ?_; rintro e W6 ⟨rfl, hf6, hx6⟩; have HF6 := veil hf6; have HX6 := veil hx6; clear hf6 hx6))
            rw [Exit.noGoto_ret]
            refine bodyPost_ret (results_tmp2 rfl _ _ _) rfl ?_
            obtain ⟨csR5, hbkR5⟩ := (unveil HC5).bk
            have hr6 := row_kept (unveil HR5) (W' := W6) (fun g cur hg hk => (unveil HF6).bk g cur _ (0, 0) (by decide) (by omega) hk)
            obtain ⟨_, hkl⟩ := KidL.row (K := fun g => w.heap.size ≤ g) hr6 (fun g h => h) (fun t ht => ((unveil HL5 t ht).fr (unveil HF6) hbkR5).mono (fun g _ h => h.1))
            exact ⟨LN.map Prod.fst, lq, lqc, some (LN.map Prod.fst), p2 + 1, cr2, fN, by rw [List.length_map, unveil hLN]; rfl, unveil HGF, (fun h => (by cases h)), (fun l' h => (by cases h; rfl)), hkl, ⟨_, unveil HX6, LvC.fr (unveil HF6) 10 tw (unveil HLV), hin, Nat.le_succ_of_le hp5.2⟩, (unveil HF5).trans (unveil HF6), by rw [List.length_map, unveil hLN]; have := unveil HP2; omega⟩
        · have hin := unveil HIN (by intro e; rw [e] at hC; cases hC)
          have HTA := veil (unveil HTK hin)
          have HNX : Hid (∀ f2 r, gM (nxt ws) f2 (.arg (LN.map Prod.fst)) (p2 + 1) cr2 = some r → ∃ f, gM (nxt ws) f .args p cr = some r) := fun f2 r h => (unveil HCN) _ _ (arg_more (unveil HGA) hC (by rw [← unveil HMF]; exact h))
          clear HCN HGA HTK
          generalize sgW (nxt ws p2) = S at *
          have HIP := veil hin
          have HP9 := veil hp5
          go_wp2_with (first
            | (go_at_call 65; refine (unveil HSG).mono ?_; rintro e W6 ⟨rfl, hw'⟩; obtain rfl := hw'.symm)
            | (go_at_call 66; refine (unveil HTA).mono ?_; rintro e W6 ⟨rfl, hf6, hx6⟩; have HF6 := veil hf6; have HX6 := veil hx6; clear hf6 hx6))
          have HFIN : Hid (Cx R wv ws tw W6 (p2 + 1) cr2 ∧ W6.ownsRow w.heap.size 24 7 (.slice lq LN.length lqc) LN.length (exs LN) ∧ (∀ t ∈ LN, Kids W6 (fun g => w.heap.size ≤ g ∧ (Value.slice lq LN.length lqc).ownBlock ≠ some g) t.1 t.2.1) ∧ FrE R w W6) := by
            obtain ⟨csR5, hbkR5⟩ := (unveil HC5).bk
            rw [← unveil hLN] at HR5 HL5
            exact ⟨⟨_, unveil HX6, LvC.fr (unveil HF6) 10 tw (unveil HLV), unveil HIP, Nat.le_succ_of_le (unveil HP9).2⟩, row_kept (unveil HR5) (fun g cur hg hk => (unveil HF6).bk g cur _ (0, 0) (by decide) (by omega) hk), fun t ht => (unveil HL5 t ht).fr (unveil HF6) hbkR5, (unveil HF5).trans (unveil HF6)⟩
          go_roundg (ws.length - (p2 + 1))
          case measure => have := unveil HIP; have := unveil HP2; omega
          case rel => exact ⟨LN, lq, lqc, p2 + 1, cr2, rfl, by rw [unveil hLN], by have := unveil HP2; omega, by have := unveil hLN; have := unveil HP2; omega, (unveil HFIN).1, (unveil HFIN).2.1, (unveil HFIN).2.2.1, (unveil HFIN).2.2.2, HNX⟩
  · rw [hQ] at HSK
    simp only [if_true] at HSK
    have HGF := veil (args_yes (cr := cr) hQ)
    have hin : p < ws.length := sg_in (by intro e; rw [e] at hQ; cases hQ)
    clear hQ
    go_enter Tryz.func124, Tryz.ntmps124
    go_wp2_with fail
    refine wp_scope_straight ?_
    go_wp2_with (go_at_call 67; refine (unveil HSK).mono ?_; rintro e W1 ⟨rfl, hf, hx⟩; have HC1 : Hid (Cx R wv ws tw W1 (p + 1) cr) := ⟨_, hx, LvC.fr hf 10 tw (unveil HL0), hin, Nat.le_succ_of_le hp0.2⟩; have HF1 := veil hf; clear hf hx)
    rw [Exit.noGoto_ret]
    refine bodyPost_ret (results_tmp2 rfl _ _ _) rfl ?_
    exact ⟨[], none, 0, some [], p + 1, cr, 1, rfl, unveil HGF, (fun h => (by cases h)), (fun l' h => (by cases h; rfl)), (fun i hi => (by cases hi)), unveil HC1, unveil HF1, Nat.zero_le _⟩
end Go.Proofs.YtmpkgjonbjpohaaGreatDoor
