/-
  Package expr: slices.EqualFunc over expressions.
  Package expr: Same.
  What is read bears no list that is too long.
  An expression and itself are the same.
-/
import Derived.Test.YtmpkgjonbjpohaaGreatDoorY8
import Derived.Test.YtmpkgjonbjpohaaGreatDoorY7
namespace Go.Proofs.YtmpkgjonbjpohaaGreatDoor
open Go Go.RowKit
set_option linter.unusedVariables false
set_option linter.unusedSimpArgs false

mutual
/-- Are two expressions the same, lines aside? -/
def smM : PE → PE → Bool
  | .mk a b c d s l _, .mk a' b' c' d' s' l' _ => a == a' && (b == b' && (c == c' && (d == d' && (s == s' && smL l l'))))
def smL : List PE → List PE → Bool
  | [], [] => true
  | x :: l, y :: l' => smM x y && smL l l'
  | [], _ :: _ => false
  | _ :: _, [] => false
end
theorem smL_len : ∀ (l l' : List PE), l.length ≠ l'.length → smL l l' = false
  | [], [], h => absurd rfl h
  | [], _ :: _, _ => by unfold smL; rfl
  | _ :: _, [], _ => by unfold smL; rfl
  | x :: l, y :: l', h => by
    unfold smL
    rw [smL_len l l' (fun e => h (by simp [e])), Bool.and_false]
theorem smL_all : ∀ (l l' : List PE), l.length = l'.length → (∀ (i : Nat) (h : i < l.length) (h' : i < l'.length), smM l[i] l'[i] = true) → smL l l' = true
  | [], [], _, _ => by unfold smL; rfl
  | [], _ :: _, h, _ => by simp at h
  | _ :: _, [], h, _ => by simp at h
  | x :: l, y :: l', h, ha => by
    unfold smL
    rw [show smM x y = true from ha 0 (by simp) (by simp), smL_all l l' (by simpa using h) (fun i h1 h2 => ha (i + 1) (by simpa using h1) (by simpa using h2))]
    rfl
theorem smL_no : ∀ (l l' : List PE) (i : Nat) (h : i < l.length) (h' : i < l'.length), smM l[i] l'[i] = false → smL l l' = false
  | [], _, _, h, _, _ => by simp at h
  | _ :: _, [], _, _, h, _ => by simp at h
  | x :: l, y :: l', 0, _, _, h => by
    unfold smL
    rw [show smM x y = false from h]
    rfl
  | x :: l, y :: l', i + 1, h, h', hn => by
    unfold smL
    rw [smL_no l l' i (by simpa using h) (by simpa using h') (by simpa using hn), Bool.and_false]
theorem kid_cell {W : World} {g i : Nat} {cur : Array Value} {T : TypeId} {fz : Nat × Nat} {u : Value} (hg : W.heap[g]? = some (.cells cur T fz)) (h : cur[i]? = some u) : W.cell? ⟨g, i, none⟩ = some u := by simp [World.cell?, hg, h]
abbrev KT : Nat → Prop := fun _ => True
/-- What Same tells of two. -/
def SmP (W : World) (x y : PE) : Prop := ∀ (V : World) (q r : Option Addr) (cq cr : Nat), Below W.heap.size W V → Kids V KT x q → Kids V KT y r → Calls Tryz.prog 13 #[.agg (exC x q cq), .agg (exC y r cr)] V fun e V' => e = .returned (.bool (smM x y)) ∧ Below V.heap.size V V'
set_option maxRecDepth 100000 in
set_option maxHeartbeats 8000000 in
theorem equal_any (l l' : List PE) (p p' : Option Addr) (c c' : Nat) (w : World) (h : KidL w KT l p) (h' : KidL w KT l' p') (hl : l.length ≤ 1000000000000000) (hs : ∀ (i : Nat) (hi : i < l.length) (hi' : i < l'.length), SmP w l[i] l'[i]) :
    Calls Tryz.prog 28 #[.slice p l.length c, .slice p' l'.length c', .func (.func 13) #[] #[]] w fun e w' => e = .returned (.bool (smL l l')) ∧ Below w.heap.size w w' := by
  have HK := veil h
  have HK' := veil h'
  have HS := veil hs
  clear h h' hs
  by_cases hn : l.length = l'.length
  · have hne : ((l.length : Int) != (l'.length : Int)) = false := by rw [hn]; simp
    have HSA : Hid ((∀ (i : Nat) (h : i < l.length) (h' : i < l'.length), smM l[i] l'[i] = true) → smL l l' = true) := smL_all l l' hn
    have HSN := veil (smL_no l l')
    have HN := veil hn
    clear hn
    generalize smL l l' = SL at *
    go_enter Tryz.func28, Tryz.ntmps28
    go_upto_region 4 with fail
    go_loopg [17] l.length (fun gk iv wr => ∃ (k : Nat), gk = l.length - k ∧ iv = .int .i64 k ∧ k ≤ l.length ∧ Hid (Below w.heap.size w wr) ∧ Hid (∀ (i : Nat) (h : i < l.length) (h' : i < l'.length), i < k → smM l[i] l'[i] = true))
    case atStart => exact ⟨0, rfl, rfl, Nat.zero_le _, Below.refl _ _, fun i _ _ h => absurd h (Nat.not_lt_zero _)⟩
    case round =>
      rename World => wr
      obtain ⟨k, rfl, rfl, hk, HB, HA⟩ := hrel
      by_cases hkl : k < l.length
      · have hkk : (k : Int) < (l.length : Int) := by omega
        have hkl' : k < l'.length := by have := unveil HN; omega
        have hkk' : (k : Int) < (l'.length : Int) := by omega
        obtain ⟨g, o, cur, fz, q, cq, rfl, _, hg, hc, hd⟩ := unveil HK k hkl
        obtain ⟨g', o', cur', fz', r, cr, rfl, _, hg', hc', hd'⟩ := unveil HK' k hkl'
        replace hg := ((unveil HB).block g (Array.getElem?_eq_some_iff.1 hg).1).trans hg
        replace hg' := ((unveil HB).block g' (Array.getElem?_eq_some_iff.1 hg').1).trans hg'
        have HD := veil (hd.keep (B := wr) (K' := KT) (fun g cs fz hK hx => ⟨((unveil HB).block g (Array.getElem?_eq_some_iff.1 hx).1).trans hx, trivial⟩))
        have HD' := veil (hd'.keep (B := wr) (K' := KT) (fun g cs fz hK hx => ⟨((unveil HB).block g (Array.getElem?_eq_some_iff.1 hx).1).trans hx, trivial⟩))
        have HSK := veil (unveil HS k hkl hkl')
        have HSM := veil (unveil HSN k hkl hkl')
        have HAK : Hid (smM l[k] l'[k] = true → ∀ (i : Nat) (h : i < l.length) (h' : i < l'.length), i < k + 1 → smM l[i] l'[i] = true) := fun e i h h' hi => by
          by_cases hik : i < k
          · exact unveil HA i h h' hik
          · obtain rfl : i = k := by omega
            exact e
        clear hd hd' HS HSN HA
        generalize l[k] = x at *
        generalize l'[k] = y at *
        obtain ⟨x0, x1, x2, x3, x4, x5, x6⟩ := x
        obtain ⟨y0, y1, y2, y3, y4, y5, y6⟩ := y
        have a0 : wr.cell? ⟨g, o + k * 7, none⟩ = some (.int .i64 x0) := kid_cell hg (hc 0 _ rfl)
        have a1 : wr.cell? ⟨g, o + k * 7 + 1, none⟩ = some (.int .i64 x1) := kid_cell hg (hc 1 _ rfl)
        have a2 : wr.cell? ⟨g, o + k * 7 + 2, none⟩ = some (.int .i64 x2) := kid_cell hg (hc 2 _ rfl)
        have a3 : wr.cell? ⟨g, o + k * 7 + 3, none⟩ = some (.int .i64 x3) := kid_cell hg (hc 3 _ rfl)
        have a4 : wr.cell? ⟨g, o + k * 7 + 4, none⟩ = some (.string ⟨x4.toArray⟩) := kid_cell hg (hc 4 _ rfl)
        have a5 : wr.cell? ⟨g, o + k * 7 + 5, none⟩ = some (.slice q x5.length cq) := kid_cell hg (hc 5 _ rfl)
        have a6 : wr.cell? ⟨g, o + k * 7 + 6, none⟩ = some (.int .i64 x6) := kid_cell hg (hc 6 _ rfl)
        have al := (Array.getElem?_eq_some_iff.1 hg).1
        have b0 : wr.cell? ⟨g', o' + k * 7, none⟩ = some (.int .i64 y0) := kid_cell hg' (hc' 0 _ rfl)
        have b1 : wr.cell? ⟨g', o' + k * 7 + 1, none⟩ = some (.int .i64 y1) := kid_cell hg' (hc' 1 _ rfl)
        have b2 : wr.cell? ⟨g', o' + k * 7 + 2, none⟩ = some (.int .i64 y2) := kid_cell hg' (hc' 2 _ rfl)
        have b3 : wr.cell? ⟨g', o' + k * 7 + 3, none⟩ = some (.int .i64 y3) := kid_cell hg' (hc' 3 _ rfl)
        have b4 : wr.cell? ⟨g', o' + k * 7 + 4, none⟩ = some (.string ⟨y4.toArray⟩) := kid_cell hg' (hc' 4 _ rfl)
        have b5 : wr.cell? ⟨g', o' + k * 7 + 5, none⟩ = some (.slice r y5.length cr) := kid_cell hg' (hc' 5 _ rfl)
        have b6 : wr.cell? ⟨g', o' + k * 7 + 6, none⟩ = some (.int .i64 y6) := kid_cell hg' (hc' 6 _ rfl)
        have bl := (Array.getElem?_eq_some_iff.1 hg').1
        clear hc hc' hg hg'
        have HBY : Hid (Below wr.heap.size wr ((wr.alloc (.cells #[.int .i64 x0, .int .i64 x1, .int .i64 x2, .int .i64 x3, .string ⟨x4.toArray⟩, .slice q x5.length cq, .int .i64 x6] 24)).alloc (.cells #[.int .i64 y0, .int .i64 y1, .int .i64 y2, .int .i64 y3, .string ⟨y4.toArray⟩, .slice r y5.length cr, .int .i64 y6] 24))) := ((Below.refl _ wr).alloc (Nat.le_refl _) _).alloc (by simp) _
        have HXB : Hid (Bk ((wr.alloc (.cells #[.int .i64 x0, .int .i64 x1, .int .i64 x2, .int .i64 x3, .string ⟨x4.toArray⟩, .slice q x5.length cq, .int .i64 x6] 24)).alloc (.cells #[.int .i64 y0, .int .i64 y1, .int .i64 y2, .int .i64 y3, .string ⟨y4.toArray⟩, .slice r y5.length cr, .int .i64 y6] 24)) wr.heap.size 24 #[.int .i64 x0, .int .i64 x1, .int .i64 x2, .int .i64 x3, .string ⟨x4.toArray⟩, .slice q x5.length cq, .int .i64 x6]) := (Bk.new wr _ _).alloc _
        have HYB : Hid (Bk ((wr.alloc (.cells #[.int .i64 x0, .int .i64 x1, .int .i64 x2, .int .i64 x3, .string ⟨x4.toArray⟩, .slice q x5.length cq, .int .i64 x6] 24)).alloc (.cells #[.int .i64 y0, .int .i64 y1, .int .i64 y2, .int .i64 y3, .string ⟨y4.toArray⟩, .slice r y5.length cr, .int .i64 y6] 24)) (wr.heap.size + 1) 24 #[.int .i64 y0, .int .i64 y1, .int .i64 y2, .int .i64 y3, .string ⟨y4.toArray⟩, .slice r y5.length cr, .int .i64 y6]) := by
          have := Bk.new (wr.alloc (.cells #[.int .i64 x0, .int .i64 x1, .int .i64 x2, .int .i64 x3, .string ⟨x4.toArray⟩, .slice q x5.length cq, .int .i64 x6] 24)) 24 #[.int .i64 y0, .int .i64 y1, .int .i64 y2, .int .i64 y3, .string ⟨y4.toArray⟩, .slice r y5.length cr, .int .i64 y6]
          rw [World.size_alloc] at this
          exact this
        go_upto_region 7 with fail
        have HCA := veil (unveil HSK ((wr.alloc (.cells #[.int .i64 x0, .int .i64 x1, .int .i64 x2, .int .i64 x3, .string ⟨x4.toArray⟩, .slice q x5.length cq, .int .i64 x6] 24)).alloc (.cells #[.int .i64 y0, .int .i64 y1, .int .i64 y2, .int .i64 y3, .string ⟨y4.toArray⟩, .slice r y5.length cr, .int .i64 y6] 24)) q r cq cr ((unveil HB).trans ((unveil HBY).mono (unveil HB).size)) ((unveil HD).below (unveil HBY)) ((unveil HD').below (unveil HBY)))
        have HBZ := veil ((unveil HB).trans ((unveil HBY).mono (unveil HB).size))
        have hszY : wr.heap.size ≤ ((wr.alloc (.cells #[.int .i64 x0, .int .i64 x1, .int .i64 x2, .int .i64 x3, .string ⟨x4.toArray⟩, .slice q x5.length cq, .int .i64 x6] 24)).alloc (.cells #[.int .i64 y0, .int .i64 y1, .int .i64 y2, .int .i64 y3, .string ⟨y4.toArray⟩, .slice r y5.length cr, .int .i64 y6] 24)).heap.size := (unveil HBY).size
        clear a0 b0 a1 b1 a2 b2 a3 b3 a4 b4 a5 b5 a6 b6 al bl HBY HSK HD HD' HB
        generalize ((wr.alloc (.cells #[.int .i64 x0, .int .i64 x1, .int .i64 x2, .int .i64 x3, .string ⟨x4.toArray⟩, .slice q x5.length cq, .int .i64 x6] 24)).alloc (.cells #[.int .i64 y0, .int .i64 y1, .int .i64 y2, .int .i64 y3, .string ⟨y4.toArray⟩, .slice r y5.length cr, .int .i64 y6] 24)) = W2 at *
        obtain ⟨⟨a0, a1, a2, a3, a4, a5, a6⟩, al, _⟩ := ex_cells (unveil HXB)
        obtain ⟨⟨b0, b1, b2, b3, b4, b5, b6⟩, bl, _⟩ := ex_cells (unveil HYB)
        simp only [exC, PE.is, PE.op, PE.k, PE.v, PE.nm, PE.l, PE.line] at HCA
        generalize smM (.mk x0 x1 x2 x3 x4 x5 x6) (.mk y0 y1 y2 y3 y4 y5 y6) = SM at *
        cases SM
        · have HF := veil (unveil HSM rfl)
          go_wp2_with (go_at_call 13; refine (unveil HCA).mono ?_; rintro e W3 ⟨rfl, hb⟩; have HB3 := veil ((unveil HBZ).trans (hb.mono (unveil HBZ).size)); clear hb)
          go_ret
          exact ⟨by rw [unveil HF]; rfl, unveil HB3⟩
        · have HF := veil (unveil HAK rfl)
          go_wp2_with (go_at_call 13; refine (unveil HCA).mono ?_; rintro e W3 ⟨rfl, hb⟩; have HB3 := veil ((unveil HBZ).trans (hb.mono (unveil HBZ).size)); clear hb)
          go_roundg (l.length - (k + 1))
          case measure => omega
          case rel => exact ⟨k + 1, rfl, by go_num, by omega, HB3, HF⟩
      · have hkk : ¬ (k : Int) < (l.length : Int) := by omega
        have HF := veil (unveil HSA (fun i h h' => unveil HA i h h' (by omega)))
        go_wp2_with fail
        go_ret
        exact ⟨by rw [unveil HF]; rfl, unveil HB⟩
  · have hne : ((l.length : Int) != (l'.length : Int)) = true := by simp; omega
    rw [smL_len l l' hn]
    go_enter Tryz.func28, Tryz.ntmps28
    go_wp2_with fail
    go_ret
    exact ⟨rfl, Below.refl _ _⟩
end Go.Proofs.YtmpkgjonbjpohaaGreatDoor
namespace Go.Proofs.YtmpkgjonbjpohaaGreatDoor
open Go Go.RowKit
set_option linter.unusedVariables false
set_option linter.unusedSimpArgs false

mutual
/-- No list within is too long. -/
def lnP : PE → Prop
  | .mk _ _ _ _ _ l _ => l.length ≤ 1000000000000000 ∧ lnL l
def lnL : List PE → Prop
  | [] => True
  | x :: l => lnP x ∧ lnL l
end
theorem lnL.at' : ∀ {l : List PE}, lnL l → ∀ (i : Nat) (h : i < l.length), lnP l[i]
  | [], _, _, h => by simp at h
  | x :: l, hl, 0, _ => by unfold lnL at hl; exact hl.1
  | x :: l, hl, i + 1, h => by unfold lnL at hl; exact hl.2.at' i (by simpa using h)
set_option maxRecDepth 100000 in
set_option maxHeartbeats 8000000 in
theorem same_any : ∀ (n : Nat) (x y : PE) (w : World), SizeOf.sizeOf x < n → lnP x → SmP w x y
  | 0, _, _, _, h, _ => absurd h (Nat.not_lt_zero _)
  | n + 1, .mk x0 x1 x2 x3 x4 x5 x6, .mk y0 y1 y2 y3 y4 y5 y6, w, hn, hl => fun V q r cq cr hbV hk hk' => by
    unfold lnP at hl
    have HBY : Hid (Below V.heap.size V ((V.alloc (.cells #[.int .i64 x0, .int .i64 x1, .int .i64 x2, .int .i64 x3, .string ⟨x4.toArray⟩, .slice q x5.length cq, .int .i64 x6] 24)).alloc (.cells #[.int .i64 y0, .int .i64 y1, .int .i64 y2, .int .i64 y3, .string ⟨y4.toArray⟩, .slice r y5.length cr, .int .i64 y6] 24))) := ((Below.refl _ V).alloc (Nat.le_refl _) _).alloc (by simp) _
    have HXB : Hid (Bk ((V.alloc (.cells #[.int .i64 x0, .int .i64 x1, .int .i64 x2, .int .i64 x3, .string ⟨x4.toArray⟩, .slice q x5.length cq, .int .i64 x6] 24)).alloc (.cells #[.int .i64 y0, .int .i64 y1, .int .i64 y2, .int .i64 y3, .string ⟨y4.toArray⟩, .slice r y5.length cr, .int .i64 y6] 24)) V.heap.size 24 #[.int .i64 x0, .int .i64 x1, .int .i64 x2, .int .i64 x3, .string ⟨x4.toArray⟩, .slice q x5.length cq, .int .i64 x6]) := (Bk.new V _ _).alloc _
    have HYB : Hid (Bk ((V.alloc (.cells #[.int .i64 x0, .int .i64 x1, .int .i64 x2, .int .i64 x3, .string ⟨x4.toArray⟩, .slice q x5.length cq, .int .i64 x6] 24)).alloc (.cells #[.int .i64 y0, .int .i64 y1, .int .i64 y2, .int .i64 y3, .string ⟨y4.toArray⟩, .slice r y5.length cr, .int .i64 y6] 24)) (V.heap.size + 1) 24 #[.int .i64 y0, .int .i64 y1, .int .i64 y2, .int .i64 y3, .string ⟨y4.toArray⟩, .slice r y5.length cr, .int .i64 y6]) := by
      have := Bk.new (V.alloc (.cells #[.int .i64 x0, .int .i64 x1, .int .i64 x2, .int .i64 x3, .string ⟨x4.toArray⟩, .slice q x5.length cq, .int .i64 x6] 24)) 24 #[.int .i64 y0, .int .i64 y1, .int .i64 y2, .int .i64 y3, .string ⟨y4.toArray⟩, .slice r y5.length cr, .int .i64 y6]
      rw [World.size_alloc] at this
      exact this
    have HE := veil (equal_any x5 y5 q r cq cr ((V.alloc (.cells #[.int .i64 x0, .int .i64 x1, .int .i64 x2, .int .i64 x3, .string ⟨x4.toArray⟩, .slice q x5.length cq, .int .i64 x6] 24)).alloc (.cells #[.int .i64 y0, .int .i64 y1, .int .i64 y2, .int .i64 y3, .string ⟨y4.toArray⟩, .slice r y5.length cr, .int .i64 y6] 24)) (hk.below (unveil HBY)).list (hk'.below (unveil HBY)).list hl.1 (fun i hi hi' => same_any n x5[i] y5[i] _ (by have := List.sizeOf_lt_of_mem (List.getElem_mem hi); simp at hn; omega) (hl.2.at' i hi)))
    clear hk hk' hbV hl hn
    rw [smM]
    simp only [exC, PE.is, PE.op, PE.k, PE.v, PE.nm, PE.l, PE.line]
    go_enter Tryz.func13, Tryz.ntmps13
    go_upto_region 1 with fail
    generalize ((V.alloc (.cells #[.int .i64 x0, .int .i64 x1, .int .i64 x2, .int .i64 x3, .string ⟨x4.toArray⟩, .slice q x5.length cq, .int .i64 x6] 24)).alloc (.cells #[.int .i64 y0, .int .i64 y1, .int .i64 y2, .int .i64 y3, .string ⟨y4.toArray⟩, .slice r y5.length cr, .int .i64 y6] 24)) = W2 at *
    obtain ⟨⟨a0, a1, a2, a3, a4, a5, a6⟩, al, _⟩ := ex_cells (unveil HXB)
    obtain ⟨⟨b0, b1, b2, b3, b4, b5, b6⟩, bl, _⟩ := ex_cells (unveil HYB)
    cases h0 : x0 == y0
    · go_wp2_with fail
      go_ret
      exact ⟨by simp only [h0, Bool.true_and, Bool.false_and]; rfl, unveil HBY⟩
    · skip
      cases h1 : x1 == y1
      · go_wp2_with fail
        go_ret
        exact ⟨by simp only [h0, h1, Bool.true_and, Bool.false_and]; rfl, unveil HBY⟩
      · skip
        cases h2 : x2 == y2
        · go_wp2_with fail
          go_ret
          exact ⟨by simp only [h0, h1, h2, Bool.true_and, Bool.false_and]; rfl, unveil HBY⟩
        · skip
          cases h3 : x3 == y3
          · go_wp2_with fail
            go_ret
            exact ⟨by simp only [h0, h1, h2, h3, Bool.true_and, Bool.false_and]; rfl, unveil HBY⟩
          · skip
            cases h4 : x4 == y4
            · go_wp2_with fail
              go_ret
              exact ⟨by simp only [h0, h1, h2, h3, h4, Bool.true_and, Bool.false_and]; rfl, unveil HBY⟩
            · skip
              generalize hSL : smL x5 y5 = SL at HE
              have HSL := veil hSL
              clear hSL
              go_wp2_with (go_at_call 28; refine (unveil HE).mono ?_; rintro e W3 ⟨rfl, hb⟩; have HB3 := veil ((unveil HBY).trans (hb.mono (unveil HBY).size)); clear hb)
              go_ret
              exact ⟨by simp only [h0, h1, h2, h3, h4, Bool.true_and, unveil HSL]; rfl, unveil HB3⟩
theorem Same_any (x y : PE) (w : World) (h : lnP x) : SmP w x y := same_any (SizeOf.sizeOf x + 1) x y w (by omega) h
end Go.Proofs.YtmpkgjonbjpohaaGreatDoor
namespace Go.Proofs.YtmpkgjonbjpohaaGreatDoor
open Go Go.RowKit
set_option linter.unusedVariables false
set_option linter.unusedSimpArgs false

theorem lnL_nil : lnL [] := by unfold lnL; trivial
theorem lnL_cons {x : PE} {l : List PE} (h : lnP x) (h2 : lnL l) : lnL (x :: l) := by unfold lnL; exact ⟨h, h2⟩
theorem lnL_one {x : PE} (h : lnP x) : lnL [x] := lnL_cons h lnL_nil
theorem lnL_of {x : PE} (h : lnL [x]) : lnP x := h.at' 0 (by simp)
theorem lnL_app : ∀ {l l' : List PE}, lnL l → lnL l' → lnL (l ++ l')
  | [], _, _, h => h
  | x :: l, l', h, h2 => by
    unfold lnL at h
    exact lnL_cons h.1 (lnL_app h.2 h2)
theorem lnP_mk {a b c d : Int} {s : List UInt8} {l : List PE} {n : Int} (h : l.length ≤ 1000000000000000) (h2 : lnL l) : lnP (.mk a b c d s l n) := by unfold lnP; exact ⟨h, h2⟩
theorem lnP_two {a b c d : Int} {s : List UInt8} {n : Int} {x y : PE} (h : lnP x) (h2 : lnP y) : lnP (.mk a b c d s [x, y] n) := lnP_mk (by simp) (lnL_cons h (lnL_one h2))
theorem lnP_joi {w : Wd} {x y : PE} (h : lnP x) (h2 : lnP y) : lnP (joiP w x y) := by
  unfold joiP
  split
  · exact lnP_two h h2
  · split
    · exact lnP_two h h2
    · split
      · exact lnP_mk (by simp) (lnL_one (lnP_two h h2))
      · split
        · exact lnP_mk (by simp) (lnL_one (lnP_two h h2))
        · exact lnP_two h h2
def kdA (p : Nat) : Kd → Prop
  | .lop _ e => lnP e
  | .arg acc => lnL acc ∧ acc.length ≤ p
  | _ => True
theorem gM_ln (N : Nat → Wd) : ∀ (f : Nat) (k : Kd) (p : Nat) (cr : List Int) (o : Option (List PE)) (p' : Nat) (cr' : List Int), gM N f k p cr = some (o, p', cr') → p' < 1000000000000000 → kdA p k → ∀ l, o = some l → lnL l ∧ l.length ≤ p' + 1
  | 0, _, _, _, _, _, _, h, _, _, _, _ => by cases h
  | f + 1, k, p, cr, o, p', cr', h, hp, hk, l, ho => by
    subst ho
    have ih : ∀ {k : Kd} {p : Nat} {cr : List Int} {l : List PE} {p' : Nat} {cr' : List Int}, gM N f k p cr = some (some l, p', cr') → p' < 1000000000000000 → kdA p k → lnL l ∧ l.length ≤ p' + 1 := fun h hp hk => gM_ln N f _ _ _ _ _ _ h hp hk _ rfl
    have mo : ∀ {k : Kd} {p : Nat} {cr : List Int} {o : Option (List PE)} {p' : Nat} {cr' : List Int}, gM N f k p cr = some (o, p', cr') → p ≤ p' := fun h => (gM_cr N f _ _ _ _ _ _ h).1
    have on : ∀ {x : PE} {q : Nat}, lnP x → lnL [x] ∧ [x].length ≤ q + 1 := fun h => ⟨lnL_one h, by simp⟩
    cases k with
    | lev i => cases i with
      | zero => rw [gM] at h; exact ih h hp trivial
      | succ i =>
        rw [gM] at h
        rcases bnd_any h with ⟨e, p1, c1, h1, h2⟩ | ⟨o1, h1, h2⟩
        · exact ih h2 hp (lnL_of (ih h1 (by have := mo h2; omega) trivial).1)
        · cases h2
    | lop i e =>
      rw [gM] at h
      split at h
      · rcases bnd_any h with ⟨e2, p1, c1, h1, h2⟩ | ⟨o1, h1, h2⟩
        · exact ih h2 hp (lnP_joi hk (lnL_of (ih h1 (by have := mo h2; omega) trivial).1))
        · cases h2
      · cases h; exact on hk
    | exp =>
      rw [gM] at h
      rcases bnd_any h with ⟨e, p1, c1, h1, h2⟩ | ⟨o1, h1, h2⟩
      · split at h2
        · rcases bnd_any h2 with ⟨e2, p2, c2, h3, h4⟩ | ⟨o2, h3, h4⟩
          · split at h4
            · rcases bnd_any h4 with ⟨e3, p3, c3, h5, h6⟩ | ⟨o3, h5, h6⟩
              · cases h6
                have m5 := mo h5
                have m3 := mo h3
                exact on (lnP_mk (by simp) (lnL_cons (lnL_of (ih h1 (by omega) trivial).1) (lnL_cons (lnL_of (ih h3 (by omega) trivial).1) (lnL_one (lnL_of (ih h5 (by omega) trivial).1)))))
              · cases h6
            · cases h4
          · cases h4
        · cases h2; exact on (lnL_of (ih h1 hp trivial).1)
      · cases h2
    | one =>
      rw [gM] at h
      split at h
      · exact ih h hp trivial
      · split at h
        · rcases bnd_any h with ⟨e, p1, c1, h1, h2⟩ | ⟨o1, h1, h2⟩
          · cases h2; exact on (lnP_mk (by simp) (lnL_one (lnL_of (ih h1 hp trivial).1)))
          · cases h2
        · split at h
          · split at h
            · exact ih h hp trivial
            · rcases bnd_any h with ⟨e, p1, c1, h1, h2⟩ | ⟨o1, h1, h2⟩
              · split at h2
                · cases h2; exact on (lnL_of (ih h1 (by omega) trivial).1)
                · cases h2
              · cases h2
          · exact ih h hp trivial
    | kw line acc =>
      rw [gM] at h
      split at h
      · exact ih h hp trivial
      · split at h
        · rcases bnd_any h with ⟨e, p1, c1, h1, h2⟩ | ⟨o1, h1, h2⟩
          · cases h2; exact on (lnP_mk (by simp) (lnL_one (lnL_of (ih h1 hp trivial).1)))
          · cases h2
        · cases h
    | alone =>
      rw [gM] at h
      split at h
      · cases h; exact on (lnP_mk (by simp) lnL_nil)
      · split at h
        · split at h
          · rcases bndL_any h with ⟨e, p1, c1, h1, h2⟩ | ⟨o1, h1, h2⟩
            · cases h2
              obtain ⟨a1, a2⟩ := ih h1 hp trivial
              exact on (lnP_mk (by omega) a1)
            · cases h2
          · cases h; exact on (lnP_mk (by simp) lnL_nil)
        · cases h
    | args =>
      rw [gM] at h
      split at h
      · cases h; exact ⟨lnL_nil, by simp⟩
      · exact ih h hp ⟨lnL_nil, by simp⟩
    | arg acc =>
      rw [gM] at h
      obtain ⟨k1, k2⟩ := hk
      rcases bnd_any h with ⟨e, p1, c1, h1, h2⟩ | ⟨o1, h1, h2⟩
      · have m1 := mo h1
        split at h2
        · have m2 := mo h2
          exact ih h2 hp ⟨lnL_app k1 (lnL_one (lnL_of (ih h1 (by omega) trivial).1)), by simp; omega⟩
        · split at h2
          · cases h2
            exact ⟨lnL_app k1 (lnL_one (lnL_of (ih h1 (by omega) trivial).1)), by simp; omega⟩
          · cases h2
      · cases h2
/-- What an expression is read as may be held against another one. -/
theorem exp_ln {N : Nat → Wd} {f p p' : Nat} {cr cr' : List Int} {x : PE} (h : gM N f .exp p cr = some (some [x], p', cr')) (hp : p' ≤ 1000000) : lnP x := lnL_of (gM_ln N f _ _ _ _ _ _ h (by omega) trivial _ rfl).1
end Go.Proofs.YtmpkgjonbjpohaaGreatDoor
namespace Go.Proofs.YtmpkgjonbjpohaaGreatDoor
open Go Go.RowKit
set_option linter.unusedVariables false
set_option linter.unusedSimpArgs false

theorem smM_self : ∀ (n : Nat) (x : PE), SizeOf.sizeOf x < n → smM x x = true
  | 0, _, h => absurd h (Nat.not_lt_zero _)
  | n + 1, .mk a b c d s l ln, h => by
    rw [smM, smL_all l l rfl (fun i hi _ => smM_self n l[i] (by have := List.sizeOf_lt_of_mem (List.getElem_mem hi); simp at h; omega))]
    simp
theorem smM_refl (x : PE) : smM x x = true := smM_self _ x (Nat.lt_succ_self _)
end Go.Proofs.YtmpkgjonbjpohaaGreatDoor
