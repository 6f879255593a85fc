/-
  Package class: putInRegisters.
-/
import Derived.Test.YtaffldhmgifdoaaIf
import Derived.Test.YtaffldhmgifdoaaIe
import Derived.Maps.AppendAt
namespace Go.Proofs.Ytaffldhmgifdoaa
open Go Go.RowKit Go.Shelf
attribute [local go_sem] Oper.semAt_some
set_option linter.unusedVariables false
set_option linter.unusedSimpArgs false

theorem hmixP : Try.prog.follows .mixedOrders = true := by kernel_rfl
/-- A place. -/
structure Lc where
  arg : Int
  eight : Int
  reg : Int
  off : Int
def lcC (m : Lc) : List Value := [.int .i64 m.arg, .int .i64 m.eight, .int .i64 m.reg, .int .i64 m.off]
def lcCs (l : List Lc) : List Value := l.flatMap lcC
theorem lcCs_snoc (l : List Lc) (m : Lc) : lcCs (l ++ [m]) = lcCs l ++ lcC m := by simp [lcCs]
theorem infoLc : (Try.prog.info? 75).map (fun i => (i.zero, i.size, i.bytes)) = some (some (.agg #[.int .i64 0, .int .i64 0, .int .i64 0, .int .i64 0]), 4, 32) := by kernel_rfl
theorem lc_cells (W : World) (m : Lc) (ty : TypeId) : ∀ (j : Nat) (u : Value), (lcC m)[j]? = some u → (W.alloc (.cells (lcC m).toArray ty)).cell? ((⟨W.heap.size, 0, none⟩ : Addr).add j) = some u := by
  intro j u h
  have hadd : (⟨W.heap.size, 0, none⟩ : Addr).add j = ⟨W.heap.size, j, none⟩ := by unfold Addr.add; split <;> simp_all
  rw [hadd, Bk.cell (Bk.new W ty _)]
  simpa using h
/-- What a call that finds places leaves as it was. -/
structure FrP (Pb : Nat) (A B : World) : Prop where
  be : Below Pb A B
  bk : ∀ j T cs, T ≠ 75 → T ≠ 125 → Bk A j T cs → Bk B j T cs
theorem FrP.trans {Pb : Nat} {A B C : World} (h : FrP Pb A B) (k : FrP Pb B C) : FrP Pb A C := ⟨h.be.trans k.be, fun j T cs h1 h2 b => k.bk j T cs h1 h2 (h.bk j T cs h1 h2 b)⟩
theorem FrP.below {Pb : Nat} {A B : World} (h : Below A.heap.size A B) (hp : Pb ≤ A.heap.size) : FrP Pb A B := ⟨h.mono hp, fun j T cs _ _ b => b.below h⟩
theorem FrP.size {Pb : Nat} {A B : World} (h : FrP Pb A B) : A.heap.size ≤ B.heap.size := h.be.size
theorem FrP.is {Pb : Nat} {A B : World} (h : FrP Pb A B) {p : Option Addr} {l : List Int} (hi : IsG A.heap.size A p l) : IsG B.heap.size B p l :=
  hi.keep (fun j cs b => h.bk j _ cs (by decide) (by decide) b) h.size
/-- Places so far: the list, the registers, the bytes. -/
def PlG (Pb : Nat) (st : List Lc × Int × Int) (W : World) : Prop := ∃ v, Bk W Pb 125 #[v, .int .i64 st.2.1, .int .i64 st.2.2] ∧ W.ownsRow Pb 75 4 v st.1.length (lcCs st.1)
theorem PlG.below {Pb : Nat} {st : List Lc × Int × Int} {W W' : World} (h : PlG Pb st W) (hb : Below W.heap.size W W') : PlG Pb st W' := by
  obtain ⟨v, b, r⟩ := h
  exact ⟨v, b.below hb, ownsRow_belowS r hb⟩
theorem PlG.push {Pb : Nat} {W Wb W6 : World} {v v6 u s : Value} {n m : Nat} {xs ys : List Value} (hb : Bk W Pb 125 #[v, u, s]) (hB : Below W.heap.size W Wb) (hr : Wb.ownsRow Pb 75 4 v n xs)
    (hg : Wb.grownBy W6 v.ownBlock) (h6 : W6.ownsRow Pb 75 4 v6 m ys) :
    Bk (W6.setCell ⟨Pb, 0, none⟩ v6) Pb 125 #[v6, u, s] ∧ (W6.setCell ⟨Pb, 0, none⟩ v6).ownsRow Pb 75 4 v6 m ys ∧ FrP Pb W (W6.setCell ⟨Pb, 0, none⟩ v6) := by
  have hl := hb.lt
  have h0 := hb.below hB
  have h1 : Bk W6 Pb 125 #[v, u, s] := h0.rowG hr hg (by decide)
  have h2 := h1.set 0 v6
  simp only [List.setIfInBounds_toArray, List.set_cons_zero] at h2
  refine ⟨h2, ownsRow_setS h6 h1 (by decide) _, ?_, fun j T cs hT hP b => ?_⟩
  · exact ((hB.mono (by omega)).grown hg (by have := hB.size; omega) (fun r e => (row_turnS hr r e).1)).setCell (p := ⟨Pb, 0, none⟩) (Nat.le_refl _) _
  · have b1 := (b.below hB).rowG hr hg hT
    exact b1.other _ _ (fun e => (b1.ne h1 hP) e)
theorem PlG.used {Pb : Nat} {W : World} {v u s u' : Value} {n : Nat} {xs : List Value} (hb : Bk W Pb 125 #[v, u, s]) (hr : W.ownsRow Pb 75 4 v n xs) (i : Nat) :
    (W.setCell ⟨Pb, i, none⟩ u').ownsRow Pb 75 4 v n xs ∧ FrP Pb W (W.setCell ⟨Pb, i, none⟩ u') :=
  ⟨ownsRow_setS hr hb (by decide) _, (Below.refl _ W).setCell (p := ⟨Pb, i, none⟩) (Nat.le_refl _) _, fun j T cs hT hP b => b.other _ _ (fun e => (b.ne hb hP) e)⟩
/-- Registers for an argument's eights. -/
def regS (arg : Int) (k : Nat) (s : List Lc × Int) (c : Int) : List Lc × Int := if c == 1 then (s.1 ++ [⟨arg, k, s.2, 0⟩], s.2 + 1) else s
def regK (arg : Int) (cl : List Int) (s0 : List Lc × Int) : Nat → List Lc × Int
  | 0 => s0
  | k + 1 => regS arg k (regK arg cl s0 k) (cl.getD k 0)
theorem regK_bnd (arg : Int) (cl : List Int) (s0 : List Lc × Int) : ∀ k, (regK arg cl s0 k).1.length ≤ s0.1.length + k ∧ s0.2 ≤ (regK arg cl s0 k).2 ∧ (regK arg cl s0 k).2 ≤ s0.2 + k
  | 0 => ⟨Nat.le_refl _, Int.le_refl _, by simp [regK]⟩
  | k + 1 => by
    obtain ⟨h1, h2, h3⟩ := regK_bnd arg cl s0 k
    rw [regK, regS]
    split
    · refine ⟨?_, ?_, ?_⟩
      · simp only [List.length_append, List.length_cons, List.length_nil]; omega
      · simp only; omega
      · simp only; omega
    · omega
set_option maxRecDepth 100000 in
set_option maxHeartbeats 20000000 in
theorem putInRegisters_any (arg z a : Int) (cl : List Int) (p : Option Addr) (c : Nat) (Pb : Nat) (L : List Lc) (us sk : Int) (w : World) (hl : cl.length ≤ 1000) (hus : 0 ≤ us ∧ us ≤ 1000) (hL : L.length ≤ 1000000) (hs : IsG w.heap.size w p cl) (hp : PlG Pb (L, us, sk) w) :
    Calls Try.prog 106 #[.pointer (some ⟨Pb, 0, none⟩), .int .i64 arg, .agg #[.int .i64 z, .int .i64 a, .slice p cl.length c]] w
      fun e w' => (∃ v, e = .returned v) ∧ PlG Pb ((regK arg cl (L, us) cl.length).1, (regK arg cl (L, us) cl.length).2, sk) w' ∧ FrP Pb w w' := by
  have hPl : Pb < w.heap.size := by obtain ⟨v, b, _⟩ := hp; exact b.lt
  have HB := veil (new1_below w (.cells #[.int .i64 z, .int .i64 a, .slice p cl.length c] 119))
  have HS0 : Hid (IsG w.heap.size (w.alloc (.cells #[.int .i64 z, .int .i64 a, .slice p cl.length c] 119)) p cl) := hs.below (unveil HB)
  have HP0 := veil (hp.below (unveil HB))
  have HV0 := veil (Bk.new w 119 #[.int .i64 z, .int .i64 a, .slice p cl.length c])
  have HFR : Hid (FrP Pb w (w.alloc (.cells #[.int .i64 z, .int .i64 a, .slice p cl.length c] 119))) := FrP.below (unveil HB) (by omega)
  have hsz : (w.alloc (.cells #[.int .i64 z, .int .i64 a, .slice p cl.length c] 119)).heap.size = w.heap.size + 1 := by simp
  have HRB := veil (regK_bnd arg cl (L, us))
  obtain ⟨hus0, hus1⟩ := hus
  clear hs hp
  go_enter Try.func106, Try.ntmps106
  go_upto_region 1 with fail
  generalize (w.alloc (.cells #[.int .i64 z, .int .i64 a, .slice p cl.length c] 119)) = W0 at *
  have q2 := (unveil HV0).cell 2
  simp only [List.getElem?_toArray, List.getElem?_cons_succ, List.getElem?_cons_zero] at q2
  have hv0 := (unveil HV0).lt
  go_wp2
  clear q2
  go_loopw [11] (fun i wr => ∃ (k : Nat), i = .int .i64 k ∧ k ≤ cl.length ∧ Hid (PlG Pb ((regK arg cl (L, us) k).1, (regK arg cl (L, us) k).2, sk) wr) ∧ Hid (FrP Pb W0 wr)) (fun i wr => cl.length - (intOf i).toNat)
  case atStart => exact ⟨0, rfl, Nat.zero_le _, HP0, veil ⟨Below.refl _ _, fun _ _ _ _ _ h => h⟩⟩
  case round =>
    obtain ⟨k, rfl, hk, hpl, hfr⟩ := hrel
    by_cases hkl : k < cl.length
    · have hkk : (k : Int) < (cl.length : Int) := by omega
      obtain ⟨g, o, cs, rfl, hg, hbk, hcs⟩ := (unveil HS0) k hkl
      have hbk2 := (unveil hfr).bk g _ cs (by decide) (by decide) hbk
      have ck := hbk2.cell (o + k)
      rw [hcs] at ck
      have hgl := hbk2.lt
      have hgd : cl.getD k 0 = cl[k] := by rw [List.getD_eq_getElem?_getD, List.getElem?_eq_getElem hkl]; rfl
      have HST : Hid (regK arg cl (L, us) (k + 1) = regS arg k (regK arg cl (L, us) k) cl[k]) := by unfold Hid; rw [regK, hgd]
      obtain ⟨b1, b2, b3⟩ := unveil HRB k
      try simp only at b1 b2 b3
      generalize cl[k] = x at *
      clear hbk hbk2 hcs hgd hg
      cases hx : x == 1
      · go_wp2
        go_roundw
        case rel =>
          refine ⟨k + 1, by go_num, by omega, ?_, hfr⟩
          rw [unveil HST, regS, hx]
          exact hpl
        case measure => simp [intOf]; omega
      · have hx1 : x = 1 := by simpa using hx
        subst hx1
        have HST2 : Hid (regK arg cl (L, us) (k + 1) = ((regK arg cl (L, us) k).1 ++ [⟨arg, k, (regK arg cl (L, us) k).2, 0⟩], (regK arg cl (L, us) k).2 + 1)) := by unfold Hid; rw [unveil HST]; rfl
        obtain ⟨v, hb, hr⟩ := unveil hpl
        simp only at hb hr
        generalize regK arg cl (L, us) k = R at *
        obtain ⟨RL, Ru⟩ := R
        simp only at *
        obtain ⟨q, cq, rfl⟩ := row_slice hr
        have hPW := hb.lt
        go_upto_region 5 with fail
        clear ck
        have HBB := veil hb
        have HRR := veil hr
        have HCC : Hid (∀ W, Hid (Bk W Pb 125 #[.slice q RL.length cq, .int .i64 Ru, .int .i64 sk]) → W.cell? ⟨Pb, 0, none⟩ = some (.slice q RL.length cq) ∧ W.cell? ⟨Pb, 1, none⟩ = some (.int .i64 Ru)) := fun W h => ⟨(unveil h).cell 0, (unveil h).cell 1⟩
        clear hb hr
        refine wp_region_noPanic (wpIn_wide.1 (wpIn_region_mix (ro := none) (n := 0) (fun w' => Hid (Bk w' Pb 125 #[.slice q RL.length cq, .int .i64 Ru, .int .i64 sk]))
          [(0, true), (1, true), (2, true), (3, true), (4, true), (5, true), (6, true), (7, true), (8, true), (9, true), (10, true), (11, true), (12, false), (13, false)]
          14 hmixP (by kernel_rfl) (by kernel_rfl) (by kernel_rfl) (by kernel_rfl) (by kernel_rfl) (by kernel_rfl) (fun _ _ _ _ h => h) (veil (unveil HBB)) ?_))
        iterate 11 (
          refine mix_pure _ rfl _ (.inl ⟨rfl, fun W hS => (by obtain ⟨x0, x1⟩ := unveil HCC W hS; go_simp; rfl)⟩) (fun B hB => ?_)
          simp only [Act.put, List.setIfInBounds_toArray, List.set_cons_zero, List.set_cons_succ] at hB
          subst hB)
        refine mix_pure _ rfl (.agg #[.int .i64 arg, .int .i64 (k : Int), .int .i64 Ru, .int .i64 0]) (.inl ⟨rfl, fun W hS => (by go_simp)⟩) (fun B hB => ?_)
        simp only [List.getElem_toArray, List.getElem_cons_zero, List.getElem_cons_succ, Act.put, List.setIfInBounds_toArray, List.set_cons_zero, List.set_cons_succ] at hB
        subst hB
        refine mix_sole _ rfl (fun K hK => ?_)
        go_simp
        have hBa : Below wr.heap.size wr (wr.alloc (.cells #[.int .i64 arg, .int .i64 (k : Int), .int .i64 Ru, .int .i64 0] 75)).drew := ((Below.refl _ wr).alloc (Nat.le_refl _) _).drew
        refine hK _ _ (veil ((unveil HBB).below hBa)) ?_
        clear hK K
        have hrowa := ownsRow_belowS (unveil HRR) hBa
        refine mix_sole _ rfl (fun K hK => ?_)
        obtain ⟨i0, hi, hq0, hq1, hq2⟩ := info_parts infoLc
        refine stepIn_append (by rfl) _ _ 69 (by rfl) Pb 75 i0 _ 4 32 Try.underlying69 hi hq0 hq1 hq2 rfl (by decide) (.slice q RL.length cq) RL.length (lcCs RL) (by rfl) hrowa ⟨wr.heap.size, 0, none⟩ 1 1 (lcC ⟨arg, k, Ru, 0⟩) (by rfl) rfl (lc_cells wr ⟨arg, k, Ru, 0⟩ 75) (by intro u hu; simp [lcC] at hu; rcases hu with rfl | rfl | rfl | rfl <;> rfl) (by unfold maxLen; omega) (by omega) (by simp; omega) ?_
        intro v6 W6 hown6 hg6
        obtain ⟨q6, c6, rfl⟩ := row_slice hown6
        have hB6 : Bk W6 Pb 125 #[.slice q RL.length cq, .int .i64 Ru, .int .i64 sk] := ((unveil HBB).below hBa).rowG hrowa hg6 (by decide)
        refine hK _ _ (veil hB6) ?_
        clear hK K
        refine mix_nil ?_
        have p0c := hB6.cell 0
        simp only [List.getElem?_toArray, List.getElem?_cons_zero] at p0c
        have p0f := hB6.frozen 0
        have p0l := hB6.lt
        obtain ⟨m1, m2, m3⟩ := PlG.push (unveil HBB) hBa hrowa hg6 hown6
        have M1 := veil m1
        have M2 := veil m2
        have M3 := veil m3
        clear m1 m2 m3 hB6 hown6 hg6 hi hq0 hq1 hq2 hrowa hBa
        iterate 2 (
          refine wpListIn_plain rfl (fun K hK => ?_)
          go_simp
          refine hK _ _ ?_
          clear hK K)
        refine listIn_last rfl (fun K hK => ?_)
        go_simp
        refine hK _ _ ?_
        clear hK K p0c p0f
        generalize W6.setCell ⟨Pb, 0, none⟩ (.slice q6 (RL.length + 1) c6) = W7 at *
        have u1 := (unveil M1).cell 1
        simp only [List.getElem?_toArray, List.getElem?_cons_succ, List.getElem?_cons_zero] at u1
        have u1f := (unveil M1).frozen 1
        have u1l := (unveil M1).lt
        go_wp2
        obtain ⟨n1, n2⟩ := PlG.used (unveil M1) (unveil M2) (u' := .int .i64 (Ru + 1)) 1
        have n3 := (unveil M1).set 1 (.int .i64 (Ru + 1))
        simp only [List.setIfInBounds_toArray, List.set_cons_zero, List.set_cons_succ] at n3
        go_roundw
        case rel =>
          refine ⟨k + 1, by go_num, by omega, ?_, (unveil hfr).trans ((unveil M3).trans n2)⟩
          rw [unveil HST2]
          refine ⟨.slice q6 (RL.length + 1) c6, n3, ?_⟩
          simp only [List.length_append, List.length_cons, List.length_nil, lcCs_snoc]
          exact n1
        case measure => simp [intOf]; omega
    · obtain rfl : k = cl.length := by omega
      go_wp2
      refine bodyPost_end (results_none (fn := Try.f106) rfl _ _ _) rfl ?_
      exact ⟨⟨_, rfl⟩, unveil hpl, (unveil HFR).trans (unveil hfr)⟩
end Go.Proofs.Ytaffldhmgifdoaa
