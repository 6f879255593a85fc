/-
  burinref11.walk: of members: numbers.
-/
import Derived.Test.YtkiebejidpebdaaTj
namespace Go.Proofs.Ytkiebejidpebdaa
open Go Go.RowKit Go.Shelf
set_option linter.unusedVariables false
set_option linter.unusedSimpArgs false

/-- The member at a place: how it lies, in the document's list. -/
theorem mem_at {d e : Nat} {x : ShT × Int × Int} {k : Nat} (hde : e = d + 1) (hd : d ≤ 5) (h : RiN e x) (hs : x.1.sh = 4 ∨ x.1.sh = 5) (hk : k < x.1.fs.length) :
    ∃ z : Mb, (ofL x.1)[k]? = some z ∧ 0 ≤ z.bit ∧ (ptsM x.1)[k]? = some (x.1.fs[k].t, z.bit, z.bits) ∧ (x.1.fs[k].bits < 0 → RiN d (x.1.fs[k].t, z.bit, z.bits)) ∧ (0 < x.1.fs[k].bits → x.1.fs[k].t.sh = 1 ∧ z.k = x.1.fs[k].t.k) ∧ z.bit + z.bits ≤ x.2.2 ∧ 0 ≤ z.bits := by
  obtain ⟨h1, h2, hz⟩ := h
  obtain ⟨hc, h6⟩ := chk_of (by omega) h1 hz
  obtain ⟨_, _, _, _, _, _, hfl, hll, hli⟩ := lies_facts x.1 h6 hs _ _ hc
  have hk' : k < (x.1.ml (meaM 5)).length := by omega
  obtain ⟨e1, L⟩ := hli k hk hk'
  have hmem : (x.1.ml (meaM 5))[k] ∈ x.1.ml (meaM 5) := List.getElem_mem hk'
  have hle2 : (x.1.ml (meaM 5))[k].2.bit + (x.1.ml (meaM 5))[k].2.bits ≤ x.2.2 := by
    have := L.le
    omega
  have hb0 := L.b0
  have hchk := L.chk
  clear hli L
  subst hde
  obtain ⟨hf, hp⟩ := rig_form h1
  have h3 : (x.1.sh == 3) = false := by simp; omega
  have hff : ffsM x.1.fs = true := (form_struct hf (by simp; omega) (by simp; omega) h3).2.2.2.2.2
  have hok : ∀ f ∈ x.1.fs, FOk f (meaM 5 f.t) := fun f hfm => by
    have hr5 : rigM 5 f.t = true := (rig_le (by omega) (hp f.t (fs_part hfm))).1
    exact fok_of (d := 5) (fun x hx => mea_ok 5 x hx) ((ffs_all hff).2.2.1 f hfm) hr5
  obtain ⟨_, en, h0, _, hlay⟩ := ml_mem (meaM 5) x.1.pk (x.1.sh == 4) x.1.fs 0 (Int.le_refl 0) hok _ hmem
  have hL : ofL x.1 = (x.1.ml (meaM 5)).map Prod.snd := by
    unfold ofL
    rw [hc, if_pos (by rfl), boxL, if_neg (by simp; omega)]
  refine ⟨(x.1.ml (meaM 5))[k].2, by rw [hL, List.getElem?_map, List.getElem?_eq_getElem hk', Option.map_some], hb0, ?_, fun hneg => ?_, fun hpos => ?_, hle2, ?_⟩
  · unfold ptsM
    rw [List.getElem?_map, List.getElem?_eq_getElem hk', Option.map_some, e1]
  · have hfm : x.1.fs[k] ∈ x.1.fs := List.getElem_mem hk
    have hrd := hp _ (fs_part hfm)
    obtain ⟨hr5, hm5⟩ := rig_le (e := 5) (by omega) hrd
    have hc5 := hchk
    unfold RiN
    simp only
    refine ⟨hrd, ?_, ?_⟩
    · rw [hlay, e1]
      unfold layM
      rw [if_neg (by omega), hm5]
    · rw [← hm5]
      obtain ⟨_, e6⟩ := rig_le (e := 6) (by omega) hr5
      have hz5 : (chkM x.1.fs[k].t).2 = 0 := by rw [hc5]
      have hsm := chk_small (t := x.1.fs[k].t) (by rw [hz5]; rfl)
      rw [← e6]
      exact hsm
  · have hffk := (ffs_all hff).2.2.1 _ (List.getElem_mem hk)
    unfold ffM at hffk
    rw [if_neg (by omega), if_neg (by simp; intro h; omega)] at hffk
    simp only [Bool.and_eq_true, beq_iff_eq, decide_eq_true_eq] at hffk
    refine ⟨hffk.1, ?_⟩
    rw [hlay]
    unfold layM layB
    rw [e1, if_pos (by omega)]
  · rw [hlay, e1]
    unfold layM
    split
    · unfold layB
      show 0 ≤ x.1.fs[k].bits
      omega
    · have hrd := hp _ (fs_part (List.getElem_mem hk))
      obtain ⟨hr5, hm5⟩ := rig_le (e := 5) (by omega) hrd
      have := mea_pos 5 _ hr5
      simp only
      omega
/-- What a step does, by the member's bits. -/
theorem stp_mem {x : ShT × Int × Int} {k : Nat} (hs : x.1.sh = 4 ∨ x.1.sh = 5) (hk : k < x.1.fs.length) {y : ShT × Int × Int} (hy : (ptsM x.1)[k]? = some y) :
    stpM x k = if x.1.fs[k].bits = 0 then none else some (k, y, y.2.1) := by
  have h3 : (x.1.sh == 3) = false := by simp; omega
  have h45 : (x.1.sh == 4 || x.1.sh == 5) = true := by simpa using hs
  have hprt : prtM x = ptsM x.1 := by unfold prtM; rw [if_neg (by rw [h3]; simp)]
  have hm : memB x.1 k = !(x.1.fs[k].bits == 0) := by
    unfold memB
    rw [if_neg (by omega)]
    simp only [Int.toNat_natCast, List.getElem?_eq_getElem hk]
  unfold stpM
  rw [if_neg (by rw [h3]; simp), if_pos h45, hm, hprt]
  simp only [Int.toNat_natCast, hy]
  by_cases h : x.1.fs[k].bits = 0
  · simp [h]
  · simp [h]
theorem stp_out {x : ShT × Int × Int} {s : Int} (hs : x.1.sh = 4 ∨ x.1.sh = 5) (h : s ≥ x.1.fs.length) : stpM x s = none := by
  have h3 : (x.1.sh == 3) = false := by simp; omega
  have h45 : (x.1.sh == 4 || x.1.sh == 5) = true := by simpa using hs
  have hm : memB x.1 s = false := by
    unfold memB
    rw [if_neg (by omega), List.getElem?_eq_none (by omega)]
  unfold stpM
  rw [if_neg (by rw [h3]; simp), if_pos h45, hm]
  rfl
theorem fin3 {w W : World} {t : ShT} {v : Value} {n : Nat} {xs : List Value} (hf : FdS w W t) (ho : W.ownsRow w.heap.size 103 4 v n xs) (a b c : Value) : ∀ W', W' = ((W.setCell ⟨w.heap.size + 1, 0, none⟩ a).setCell ⟨w.heap.size + 1, 1, none⟩ b).setCell ⟨w.heap.size + 1, 2, none⟩ c →
    Bk W' (w.heap.size + 1) 42 #[a, b, c] ∧ Below w.heap.size w W' ∧ W'.ownsRow w.heap.size 103 4 v n xs := fun W' e => by
  obtain ⟨h1, h2⟩ := hf.fin a b c W' e
  subst e
  have z1 : Bk (W.setCell ⟨w.heap.size + 1, 0, none⟩ a) (w.heap.size + 1) 42 #[a, .int .i64 0, .int .i64 0] := hf.z.set 0 _
  have z2 : Bk ((W.setCell ⟨w.heap.size + 1, 0, none⟩ a).setCell ⟨w.heap.size + 1, 1, none⟩ b) (w.heap.size + 1) 42 #[a, b, .int .i64 0] := z1.set 1 _
  exact ⟨h1, h2, ownsRow_setS (ownsRow_setS (ownsRow_setS ho hf.z (by decide) _) z1 (by decide) _) z2 (by decide) _⟩
def ownU (x : ShT × Int × Int) (fr deep s : Int) : List (Int × Int × Int × Int) := if x.1.sh == 5 then [(fr / 8, x.2.2 / 8, deep, s)] else []
theorem own_le (x : ShT × Int × Int) (fr deep s : Int) : (ownU x fr deep s).length ≤ 1 := by unfold ownU; split <;> simp
/-- A bit-field, or none. -/
theorem RwP.bitf {w W : World} {x : ShT × Int × Int} {fr deep : Int} {r : List Int} {k : Nat} {q : Option Addr} {n cp : Nat} {z : Mb} (hs : x.1.sh = 4 ∨ x.1.sh = 5) (hk : k < x.1.fs.length) (hb : ¬ x.1.fs[k].bits < 0)
    (hy : (ptsM x.1)[k]? = some (x.1.fs[k].t, z.bit, z.bits)) (hpos : 0 < x.1.fs[k].bits → x.1.fs[k].t.sh = 1 ∧ z.k = x.1.fs[k].t.k)
    (ho : W.ownsRow w.heap.size 103 4 (.slice q n cp) (ownU x fr deep k).length (usCs (ownU x fr deep k))) (hbe : Below w.heap.size w W) (hdp : deep.toNat ≤ 19) :
    RwP w x fr deep (k :: r) (.returned (.tuple #[.agg #[.int .i64 (fr + z.bit), .int .i64 z.bits, .int .i64 z.k], .slice q n cp, .bool (decide (0 < x.1.fs[k].bits) && ((r.length : Int) + 1 == 1))])) W := by
  have hst := stp_mem hs hk hy
  have hol := own_le x fr deep k
  by_cases h0 : x.1.fs[k].bits = 0
  · rw [if_pos h0] at hst
    exact ⟨_, _, _, q, n, cp, _, by rw [okN_no hst, h0]; rfl, ho, hbe, fun h => (by rw [okN_no hst] at h; cases h), by omega⟩
  · rw [if_neg h0] at hst
    obtain ⟨p1, p2⟩ := hpos (by omega)
    obtain ⟨k1, k2, k3⟩ := okN_yes hst fr r
    have hd0 : decide (0 < x.1.fs[k].bits) = true := by simp; omega
    cases r with
    | nil =>
      have hn : okN (x.1.fs[k].t, z.bit, z.bits) (fr + z.bit) [] = true := by
        unfold okN folM nuM
        simp [p1]
      refine ⟨_, _, _, q, n, cp, _, by rw [k1]; simp only; rw [hn, hd0]; rfl, ho, hbe, fun _ => ⟨?_, ?_⟩, by omega⟩
      · rw [k2]
        unfold spN folM nuM
        simp [p1, p2]
      · rw [k3]
        unfold folM
        simp only [uniM, List.append_nil]
        rfl
    | cons c r =>
      have hn : okN (x.1.fs[k].t, z.bit, z.bits) (fr + z.bit) (c :: r) = false := by
        refine okN_no ?_ _ _
        unfold stpM
        simp [p1]
      have hne : (((c :: r).length : Int) + 1 == 1) = false := by simp; omega
      exact ⟨_, _, _, q, n, cp, _, by rw [k1]; simp only; rw [hn, hne, Bool.and_false], ho, hbe, fun h => (by rw [k1] at h; simp only at h; rw [hn] at h; cases h), by omega⟩
/-- A whole member: what is below it, and the union itself. -/
theorem RwP.whole {w W' : World} {x y : ShT × Int × Int} {fr deep s b : Int} {j : Nat} {r : List Int} {a1 a2 a3 : Int} {q' : Option Addr} {n' cp' : Nat} {U : List (Int × Int × Int × Int)} {B : Bool} (hst : stpM x s = some (j, y, b))
    (hB : B = okN y (fr + b) r) (hh : B = true → (a1, a2, a3) = spN y (fr + b) r ∧ U = uniM (deep + 1) (folM y (fr + b) r).1)
    (ho : W'.ownsRow w.heap.size 103 4 (.slice q' n' cp') (ownU x fr deep s ++ U).length (usCs (ownU x fr deep s ++ U))) (hbe : Below w.heap.size w W') (hdp : 0 ≤ deep) (hdp1 : deep ≤ 19) (hl : U.length ≤ 20 - (deep + 1).toNat) :
    RwP w x fr deep (s :: r) (.returned (.tuple #[.agg #[.int .i64 a1, .int .i64 a2, .int .i64 a3], .slice q' n' cp', .bool B])) W' := by
  obtain ⟨k1, k2, k3⟩ := okN_yes hst fr r
  have hol := own_le x fr deep s
  refine ⟨a1, a2, a3, q', n', cp', _, by rw [k1, hB], ho, hbe, fun h => ?_, by rw [List.length_append]; omega⟩
  rw [k1, ← hB] at h
  obtain ⟨e1, e2⟩ := hh h
  refine ⟨by rw [e1, k2], ?_⟩
  rw [k3, e2, uniM]
  rfl
theorem row_src {W : World} {base n m c size : Nat} {e : TypeId} {q : Option Addr} {xs : List Value} (h : W.ownsRow base e size (.slice q m c) n xs) :
    m = n ∧ (q = none → m = 0 ∧ c = 0) ∧ (∀ ad, q = some ad → ∀ (j : Nat) (u : Value), xs[j]? = some u → W.cell? (ad.add j) = some u) := by
  obtain ⟨_, ⟨h1, h0⟩ | ⟨g, cap, cur, he, hb, hg, hc, hm, hs, hx⟩⟩ := h
  · cases h1
    exact ⟨h0.symm, fun _ => ⟨rfl, rfl⟩, fun ad e => by cases e⟩
  · cases he
    refine ⟨rfl, fun e => (by cases e), fun ad e j u hu => ?_⟩
    cases e
    have hk : Bk W g _ cur := hg
    rw [add_plainS, Nat.zero_add, hk.cell]
    rw [← hx, List.getElem?_take] at hu
    split at hu
    · simpa using hu
    · cases hu
theorem us_len (U : List (Int × Int × Int × Int)) : (usCs U).length = U.length * 4 := by
  induction U with
  | nil => rfl
  | cons x r ih => unfold usCs at *; rw [List.flatMap_cons, List.length_append, ih, List.length_cons]; obtain ⟨a, b, c, d⟩ := x; show 4 + _ = _; omega
theorem us_one (U : List (Int × Int × Int × Int)) : ∀ u ∈ usCs U, u.oneCell' = true := fun u hu => by
  unfold usCs at hu
  obtain ⟨⟨a, b, c, d⟩, _, hx⟩ := List.mem_flatMap.1 hu
  simp [usC] at hx
  rcases hx with rfl | rfl | rfl | rfl <;> rfl
theorem us_app (U V : List (Int × Int × Int × Int)) : usCs (U ++ V) = usCs U ++ usCs V := by unfold usCs; exact List.flatMap_append
theorem infoStep : (Try.prog.info? 103).map (fun i => (i.zero, i.size, i.bytes)) = some (some (.agg #[.int .i64 0, .int .i64 0, .int .i64 0, .int .i64 0]), 4, 32) := by kernel_rfl
end Go.Proofs.Ytkiebejidpebdaa
