/-
  The document's Pass: what it leans on.
-/
import Derived.Test.YtaffldhmgifdoaaIr
import Derived.Test.YtaffldhmgifdoaaIu
import Derived.Test.YtaffldhmgifdoaaWh
namespace Go.Proofs.Ytaffldhmgifdoaa
open Go Go.RowKit Go.Shelf
attribute [local go_sem] Oper.semAt_some
set_option linter.unusedVariables false
set_option linter.unusedSimpArgs false

set_option maxRecDepth 100000 in
set_option maxHeartbeats 4000000 in
theorem Rup12_any (n m : Int) (w : World) (h0 : 0 ≤ n) (h1 : n ≤ 1099511627776) (hm : 1 ≤ m) (hm2 : m ≤ 1099511627776) :
    Calls Try.prog 85 #[.int .i64 n, .int .i64 m] w fun e w' => e = .returned (.int .i64 (upM n m)) ∧ w' = w := by
  have hz : ¬ m = 0 := by omega
  have hq : (n + m - 1).tdiv m = (n + m - 1) / m := Int.tdiv_eq_ediv_of_nonneg (by omega)
  obtain ⟨u1, u2, _⟩ := upM_le h0 hm
  unfold upM at *
  have hq0 : 0 ≤ (n + m - 1) / m := Int.ediv_nonneg (by omega) (by omega)
  have hq1 : (n + m - 1) / m ≤ n + m - 1 := Int.ediv_le_self _ (by omega)
  go_enter Try.func85, Try.ntmps85
  go_wp2
  go_ret
  refine ⟨?_, rfl⟩
  have e1 : wrap64 ((n + m - 1) / m * m) = (n + m - 1) / m * m := by unfold wrap64; omega
  first | (simp [hq, e1]; done) | (simp_all; done)
set_option maxRecDepth 100000 in
set_option maxHeartbeats 8000000 in
theorem integers_any (l : List Int) (p : Option Addr) (c : Nat) (w : World) (hl : l.length ≤ 1000000) (hs : IsG w.heap.size w p l) :
    Calls Try.prog 84 #[.slice p l.length c] w fun e w' => e = .returned (.int .i64 (onesM l : Int)) ∧ w' = w := by
  have HS := veil hs
  clear hs
  go_enter Try.func84, Try.ntmps84
  go_wp2
  go_loopw [3, 4] (fun nv i wr => ∃ (k : Nat), nv = .int .i64 (onesM (l.take k) : Int) ∧ i = .int .i64 k ∧ k ≤ l.length ∧ wr = w) (fun nv i wr => l.length - (intOf i).toNat)
  case atStart => exact ⟨0, rfl, rfl, Nat.zero_le _, rfl⟩
  case round =>
    obtain ⟨k, rfl, rfl, hk, rfl⟩ := hrel
    by_cases hkl : k < l.length
    · obtain ⟨g, o, rfl, hg, c0⟩ := (unveil HS).at k hkl
      have hkk : (k : Int) < (l.length : Int) := by omega
      have HST := veil (ones_take l k hkl)
      have hol := ones_le (l.take k)
      rw [List.length_take] at hol
      generalize l[k] = x at *
      cases hx : x == 1
      · rw [hx] at HST
        go_wp2
        go_roundw
        case rel => exact ⟨k + 1, by rw [unveil HST]; simp, by go_num, by omega, by trivial⟩
        case measure => simp [intOf]; omega
      · rw [hx] at HST
        have hx1 : x = 1 := by simpa using hx
        subst hx1
        go_wp2
        go_roundw
        case rel => exact ⟨k + 1, by rw [unveil HST]; push_cast; go_num, by go_num, by omega, by trivial⟩
        case measure => simp [intOf]; omega
    · obtain rfl : k = l.length := by omega
      go_wp2
      go_ret
      exact ⟨by rw [List.take_length]; rfl, rfl⟩
/-- A list of classes as it lies in memory. -/
structure Sl where
  p : Option Addr
  c : Nat
  cl : List Int
def slL (v : Sl) : List Value := [.slice v.p v.cl.length v.c]
def slLs (l : List Sl) : List Value := l.flatMap slL
theorem slLs_snoc (l : List Sl) (v : Sl) : slLs (l ++ [v]) = slLs l ++ slL v := by simp [slLs]
theorem slLs_at : ∀ (l : List Sl) (i : Nat) (h : i < l.length), (slLs l)[i]? = some (.slice l[i].p l[i].cl.length l[i].c)
  | v :: r, 0, _ => rfl
  | v :: r, i + 1, h => by
    have ih := slLs_at r i (by simpa using h)
    have e : slLs (v :: r) = slL v ++ slLs r := rfl
    rw [e, List.getElem?_append_right (by show 1 ≤ i + 1; omega)]
    simpa [slL] using ih
theorem infoSl : (Try.prog.info? 47).map (fun i => (i.zero, i.size, i.bytes)) = some (some (.slice none 0 0), 1, 24) := by kernel_rfl
theorem sl_cells (W : World) (v : Sl) (ty : TypeId) : ∀ (j : Nat) (u : Value), (slL v)[j]? = some u → (W.alloc (.cells (slL v).toArray ty)).cell? ((⟨W.heap.size, 0, none⟩ : Addr).add j) = some u := by
  intro j u h
  have hadd : (⟨W.heap.size, 0, none⟩ : Addr).add j = ⟨W.heap.size, j, none⟩ := by unfold Addr.add; split <;> simp_all
  rw [hadd, Bk.cell (Bk.new W ty _)]
  simpa using h
theorem sl_at {W : World} {base n cap : Nat} {q : Option Addr} {vs : List Sl} (h : W.ownsRow base 47 1 (.slice q n cap) n (slLs vs)) (hn : vs.length = n) {i : Nat} (hi : i < vs.length) :
    ∃ g, q = some ⟨g, 0, none⟩ ∧ g < W.heap.size ∧ W.cell? ⟨g, i, none⟩ = some (.slice vs[i].p vs[i].cl.length vs[i].c) := by
  obtain ⟨m, rfl⟩ : ∃ m, n = m + 1 := ⟨n - 1, by omega⟩
  obtain ⟨g, cp, he, h1, h2, h3, h4⟩ := row_cells h
  obtain ⟨rfl, _⟩ : q = some ⟨g, 0, none⟩ ∧ cap = cp := by simpa using he
  exact ⟨g, rfl, h2, h4 _ _ (slLs_at vs i hi)⟩
/-- What the document's first loop keeps. -/
structure RaI (w W : World) (args : List ShT) (ret : ShT) (k : Nat) (vs : List Sl) (vv : Value) : Prop where
  own : W.ownsRow w.heap.size 47 1 vv k (slLs vs)
  len : vs.length = k
  is : ∀ v ∈ vs, IsG W.heap.size W v.p v.cl
  eq : vs.map Sl.cl = (args.take k).map (fun t => (lokM t).1.2.2)
  ok : ∀ (i : Nat) (h : i < args.length), i < k → (lokM args[i]).2 = 0
  tb : TyB W w.heap.size ret
  be : Below w.heap.size w W
theorem RaI.below {w W W' : World} {args : List ShT} {ret : ShT} {k : Nat} {vs : List Sl} {vv : Value} (h : RaI w W args ret k vs vv) (hb : Below W.heap.size W W') : RaI w W' args ret k vs vv :=
  ⟨ownsRow_belowS h.own hb, h.len, fun v hv => (h.is v hv).size hb hb.size, h.eq, h.ok, h.tb.below hb, h.be.trans (hb.mono h.be.size)⟩
theorem RaI.push {w W W6 : World} {args : List ShT} {ret : ShT} {k : Nat} {vs : List Sl} {vv v6 : Value} {x : Sl} (h : RaI w W args ret k vs vv) (hk : k < args.length) (hx : IsG W.heap.size W x.p x.cl) (he : (lokM args[k]).1.2.2 = x.cl) (he0 : (lokM args[k]).2 = 0)
    (hg : W.grownBy W6 vv.ownBlock) (h6 : W6.ownsRow w.heap.size 47 1 v6 (k + 1) (slLs vs ++ slL x)) : RaI w W6 args ret (k + 1) (vs ++ [x]) v6 := by
  have hik : ∀ j cs, Bk W j 3 cs → Bk W6 j 3 cs := fun j cs b => b.rowG h.own hg (by decide)
  refine ⟨by rw [slLs_snoc]; exact h6, by rw [List.length_append, h.len]; rfl, fun v hv => ?_, ?_, fun i hi hik2 => ?_, ?_, h.be.grown hg h.be.size (fun r e => (row_turnS h.own r e).1)⟩
  · rcases List.mem_append.1 hv with hv | hv
    · exact (h.is v hv).keep hik hg.size
    · obtain rfl := List.mem_singleton.1 hv
      exact hx.keep hik hg.size
  · rw [List.map_append, h.eq, List.take_add_one, List.getElem?_eq_getElem hk, Option.toList_some, List.map_append, List.map_cons, List.map_nil, List.map_cons, List.map_nil, he]
  · by_cases hc : i < k
    · exact h.ok i hi hc
    · obtain rfl : i = k := by omega
      exact he0
  · exact Bk.rowG (T := 25) h.tb h.own hg (by decide)
/-- A list of places grows. -/
theorem FrP.app {Bs : Nat} {W Wb W6 : World} {v : Value} {n : Nat} {xs : List Value} (hB : Below W.heap.size W Wb) (hr : Wb.ownsRow Bs 75 4 v n xs) (hg : Wb.grownBy W6 v.ownBlock) (hW : Bs ≤ W.heap.size) : FrP Bs W W6 :=
  ⟨(hB.mono hW).grown hg (Nat.le_trans hW hB.size) (fun r e => (row_turnS hr r e).1), fun j T cs hT _ b => (b.below hB).rowG hr hg hT⟩
/-- The first class tells whether it is memory. -/
theorem cls_head {t : ShT} (h : (lokM t).2 = 0) : ∃ (hh : 0 < (lokM t).1.2.2.length), ((lokM t).1.2.2[0] == 2) = memB (lokM t).1.2.2 := by
  obtain ⟨f1, f2, f3, f4, f5, f6, f7, f8, f9⟩ := cls_facts (t := t) (by rw [h]; rfl)
  rcases f9 with h9 | ⟨h1, h2⟩
  · rw [h9]
    exact ⟨by decide, rfl⟩
  · rw [h2]
    have hn : 0 < nEi (chkM t).1.1.toNat := by unfold nEi; omega
    refine ⟨by simpa using hn, ?_⟩
    have hm : memB ((List.range (nEi (chkM t).1.1.toNat)).map (eiM (leaL t).1)) = false := by
      unfold memB
      rw [List.any_eq_false]
      intro x hx
      obtain ⟨i, _, rfl⟩ := List.mem_map.1 hx
      rw [eiM_two]
      simp
    rw [hm, List.getElem_map]
    exact eiM_two _ _
end Go.Proofs.Ytaffldhmgifdoaa
