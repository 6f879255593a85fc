/-
  Package macro: slices.Clone at strings, listed.
  Package macro: alike.
  strings.Join, by the shelf's contract, at this translation.
  strings.Join at a row of strings of one's own.
  Package macro: Show.
-/
import Derived.Test.YticiddcgafhkhaaGreatDoorUa
import Derived.Test.YticiddcgafhkhaaGreatDoorU8
import Derived.Shelf.Strings.OnBuilder
import Derived.Shelf.Lay
import Derived.Ground.NamesProg
import Derived.Test.YticiddcgafhkhaaGreatDoorChecked
namespace Go.Proofs.YticiddcgafhkhaaGreatDoor
open Go Go.RowKit
set_option linter.unusedVariables false
set_option linter.unusedSimpArgs false

def sCells (l : List (List UInt8)) : List Value := l.map fun x => .string ⟨x.toArray⟩
theorem sCells_one (l : List (List UInt8)) : ∀ u ∈ sCells l, u.oneCell' = true := by
  intro u hu
  obtain ⟨x, _, rfl⟩ := List.mem_map.1 hu
  rfl
theorem StG.cells {B : Nat} {w : World} {a : Addr} {n c : Nat} {l : List (List UInt8)} (h : StG B w (.slice (some a) n c) l) : ∀ j u, (sCells l)[j]? = some u → w.cell? (a.add j) = some u := by
  intro j u hj
  obtain ⟨p, cap, hp, hc⟩ := h
  have hjl : j < l.length := by simpa [sCells] using (List.getElem?_eq_some_iff.1 hj).1
  obtain ⟨g, o, rfl, _, c0⟩ := hc j hjl
  obtain ⟨rfl, _⟩ : a = ⟨g, o, none⟩ ∧ _ := by simpa using hp
  have hadd : (⟨g, o, none⟩ : Addr).add j = ⟨g, o + j, none⟩ := by unfold Addr.add; split <;> simp_all
  rw [hadd, c0]
  simp [sCells, List.getElem?_map, List.getElem?_eq_getElem hjl] at hj
  rw [← hj]
theorem Tryz.info9 : (Tryz.prog.info? 9).map (fun i => (i.zero, i.size, i.bytes)) = some (some (.string ⟨#[]⟩), 1, 16) := by kernel_rfl
theorem ownsRow_bel {w w' : World} {B : Nat} {e : TypeId} {k : Nat} {v : Value} {n : Nat} {xs : List Value} (h : w.ownsRow B e k v n xs) (hb : Below w.heap.size w w') : w'.ownsRow B e k v n xs := by
  refine ⟨h.1, ?_⟩
  rcases h.2 with h | ⟨g, cap, cur, e1, e2, e3, r⟩
  · exact .inl h
  · exact .inr ⟨g, cap, cur, e1, e2, (hb.block g (Array.getElem?_eq_some_iff.1 e3).1).trans e3, r⟩
theorem StG.of {W : World} {base n : Nat} {v : Value} {l : List (List UInt8)} (h : W.ownsRow base 9 1 v n (sCells l)) (hn : n = l.length) : StG W.heap.size W v l := by
  subst hn
  rcases h.2 with ⟨rfl, h0⟩ | ⟨g, cap, cur, rfl, hb, hg, hc, hm, hs, ht⟩
  · exact ⟨none, 0, by rw [h0], fun i hi => by omega⟩
  · refine ⟨some ⟨g, 0, none⟩, cap, rfl, fun i hi => ⟨g, 0, rfl, (Array.getElem?_eq_some_iff.1 hg).1, ?_⟩⟩
    have e : (cur.toList.take (l.length * 1))[i]? = (sCells l)[i]? := by rw [ht]
    rw [List.getElem?_take_of_lt (by omega)] at e
    rw [World.cell?, hg]
    simp [sCells, List.getElem?_map, List.getElem?_eq_getElem hi] at e ⊢
    exact e

set_option maxRecDepth 100000 in
set_option maxHeartbeats 4000000 in
theorem CloneS_any (v : Value) (l : List (List UInt8)) (w : World) (hl : l.length * 16 ≤ 140737488355328) (hv : StG w.heap.size w v l) :
    Calls Tryz.prog 42 #[v] w fun e w' => ∃ v', e = .returned v' ∧ w'.ownsRow w.heap.size 9 1 v' l.length (sCells l) ∧ Below w.heap.size w w' := by
  have hv' := hv
  obtain ⟨p, cap, rfl, hc⟩ := hv
  have q22 : ∀ (w : World) (a : Option Addr) (n c n' c' : Nat), (binOp .eql 30 (.slice a n c) (.slice none n' c')).run Tryz.prog w = .ok (.bool a.isNone) w := fun w a n c n' c' => Lib.run_eql_slice_nil w _ _ a n c n' c' Tryz.underlying30
  match p with
  | none =>
    have h0 : l = [] := by
      match l, hc with
      | [], _ => rfl
      | x :: r, hc => obtain ⟨g, o, h, _⟩ := hc 0 (by simp); cases h
    subst h0
    clear hc hv'
    go_enter Tryz.func42, Tryz.ntmps42
    go_wp2
    go_ret
    exact ⟨_, rfl, World.ownsRow_nil _ _ _ _, Below.refl _ _⟩
  | some a =>
    clear hc
    have HC := hide hv'.cells
    clear hv'
    have u22 : ∀ w, Sem.run Tryz.prog (underlying 30) w = .ok (TypeDesc.slice 9) w := run_underlying Tryz.underlying30
    obtain ⟨i0, hi, hz0, hz1, hz2⟩ := info_parts Tryz.info9
    have hb1 : Below w.heap.size w (w.alloc (.cells #[] 9)) := (Below.refl _ w).alloc (Nat.le_refl _) _
    have HB := hide hb1
    clear hb1
    go_enter Tryz.func42, Tryz.ntmps42
    go_wp2_with (at_builtin; refine wpList_append_own _ rfl _ _ 30 rfl w.heap.size 9 i0 _ 1 16 Tryz.underlying30 hi hz0 hz1 hz2 rfl (by decide) _ _ _ rfl (World.ownsRow_made w #[] 0 (Nat.le_refl _) (Nat.zero_le _) rfl) a l.length cap (sCells l) rfl (by simp [sCells]) ?qc2 (sCells_one l) ?qc4 ?qc5 ?qc6 ?_)
    case qc2 =>
      intro j u hj
      exact Lib.cell?_alloc_some _ (unhide HC j u hj)
    case qc4 => unfold maxLen; omega
    case qc5 => omega
    case qc6 => simp
    intro v' w1 hown hgrow hnil
    go_wp2
    go_ret
    refine ⟨v', rfl, by simpa using hown, ?_⟩
    exact (unhide HB).grown hgrow (by simp) (by intro k hk; simp [Value.ownBlock] at hk; omega)

def listedS (more : Bool) (ps : List (List UInt8)) : List (List UInt8) := if more then ps ++ [[46, 46, 46]] else ps
set_option maxRecDepth 100000 in
set_option maxHeartbeats 4000000 in
theorem listed_any (nm pv bv : Value) (fn more : Bool) (ps : List (List UInt8)) (w : World) (hl : ps.length * 16 ≤ 100000000000000) (hv : StG w.heap.size w pv ps) :
    Calls Tryz.prog 31 #[.agg #[nm, .bool fn, pv, .bool more, bv]] w fun e w' => ∃ v', e = .returned v' ∧ w'.ownsRow w.heap.size 9 1 v' (listedS more ps).length (sCells (listedS more ps)) ∧ Below w.heap.size w w' := by
  have hb0 : Below w.heap.size w (w.alloc (.cells #[nm, .bool fn, pv, .bool more, bv] 33)) := (Below.refl _ w).alloc (Nat.le_refl _) _
  have hz0 : (w.alloc (.cells #[nm, .bool fn, pv, .bool more, bv] 33)).heap.size = w.heap.size + 1 := by simp
  have hnew : (w.alloc (.cells #[nm, .bool fn, pv, .bool more, bv] 33)).heap[w.heap.size]? = some (.cells #[nm, .bool fn, pv, .bool more, bv] 33 (0, 0)) := World.alloc_heap_new w _
  have HCL := hide (CloneS_any pv ps (w.alloc (.cells #[nm, .bool fn, pv, .bool more, bv] 33)) (by omega) ((hv.below hb0).mono (by omega)))
  have u22 : ∀ w, Sem.run Tryz.prog (underlying 30) w = .ok (TypeDesc.slice 9) w := run_underlying Tryz.underlying30
  have HB0 := hide hb0
  have HN := hide hnew
  clear hv hb0 hnew
  go_enter Tryz.func31, Tryz.ntmps31
  go_wp2_with fail
  refine (unhide HCL).mono ?_
  rintro e W1 ⟨v1, rfl, hrow, hb1⟩
  rw [hz0] at hrow hb1
  have hn1 := (hb1.block w.heap.size (by omega)).trans (unhide HN)
  have c3 : W1.cell? ⟨w.heap.size, 3, none⟩ = some (.bool more) := by rw [World.cell?, hn1]; rfl
  have hb2 : Below w.heap.size w W1 := (unhide HB0).trans (hb1.mono (by omega))
  have hz2 := hb1.size
  rw [hz0] at hz2
  clear HCL HB0 HN hn1
  cases more
  · go_wp2
    go_ret
    refine ⟨v1, rfl, ?_, hb2⟩
    exact ⟨hrow.1, hrow.2.imp id fun ⟨g, cap, cur, h1, h2, h3⟩ => ⟨g, cap, cur, h1, by omega, h3⟩⟩
  · obtain ⟨i0, hi, hz0', hz1', hz2'⟩ := info_parts Tryz.info9
    have hba : Below W1.heap.size W1 (W1.alloc (.cells #[.string ⟨#[46, 46, 46]⟩] 9)) := (Below.refl _ W1).alloc (Nat.le_refl _) _
    have HRow := hide (ownsRow_bel hrow hba)
    have HBA := hide (hb2.trans (hba.mono (by omega)))
    have hown := hrow.lt
    have HOWN := hide hown
    clear hba hrow hown
    go_wp2_with (at_builtin; refine wpList_append_own _ rfl _ _ 30 rfl (w.heap.size + 1) 9 i0 _ 1 16 Tryz.underlying30 hi hz0' hz1' hz2' rfl (by decide) _ _ _ rfl (unhide HRow) ⟨W1.heap.size, 0, none⟩ 1 1 [.string ⟨#[46, 46, 46]⟩] rfl rfl ?qc2 ?qc3 ?qc4 ?qc5 ?qc6 ?_)
    case qc2 =>
      intro j u hj
      have hn : (W1.alloc (.cells #[.string ⟨#[46, 46, 46]⟩] 9)).heap[W1.heap.size]? = some (.cells #[.string ⟨#[46, 46, 46]⟩] 9 (0, 0)) := World.alloc_heap_new W1 _
      match j with
      | 0 =>
        simp at hj
        subst hj
        show World.cell? _ ⟨W1.heap.size, 0, none⟩ = _
        rw [World.cell?, hn]; rfl
      | j + 1 => simp at hj
    case qc3 => intro u hu; simp at hu; subst hu; rfl
    case qc4 => unfold maxLen; omega
    case qc5 => omega
    case qc6 => simp; omega
    intro v' w1 hown2 hgrow hnil
    go_wp2
    go_ret
    refine ⟨v', rfl, ?_, (unhide HBA).grown hgrow (by simp; omega) (by intro k hk; have := (unhide HOWN k hk).1; omega)⟩
    have hs : sCells (listedS true ps) = sCells ps ++ [.string ⟨#[46, 46, 46]⟩] := by simp [sCells, listedS]
    rw [hs, show (listedS true ps).length = ps.length + 1 by simp [listedS]]
    exact ⟨hown2.1, hown2.2.imp id fun ⟨g, cap, cur, h1, h2, h3⟩ => ⟨g, cap, cur, h1, by omega, h3⟩⟩
end Go.Proofs.YticiddcgafhkhaaGreatDoor
namespace Go.Proofs.YticiddcgafhkhaaGreatDoor
open Go Go.RowKit
set_option linter.unusedVariables false
set_option linter.unusedSimpArgs false

set_option maxRecDepth 100000 in
set_option maxHeartbeats 8000000 in
theorem alikeM_any (x y : Value) (a b : Mc) (w : World) (hp : a.ps.length ≤ 140737488355328) (hb : a.body.length ≤ 140737488355328) (hx : McV w.heap.size w x a) (hy : McV w.heap.size w y b) :
    Calls Tryz.prog 23 #[x, y] w fun e w' => e = .returned (.bool (decide (a = b))) ∧ Below w.heap.size w w' := by
  obtain ⟨pv, bv, rfl, hpv, hbv, _⟩ := hx
  obtain ⟨pu, bu, rfl, hpu, hbu, _⟩ := hy
  obtain ⟨na, fa, psa, ma, ba⟩ := a
  obtain ⟨nb, fb, psb, mb, bb⟩ := b
  simp only at *
  have HR : Hid (decide ((⟨na, fa, psa, ma, ba⟩ : Mc) = ⟨nb, fb, psb, mb, bb⟩) = (decide (na = nb) && ((fa == fb) && ((ma == mb) && (decide (psa = psb) && decide (ba = bb)))))) := by
    rw [Hid, Bool.eq_iff_iff]; simp only [decide_eq_true_eq, Bool.and_eq_true, beq_iff_eq, Mc.mk.injEq]; constructor <;> (rintro ⟨a, b, c, d, e⟩; exact ⟨a, b, d, c, e⟩)
  generalize decide ((⟨na, fa, psa, ma, ba⟩ : Mc) = ⟨nb, fb, psb, mb, bb⟩) = R at *
  have en := beq_list na nb
  have hbw : ∀ o1 o2, Below w.heap.size w ((w.alloc o1).alloc o2) := fun o1 o2 => ((Below.refl _ w).alloc (Nat.le_refl _) o1).alloc (by simp) o2
  have HBW := hide hbw
  have HP := hide (fun W (h : Below w.heap.size w W) => EqStrs_any pv pu psa psb _ _ W hp (hpv.below h) (hpu.below h))
  have HT := hide (fun W (h : Below w.heap.size w W) => EqToks_any bv bu ba bb _ _ W hb (hbv.below h) (hbu.below h))
  clear hpv hpu hbv hbu hbw
  generalize decide (na = nb) = En at *
  generalize decide (psa = psb) = Ep at *
  generalize decide (ba = bb) = Eb at *
  generalize hef : (fa == fb) = Ef at *
  generalize hem : (ma == mb) = Em at *
  cases En
  · go_enter Tryz.func23, Tryz.ntmps23
    go_wp2
    go_ret
    exact ⟨by rw [unhide HR]; rfl, unhide HBW _ _⟩
  · cases Ef
    · go_enter Tryz.func23, Tryz.ntmps23
      go_wp2
      go_ret
      exact ⟨by rw [unhide HR]; rfl, unhide HBW _ _⟩
    · cases Em
      · go_enter Tryz.func23, Tryz.ntmps23
        go_wp2
        go_ret
        exact ⟨by rw [unhide HR]; rfl, unhide HBW _ _⟩
      · go_enter Tryz.func23, Tryz.ntmps23
        go_wp2_with fail
        refine (unhide HP _ (unhide HBW _ _)).mono ?_
        rintro e W1 ⟨rfl, m1, hw1⟩
        have hb1 : Below w.heap.size w W1 := by
          rw [hw1]
          have hh := unhide HBW (.cells #[.string ⟨na.toArray⟩, .bool fa, pv, .bool ma, bv] 33) (.cells #[.string ⟨nb.toArray⟩, .bool fb, pu, .bool mb, bu] 33)
          exact ⟨hh.os, hh.tape, hh.output, hh.size, hh.block⟩
        have hcell : ∀ p, W1.cell? p = ((w.alloc (.cells #[.string ⟨na.toArray⟩, .bool fa, pv, .bool ma, bv] 33)).alloc (.cells #[.string ⟨nb.toArray⟩, .bool fb, pu, .bool mb, bu] 33)).cell? p := fun p => by rw [hw1]; rfl
        have hz : (w.alloc (.cells #[.string ⟨na.toArray⟩, .bool fa, pv, .bool ma, bv] 33)).heap.size = w.heap.size + 1 := by simp
        have c4 : W1.cell? ⟨w.heap.size, 4, none⟩ = some bv := by
          rw [hcell, World.cell?_alloc_lt _ _ _ (by rw [hz]; show w.heap.size < _; omega)]
          exact (five_new w _ pv bv fa ma).2.2.2.2
        have d4 : W1.cell? ⟨w.heap.size + 1, 4, none⟩ = some bu := by
          rw [hcell, ← hz]
          exact (five_new (w.alloc (.cells #[.string ⟨na.toArray⟩, .bool fa, pv, .bool ma, bv] 33)) _ pu bu fb mb).2.2.2.2
        have H1 := hide (unhide HT W1 hb1)
        clear hw1 hcell hz
        cases Ep
        · go_wp2
          go_ret
          exact ⟨by rw [unhide HR]; rfl, hb1⟩
        · go_wp2_with fail
          refine (unhide H1).mono ?_
          rintro e W2 ⟨rfl, m2, rfl⟩
          go_wp2
          go_ret
          exact ⟨by rw [unhide HR]; rfl, hb1.os, hb1.tape, hb1.output, hb1.size, hb1.block⟩
end Go.Proofs.YticiddcgafhkhaaGreatDoor
namespace Go.Proofs
open Go.Shelf
shelf_lay Lays.n156 Nm 156 at Tryz as Tryz.lays156
theorem Tryz.Builder_Extra_156 : Builder.Extra Tryz.prog Tryz.lays156_ren := {
  sizeBuilder := by kernel_rfl
  liesBuilder := by kernel_rfl
  t5 := Tryz.underlying5
  a5 := Tryz.isAgg5
  z5 := Tryz.sizeOf5
  v5 := Tryz.zeroValue5
  infoByte := by kernel_rfl
  cellsByte := by kernel_rfl
  sizeByte := by kernel_rfl
  neB5 := by decide }
end Go.Proofs
namespace Go.Proofs.YticiddcgafhkhaaGreatDoor
open Go Go.RowKit
set_option linter.unusedVariables false
set_option linter.unusedSimpArgs false

theorem Join_any (v : Value) (l : List (List UInt8)) (base n : Nat) (sep : ByteArray) (w : World) (hn : n = l.length) (hv : w.ownsRow base 9 1 v n (sCells l))
    (hN : l.length ≤ 140737488355328) (hlen : (Lib.join l sep.data.toList).length ≤ 140737488355328) :
    Calls Tryz.prog 30 #[v, .string sep] w fun e w' => e = .returned (.string ⟨(Lib.join l sep.data.toList).toArray⟩) ∧ Below w.heap.size w w' := by
  subst hn
  rcases hv.2 with ⟨rfl, h0⟩ | ⟨g, cap, cur, rfl, hb, hg, hc, hm, hs, ht⟩
  · obtain rfl : l = [] := List.eq_nil_of_length_eq_zero h0
    exact (Any.strings_Join_none Tryz.lays156 Tryz.Builder_Extra_156 none 0 sep w).mono fun e w' ⟨he, hw⟩ => ⟨he, hw ▸ Below.refl _ _⟩
  · have hmap : (l.map fun x => (⟨x.toArray⟩ : ByteArray)).map (·.data.toList) = l := by
      rw [List.map_map]
      conv => rhs; rw [← List.map_id l]
      apply List.map_congr_left
      intro x _
      simp
    have hst := StG.of hv rfl
    have := Any.strings_Join Tryz.lays156 Tryz.Builder_Extra_156 g 0 cap (l.map fun x => (⟨x.toArray⟩ : ByteArray)) sep w (fun j x hj => by
      obtain ⟨p, c, hp, hcs⟩ := hst
      have hjl : j < l.length := by simpa using (List.getElem?_eq_some_iff.1 hj).1
      obtain ⟨g', o, rfl, _, c0⟩ := hcs j hjl
      obtain ⟨⟨rfl, rfl⟩, _⟩ : (g = g' ∧ 0 = o) ∧ _ := by simpa using hp
      rw [c0]
      simp [List.getElem?_map, List.getElem?_eq_getElem hjl] at hj
      rw [← hj]) (Array.getElem?_eq_some_iff.1 hg).1 (by rw [List.length_map]; exact hN) (by rw [List.length_map]; exact hc) (by rw [hmap]; exact hlen)
    rw [hmap, List.length_map] at this
    exact this
end Go.Proofs.YticiddcgafhkhaaGreatDoor
namespace Go.Proofs.YticiddcgafhkhaaGreatDoor
open Go Go.RowKit
set_option linter.unusedVariables false
set_option linter.unusedSimpArgs false

def showM (m : Mc) : List UInt8 :=
  (m.name ++ (if m.fn then [40] ++ Lib.join (listedS m.more m.ps) [44, 32] ++ [41] else [])) ++ (if 0 < m.body.length then [32] ++ spG m.body else [])
theorem ba_app (a b : List UInt8) : (⟨a.toArray⟩ : ByteArray) ++ (⟨b.toArray⟩ : ByteArray) = ⟨(a ++ b).toArray⟩ := by
  apply ByteArray.ext
  simp

set_option maxRecDepth 100000 in
set_option maxHeartbeats 8000000 in
theorem Show_any (x : Value) (m : Mc) (w : World) (hf : McFits m) (hx : McV w.heap.size w x m) (hw0 : 1 < w.heap.size) (hsg : Sg w)
    (hz : m.name.length + (Lib.join (listedS m.more m.ps) [44, 32]).length + (spG m.body).length + 10 ≤ 140737488355328) (hpl : m.ps.length * 16 ≤ 100000000000000) :
    Calls Tryz.prog 18 #[x] w fun e w' => e = .returned (if rightM m then .tuple #[.string ⟨(showM m).toArray⟩, .int .i64 0] else .tuple #[.string ⟨#[]⟩, .int .i64 2]) ∧ Below w.heap.size w w' := by
  have HRM := hide (fun W (hB : Below w.heap.size w W) => Right_any x m W hf (by
    obtain ⟨pv, bv, e, h1, h2, h3⟩ := hx
    exact ⟨pv, bv, e, (h1.below hB).mono hB.size, (h2.below hB).mono hB.size, h3⟩) (Nat.lt_of_lt_of_le hw0 hB.size) (Sg.below hsg hB hw0))
  obtain ⟨pv, bv, rfl, hpv, hbv, _⟩ := hx
  obtain ⟨name, fn, ps, more, body⟩ := m
  obtain ⟨_, _, _, hbl, _⟩ := hf
  simp only at *
  have HV : Hid (showM ⟨name, fn, ps, more, body⟩ = (name ++ (if fn then [40] ++ Lib.join (listedS more ps) [44, 32] ++ [41] else [])) ++ (if 0 < body.length then [32] ++ spG body else [])) := rfl
  generalize showM ⟨name, fn, ps, more, body⟩ = V at *
  generalize rightM ⟨name, fn, ps, more, body⟩ = R at *
  have hb0 : Below w.heap.size w (w.alloc (.cells #[.string ⟨name.toArray⟩, .bool fn, pv, .bool more, bv] 33)) := (Below.refl _ w).alloc (Nat.le_refl _) _
  have hz0 : (w.alloc (.cells #[.string ⟨name.toArray⟩, .bool fn, pv, .bool more, bv] 33)).heap.size = w.heap.size + 1 := by simp
  have HF := hide (five_new w (.string ⟨name.toArray⟩) pv bv fn more)
  have H0 := hide (unhide HRM _ hb0)
  have HLS := hide (fun W (hB : Below w.heap.size w W) => listed_any (.string ⟨name.toArray⟩) pv bv fn more ps W hpl ((hpv.below hB).mono hB.size))
  have HSP := hide (fun W (hB : Below w.heap.size w W) => Spell_any bv body W hbl (by omega) ((hbv.below hB).mono hB.size))
  have HB0 := hide hb0
  have hll : (listedS more ps).length ≤ 140737488355328 := by cases more <;> simp [listedS] <;> omega
  have hsep : (⟨#[44, 32]⟩ : ByteArray).data.toList = [44, 32] := rfl
  have HJN := hide (fun (v : Value) (W : World) (base : Nat) (h : W.ownsRow base 9 1 v (listedS more ps).length (sCells (listedS more ps))) => Join_any v _ base _ ⟨#[44, 32]⟩ W rfl h hll (by rw [hsep]; omega))
  rw [hsep] at HJN
  obtain ⟨pb, cb, hbe, _⟩ := hbv
  subst hbe
  have sn : (⟨name.toArray⟩ : ByteArray).size = name.length := by show name.toArray.size = _; simp
  have sj : (⟨(Lib.join (listedS more ps) [44, 32]).toArray⟩ : ByteArray).size = (Lib.join (listedS more ps) [44, 32]).length := by show Array.size _ = _; simp
  have ss : (⟨(spG body).toArray⟩ : ByteArray).size = (spG body).length := by show Array.size _ = _; simp
  clear hpv hb0 HRM hsg hll hsep hpl
  go_enter Tryz.func18, Tryz.ntmps18
  obtain ⟨a0, a1, a2, a3, a4⟩ := unhide HF
  go_wp2_with fail
  refine (unhide H0).mono ?_
  rintro e W1 ⟨rfl, hb1⟩
  rw [hz0] at hb1
  have hz1 := hb1.size
  rw [hz0] at hz1
  have hF1 := (unhide HF).below hb1 (by omega)
  have HF1 := hide hF1
  have HB1 : Hid (Below w.heap.size w W1) := (unhide HB0).trans (hb1.mono (by omega))
  obtain ⟨d0, d1, d2, d3, d4⟩ := hF1
  clear a0 a1 a2 a3 a4 H0 HF HB0 hb1
  cases R
  · go_wp2
    go_ret2
    exact ⟨rfl, unhide HB1⟩
  · have eS : Hid (∀ (a : List UInt8), (⟨a.toArray⟩ : ByteArray) ++ ((⟨#[32]⟩ : ByteArray) ++ (⟨(spG body).toArray⟩ : ByteArray)) = ⟨(a ++ ([32] ++ spG body)).toArray⟩) := fun a => by
      rw [show (⟨#[32]⟩ : ByteArray) = ⟨([32] : List UInt8).toArray⟩ from rfl, ba_app, ba_app]
    have eJ : Hid ((⟨name.toArray⟩ : ByteArray) ++ (((⟨#[40]⟩ : ByteArray) ++ (⟨(Lib.join (listedS more ps) [44, 32]).toArray⟩ : ByteArray)) ++ (⟨#[41]⟩ : ByteArray)) = ⟨(name ++ ([40] ++ Lib.join (listedS more ps) [44, 32] ++ [41])).toArray⟩) := by
      rw [Hid, show (⟨#[40]⟩ : ByteArray) = ⟨([40] : List UInt8).toArray⟩ from rfl, show (⟨#[41]⟩ : ByteArray) = ⟨([41] : List UInt8).toArray⟩ from rfl, ba_app, ba_app, ba_app]
    cases fn
    · by_cases hbo : 0 < body.length
      · have i1 : (0 : Int) < (body.length : Int) := by omega
        have HV2 : Hid (V = name ++ ([32] ++ spG body)) := by rw [Hid, unhide HV, if_pos hbo]; simp
        have H2 := hide (unhide HSP W1 (unhide HB1))
        generalize hS : (⟨(spG body).toArray⟩ : ByteArray) = S at *
        generalize hN : (⟨name.toArray⟩ : ByteArray) = N at *
        have HS := hide hS
        have HN := hide hN
        clear hS hN
        go_wp2_with fail
        refine (unhide H2).mono ?_
        rintro e W2 ⟨rfl, hb2⟩
        have k1 : ¬ 9223372036854775806 < S.size := by omega
        have k2 : ¬ 9223372036854775807 < N.size + (1 + S.size) := by omega
        have hB2 : Below w.heap.size w W2 := (unhide HB1).trans (hb2.mono (by omega))
        go_wp2
        go_ret2
        refine ⟨?_, hB2⟩
        rw [unhide HV2, ← unhide eS, unhide HN]
        first | rfl | simp
      · obtain rfl : body = [] := List.eq_nil_of_length_eq_zero (by omega)
        have HV2 : Hid (V = name) := by rw [Hid, unhide HV, if_neg (by simp)]; simp
        clear hbo HV
        simp only [List.length_nil] at *
        go_wp2
        go_ret2
        exact ⟨by rw [unhide HV2]; rfl, unhide HB1⟩
    · have H2 := hide (unhide HLS W1 (unhide HB1))
      go_wp2_with fail
      refine (unhide H2).mono ?_
      rintro e W2 ⟨v2, rfl, hown2, hb2⟩
      have hB2 : Below w.heap.size w W2 := (unhide HB1).trans (hb2.mono (by omega))
      have hz2 := hB2.size
      have hF2 := (unhide HF1).below hb2 (by omega)
      have H3 := hide (unhide HJN v2 W2 _ hown2)
      clear d0 d1 d2 d3 d4 hown2 H2
      obtain ⟨d0, d1, d2, d3, d4⟩ := hF2
      have k1 : ¬ 9223372036854775806 < (⟨(Lib.join (listedS more ps) [44, 32]).toArray⟩ : ByteArray).size := by omega
      generalize hJ : (⟨(Lib.join (listedS more ps) [44, 32]).toArray⟩ : ByteArray) = J at *
      generalize hN : (⟨name.toArray⟩ : ByteArray) = N at *
      have HJ := hide hJ
      have HN := hide hN
      clear hJ hN
      have hz1' := (unhide HB1).size
      have hnm : Hid (w.heap.size + 1 ≤ W2.heap.size) := by
        have := hb2.size
        show w.heap.size + 1 ≤ W2.heap.size
        omega
      have HF2 : Hid (FiveAt W2 w.heap.size (.string N) pv (.slice pb body.length cb) true more) := ⟨d0, d1, d2, d3, d4⟩
      by_cases hbo : 0 < body.length
      · have i1 : (0 : Int) < (body.length : Int) := by omega
        have HV2 : Hid (V = name ++ ([40] ++ Lib.join (listedS more ps) [44, 32] ++ [41]) ++ ([32] ++ spG body)) := by rw [Hid, unhide HV, if_pos hbo]; simp
        go_wp2_with fail
        refine (unhide H3).mono ?_
        rintro e W3 ⟨rfl, hb3⟩
        have hB3 : Below w.heap.size w W3 := hB2.trans (hb3.mono hz2)
        have k2 : ¬ 9223372036854775805 < J.size := by omega
        have k2' : ¬ 9223372036854775806 < 1 + J.size := by omega
        have k3 : ¬ 9223372036854775807 < N.size + (1 + J.size + 1) := by omega
        have H4 := hide (unhide HSP W3 hB3)
        obtain ⟨e0, e1, e2, e3, e4⟩ := (unhide HF2).below hb3 (by have := unhide hnm; omega)
        clear d0 d1 d2 d3 d4
        generalize hS : (⟨(spG body).toArray⟩ : ByteArray) = S at *
        have HS := hide hS
        clear hS
        go_wp2_with fail
        refine (unhide H4).mono ?_
        rintro e W4 ⟨rfl, hb4⟩
        have k4 : ¬ 9223372036854775806 < S.size := by omega
        have k5 : ¬ 9223372036854775807 < N.size + (1 + J.size + 1) + (1 + S.size) := by omega
        have hB4 : Below w.heap.size w W4 := hB3.trans (hb4.mono hB3.size)
        go_wp2
        go_ret2
        refine ⟨?_, hB4⟩
        rw [unhide HV2, ← unhide eS, ← unhide eJ]
        first | rfl | simp
      · obtain rfl : body = [] := List.eq_nil_of_length_eq_zero (by omega)
        have HV2 : Hid (V = name ++ ([40] ++ Lib.join (listedS more ps) [44, 32] ++ [41])) := by rw [Hid, unhide HV]; simp
        clear hbo HV
        simp only [List.length_nil] at *
        go_wp2_with fail
        refine (unhide H3).mono ?_
        rintro e W3 ⟨rfl, hb3⟩
        have hB3 : Below w.heap.size w W3 := hB2.trans (hb3.mono hz2)
        have k2 : ¬ 9223372036854775805 < J.size := by omega
        have k2' : ¬ 9223372036854775806 < 1 + J.size := by omega
        have k3 : ¬ 9223372036854775807 < N.size + (1 + J.size + 1) := by omega
        obtain ⟨e0, e1, e2, e3, e4⟩ := (unhide HF2).below hb3 (by have := unhide hnm; omega)
        clear d0 d1 d2 d3 d4
        go_wp2
        go_ret2
        refine ⟨?_, hB3⟩
        rw [unhide HV2, ← unhide eJ]
        first | rfl | simp
end Go.Proofs.YticiddcgafhkhaaGreatDoor
