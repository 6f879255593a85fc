/-
  Lists in the order of their names: put in, taken out, found.
  The reference's table: what lies; find, Get.
  The reference's table: Get, Names, Undef.
  The reference's table: Undef.
  The reference's table: Define of what is not right, and of a name that is there.
  The reference's table: Define of a new name.
-/
import Derived.Sort.KeysCollected
import Derived.Test.YticiddcgafhkhaaGreatDoorOa
import Derived.Test.YticiddcgafhkhaaGreatDoorUc
import Derived.Test.YticiddcgafhkhaaGreatDoorT3
import Derived.Test.YticiddcgafhkhaaGreatDoorX3
import Derived.BigRegion
import Derived.Deep.RegionWith
import Derived.Sort.Walk0
import Derived.Laws.OwnMore
import Derived.Laws.MakeOwn
import Derived.Deep.RegionLaw
import Derived.BigQuiet
namespace Go.Proofs.YticiddcgafhkhaaGreatDoor
open Go Go.Sort Go.Maps

section
variable {α : Type} (nm : α → List UInt8)
/-- In the order of their names, none twice. -/
def Srt (l : List α) : Prop := l.Pairwise fun a b => nm a < nm b
/-- How many names are less. -/
def atL (l : List α) (s : List UInt8) : Nat := (l.takeWhile fun x => decide (nm x < s)).length
/-- Put in where it belongs. -/
def insL (l : List α) (m : α) : List α := l.take (atL nm l (nm m)) ++ m :: l.drop (atL nm l (nm m))
theorem Srt.nodup {l : List α} (h : Srt nm l) : (l.map nm).Nodup := by
  unfold List.Nodup
  rw [List.pairwise_map]
  refine List.Pairwise.imp ?_ h
  intro a b hab e
  rw [← e] at hab
  exact List.lt_irrefl (nm a) hab
theorem Srt.sorted {l : List α} (h : Srt nm l) : (l.map nm).mergeSort leB = l.map nm := by
  refine List.mergeSort_of_pairwise ?_
  rw [List.pairwise_map]
  exact h.imp fun {a b} hab => decide_eq_true (List.le_of_lt hab)
theorem Srt.filter {l : List α} (h : Srt nm l) (p : α → Bool) : Srt nm (l.filter p) := List.Pairwise.filter p h
theorem atL_le (l : List α) (s : List UInt8) : atL nm l s ≤ l.length := (List.takeWhile_sublist _).length_le
theorem take_atL (l : List α) (s : List UInt8) : l.take (atL nm l s) = l.takeWhile fun x => decide (nm x < s) := by
  have h : l.takeWhile (fun x => decide (nm x < s)) <+: l := List.takeWhile_prefix _
  exact (List.prefix_iff_eq_take.1 h).symm
theorem drop_atL (l : List α) (s : List UInt8) : l.drop (atL nm l s) = l.dropWhile fun x => decide (nm x < s) := by
  have h := List.takeWhile_append_dropWhile (p := fun x => decide (nm x < s)) (l := l)
  have h2 : l.take (atL nm l s) ++ l.drop (atL nm l s) = l := List.take_append_drop _ _
  rw [take_atL] at h2
  exact List.append_cancel_left (h2.trans h.symm)
theorem insL_perm (l : List α) (m : α) : (insL nm l m).Perm (l ++ [m]) := by
  unfold insL
  refine List.perm_middle.trans ?_
  rw [List.take_append_drop]
  exact (List.perm_append_singleton m l).symm
theorem Srt.ins {l : List α} (h : Srt nm l) {m : α} (hm : nm m ∉ l.map nm) : Srt nm (insL nm l m) := by
  have h0 : l.take (atL nm l (nm m)) ++ l.drop (atL nm l (nm m)) = l := List.take_append_drop _ _
  have h1 : Srt nm (l.take (atL nm l (nm m))) := List.Pairwise.sublist (List.take_sublist _ _) h
  have h2 : Srt nm (l.drop (atL nm l (nm m))) := List.Pairwise.sublist (List.drop_sublist _ _) h
  have a1 : ∀ x ∈ l.take (atL nm l (nm m)), nm x < nm m := fun x hx => by
    rw [take_atL] at hx
    have := List.all_eq_true.1 (List.all_takeWhile (p := fun x => decide (nm x < nm m)) (l := l)) x hx
    exact of_decide_eq_true this
  have a2 : ∀ x ∈ l.drop (atL nm l (nm m)), nm m < nm x := by
    cases hd : l.drop (atL nm l (nm m)) with
    | nil => intro x hx; cases hx
    | cons y r =>
      have hy : nm m < nm y := by
        have hn : ¬ nm y < nm m := by
          intro hlt
          have := drop_atL nm l (nm m)
          rw [hd] at this
          have h3 := List.head?_dropWhile_not (fun x => decide (nm x < nm m)) l
          rw [← this] at h3
          simp [hlt] at h3
        have hle : nm m ≤ nm y := List.not_lt.1 hn
        have hyl : y ∈ l := List.mem_of_mem_drop (by rw [hd]; exact List.mem_cons_self)
        have hne : nm m ≠ nm y := fun e => hm (e ▸ List.mem_map_of_mem hyl)
        exact Classical.byContradiction fun h => hne (List.le_antisymm hle (List.not_lt.1 h))
      rw [hd] at h2
      intro x hx
      rcases List.mem_cons.1 hx with rfl | hx
      · exact hy
      · exact List.lt_trans hy (List.rel_of_pairwise_cons h2 hx)
  refine List.pairwise_append.2 ⟨h1, List.pairwise_cons.2 ⟨a2, h2⟩, fun x hx y hy => ?_⟩
  rcases List.mem_cons.1 hy with rfl | hy
  · exact a1 x hx
  · exact List.lt_trans (a1 x hx) (a2 y hy)
end
end Go.Proofs.YticiddcgafhkhaaGreatDoor
namespace Go.Proofs.YticiddcgafhkhaaGreatDoor
open Go Go.RowKit
set_option linter.unusedVariables false
set_option linter.unusedSimpArgs false

/-- A macro, and the values of its two lists. -/
structure Me where
  m : Mc
  pv : Value
  bv : Value
def Me.v (x : Me) : Value := .agg #[.string ⟨x.m.name.toArray⟩, .bool x.m.fn, x.pv, .bool x.m.more, x.bv]
/-- The five cells of a macro at a place of a row. -/
def FiveOf (w : World) (g o : Nat) (x : Me) : Prop :=
  w.cell? ⟨g, o, none⟩ = some (.string ⟨x.m.name.toArray⟩) ∧ w.cell? ⟨g, o + 1, none⟩ = some (.bool x.m.fn) ∧ w.cell? ⟨g, o + 2, none⟩ = some x.pv ∧ w.cell? ⟨g, o + 3, none⟩ = some (.bool x.m.more) ∧ w.cell? ⟨g, o + 4, none⟩ = some x.bv
/-- A list of macros lies behind a value. -/
structure RtG (B : Nat) (W : World) (p : Option Addr) (cap : Nat) (ms : List Me) : Prop where
  len : ms.length ≤ cap
  nil : p = none → cap = 0
  cap : cap ≤ maxLen
  five : ∀ (i : Nat) (h : i < ms.length), ∃ g o, p = some ⟨g, o, none⟩ ∧ g < B ∧ FiveOf W g (o + i * 5) ms[i]
  each : ∀ x ∈ ms, McV B W x.v x.m
/-- The reference's table in its box. -/
def RTab (W : World) (rb : Nat) (ms : List Me) : Prop := ∃ p cap, W.heap[rb]? = some (.cells #[.slice p ms.length cap] 29 (0, 0)) ∧ RtG W.heap.size W p cap ms
theorem FiveOf.next {w w' : World} {g o : Nat} {x : Me} (h : FiveOf w g o x) (hk : w'.heap[g]? = w.heap[g]?) : FiveOf w' g o x := by
  obtain ⟨a, b, c, d, e⟩ := h
  have key : ∀ j u, w.cell? ⟨g, j, none⟩ = some u → w'.cell? ⟨g, j, none⟩ = some u := fun j u hu => (World.cell?_of_block hk).trans hu
  exact ⟨key _ _ a, key _ _ b, key _ _ c, key _ _ d, key _ _ e⟩
theorem RtG.next {W W' : World} {p : Option Addr} {cap : Nat} {ms : List Me} (h : RtG W.heap.size W p cap ms) (hb : Below W.heap.size W W') : RtG W'.heap.size W' p cap ms :=
  ⟨h.len, h.nil, h.cap, fun i hi => by obtain ⟨g, o, e, h1, h2⟩ := h.five i hi; exact ⟨g, o, e, Nat.lt_of_lt_of_le h1 hb.size, h2.next (hb.block g h1)⟩, fun x hx => (h.each x hx).below hb⟩
theorem RTab.lt {W : World} {rb : Nat} {ms : List Me} (h : RTab W rb ms) : rb < W.heap.size := by
  obtain ⟨p, cap, h, _⟩ := h; exact (Array.getElem?_eq_some_iff.1 h).1
theorem RTab.next {W W' : World} {rb : Nat} {ms : List Me} (h : RTab W rb ms) (hb : Below W.heap.size W W') : RTab W' rb ms := by
  have hlt := h.lt
  obtain ⟨p, cap, h1, h2⟩ := h
  exact ⟨p, cap, (hb.block rb hlt).trans h1, h2.next hb⟩
theorem FiveOf.frM {W W' : World} {g o t mb n : Nat} {x : Me} {D : DataW Value} (h : FiveOf W g o x) (hg : g < W.heap.size) (hf : Fr W W' mb) (hT : Tbl W t mb n D) : FiveOf W' g o x :=
  h.next (hf.2 g hg (fun e => cell_map hT _ _ (e ▸ h.1)))
/-- The reference's table stays as it is where the program's turns. -/
theorem RTab.frM {W W' : World} {rb t mb n : Nat} {ms : List Me} {D : DataW Value} (h : RTab W rb ms) (hf : Fr W W' mb) (hT : Tbl W t mb n D) : RTab W' rb ms := by
  have hlt := h.lt
  obtain ⟨p, cap, h1, h2⟩ := h
  refine ⟨p, cap, (hf.2 rb hlt (fun e => ?_)).trans h1, h2.len, h2.nil, h2.cap, fun i hi => ?_, fun x hx => (h2.each x hx).frM hf hT⟩
  · subst e
    exact cell_map hT 0 (.slice p ms.length cap) (by rw [World.cell?, h1]; rfl)
  · obtain ⟨g, o, e, h3, h4⟩ := h2.five i hi
    exact ⟨g, o, e, Nat.lt_of_lt_of_le h3 hf.1, h4.frM h3 hf hT⟩
theorem RTab.cell {W : World} {rb : Nat} {ms : List Me} {p : Option Addr} {cap : Nat} (h : W.heap[rb]? = some (.cells #[.slice p ms.length cap] 29 (0, 0))) : W.cell? ⟨rb, 0, none⟩ = some (.slice p ms.length cap) := by rw [World.cell?, h]; rfl
/-- What find tells. -/
def FindP (s : List UInt8) (ms : List Me) (w : World) (e : Ending) (w' : World) : Prop :=
  w' = w ∧ ((s ∉ ms.map (fun x => x.m.name) ∧ e = .returned (.int .i64 (-1))) ∨ ∃ (i : Nat) (h : i < ms.length), ms[i].m.name = s ∧ e = .returned (.int .i64 (i : Int)))
set_option maxRecDepth 100000 in
set_option maxHeartbeats 4000000 in
theorem rfind_any (rb : Nat) (ms : List Me) (s : List UInt8) (w : World) (hT : RTab w rb ms) (hl : ms.length ≤ 1000) :
    Calls Tryz.prog 26 #[.pointer (some ⟨rb, 0, none⟩), .string ⟨s.toArray⟩] w fun e w' => FindP s ms w e w' := by
  obtain ⟨p, cap, hb, hG⟩ := hT
  have c0 := RTab.cell hb
  have HG := hide hG
  clear hb hG
  go_enter Tryz.func26, Tryz.ntmps26
  go_wp2
  go_loopg [5] ms.length (fun gk vi wr => ∃ k : Nat, gk = ms.length - k ∧ vi = .int .i64 k ∧ k ≤ ms.length ∧ wr = w ∧ Hid (∀ (j : Nat) (h : j < ms.length), j < k → ms[j].m.name ≠ s))
  case atStart => exact ⟨0, rfl, rfl, by omega, rfl, fun j _ h => by omega⟩
  case round =>
    obtain ⟨k, rfl, rfl, hk, rfl, HN⟩ := hrel
    by_cases hlt : k < ms.length
    · have i1 : (k : Int) < (ms.length : Int) := by omega
      obtain ⟨g, o, rfl, hg, t0, t1, t2, t3, t4⟩ := (unhide HG).five k hlt
      obtain ⟨nm, hnm⟩ : ∃ nm, ms[k].m.name = nm := ⟨_, rfl⟩
      rw [hnm] at t0
      have HNM := hide hnm
      clear hnm
      have hxe := beq_list nm s
      by_cases hx : nm = s
      · rw [decide_eq_true hx] at hxe
        have HX := hide hx
        clear hx t1 t2 t3 t4
        go_wp2
        go_ret
        exact ⟨rfl, .inr ⟨k, hlt, (unhide HNM).trans (unhide HX), rfl⟩⟩
      · rw [decide_eq_false hx] at hxe
        have HN2 : Hid (∀ (j : Nat) (h : j < ms.length), j < k + 1 → ms[j].m.name ≠ s) := fun j hj h => by
          rcases Nat.lt_succ_iff_lt_or_eq.1 h with h | rfl
          · exact unhide HN j hj h
          · rw [unhide HNM]; exact hx
        clear hx HN t1 t2 t3 t4
        go_wp2
        go_roundg (ms.length - (k + 1))
        case measure => omega
        case rel => exact ⟨k + 1, rfl, by simp, by omega, rfl, HN2⟩
    · have i1 : decide ((k : Int) < (ms.length : Int)) = false := by simpa using hlt
      go_wp2
      go_ret
      refine ⟨rfl, .inl ⟨fun h => ?_, rfl⟩⟩
      obtain ⟨x, hx, e⟩ := List.mem_map.1 h
      obtain ⟨j, hj, rfl⟩ := List.mem_iff_getElem.1 hx
      exact unhide HN j hj (by omega) e
end Go.Proofs.YticiddcgafhkhaaGreatDoor
namespace Go.Proofs.YticiddcgafhkhaaGreatDoor
open Go Go.RowKit
set_option linter.unusedVariables false
set_option linter.unusedSimpArgs false

theorem resG {tmps : Array Value} {w : World} {R : Nat} {cs : Array Value} (hp : tmps.getD 4 undef = .pointer (some ⟨R, 0, none⟩)) (hg : w.heap[R]? = some (.cells cs 33 (0, 0))) (hz : cs.size = 5) :
    (results Tryz.f13 tmps).run Tryz.prog w = .ok (.tuple #[.agg cs, tmps.getD 5 undef]) w := by
  have hr : Tryz.f13.results = #[.cell 4 33, .tmp 5] := rfl
  have hi : (Tryz.prog.info? 33).map (·.size) = some cs.size := by rw [hz]; kernel_rfl
  have hp' : tmps[4]?.getD undef = .pointer (some ⟨R, 0, none⟩) := by simpa using hp
  simp [results, hr, hp', asAddr, run_loadVar_row w R 33 33 cs (0, 0) _ hg Tryz.underlying33 rfl hi]
theorem me_slices {B : Nat} {W : World} {x : Me} (h : McV B W x.v x.m) : ∃ q c r k, x.pv = .slice q x.m.ps.length c ∧ x.bv = .slice r x.m.body.length k := by
  obtain ⟨pv, bv, e, ⟨p, c, hp, _⟩, ⟨q, d, hq, _⟩, _⟩ := h
  simp [Me.v] at e
  obtain ⟨e1, e2⟩ := e
  exact ⟨p, c, q, d, e1.trans hp, e2.trans hq⟩
/-- What Get tells. -/
def RGetP (s : List UInt8) (ms : List Me) (w : World) (e : Ending) (w' : World) : Prop :=
  Below w.heap.size w w' ∧ ((s ∉ ms.map (fun x => x.m.name) ∧ e = .returned (.tuple #[.agg zeroM, .bool false])) ∨ ∃ x ∈ ms, x.m.name = s ∧ e = .returned (.tuple #[x.v, .bool true]))
set_option maxRecDepth 100000 in
set_option maxHeartbeats 4000000 in
theorem rGet_any (rb : Nat) (ms : List Me) (s : List UInt8) (w : World) (hT : RTab w rb ms) (hl : ms.length ≤ 1000) :
    Calls Tryz.prog 13 #[.pointer (some ⟨rb, 0, none⟩), .string ⟨s.toArray⟩] w fun e w' => RGetP s ms w e w' := by
  have hb0 := (Below.refl w.heap.size w).alloc (Nat.le_refl _) (.cells #[.string ⟨#[]⟩, .bool false, .slice none 0 0, .bool false, .slice none 0 0] 33)
  have hm0 : MBox (w.alloc (.cells #[.string ⟨#[]⟩, .bool false, .slice none 0 0, .bool false, .slice none 0 0] 33)) w.heap.size (.string ⟨#[]⟩) false (.slice none 0 0) false (.slice none 0 0) := World.alloc_heap_new w _
  have hT0 := hT.next hb0
  have HF := hide (rfind_any rb ms s _ hT0 hl)
  have HT := hide hT0
  have HM := hide hm0
  have HB := hide hb0
  clear hb0 hm0 hT0 hT
  go_enter Tryz.func13, Tryz.ntmps13
  go_wp2_with fail
  refine (unhide HF).mono ?_
  rintro e W1 ⟨rfl, h | ⟨i, hi, hn, he⟩⟩
  · obtain ⟨hno, rfl⟩ := h
    generalize (w.alloc (.cells #[.string ⟨#[]⟩, .bool false, .slice none 0 0, .bool false, .slice none 0 0] 33)) = W1 at *
    obtain ⟨m0, m1, m2, m3, m4⟩ := (unhide HM).five
    have n0 := (unhide HM).frozen 0
    have n1 := (unhide HM).frozen 1
    have n2 := (unhide HM).frozen 2
    have n3 := (unhide HM).frozen 3
    have n4 := (unhide HM).frozen 4
    have HNO := hide hno
    clear hno
    go_wp2
    refine bodyPost_ret (resG rfl ((unhide HM).put _ _ _ _ _) rfl) rfl ⟨below_put5 (unhide HB) (Nat.le_refl _) _ _ _ _ _, .inl ⟨unhide HNO, rfl⟩⟩
  · subst he
    generalize (w.alloc (.cells #[.string ⟨#[]⟩, .bool false, .slice none 0 0, .bool false, .slice none 0 0] 33)) = W1 at *
    obtain ⟨m0, m1, m2, m3, m4⟩ := (unhide HM).five
    have n0 := (unhide HM).frozen 0
    have n1 := (unhide HM).frozen 1
    have n2 := (unhide HM).frozen 2
    have n3 := (unhide HM).frozen 3
    have n4 := (unhide HM).frozen 4
    obtain ⟨p, cap, hb, hG⟩ := unhide HT
    have c0 := RTab.cell hb
    obtain ⟨g, o, rfl, hg, t0, t1, t2, t3, t4⟩ := hG.five i hi
    have i1 : (i : Int) < (ms.length : Int) := by omega
    have HX : Hid (ms[i] ∈ ms ∧ ms[i].m.name = s) := ⟨List.getElem_mem hi, hn⟩
    have hsl := me_slices (hG.each _ (List.getElem_mem hi))
    clear hb hG hn
    generalize ms[i] = x at *
    obtain ⟨⟨xn, xf, xp, xm, xb⟩, pv, bv⟩ := x
    simp only at t0 t1 t2 t3 t4 hsl
    obtain ⟨q1, k1, q2, k2, rfl, rfl⟩ := hsl
    go_wp2
    refine bodyPost_ret (resG rfl ((unhide HM).put _ _ _ _ _) rfl) rfl ⟨below_put5 (unhide HB) (Nat.le_refl _) _ _ _ _ _, .inr ⟨_, (unhide HX).1, (unhide HX).2, rfl⟩⟩
set_option maxRecDepth 100000 in
set_option maxHeartbeats 4000000 in
theorem rNames_any (rb : Nat) (ms : List Me) (w : World) (hT : RTab w rb ms) (hl : ms.length ≤ 1000) :
    Calls Tryz.prog 17 #[.pointer (some ⟨rb, 0, none⟩)] w fun e w' => ∃ v, e = .returned v ∧ w'.ownsRow w.heap.size 9 1 v ms.length (sCells (ms.map fun x => x.m.name)) ∧ Below w.heap.size w w' := by
  have HT := hide hT
  obtain ⟨i0, hi0, hz0, hz1, hz2⟩ := info_parts Tryz.info9
  clear hT
  go_enter Tryz.func17, Tryz.ntmps17
  go_wp2
  go_loopg [3, 4] ms.length (fun gk vo vi wr => ∃ k : Nat, gk = ms.length - k ∧ vi = .int .i64 k ∧ k ≤ ms.length ∧ Hid (wr.ownsRow w.heap.size 9 1 vo k (sCells ((ms.map fun x => x.m.name).take k))) ∧ Hid (Below w.heap.size w wr))
  case atStart => exact ⟨0, rfl, rfl, by omega, World.ownsRow_nil _ _ _ _, Below.refl _ _⟩
  case round =>
    obtain ⟨k, rfl, rfl, hk, HR, HB⟩ := hrel
    have hTr := (unhide HT).next (unhide HB)
    obtain ⟨p, cap, hb, hG⟩ := hTr
    have c0 := RTab.cell hb
    by_cases hlt : k < ms.length
    · have i1 : (k : Int) < (ms.length : Int) := by omega
      obtain ⟨g, o, rfl, hg, t0, t1, t2, t3, t4⟩ := hG.five k hlt
      have HS : Hid (sCells ((ms.map fun x => x.m.name).take (k + 1)) = sCells ((ms.map fun x => x.m.name).take k) ++ [.string ⟨ms[k].m.name.toArray⟩]) := by
        have hlt' : k < (ms.map fun x => x.m.name).length := by simpa using hlt
        show sCells _ = _
        rw [List.take_succ_eq_append_getElem hlt']
        simp [sCells]
      have hba := (Below.refl wr.heap.size wr).alloc (Nat.le_refl _) (.cells #[.string ⟨ms[k].m.name.toArray⟩] 9)
      have HRa := hide (ownsRow_bel (unhide HR) hba)
      have HBa : Hid (Below w.heap.size w (wr.alloc (.cells #[.string ⟨ms[k].m.name.toArray⟩] 9))) := (unhide HB).trans (hba.mono (unhide HB).size)
      have HOWN := hide (unhide HR).lt
      have hwz := (unhide HB).size
      clear hb hG t1 t2 t3 t4 hba
      generalize ms[k].m.name = nm at *
      go_wp2_with (at_builtin; refine wpList_append_own _ rfl _ _ 30 rfl w.heap.size 9 i0 _ 1 16 Tryz.underlying30 hi0 hz0 hz1 hz2 rfl (by decide) _ _ _ rfl (unhide HRa) ⟨wr.heap.size, 0, none⟩ 1 1 [.string ⟨nm.toArray⟩] rfl rfl ?qc2 ?qc3 ?qc4 ?qc5 ?qc6 ?_)
      case qc2 =>
        intro j u hj
        have hn : (wr.alloc (.cells #[.string ⟨nm.toArray⟩] 9)).heap[wr.heap.size]? = some (.cells #[.string ⟨nm.toArray⟩] 9 (0, 0)) := World.alloc_heap_new wr _
        match j with
        | 0 =>
          simp at hj
          subst hj
          show World.cell? _ ⟨wr.heap.size, 0, none⟩ = _
          rw [World.cell?, hn]; rfl
        | j + 1 => simp at hj
      case qc3 => intro u hu; simp at hu; subst hu; rfl
      case qc4 => unfold maxLen; omega
      case qc5 => omega
      case qc6 => simp; omega
      intro v' w1 hown2 hgrow hnil
      have HN : Hid (w1.ownsRow w.heap.size 9 1 v' (k + 1) (sCells ((ms.map fun x => x.m.name).take (k + 1)))) := by
        rw [Hid, unhide HS]
        exact hown2
      have HB2 : Hid (Below w.heap.size w w1) := (unhide HBa).grown hgrow (by simp; omega) (by intro r hr; have := (unhide HOWN r hr).1; omega)
      clear hown2 hgrow hnil
      go_wp2
      go_roundg (ms.length - (k + 1))
      case measure => omega
      case rel => exact ⟨k + 1, rfl, by simp, by omega, HN, HB2⟩
    · have i1 : decide ((k : Int) < (ms.length : Int)) = false := by simpa using hlt
      obtain rfl : k = ms.length := by omega
      clear hb hG
      go_wp2
      go_ret
      refine ⟨_, rfl, ?_, unhide HB⟩
      have := unhide HR
      rwa [List.take_of_length_le (by simp)] at this
end Go.Proofs.YticiddcgafhkhaaGreatDoor
namespace Go.Proofs.YticiddcgafhkhaaGreatDoor
open Go Go.RowKit
set_option linter.unusedVariables false
set_option linter.unusedSimpArgs false

def fiveL (x : Me) : List Value := [.string ⟨x.m.name.toArray⟩, .bool x.m.fn, x.pv, .bool x.m.more, x.bv]
/-- The cells of macros, one behind the other. -/
def meCells : List Me → List Value
  | [] => []
  | x :: r => fiveL x ++ meCells r
theorem meCells_app (a b : List Me) : meCells (a ++ b) = meCells a ++ meCells b := by
  induction a with
  | nil => rfl
  | cons x r ih => simp only [List.cons_append, meCells, ih, List.append_assoc]
theorem meCells_length (l : List Me) : (meCells l).length = l.length * 5 := by
  induction l with
  | nil => rfl
  | cons x r ih => simp only [meCells, List.length_append, ih, List.length_cons, fiveL, List.length_nil]; omega
theorem meCells_at : ∀ (l : List Me) (i : Nat) (h : i < l.length) (k : Nat), k < 5 → (meCells l)[i * 5 + k]? = (fiveL l[i])[k]?
  | x :: r, 0, _, k, hk => by
    simp only [meCells, Nat.zero_mul, Nat.zero_add, List.getElem_cons_zero]
    exact List.getElem?_append_left (by simpa [fiveL] using hk)
  | x :: r, i + 1, h, k, hk => by
    have hi : i < r.length := by simpa using h
    simp only [meCells, List.getElem_cons_succ]
    rw [List.getElem?_append_right (by simp [fiveL]; omega)]
    have e : (i + 1) * 5 + k - (fiveL x).length = i * 5 + k := by simp [fiveL]; omega
    rw [e]
    exact meCells_at r i hi k hk
theorem one5 {B : Nat} {W : World} {x : Me} (h : McV B W x.v x.m) : ∀ u ∈ fiveL x, u.oneCell' = true := by
  obtain ⟨pv, bv, e, ⟨p, c, hp, _⟩, ⟨q, d, hq, _⟩, _⟩ := h
  simp [Me.v] at e
  obtain ⟨e1, e2⟩ := e
  intro u hu
  simp only [fiveL, List.mem_cons, List.not_mem_nil, or_false] at hu
  rcases hu with rfl | rfl | rfl | rfl | rfl
  · rfl
  · rfl
  · rw [e1, hp]; rfl
  · rfl
  · rw [e2, hq]; rfl
theorem RtG.of {W : World} {base : Nat} {v : Value} {ms : List Me} (h : W.ownsRow base 33 5 v ms.length (meCells ms)) (he : ∀ x ∈ ms, McV W.heap.size W x.v x.m) : ∃ p cap, v = .slice p ms.length cap ∧ RtG W.heap.size W p cap ms := by
  rcases h.2 with ⟨rfl, h0⟩ | ⟨g, cap, cur, rfl, hb, hg, hc, hm, hs, ht⟩
  · exact ⟨none, 0, by rw [h0], by omega, fun _ => rfl, Nat.zero_le _, fun i hi => by omega, he⟩
  · refine ⟨some ⟨g, 0, none⟩, cap, rfl, hc, fun h => by (cases h), hm, fun i hi => ⟨g, 0, rfl, (Array.getElem?_eq_some_iff.1 hg).1, ?_⟩, he⟩
    have key : ∀ k, k < 5 → W.cell? ⟨g, 0 + i * 5 + k, none⟩ = (fiveL ms[i])[k]? := fun k hk => by
      have e : (cur.toList.take (ms.length * 5))[i * 5 + k]? = (meCells ms)[i * 5 + k]? := by rw [ht]
      rw [List.getElem?_take_of_lt (by omega), meCells_at ms i hi k hk] at e
      rw [World.cell?, hg, ← e]
      simp
    exact ⟨key 0 (by decide), key 1 (by decide), key 2 (by decide), key 3 (by decide), key 4 (by decide)⟩
/-- A box with a list alone bears no text and no number. -/
theorem box_no {W : World} {rb n c j : Nat} {p : Option Addr} {u : Value} (h : W.heap[rb]? = some (.cells #[.slice p n c] 29 (0, 0))) (hu : W.cell? ⟨rb, j, none⟩ = some u) : u = .slice p n c := by
  rw [World.cell?, h] at hu
  match j, hu with
  | 0, hu => simpa using hu.symm
  | j + 1, hu => simp at hu
theorem McV.frR {W W' : World} {x : Value} {m : Mc} {rb n c : Nat} {p : Option Addr} (h : McV W.heap.size W x m) (hf : Fr W W' rb) (hx : W.heap[rb]? = some (.cells #[.slice p n c] 29 (0, 0))) : McV W'.heap.size W' x m := by
  obtain ⟨pv, bv, e, a, b, c'⟩ := h
  refine ⟨pv, bv, e, ?_, ?_, c'⟩
  · obtain ⟨p', cap, rfl, hc⟩ := a
    refine ⟨p', cap, rfl, fun i hi => ?_⟩
    obtain ⟨g, o, rfl, h1, c0⟩ := hc i hi
    exact ⟨g, o, rfl, Nat.lt_of_lt_of_le h1 hf.1, (hf.cell h1 (fun e => by subst e; have := box_no hx c0; cases this)).trans c0⟩
  · obtain ⟨p', cap, rfl, hc⟩ := b
    refine ⟨p', cap, rfl, fun i hi => ?_⟩
    obtain ⟨g, o, rfl, h1, c0, c1, c2, c3, c4, c5⟩ := hc i hi
    have key : ∀ j u, W.cell? ⟨g, j, none⟩ = some u → W'.cell? ⟨g, j, none⟩ = some u := fun j u hu => (hf.cell h1 (fun e => by subst e; have := box_no hx c0; cases this)).trans hu
    exact ⟨g, o, rfl, Nat.lt_of_lt_of_le h1 hf.1, key _ _ c0, key _ _ c1, key _ _ c2, key _ _ c3, key _ _ c4, key _ _ c5⟩
/-- The program's table stays as it is where the reference's turns. -/
theorem Tab.frR {W W' : World} {t mb rb n c : Nat} {p : Option Addr} {es : List Mc} (h : Tab W t mb es) (hf : Fr W W' rb) (hx : W.heap[rb]? = some (.cells #[.slice p n c] 29 (0, 0))) (h1 : t ≠ rb) (h2 : mb ≠ rb) : Tab W' t mb es := by
  obtain ⟨n, D, h⟩ := h
  refine ⟨n, D, h.tbl.fr hf h1 h2, h.few, h.has, fun m hm => ?_⟩
  obtain ⟨v, a, b⟩ := h.ent m hm
  exact ⟨v, a, b.frR hf hx⟩
theorem set_blockR {W : World} {M : Nat} {cs : Array Value} {t : TypeId} {fr : Nat × Nat} (h : W.heap[M]? = some (.cells cs t fr)) (i : Nat) (v : Value) : (W.setCell ⟨M, i, none⟩ v).heap[M]? = some (.cells (cs.setIfInBounds i v) t fr) := by
  obtain ⟨hlt, hk⟩ := Array.getElem?_eq_some_iff.1 h
  show (W.heap.modify M _)[M]? = _
  rw [Array.getElem?_eq_getElem (by rw [Array.size_modify]; exact hlt), Array.getElem_modify_self, hk]
  rfl
/-- The row in the box is a new one. -/
def RNew (w W : World) (rb : Nat) : Prop := ∀ p n c g o, W.heap[rb]? = some (.cells #[.slice p n c] 29 (0, 0)) → p = some ⟨g, o, none⟩ → 0 < n → w.heap.size ≤ g
/-- The end of both that write: the new row is put into the box. -/
theorem RTab.put {w W : World} {rb : Nat} {ms ms' : List Me} {v : Value} (hT : RTab w rb ms) (hB : Below w.heap.size w W) (hrow : W.ownsRow w.heap.size 33 5 v ms'.length (meCells ms')) (he : ∀ x ∈ ms', McV W.heap.size W x.v x.m) :
    RTab (W.setCell ⟨rb, 0, none⟩ v) rb ms' ∧ Fr w (W.setCell ⟨rb, 0, none⟩ v) rb ∧ Below rb w (W.setCell ⟨rb, 0, none⟩ v) ∧ RNew w (W.setCell ⟨rb, 0, none⟩ v) rb := by
  have hlt := hT.lt
  obtain ⟨p, cap, hb, hG⟩ := hT.next hB
  have hf : Fr W (W.setCell ⟨rb, 0, none⟩ v) rb := (Fr.refl W rb).setCell 0 v
  have hf2 : Fr w (W.setCell ⟨rb, 0, none⟩ v) rb := (Fr.of rb hB).trans hf
  obtain ⟨q, c, rfl, hG'⟩ := RtG.of hrow he
  refine ⟨⟨q, c, by rw [set_blockR hb]; rfl, hG'.len, hG'.nil, hG'.cap, fun i hi => ?_, fun x hx => (hG'.each x hx).frR hf hb⟩, hf2, (hB.mono (Nat.le_of_lt hlt)).setCell (p := ⟨rb, 0, none⟩) (Nat.le_refl _) _, fun p' n' c' g o h1 e hn => ?_⟩
  rotate_left
  · rw [set_blockR hb] at h1
    have h2 : (Value.slice q ms'.length c) = .slice p' n' c' := by simpa using h1
    cases h2
    subst e
    rcases hrow.2 with ⟨h3, _⟩ | ⟨g', cap', cur, h3, hbg, _⟩
    · cases h3
    · simp at h3
      omega
  obtain ⟨g, o, e, h1, h2⟩ := hG'.five i hi
  refine ⟨g, o, e, Nat.lt_of_lt_of_le h1 hf.1, h2.next (hf.2 g h1 (fun e => ?_))⟩
  subst e
  have := box_no hb h2.1
  cases this
theorem Tryz.info33 : (Tryz.prog.info? 33).map (fun i => (i.zero, i.size, i.bytes)) = some (some (.agg #[.string ⟨#[]⟩, .bool false, .slice none 0 0, .bool false, .slice none 0 0]), 5, 80) := by kernel_rfl
def woM (s : List UInt8) (ms : List Me) : List Me := ms.filter fun x => !decide (x.m.name = s)
theorem woM_take {s : List UInt8} {ms : List Me} {k : Nat} (h : k < ms.length) : woM s (ms.take (k + 1)) = woM s (ms.take k) ++ (if ms[k].m.name = s then [] else [ms[k]]) := by
  unfold woM
  rw [List.take_succ_eq_append_getElem h, List.filter_append]
  congr 1
  by_cases hx : ms[k].m.name = s
  · rw [if_pos hx, List.filter_cons_of_neg (by simpa using hx)]; rfl
  · rw [if_neg hx, List.filter_cons_of_pos (by simpa using hx)]; rfl
theorem woM_len (s : List UInt8) (ms : List Me) : (woM s ms).length ≤ ms.length := List.length_filter_le _ _
set_option maxRecDepth 100000 in
set_option maxHeartbeats 8000000 in
theorem rUndef_any (rb : Nat) (ms : List Me) (s : List UInt8) (w : World) (hT : RTab w rb ms) (hl : ms.length ≤ 1000) :
    Calls Tryz.prog 11 #[.pointer (some ⟨rb, 0, none⟩), .string ⟨s.toArray⟩] w fun e w' => e = .returned (.tuple #[]) ∧ RTab w' rb (woM s ms) ∧ Fr w w' rb ∧ Below rb w w' ∧ RNew w w' rb := by
  have HT := hide hT
  obtain ⟨i0, hi0, hz0, hz1, hz2⟩ := info_parts Tryz.info33
  clear hT
  go_enter Tryz.func11, Tryz.ntmps11
  go_wp2
  go_loopg [4, 5] ms.length (fun gk vo vi wr => ∃ (k n c : Nat) (q : Option Addr), gk = ms.length - k ∧ vo = .slice q n c ∧ vi = .int .i64 k ∧ k ≤ ms.length ∧ Hid (n = (woM s (ms.take k)).length) ∧ Hid (wr.ownsRow w.heap.size 33 5 (.slice q n c) n (meCells (woM s (ms.take k)))) ∧ Hid (Below w.heap.size w wr))
  case atStart => exact ⟨0, 0, 0, none, rfl, rfl, rfl, by omega, rfl, World.ownsRow_nil _ _ _ _, Below.refl _ _⟩
  case round =>
    obtain ⟨k, n, c, q, rfl, rfl, rfl, hk, HNL, HR, HB⟩ := hrel
    have hTr := (unhide HT).next (unhide HB)
    have HTR := hide hTr
    obtain ⟨p, cap, hb, hG⟩ := hTr
    have c0 := RTab.cell hb
    by_cases hlt : k < ms.length
    · have i1 : (k : Int) < (ms.length : Int) := by omega
      obtain ⟨g, o, rfl, hg, t0, t1, t2, t3, t4⟩ := hG.five k hlt
      have HS := hide (woM_take (s := s) hlt)
      have H5 := hide (one5 (hG.each _ (List.getElem_mem hlt)))
      have hsl := me_slices (hG.each _ (List.getElem_mem hlt))
      have hxe := beq_list ms[k].m.name s
      have hll : n ≤ 1000 := by have h1 := woM_len s (ms.take k); have h2 := unhide HNL; simp at h1; omega
      have HLL := hide hll
      clear hb hG hll
      by_cases hx : ms[k].m.name = s
      · rw [decide_eq_true hx] at hxe
        have HR2 : Hid (wr.ownsRow w.heap.size 33 5 (.slice q n c) n (meCells (woM s (ms.take (k + 1))))) := by
          rw [Hid, unhide HS, if_pos hx, List.append_nil]
          exact unhide HR
        have HNL2 : Hid (n = (woM s (ms.take (k + 1))).length) := by
          rw [Hid, unhide HS, if_pos hx, List.append_nil]
          exact unhide HNL
        clear hx HS HR H5 t1 t2 t3 t4 hsl
        generalize ms[k].m.name = nm at *
        go_wp2
        go_roundg (ms.length - (k + 1))
        case measure => omega
        case rel => exact ⟨k + 1, n, c, q, rfl, rfl, by simp, by omega, HNL2, HR2, HB⟩
      · rw [decide_eq_false hx] at hxe
        rw [if_neg hx] at HS
        clear hx
        generalize ms[k] = x at *
        obtain ⟨⟨xn, xf, xp, xm, xb⟩, pv, bv⟩ := x
        simp only at t0 t1 t2 t3 t4 hxe hsl
        obtain ⟨q1, k1, q2, k2, rfl, rfl⟩ := hsl
        have hba := (Below.refl wr.heap.size wr).alloc (Nat.le_refl _) (.cells #[.string ⟨xn.toArray⟩, .bool xf, (.slice q1 xp.length k1), .bool xm, (.slice q2 xb.length k2)] 33)
        have HRa := hide (ownsRow_bel (unhide HR) hba)
        have HBa : Hid (Below w.heap.size w (wr.alloc (.cells #[.string ⟨xn.toArray⟩, .bool xf, (.slice q1 xp.length k1), .bool xm, (.slice q2 xb.length k2)] 33))) := (unhide HB).trans (hba.mono (unhide HB).size)
        have HOWN := hide (unhide HR).lt
        have hwz := (unhide HB).size
        clear hba
        go_wp2_with (at_builtin; refine wpList_append_own _ rfl _ _ 27 rfl w.heap.size 33 i0 _ 5 80 Tryz.underlying27 hi0 hz0 hz1 hz2 rfl (by decide) _ _ _ rfl (unhide HRa) ⟨wr.heap.size, 0, none⟩ 1 1 [.string ⟨xn.toArray⟩, .bool xf, (.slice q1 xp.length k1), .bool xm, (.slice q2 xb.length k2)] rfl rfl ?qc2 ?qc3 ?qc4 ?qc5 ?qc6 ?_)
        case qc2 =>
          intro j u hj
          have hn : (wr.alloc (.cells #[.string ⟨xn.toArray⟩, .bool xf, (.slice q1 xp.length k1), .bool xm, (.slice q2 xb.length k2)] 33)).heap[wr.heap.size]? = some (.cells #[.string ⟨xn.toArray⟩, .bool xf, (.slice q1 xp.length k1), .bool xm, (.slice q2 xb.length k2)] 33 (0, 0)) := World.alloc_heap_new wr _
          have hadd : (⟨wr.heap.size, 0, none⟩ : Addr).add j = ⟨wr.heap.size, j, none⟩ := by unfold Addr.add; split <;> simp_all
          rw [hadd, World.cell?, hn]
          simpa using hj
        case qc3 => intro u hu; exact unhide H5 u hu
        case qc4 => unfold maxLen; have := unhide HLL; omega
        case qc5 => have := unhide HLL; omega
        case qc6 => simp; omega
        intro v' w1 hown2 hgrow hnil
        obtain ⟨q', c', rfl⟩ := row_slice hown2
        have HN : Hid (w1.ownsRow w.heap.size 33 5 (.slice q' (n + 1) c') (n + 1) (meCells (woM s (ms.take (k + 1))))) := by
          rw [Hid, unhide HS, meCells_app]
          exact hown2
        have HNL2 : Hid (n + 1 = (woM s (ms.take (k + 1))).length) := by
          rw [Hid, unhide HS, List.length_append, ← unhide HNL]
          rfl
        have HB2 : Hid (Below w.heap.size w w1) := (unhide HBa).grown hgrow (by simp; omega) (by intro r hr; have := (unhide HOWN r hr).1; omega)
        clear hown2 hgrow hnil
        go_wp2
        go_roundg (ms.length - (k + 1))
        case measure => omega
        case rel => exact ⟨k + 1, n + 1, c', q', rfl, rfl, by simp, by omega, HNL2, HN, HB2⟩
    · have i1 : decide ((k : Int) < (ms.length : Int)) = false := by simpa using hlt
      obtain rfl : k = ms.length := by omega
      have fz : wr.frozen? ⟨rb, 0, none⟩ = false := by simp [World.frozen?, hb]
      have HE : Hid (∀ x ∈ woM s ms, McV wr.heap.size wr x.v x.m) := fun x hx => hG.each x (List.mem_filter.1 hx).1
      rw [List.take_length] at HR HNL
      have HP := hide ((unhide HT).put (unhide HB) (show wr.ownsRow w.heap.size 33 5 (.slice q n c) (woM s ms).length _ by rw [← unhide HNL]; exact unhide HR) (unhide HE))
      clear hb hG
      go_wp2
      exact bodyPost_end (results_none (fn := Tryz.f11) rfl _ _ _) rfl ⟨rfl, (unhide HP).1, (unhide HP).2.1, (unhide HP).2.2⟩
end Go.Proofs.YticiddcgafhkhaaGreatDoor
namespace Go.Proofs.YticiddcgafhkhaaGreatDoor
open Go Go.RowKit
set_option linter.unusedVariables false
set_option linter.unusedSimpArgs false

set_option maxRecDepth 100000 in
set_option maxHeartbeats 4000000 in
theorem rDefine_bad (rb : Nat) (x : Me) (w : World) (hf : McFits x.m) (hr : rightM x.m = false) (hx : McV w.heap.size w x.v x.m) :
    Calls Tryz.prog 9 #[.pointer (some ⟨rb, 0, none⟩), x.v] w fun e w' => e = .returned (.int .i64 2) ∧ Below w.heap.size w w' := by
  obtain ⟨q1, k1, q2, k2, e1, e2⟩ := me_slices hx
  have HRt := hide (fun W (hB : Below w.heap.size w W) => rRight_any x.v x.m W hf (hx.below hB))
  rw [right_same, hr] at HRt
  obtain ⟨⟨xn, xf, xp, xm, xb⟩, pv, bv⟩ := x
  simp only [Me.v] at *
  subst e1 e2
  have hb0 := (Below.refl w.heap.size w).alloc (Nat.le_refl _) (.cells #[.string ⟨xn.toArray⟩, .bool xf, .slice q1 xp.length k1, .bool xm, .slice q2 xb.length k2] 33)
  have HB0 := hide hb0
  clear hb0 hx hf hr
  go_enter Tryz.func9, Tryz.ntmps9
  go_wp2_with fail
  refine (unhide HRt _ (unhide HB0)).mono ?_
  rintro e W1 ⟨rfl, hb1⟩
  have HB1 : Hid (Below w.heap.size w W1) := (unhide HB0).trans (hb1.mono (by simp))
  clear hb1 HRt
  go_wp2
  go_ret
  exact ⟨rfl, unhide HB1⟩
set_option maxRecDepth 100000 in
set_option maxHeartbeats 8000000 in
theorem rDefine_old (rb : Nat) (ms : List Me) (x : Me) (w : World) (hT : RTab w rb ms) (hl : ms.length ≤ 1000) (hf : McFits x.m) (hfs : ∀ y ∈ ms, McFits y.m) (hr : rightM x.m = true) (hx : McV w.heap.size w x.v x.m) (hin : x.m.name ∈ ms.map (fun x => x.m.name)) :
    Calls Tryz.prog 9 #[.pointer (some ⟨rb, 0, none⟩), x.v] w fun e w' => (∃ y ∈ ms, y.m.name = x.m.name ∧ e = .returned (.int .i64 (if y.m = x.m then 0 else 31))) ∧ Below w.heap.size w w' := by
  obtain ⟨q1, k1, q2, k2, e1, e2⟩ := me_slices hx
  have HRt := hide (fun W (hB : Below w.heap.size w W) => rRight_any x.v x.m W hf (hx.below hB))
  rw [right_same, hr] at HRt
  have HFi := hide (fun W (hB : Below w.heap.size w W) => rfind_any rb ms x.m.name W (hT.next hB) hl)
  have HEq := hide (fun (y : Me) (hy : y ∈ ms) W (hB : Below w.heap.size w W) (hyv : McV W.heap.size W y.v y.m) => rEqual_any y.v x.v y.m x.m W (hfs y hy).ps (hfs y hy).body hyv (hx.below hB))
  have HIN := hide hin
  have HT := hide hT
  have HX := hide hx
  clear hT hx hf hfs hr hin
  obtain ⟨⟨xn, xf, xp, xm, xb⟩, pv, bv⟩ := x
  simp only [Me.v] at *
  subst e1 e2
  have hb0 := (Below.refl w.heap.size w).alloc (Nat.le_refl _) (.cells #[.string ⟨xn.toArray⟩, .bool xf, .slice q1 xp.length k1, .bool xm, .slice q2 xb.length k2] 33)
  have hm0 : MBox (w.alloc (.cells #[.string ⟨xn.toArray⟩, .bool xf, .slice q1 xp.length k1, .bool xm, .slice q2 xb.length k2] 33)) w.heap.size (.string ⟨xn.toArray⟩) xf (.slice q1 xp.length k1) xm (.slice q2 xb.length k2) := World.alloc_heap_new w _
  have HB0 := hide hb0
  have HM0 := hide hm0
  clear hb0 hm0
  go_enter Tryz.func9, Tryz.ntmps9
  go_wp2_with fail
  refine (unhide HRt _ (unhide HB0)).mono ?_
  rintro e W1 ⟨rfl, hb1⟩
  have HB1 : Hid (Below w.heap.size w W1) := (unhide HB0).trans (hb1.mono (by simp))
  have HM1 := hide ((unhide HM0).below hb1 (by simp))
  clear hb1 HRt HB0 HM0
  obtain ⟨m0, m1, m2, m3, m4⟩ := (unhide HM1).five
  go_wp2_with fail
  refine (unhide HFi _ (unhide HB1)).mono ?_
  rintro e W2 ⟨rfl, ⟨hno, _⟩ | ⟨i, hi, hn, rfl⟩⟩
  · exact absurd (unhide HIN) hno
  · obtain ⟨p, cap, hb, hG⟩ := (unhide HT).next (unhide HB1)
    have c0 := RTab.cell hb
    obtain ⟨g, o, rfl, hg, t0, t1, t2, t3, t4⟩ := hG.five i hi
    have i1 : (i : Int) < (ms.length : Int) := by omega
    have hsl := me_slices (hG.each _ (List.getElem_mem hi))
    have HYV := hide (hG.each _ (List.getElem_mem hi))
    have HMEM : Hid (ms[i] ∈ ms ∧ ms[i].m.name = xn) := ⟨List.getElem_mem hi, hn⟩
    clear hb hG hn HFi HT
    generalize ms[i] = y at *
    have HE2 := hide (fun W (hB : Below W2.heap.size W2 W) => unhide HEq y (unhide HMEM).1 W ((unhide HB1).trans (hB.mono (unhide HB1).size)) ((unhide HYV).below hB))
    obtain ⟨⟨yn, yf, yp, ym, yb⟩, pv2, bv2⟩ := y
    simp only [Me.v] at t0 t1 t2 t3 t4 hsl HE2
    obtain ⟨q3, k3, q4, k4, rfl, rfl⟩ := hsl
    have HRES : Hid (∃ y ∈ ms, y.m.name = xn ∧ (if decide ((⟨yn, yf, yp, ym, yb⟩ : Mc) = ⟨xn, xf, xp, xm, xb⟩) = true then (0 : Int) else 31) = (if y.m = ⟨xn, xf, xp, xm, xb⟩ then 0 else 31)) := ⟨_, (unhide HMEM).1, (unhide HMEM).2, by simp⟩
    clear HEq HMEM HYV
    generalize decide ((⟨yn, yf, yp, ym, yb⟩ : Mc) = ⟨xn, xf, xp, xm, xb⟩) = E at *
    have HC := hide (unhide HE2 W2.drew (below_drewK (Below.refl _ _) 1))
    go_upto_region 6 with fail
    go_region_with (
      (go_at_call 14
       refine (unhide HC).mono ?_
       rintro e W3 ⟨rfl, hb3⟩
       have HB3 : Hid (Below w.heap.size w W3) := (unhide HB1).trans ((below_drewK (Below.refl W2.heap.size W2) 1).trans hb3 |>.mono (unhide HB1).size)
       clear hb3))
    all_goals (
      cases E
      · go_wp2
        go_ret
        obtain ⟨y, h1, h2, h3⟩ := unhide HRES
        exact ⟨⟨y, h1, h2, by rw [← h3]; rfl⟩, unhide HB3⟩
      · go_wp2
        go_ret
        obtain ⟨y, h1, h2, h3⟩ := unhide HRES
        exact ⟨⟨y, h1, h2, by rw [← h3]; rfl⟩, unhide HB3⟩)
end Go.Proofs.YticiddcgafhkhaaGreatDoor
namespace Go.Proofs.YticiddcgafhkhaaGreatDoor
open Go Go.RowKit
set_option linter.unusedVariables false
set_option linter.unusedSimpArgs false

abbrev nmE (x : Me) : List UInt8 := x.m.name
theorem atL_is {l : List Me} {s : List UInt8} {k : Nat} (hk : k ≤ l.length) (h1 : ∀ (j : Nat) (h : j < l.length), j < k → nmE l[j] < s) (h2 : ∀ h : k < l.length, ¬ nmE l[k] < s) : k = atL nmE l s := by
  unfold atL
  have e : l = l.take k ++ l.drop k := (List.take_append_drop k l).symm
  have a1 : ∀ x ∈ l.take k, decide (nmE x < s) = true := fun x hx => by
    obtain ⟨j, hj, rfl⟩ := List.mem_iff_getElem.1 hx
    rw [List.getElem_take]
    simp at hj
    exact decide_eq_true (h1 j (by omega) (by omega))
  have a2 : (l.drop k).takeWhile (fun x => decide (nmE x < s)) = [] := by
    cases hd : l.drop k with
    | nil => rfl
    | cons y r =>
      have hlt : k < l.length := by
        rcases Nat.lt_or_ge k l.length with h | h
        · exact h
        · rw [List.drop_eq_nil_of_le h] at hd; cases hd
      rw [List.drop_eq_getElem_cons hlt] at hd
      injection hd with e1 e2
      rw [List.takeWhile_cons_of_neg]
      rw [← e1]
      simpa using h2 hlt
  have : l.takeWhile (fun x => decide (nmE x < s)) = l.take k := by
    conv => lhs; rw [e]
    rw [List.takeWhile_append_of_pos a1, a2, List.append_nil]
  rw [this, List.length_take]
  omega
theorem less_is (x y : List UInt8) : Op.bytesLess (⟨x.toArray⟩ : ByteArray).toList (⟨y.toArray⟩ : ByteArray).toList = decide (x < y) := by
  rw [ByteArray.toList_eq, ByteArray.toList_eq, _root_.Go.Proofs.bytesLess_eq]
/-- What is appended: any macros, or none. -/
structure Srcs (w : World) (p : Option Addr) (m c : Nat) (news : List Value) : Prop where
  len : news.length = m * 5
  cells : ∀ a, p = some a → ∀ j u, news[j]? = some u → w.cell? (a.add j) = some u
  none : p = none → m = 0 ∧ c = 0
  one : ∀ u ∈ news, u.oneCell' = true
theorem run_append_me {w : World} {base : Nat} {v : Value} {n : Nat} {xs : List Value} (hown : w.ownsRow base 33 5 v n xs) {p : Option Addr} {m c : Nat} {news : List Value} (h : Srcs w p m c news) (hb : n + m ≤ 10000) (hbase : base ≤ w.heap.size) (ty : TypeId) :
    ∃ v' w', (Builtin.append_ #[27, 27] ty #[v, .slice p m c]).run Tryz.prog w = .ok v' w' ∧ w'.ownsRow base 33 5 v' (n + m) (xs ++ news) ∧ w.grownBy w' v.ownBlock := by
  obtain ⟨i0, hi0, hz0, hz1, hz2⟩ := info_parts Tryz.info33
  cases p with
  | none =>
    obtain ⟨rfl, rfl⟩ := h.none rfl
    have hn : news = [] := by have := h.len; simpa using this
    subst hn
    refine ⟨v, w, run_append_owned_none (P := Tryz.prog) (w := w) base 27 ty 33 i0 5 Tryz.underlying27 hi0 v n xs hown, by simpa using hown, World.grownBy.refl _ _⟩
  | some a =>
    obtain ⟨v', w', h1, h2, h3, _⟩ := run_append_own (P := Tryz.prog) w base 27 ty 33 i0 _ 5 80 Tryz.underlying27 hi0 hz0 hz1 hz2 rfl (by decide) v n xs hown a m c news h.len (h.cells a rfl) h.one (by unfold maxLen; omega) (by omega) hbase
    exact ⟨v', w', h1, h2, h3⟩
theorem RtG.cells {B : Nat} {W : World} {g o cap : Nat} {ms : List Me} (h : RtG B W (some ⟨g, o, none⟩) cap ms) : ∀ j u, (meCells ms)[j]? = some u → W.cell? ⟨g, o + j, none⟩ = some u := by
  intro j u hj
  have hlt := (List.getElem?_eq_some_iff.1 hj).1
  rw [meCells_length] at hlt
  have hi : j / 5 < ms.length := by omega
  have hr : j % 5 < 5 := Nat.mod_lt _ (by decide)
  have ej : j / 5 * 5 + j % 5 = j := by omega
  obtain ⟨g', o', e, _, c0, c1, c2, c3, c4⟩ := h.five (j / 5) hi
  obtain ⟨rfl, rfl⟩ : g = g' ∧ o = o' := by simpa using e
  have hm := meCells_at ms (j / 5) hi (j % 5) hr
  rw [ej, hj] at hm
  have key : W.cell? ⟨g, o + j / 5 * 5 + j % 5, none⟩ = (fiveL ms[j / 5])[j % 5]? := by
    generalize j % 5 = r at hr
    match r, hr with
    | 0, _ => exact c0
    | 1, _ => exact c1
    | 2, _ => exact c2
    | 3, _ => exact c3
    | 4, _ => exact c4
  rw [← hm] at key
  have e2 : o + j / 5 * 5 + j % 5 = o + j := by omega
  rw [e2] at key
  exact key
theorem add_plainB (b o j : Nat) : (⟨b, o, none⟩ : Addr).add j = ⟨b, o + j, none⟩ := by unfold Addr.add; split <;> simp_all
theorem me_one {B : Nat} {W : World} {ms : List Me} (h : ∀ x ∈ ms, McV B W x.v x.m) : ∀ u ∈ meCells ms, u.oneCell' = true := by
  induction ms with
  | nil => intro u hu; cases hu
  | cons x r ih =>
    intro u hu
    rcases List.mem_append.1 hu with hu | hu
    · exact one5 (h x List.mem_cons_self) u hu
    · exact ih (fun y hy => h y (List.mem_cons_of_mem _ hy)) u hu
/-- The first ones of a list as what is appended. -/
theorem RtG.first {B : Nat} {W : World} {p : Option Addr} {cap k : Nat} {ms : List Me} (h : RtG B W p cap ms) (hk : k ≤ ms.length) : Srcs W p k cap (meCells (ms.take k)) := by
  have e : meCells ms = meCells (ms.take k) ++ meCells (ms.drop k) := by rw [← meCells_app, List.take_append_drop]
  refine ⟨by rw [meCells_length, List.length_take]; congr 1; omega, fun a ha j u hj => ?_, fun hp => ?_, me_one fun x hx => h.each x (List.mem_of_mem_take hx)⟩
  · subst ha
    obtain ⟨g, o, spot⟩ := a
    have hjl := (List.getElem?_eq_some_iff.1 hj).1
    have hms : 0 < ms.length := by rw [meCells_length, List.length_take] at hjl; omega
    obtain ⟨g', o', e', _⟩ := h.five 0 hms
    obtain ⟨rfl, rfl, rfl⟩ : g = g' ∧ o = o' ∧ spot = none := by simpa using e'
    rw [add_plainB]
    exact h.cells j u (by rw [e, List.getElem?_append_left hjl]; exact hj)
  · subst hp
    have hc := h.nil rfl
    have := h.len
    exact ⟨by omega, hc⟩
/-- The last ones. -/
theorem RtG.last {B : Nat} {W : World} {p : Option Addr} {cap k : Nat} {ms : List Me} (h : RtG B W p cap ms) (hk : k ≤ ms.length) : Srcs W (if cap = k then p else p.map (·.add (k * 5))) (ms.length - k) (cap - k) (meCells (ms.drop k)) := by
  have e : meCells ms = meCells (ms.take k) ++ meCells (ms.drop k) := by rw [← meCells_app, List.take_append_drop]
  have hlt : (meCells (ms.take k)).length = k * 5 := by rw [meCells_length, List.length_take]; congr 1; omega
  refine ⟨by rw [meCells_length, List.length_drop], fun a ha j u hj => ?_, fun hp => ?_, me_one fun x hx => h.each x (List.mem_of_mem_drop hx)⟩
  · have hjl := (List.getElem?_eq_some_iff.1 hj).1
    rw [meCells_length, List.length_drop] at hjl
    have hcap := h.len
    rw [if_neg (by omega)] at ha
    obtain ⟨a0, ha0, rfl⟩ := Option.map_eq_some_iff.1 ha
    subst ha0
    obtain ⟨g, o, spot⟩ := a0
    obtain ⟨g', o', e', _⟩ := h.five 0 (by omega)
    obtain ⟨rfl, rfl, rfl⟩ : g = g' ∧ o = o' ∧ spot = none := by simpa using e'
    rw [add_plainB, add_plainB, Nat.add_assoc]
    exact h.cells _ u (by rw [e, List.getElem?_append_right (by omega), hlt, Nat.add_sub_cancel_left]; exact hj)
  · have hp' : p = none := by
      split at hp
      · exact hp
      · simpa using hp
    have hc := h.nil hp'
    have := h.len
    exact ⟨by omega, by omega⟩
/-- At a step of a region that draws. -/
theorem step_append_me {ops : Array Oper} {o : Oper} {a : Act} {w : World} {K : Act → World → Prop} {Q : Exit → Act → World → Prop} {E : Prop} (hgd : o.guard = none) (s x : Operand)
    (ho : o.op = .call { callee := .builtin .append, args := #[s, x], argTypes := #[27, 27] }) {base : Nat} {v : Value} {n : Nat} {xs : List Value} (hs : a.eval s = v) (hown : w.ownsRow base 33 5 v n xs) {p : Option Addr} {m c : Nat} {news : List Value} (hx : a.eval x = .slice p m c) (h : Srcs w p m c news) (hb : n + m ≤ 10000) (hbase : base ≤ w.heap.size)
    (hK : ∀ v' w', w'.ownsRow base 33 5 v' (n + m) (xs ++ news) → w.grownBy w' v.ownBlock → K (a.put o.dst v') w') :
    if Region.wanted o (yielded ops a.tmps) = true then Oper.wp Tryz.prog o a w K Q else E := by
  have hw : Region.wanted o (yielded ops a.tmps) = true := by simp [Region.wanted, hgd]
  rw [if_pos hw]
  obtain ⟨v', w', h1, h2, h3⟩ := run_append_me hown h hb hbase o.type
  unfold Oper.wp
  simp [execOp, ho, resolve, invoke, builtin, hs, hx, h1, Result.andThen]
  exact hK _ _ h2 h3
/-- At an operation of the walk. -/
theorem wpList_append_me {ops : Array Oper} {rest : List Oper} {o : Oper} {a : Act} {w : World} {Q : Exit → Act → World → Prop} (hgd : o.guard = none) (s x : Operand)
    (ho : o.op = .call { callee := .builtin .append, args := #[s, x], argTypes := #[27, 27] }) {base : Nat} {v : Value} {n : Nat} {xs : List Value} (hs : a.eval s = v) (hown : w.ownsRow base 33 5 v n xs) {p : Option Addr} {m c : Nat} {news : List Value} (hx : a.eval x = .slice p m c) (h : Srcs w p m c news) (hb : n + m ≤ 10000) (hbase : base ≤ w.heap.size)
    (hK : ∀ v' w', w'.ownsRow base 33 5 v' (n + m) (xs ++ news) → w.grownBy w' v.ownBlock → wpList Tryz.prog ops Q rest (a.put o.dst v') w') : wpList Tryz.prog ops Q (o :: rest) a w := by
  refine wpList_plain hgd fun K' hK' => ?_
  obtain ⟨v', w', h1, h2, h3⟩ := run_append_me hown h hb hbase o.type
  unfold Oper.wp
  simp [execOp, ho, resolve, invoke, builtin, hs, hx, h1, Result.andThen]
  exact hK' _ _ (hK _ _ h2 h3)
theorem make_me (n : Nat) (hn : n ≤ 10000) : ∃ C : Array Value, C.size = (n + 1) * 5 ∧ ∀ W : World, (Instr.makeSlice 27 (.int .i64 0) (.int .i64 ((n : Int) + 1))).run Tryz.prog W = .ok (.slice (some ⟨W.heap.size, 0, none⟩) 0 (n + 1)) (W.alloc (.cells C 33)) := by
  obtain ⟨i0, hi0, hz0, hz1, hz2⟩ := info_parts Tryz.info33
  refine ⟨madeCells (Value.agg #[.string ⟨#[]⟩, .bool false, .slice none 0 0, .bool false, .slice none 0 0]).cells ((n + 1) * 5), size_madeCells _ _, fun W => ?_⟩
  have hr := run_make (P := Tryz.prog) W 27 33 i0 _ Tryz.underlying27 hi0 hz0 .i64 .i64 0 ((n : Int) + 1) (by omega) (by omega) (by rw [hz2]; omega) (by omega)
  rw [hz1, show ((n : Int) + 1).toNat = n + 1 by omega] at hr
  exact hr
theorem el27 : Tryz.prog.elem 27 = 33 := by kernel_rfl
theorem cel33 (W : World) : (sizeOf 33).run Tryz.prog W = .ok 5 W := by kernel_rfl
theorem slice_first (p : Option Addr) (len cap k : Nat) (hk : k ≤ cap) (W : World) : (Instr.slice 27 (.slice p len cap) none (some (.int .i64 (k : Int))) none).run Tryz.prog W = .ok (.slice p k cap) W := by
  rw [run_slice_h W 27 p len cap (by rw [el27]; exact Tryz.underlying27) .i64 (k : Int) (by omega) (by omega), el27, cel33]
  cases p with
  | none => simp [sliced, Result.andThen]
  | some a =>
    have h0 : a.add 0 = a := by
      obtain ⟨b, o, spot⟩ := a
      cases spot <;> simp [Addr.add]
    simp [sliced, Result.andThen, h0]
theorem slice_last (p : Option Addr) (len cap k : Nat) (hk : k ≤ len) (W : World) : (Instr.slice 27 (.slice p len cap) (some (.int .i64 (k : Int))) none none).run Tryz.prog W = .ok (.slice (if cap = k then p else p.map (·.add (k * 5))) (len - k) (cap - k)) W := by
  rw [run_slice_l W 27 p len cap (by rw [el27]; exact Tryz.underlying27) .i64 (k : Int) (by omega) (by omega), el27, cel33]
  simp [sliced, Result.andThen]
/-- The row that Define makes. -/
theorem ins_row {W : World} {base base' k : Nat} {v : Value} {ms : List Me} {x : Me} (h : W.ownsRow base 33 5 v (k + 1 + (ms.length - k)) (meCells (ms.take k) ++ (fiveL x ++ meCells (ms.drop k)))) (hk : k = atL nmE ms x.m.name) (hkl : k ≤ ms.length) (hb : base' ≤ base) : W.ownsRow base' 33 5 v (insL nmE ms x).length (meCells (insL nmE ms x)) := by
  have e1 : meCells (insL nmE ms x) = meCells (ms.take k) ++ (fiveL x ++ meCells (ms.drop k)) := by
    unfold insL
    rw [← hk, meCells_app, meCells]
  have e2 : (insL nmE ms x).length = k + 1 + (ms.length - k) := by
    unfold insL
    rw [← hk, List.length_append, List.length_take, List.length_cons, List.length_drop]
    omega
  rw [e1, e2]
  exact ownsRow_base h hb
theorem ins_each {W : World} {ms : List Me} {x : Me} (h : ∀ y ∈ ms, McV W.heap.size W y.v y.m) (hx : McV W.heap.size W x.v x.m) : ∀ y ∈ insL nmE ms x, McV W.heap.size W y.v y.m := by
  intro y hy
  have := (insL_perm nmE ms x).mem_iff.1 hy
  rcases List.mem_append.1 this with h1 | h1
  · exact h y h1
  · obtain rfl : y = x := by simpa using h1
    exact hx
end Go.Proofs.YticiddcgafhkhaaGreatDoor
