/-
  Package macro: asSpelt; lexed of the statements.
  Package macro: near (the literal of rightBody), takes, rightParams.
  Package macro: rightBody.
-/
import Derived.Test.YticiddcgafhkhaaGreatDoorUa
import Derived.Test.YticiddcgafhkhaaGreatDoorK1
import Derived.Test.YticiddcgafhkhaaGreatDoorLa
import Derived.Deep.RegionWith
import Derived.Deep.DeepCutAuto
import Derived.BigRegion
namespace Go.Proofs.YticiddcgafhkhaaGreatDoor
open Go Go.RowKit
set_option linter.unusedVariables false
set_option linter.unusedSimpArgs false

theorem Lex_oneN (N : Int) (s : ByteArray) (w : World) (hs : s.size ≤ 140737488355328) (hw0 : 1 < w.heap.size) (hsg : Sg w) :
    Calls Tryz.prog 22 #[.slice (some ⟨w.heap.size, 0, none⟩) 1 1] (w.alloc (.cells #[.int .i64 N, .string s] 61)) fun e w' => ∃ v', e = .returned (.tuple #[v', .int .i64 (Tk.lex [(N, s.data.toList)]).2.1, .int .i64 (Tk.lex [(N, s.data.toList)]).2.2]) ∧
      TkS (w.heap.size + 1) w' v' (Tk.lex [(N, s.data.toList)]).1 ∧ Below (w.heap.size + 1) (w.alloc (.cells #[.int .i64 N, .string s] 61)) w' := by
  have hz : (w.alloc (.cells #[.int .i64 N, .string s] 61)).heap.size = w.heap.size + 1 := by simp
  have hnew : (w.alloc (.cells #[.int .i64 N, .string s] 61)).heap[w.heap.size]? = some (.cells #[.int .i64 N, .string s] 61 (0, 0)) := World.alloc_heap_new w _
  have hl : LnB (w.alloc (.cells #[.int .i64 N, .string s] 61)).heap.size (w.alloc (.cells #[.int .i64 N, .string s] 61)) (.slice (some ⟨w.heap.size, 0, none⟩) 1 1) [(N, s)] := by
    refine ⟨some ⟨w.heap.size, 0, none⟩, 1, rfl, fun i hi => ⟨w.heap.size, 0, rfl, by omega, ?_, ?_⟩⟩
    · obtain rfl : i = 0 := by simpa using hi
      rw [World.cell?, hnew]; rfl
    · obtain rfl : i = 0 := by simpa using hi
      rw [World.cell?, hnew]; rfl
  have hsg' : Sg (w.alloc (.cells #[.int .i64 N, .string s] 61)) := Sg.below hsg ((Below.refl _ w).alloc (Nat.le_refl _) _) hw0
  have hf : Fits [(N, s)] := ⟨by simp, fun x hx => by simp at hx; subst hx; exact hs⟩
  refine (Lex_any _ _ _ hf (by omega) hl hsg').mono ?_
  rintro e w' ⟨v', rfl, hrow, hb⟩
  rw [hz] at hrow hb
  exact ⟨v', rfl, TkS.of hrow rfl, hb⟩

set_option maxRecDepth 100000 in
set_option maxHeartbeats 4000000 in
theorem lexed_any (s : ByteArray) (w : World) (hs : s.size ≤ 140737488355328) (hw0 : 1 < w.heap.size) (hsg : Sg w) :
    Calls Tryz.prog 7 #[.string s] w fun e w' => ∃ v', e = .returned v' ∧ TkG w'.heap.size w' v' ((lex1 s).1.map Tk.T.g) ∧ Below w.heap.size w w' := by
  have HLX := hide (Lex_one s w hs hw0 hsg)
  have hb1 : Below w.heap.size w (w.alloc (.cells #[.int .i64 1, .string s] 61)) := (Below.refl _ w).alloc (Nat.le_refl _) _
  have HB := hide hb1
  clear hb1
  generalize lex1 s = R at *
  go_enter Tryz.func7, Tryz.ntmps7
  go_wp2_with fail
  refine (unhide HLX).mono ?_
  rintro e W1 ⟨v', rfl, hT, hb1⟩
  have hb2 : Below w.heap.size w W1 := (unhide HB).trans (hb1.mono (by omega))
  clear HLX HB
  go_wp2
  go_ret
  exact ⟨_, rfl, hT.toG, hb2⟩

/-- Tokens that come back, bare, from the line that they are spelt as. -/
def speltB (l : List Gt) : Bool := decide (bareG ((Tk.lex [(0, spG l)]).1.map Tk.T.g) = l)
set_option maxRecDepth 100000 in
set_option maxHeartbeats 4000000 in
theorem asSpelt_any (v : Value) (l : List Gt) (w : World) (hl : l.length ≤ 140737488355328) (hb : (spG l).length ≤ 140737488355328) (hv : TkG w.heap.size w v l) (hw0 : 1 < w.heap.size) (hsg : Sg w) :
    Calls Tryz.prog 55 #[v] w fun e w' => e = .returned (.bool (speltB l)) ∧ Below w.heap.size w w' := by
  have HSP := hide (Spell_any v l w hl (by omega) hv)
  have HV := hide hv
  have HSG := hide hsg
  clear hv hsg
  have hsz : (⟨(spG l).toArray⟩ : ByteArray).size ≤ 140737488355328 := by show (spG l).toArray.size ≤ _; simp; omega
  have hLX := (fun (W : World) (h0 : 1 < W.heap.size) (hg : Sg W) => Lex_oneN 0 ⟨(spG l).toArray⟩ W hsz h0 hg)
  simp only [List.toList_toArray] at hLX
  have HLX := hide hLX
  clear hLX
  have hle := Tk.lex_len [((0 : Int), spG l)]
  have hlen : (Tk.lex [((0 : Int), spG l)]).1.length * 56 ≤ 140737488355328 := by
    omega
  clear hle hsz
  unfold speltB
  generalize (⟨(spG l).toArray⟩ : ByteArray) = T at *
  generalize Tk.lex [((0 : Int), spG l)] = R at *
  go_enter Tryz.func55, Tryz.ntmps55
  go_wp2_with fail
  refine (unhide HSP).mono ?_
  rintro e W1 ⟨rfl, hb1⟩
  have hz1 := hb1.size
  have H1 := hide (unhide HLX W1 (by omega) (Sg.below (unhide HSG) hb1 hw0))
  clear HSP HLX
  go_wp2_with fail
  refine (unhide H1).mono ?_
  rintro e W2 ⟨v2, rfl, hT2, hb2⟩
  have hb12 : Below w.heap.size w W2 := (hb1.trans ((Below.refl _ W1).alloc hz1 _)).trans (hb2.mono (by omega))
  have hz2 := hb12.size
  have H2 := hide (placeless_any v2 (R.1.map Tk.T.g) W2 (by rw [List.length_map]; exact hlen) hT2.toG)
  clear H1 hT2
  go_wp2_with fail
  refine (unhide H2).mono ?_
  rintro e W3 ⟨v3, rfl, hT3, hb3⟩
  have hb13 : Below w.heap.size w W3 := hb12.trans (hb3.mono (by omega))
  have H3 := hide (EqToks_any v3 v _ l _ _ W3 (by rw [bareG_length, List.length_map]; omega) hT3 ((unhide HV).below hb13))
  clear H2 hT3
  go_wp2_with fail
  refine (unhide H3).mono ?_
  rintro e W4 ⟨rfl, m, rfl⟩
  go_wp2
  go_ret
  exact ⟨rfl, hb13.os, hb13.tape, hb13.output, hb13.size, hb13.block⟩
end Go.Proofs.YticiddcgafhkhaaGreatDoor
namespace Go.Proofs.YticiddcgafhkhaaGreatDoor
open Go Go.RowKit
set_option linter.unusedVariables false
set_option linter.unusedSimpArgs false

def nearS (l : List Gt) (i : Int) : List UInt8 := if i < 0 then [] else match l[i.toNat]? with
  | some t => t.s
  | none => []
set_option maxRecDepth 100000 in
set_option maxHeartbeats 4000000 in
theorem near_any (b B : Nat) (bv : Value) (l : List Gt) (i : Int) (w : World) (hl : l.length ≤ 140737488355328) (hi : i ≤ 140737488355328) (hc : w.cell? ⟨b, 4, none⟩ = some bv) (hv : TkG B w bv l) :
    Calls Tryz.prog 56 #[.int .i64 i, .pointer (some ⟨b, 0, none⟩)] w fun e w' => e = .returned (.string ⟨(nearS l i).toArray⟩) ∧ w' = w := by
  obtain ⟨p, cap, rfl, hcs⟩ := hv
  by_cases h0 : i < 0
  · have hn : Hid (nearS l i = []) := by simp [Hid, nearS, h0]
    generalize nearS l i = S at *
    clear hcs
    go_enter Tryz.func56, Tryz.ntmps56
    go_wp2
    go_ret
    exact ⟨by rw [unhide hn]; rfl, rfl⟩
  · obtain ⟨k, rfl⟩ : ∃ k : Nat, i = (k : Int) := ⟨i.toNat, by omega⟩
    by_cases hk : k < l.length
    · have hn : Hid (nearS l (k : Int) = l[k].s) := by simp [Hid, nearS, h0, List.getElem?_eq_getElem hk]
      obtain ⟨g, o, rfl, _, a0, a1, a2, a3, a4, a5⟩ := hcs k hk
      have i1 : ¬ (l.length : Int) ≤ (k : Int) := by omega
      have i2 : (k : Int) < (l.length : Int) := by omega
      clear hcs
      generalize nearS l (k : Int) = S at *
      generalize l[k] = t at *
      go_enter Tryz.func56, Tryz.ntmps56
      go_wp2
      go_ret
      exact ⟨by rw [unhide hn]; rfl, rfl⟩
    · have hn : Hid (nearS l (k : Int) = []) := by simp [Hid, nearS, List.getElem?_eq_none (by omega : l.length ≤ k)]
      have i1 : (l.length : Int) ≤ (k : Int) := by omega
      clear hcs
      generalize nearS l (k : Int) = S at *
      go_enter Tryz.func56, Tryz.ntmps56
      go_wp2
      go_ret
      exact ⟨by rw [unhide hn]; rfl, rfl⟩

def vaS : List UInt8 := [95, 95, 86, 65, 95, 65, 82, 71, 83, 95, 95]
def takesB (more : Bool) (ps : List (List UInt8)) (x : List UInt8) : Bool := (decide (x = vaS) && more) || decide (x ∈ ps)
set_option maxRecDepth 100000 in
set_option maxHeartbeats 4000000 in
theorem takes_any (nm pv bv : Value) (fn more : Bool) (ps : List (List UInt8)) (x : ByteArray) (w : World) (hl : ps.length ≤ 140737488355328) (hv : StG w.heap.size w pv ps) :
    Calls Tryz.prog 57 #[.agg #[nm, .bool fn, pv, .bool more, bv], .string x] w fun e w' => e = .returned (.bool (takesB more ps x.data.toList)) ∧ Below w.heap.size w w' := by
  have hb1 : ∀ o, Below w.heap.size w (w.alloc o) := fun o => (Below.refl _ w).alloc (Nat.le_refl _) o
  have HB := hide hb1
  have he : (x.toList == vaS) = decide (x.data.toList = vaS) := by
    rw [ByteArray.toList_eq, Bool.eq_iff_iff]; simp
  unfold vaS at he
  have HCT := hide (fun W (h : StG w.heap.size W pv ps) => Contains_any pv ps w.heap.size x W hl h)
  have HV := hide hv
  have HR : Hid (takesB more ps x.data.toList = ((decide (x.data.toList = vaS) && more) || decide (x.data.toList ∈ ps))) := rfl
  unfold vaS at HR
  clear hv hb1
  generalize takesB more ps x.data.toList = R at *
  generalize decide (x.data.toList = [95, 95, 86, 65, 95, 65, 82, 71, 83, 95, 95]) = C at *
  generalize decide (x.data.toList ∈ ps) = M at *
  cases C
  · go_enter Tryz.func57, Tryz.ntmps57
    go_wp2_with fail
    refine (unhide HCT _ ((unhide HV).below (unhide HB _))).mono ?_
    rintro e W1 ⟨rfl, rfl⟩
    go_wp2
    go_ret
    exact ⟨by rw [unhide HR]; rfl, unhide HB _⟩
  · cases more
    · go_enter Tryz.func57, Tryz.ntmps57
      go_wp2_with fail
      refine (unhide HCT _ ((unhide HV).below (unhide HB _))).mono ?_
      rintro e W1 ⟨rfl, rfl⟩
      go_wp2
      go_ret
      exact ⟨by rw [unhide HR]; rfl, unhide HB _⟩
    · go_enter Tryz.func57, Tryz.ntmps57
      go_wp2
      go_ret
      exact ⟨by rw [unhide HR]; rfl, unhide HB _⟩

theorem StG.take {B : Nat} {W : World} {p : Option Addr} {n cap : Nat} {l : List (List UInt8)} (h : StG B W (.slice p n cap) l) (k : Nat) (hk : k ≤ l.length) : StG B W (.slice p k cap) (l.take k) := by
  obtain ⟨p', cap', he, hc⟩ := h
  obtain ⟨rfl, -, rfl⟩ : p = p' ∧ n = l.length ∧ cap = cap' := by simpa using he
  refine ⟨p, cap, by rw [List.length_take, Nat.min_eq_left hk], fun i hi => ?_⟩
  have hi' : i < l.length := by rw [List.length_take] at hi; omega
  obtain ⟨g, o, h1, h2, h3⟩ := hc i hi'
  exact ⟨g, o, h1, h2, by rw [List.getElem_take]; exact h3⟩
def okP (l : List (List UInt8)) (i : Nat) : Bool := match l[i]? with
  | some p => nmB ⟨p.toArray⟩ && !decide (p = vaS) && !decide (p ∈ l.take i)
  | none => true
def rpB (l : List (List UInt8)) : Bool := decide (l.length ≤ 16) && (List.range l.length).all (okP l)

set_option maxRecDepth 100000 in
set_option maxHeartbeats 8000000 in
theorem rightParams_any (v : Value) (l : List (List UInt8)) (w : World) (hs : ∀ p ∈ l, p.length ≤ 140737488355328) (hl : l.length ≤ 140737488355328) (hcap : ∀ p n c, v = .slice p n c → n ≤ c ∧ c ≤ maxLen) (hv : StG w.heap.size w v l) (hw0 : 1 < w.heap.size) (hsg : Sg w) :
    Calls Tryz.prog 37 #[v] w fun e w' => e = .returned (.bool (rpB l)) ∧ Below w.heap.size w w' := by
  have HV := hide hv
  have HSG := hide hsg
  have HS := hide hs
  obtain ⟨p, cap, rfl, _⟩ := hv
  obtain ⟨hc1, hc2⟩ := hcap _ _ _ rfl
  clear hcap hsg hs
  by_cases h16 : l.length ≤ 16
  · have HR : Hid (rpB l = (List.range l.length).all (okP l)) := by simp [Hid, rpB, h16]
    generalize rpB l = R at *
    have i0 : ¬ (16 : Int) < (l.length : Int) := by omega
    go_enter Tryz.func37, Tryz.ntmps37
    go_wp2
    go_loopg [10] l.length (fun gk i wr => ∃ k : Nat, gk = l.length - k ∧ i = .int .i64 k ∧ k ≤ l.length ∧ Hid (∀ j, j < k → okP l j = true) ∧ Hid (Below w.heap.size w wr))
    case atStart => exact ⟨0, rfl, rfl, by omega, fun j hj => by omega, Below.refl _ _⟩
    case round =>
      obtain ⟨k, rfl, rfl, hk, hok, hbb⟩ := hrel
      by_cases hlt : k < l.length
      · have i1 : (k : Int) < (l.length : Int) := by omega
        have i3 : (k : Int) ≤ (cap : Int) := by omega
        obtain ⟨p', cap', hp', hcs⟩ := (unhide HV).below (unhide hbb)
        obtain ⟨g, o, rfl, _, a0⟩ := hcs k hlt
        obtain ⟨rfl, rfl⟩ : p = some ⟨g, o, none⟩ ∧ cap = cap' := by simpa using hp'
        clear hcs hp'
        have hsz : (⟨l[k].toArray⟩ : ByteArray).size ≤ 140737488355328 := by show l[k].toArray.size ≤ _; simpa using unhide HS _ (List.getElem_mem hlt)
        have hwr := (unhide hbb).size
        have HNM := hide (isName_any ⟨l[k].toArray⟩ wr hsz (by omega) (Sg.below (unhide HSG) (unhide hbb) hw0))
        have HCT := hide (fun W (h : StG w.heap.size W _ (l.take k)) => Contains_any (.slice (some ⟨g, o, none⟩) k cap) (l.take k) w.heap.size ⟨l[k].toArray⟩ W (by rw [List.length_take]; omega) h)
        have HOK : Hid (okP l k = (nmB ⟨l[k].toArray⟩ && !decide (l[k] = vaS) && !decide (l[k] ∈ l.take k))) := by simp [Hid, okP, List.getElem?_eq_getElem hlt]
        have he : ((⟨l[k].toArray⟩ : ByteArray).toList == vaS) = decide (l[k] = vaS) := by
          rw [ByteArray.toList_eq, Bool.eq_iff_iff]; simp
        have he2 : (l[k] == vaS) = decide (l[k] = vaS) := by rw [Bool.eq_iff_iff]; simp
        unfold vaS at he he2 HOK
        have hf : Hid (okP l k = false → R = false) := fun h => by
          rw [unhide HR, List.all_eq_false]
          exact ⟨k, List.mem_range.2 hlt, by simp [h]⟩
        have hnx : Hid (okP l k = true → ∀ j, j < k + 1 → okP l j = true) := fun h j hj => by
          by_cases hjk : j = k
          · subst hjk; exact h
          · exact unhide hok j (by omega)
        clear hok
        simp only [List.toList_toArray] at HCT
        generalize okP l k = O at *
        generalize nmB ⟨l[k].toArray⟩ = N at *
        generalize decide (l[k] = [95, 95, 86, 65, 95, 65, 82, 71, 83, 95, 95]) = C at *
        generalize decide (l[k] ∈ l.take k) = M at *
        generalize l[k] = t at *
        cases N
        · go_wp2_with fail
          refine (unhide HNM).mono ?_
          rintro e W1 ⟨rfl, hb1⟩
          go_wp2
          go_ret
          exact ⟨by rw [unhide hf (by rw [unhide HOK]; rfl)]; rfl, (unhide hbb).trans (hb1.mono hwr)⟩
        · cases C
          · cases M
            · go_wp2_with fail
              refine (unhide HNM).mono ?_
              rintro e W1 ⟨rfl, hb1⟩
              have hb2 : Below w.heap.size w W1 := (unhide hbb).trans (hb1.mono hwr)
              have H2 := hide (unhide HCT W1 (((unhide HV).below hb2).take k hk))
              go_wp2_with fail
              refine (unhide H2).mono ?_
              rintro e W2 ⟨rfl, rfl⟩
              go_wp2
              go_roundg (l.length - (k + 1))
              case measure => omega
              case rel => exact ⟨k + 1, rfl, by go_num, by omega, unhide hnx (by rw [unhide HOK]; rfl), hb2⟩
            · go_wp2_with fail
              refine (unhide HNM).mono ?_
              rintro e W1 ⟨rfl, hb1⟩
              have hb2 : Below w.heap.size w W1 := (unhide hbb).trans (hb1.mono hwr)
              have H2 := hide (unhide HCT W1 (((unhide HV).below hb2).take k hk))
              go_wp2_with fail
              refine (unhide H2).mono ?_
              rintro e W2 ⟨rfl, rfl⟩
              go_wp2
              go_ret
              exact ⟨by rw [unhide hf (by rw [unhide HOK]; rfl)]; rfl, hb2⟩
          · go_wp2_with fail
            refine (unhide HNM).mono ?_
            rintro e W1 ⟨rfl, hb1⟩
            go_wp2
            go_ret
            exact ⟨by rw [unhide hf (by rw [unhide HOK]; rfl)]; rfl, (unhide hbb).trans (hb1.mono hwr)⟩
      · have i1 : ¬ (k : Int) < (l.length : Int) := by omega
        have HT : Hid (R = true) := by
          rw [Hid, unhide HR, List.all_eq_true]
          intro j hj
          exact unhide hok j (by have := List.mem_range.1 hj; omega)
        go_wp2
        go_ret
        exact ⟨by rw [unhide HT]; rfl, unhide hbb⟩
  · have HR : Hid (rpB l = false) := by simp [Hid, rpB, h16]
    generalize rpB l = R at *
    have i0 : (16 : Int) < (l.length : Int) := by omega
    go_enter Tryz.func37, Tryz.ntmps37
    go_wp2
    go_ret
    exact ⟨by rw [unhide HR]; rfl, Below.refl _ _⟩
end Go.Proofs.YticiddcgafhkhaaGreatDoor
namespace Go.Proofs.YticiddcgafhkhaaGreatDoor
open Go Go.RowKit
set_option linter.unusedVariables false
set_option linter.unusedSimpArgs false

def okB (fn more : Bool) (ps : List (List UInt8)) (l : List Gt) (i : Nat) : Bool :=
  if nearS l i = vaS then more else if nearS l i = [35] then !(fn && !takesB more ps (nearS l ((i : Int) + 1))) else true
def rbB (fn more : Bool) (ps : List (List UInt8)) (l : List Gt) : Bool :=
  decide (l.length ≤ 500) && (speltB l && (!decide (nearS l 0 = [35, 35]) && (!decide (nearS l ((l.length : Int) - 1) = [35, 35]) && (List.range l.length).all (okB fn more ps l))))
/-- The five cells of a macro in its box. -/
def FiveAt (W : World) (b : Nat) (nm pv bv : Value) (fn more : Bool) : Prop :=
  W.cell? ⟨b, 0, none⟩ = some nm ∧ W.cell? ⟨b, 1, none⟩ = some (.bool fn) ∧ W.cell? ⟨b, 2, none⟩ = some pv ∧ W.cell? ⟨b, 3, none⟩ = some (.bool more) ∧ W.cell? ⟨b, 4, none⟩ = some bv
theorem FiveAt.below {W W' : World} {B b : Nat} {nm pv bv : Value} {fn more : Bool} (h : FiveAt W b nm pv bv fn more) (hb : Below B W W') (hB : b < B) : FiveAt W' b nm pv bv fn more := by
  obtain ⟨c0, c1, c2, c3, c4⟩ := h
  have key : ∀ j u, W.cell? ⟨b, j, none⟩ = some u → W'.cell? ⟨b, j, none⟩ = some u := fun j u hu => (hb.cell (p := ⟨b, j, none⟩) hB).trans hu
  exact ⟨key _ _ c0, key _ _ c1, key _ _ c2, key _ _ c3, key _ _ c4⟩
theorem five_new (w : World) (nm pv bv : Value) (fn more : Bool) : FiveAt (w.alloc (.cells #[nm, .bool fn, pv, .bool more, bv] 33)) w.heap.size nm pv bv fn more := by
  have h : (w.alloc (.cells #[nm, .bool fn, pv, .bool more, bv] 33)).heap[w.heap.size]? = some (.cells #[nm, .bool fn, pv, .bool more, bv] 33 (0, 0)) := World.alloc_heap_new w _
  refine ⟨?_, ?_, ?_, ?_, ?_⟩ <;> (rw [World.cell?, h]; rfl)
theorem beq_list (a b : List UInt8) : (a == b) = decide (a = b) := by rw [Bool.eq_iff_iff]; simp

set_option maxRecDepth 100000 in
set_option maxHeartbeats 16000000 in
theorem rightBody_any (nm pv bv : Value) (fn more : Bool) (ps : List (List UInt8)) (l : List Gt) (w : World) (hsp : l.length ≤ 500 → (spG l).length ≤ 140737488355328) (hl : l.length ≤ 140737488355328) (hp : ps.length ≤ 140737488355328)
    (hpv : StG w.heap.size w pv ps) (hbv : TkG w.heap.size w bv l) (hw0 : 1 < w.heap.size) (hsg : Sg w) :
    Calls Tryz.prog 38 #[.agg #[nm, .bool fn, pv, .bool more, bv]] w fun e w' => e = .returned (.bool (rbB fn more ps l)) ∧ Below w.heap.size w w' := by
  have hb0 : Below w.heap.size w (w.alloc (.cells #[nm, .bool fn, pv, .bool more, bv] 33)) := (Below.refl _ w).alloc (Nat.le_refl _) _
  have hz0 : (w.alloc (.cells #[nm, .bool fn, pv, .bool more, bv] 33)).heap.size = w.heap.size + 1 := by simp
  have HF := hide (five_new w nm pv bv fn more)
  have HPV := hide hpv
  have HBV := hide hbv
  have HSG := hide hsg
  have HB0 := hide hb0
  have hbs := hbv
  obtain ⟨p, cap, hbe, _⟩ := hbs
  have HRB : Hid (rbB fn more ps l = (decide (l.length ≤ 500) && (speltB l && (!decide (nearS l 0 = [35, 35]) && (!decide (nearS l ((l.length : Int) - 1) = [35, 35]) && (List.range l.length).all (okB fn more ps l)))))) := rfl
  generalize rbB fn more ps l = R at *
  subst hbe
  by_cases h5 : l.length ≤ 500
  · have i5 : ¬ (500 : Int) < (l.length : Int) := by omega
    have HAS := hide (asSpelt_any _ l (w.alloc (.cells #[nm, .bool fn, pv, .bool more, .slice p l.length cap] 33)) hl (hsp h5) ((hbv.below hb0).mono (by omega)) (by omega) (Sg.below hsg hb0 hw0))
    have HR2 : Hid (R = (speltB l && (!decide (nearS l 0 = [35, 35]) && (!decide (nearS l ((l.length : Int) - 1) = [35, 35]) && (List.range l.length).all (okB fn more ps l))))) := by rw [Hid, unhide HRB, decide_eq_true h5, Bool.true_and]
    have HNE := hide (fun (b : Nat) (i : Int) (W : World) (hi : i ≤ 140737488355328) (h4 : W.cell? ⟨b, 4, none⟩ = some (.slice p l.length cap)) (h : TkG w.heap.size W (.slice p l.length cap) l) => near_any b w.heap.size _ l i W hl hi h4 h)
    clear HRB hsp hpv hbv hsg hb0
    generalize speltB l = S at *
    go_enter Tryz.func38, Tryz.ntmps38
    have c4 := (unhide HF).2.2.2.2
    go_wp2_with fail
    refine (unhide HAS).mono ?_
    rintro e W1 ⟨rfl, hb1⟩
    have hz1 := hb1.size
    rw [hz0] at hz1 hb1
    have hF1 := (unhide HF).below hb1 (by omega)
    have HF1 := hide hF1
    have hB1 : Below w.heap.size w W1 := (unhide HB0).trans (hb1.mono (by omega))
    have HB1 := hide hB1
    have HTV1 := hide ((unhide HBV).below hB1)
    obtain ⟨d0, d1, d2, d3, d4⟩ := hF1
    clear c4 HAS HF HB0 hb1 hB1
    cases S
    · go_wp2
      go_ret
      exact ⟨by rw [unhide HR2]; rfl, unhide HB1⟩
    · have HR3 : Hid (R = (!decide (nearS l 0 = [35, 35]) && (!decide (nearS l ((l.length : Int) - 1) = [35, 35]) && (List.range l.length).all (okB fn more ps l)))) := unhide HR2
      clear HR2
      have HN0 := hide (unhide HNE w.heap.size 0 W1 (by omega) d4 (unhide HTV1))
      have HN9 := hide (unhide HNE w.heap.size ((l.length : Int) - 1) W1 (by omega) d4 (unhide HTV1))
      have e0 := beq_list (nearS l 0) [35, 35]
      have e9 := beq_list (nearS l ((l.length : Int) - 1)) [35, 35]
      generalize decide (nearS l 0 = [35, 35]) = C0 at *
      generalize decide (nearS l ((l.length : Int) - 1) = [35, 35]) = C9 at *
      generalize nearS l 0 = X0 at *
      generalize nearS l ((l.length : Int) - 1) = X9 at *
      cases C0
      · cases C9
        · have HR4 : Hid (R = (List.range l.length).all (okB fn more ps l)) := unhide HR3
          clear HR3
          go_wp2_with fail
          refine (unhide HN0).mono ?_
          rintro e W2 ⟨rfl, rfl⟩
          go_wp2_with fail
          refine (unhide HN9).mono ?_
          rintro e W3 ⟨rfl, rfl⟩
          go_wp2
          clear HN0 HN9 e0 e9
          go_loopg [31] l.length (fun gk i wr => ∃ k : Nat, gk = l.length - k ∧ i = .int .i64 k ∧ k ≤ l.length ∧ Hid (∀ j, j < k → okB fn more ps l j = true) ∧ Hid (Below (w.heap.size + 1) W3 wr))
          case atStart => exact ⟨0, rfl, rfl, by omega, fun j hj => by omega, Below.refl _ _⟩
          case round =>
            obtain ⟨k, rfl, rfl, hk, hok, hbb⟩ := hrel
            have hwr := (unhide hbb).size
            have hBw : Below w.heap.size w wr := (unhide HB1).trans ((unhide hbb).mono (by omega))
            have HBw := hide hBw
            clear hBw d0 d1 d2 d3 d4
            obtain ⟨d0, d1, d2, d3, d4⟩ := (unhide HF1).below (unhide hbb) (by omega)
            by_cases hlt : k < l.length
            · have i1 : (k : Int) < (l.length : Int) := by omega
              have HNK := hide (unhide HNE w.heap.size k wr (by omega) d4 ((unhide HBV).below (unhide HBw)))
              have hbd : Below wr.heap.size wr wr.drew := ⟨rfl, rfl, rfl, Nat.le_refl _, fun _ _ => rfl⟩
              have hBd : Below w.heap.size w wr.drew := ⟨(unhide HBw).os, (unhide HBw).tape, (unhide HBw).output, (unhide HBw).size, (unhide HBw).block⟩
              have HNK1 := hide (unhide HNE w.heap.size ((k : Int) + 1) wr.drew (by omega) d4 ((unhide HBV).below hBd))
              have HTK := hide (takes_any nm pv (.slice p l.length cap) fn more ps ⟨(nearS l ((k : Int) + 1)).toArray⟩ wr.drew hp (((unhide HPV).below hBd).mono (by show _ ≤ wr.heap.size; omega)))
              have hbb2 : Hid (Below (w.heap.size + 1) W3 wr.drew) := ⟨(unhide hbb).os, (unhide hbb).tape, (unhide hbb).output, (unhide hbb).size, (unhide hbb).block⟩
              have hwp : IntKind.i64.wrap ((k : Int) + 1) = (k : Int) + 1 := by rw [IntKind.wrap_i64]; omega
              have HNW : Hid (Calls Tryz.prog 56 #[.int .i64 (IntKind.i64.wrap ((k : Int) + 1)), .pointer (some ⟨w.heap.size, 0, none⟩)] wr.drew fun e w' => e = .returned (.string ⟨(nearS l ((k : Int) + 1)).toArray⟩) ∧ w' = wr.drew) := by
                rw [hwp]; exact HNK1
              clear hBd hbd HNK1 hwp
              simp only [List.toList_toArray] at HTK
              have HOK : Hid (okB fn more ps l k = if nearS l k = vaS then more else if nearS l k = [35] then !(fn && !takesB more ps (nearS l ((k : Int) + 1))) else true) := rfl
              have ev := beq_list (nearS l k) vaS
              have es := beq_list (nearS l k) [35]
              have hf : Hid (okB fn more ps l k = false → R = false) := fun h => by
                rw [unhide HR4, List.all_eq_false]
                exact ⟨k, List.mem_range.2 hlt, by simp [h]⟩
              have hnx : Hid (okB fn more ps l k = true → ∀ j, j < k + 1 → okB fn more ps l j = true) := fun h j hj => by
                by_cases hjk : j = k
                · subst hjk; exact h
                · exact unhide hok j (by omega)
              clear hok
              generalize okB fn more ps l k = O at *
              generalize takesB more ps (nearS l ((k : Int) + 1)) = T at *
              generalize nearS l ((k : Int) + 1) = Y at *
              generalize nearS l k = X at *
              by_cases hv : X = vaS
              · rw [decide_eq_true hv] at ev
                have HO : Hid (O = more) := by rw [Hid, unhide HOK, if_pos hv]
                unfold vaS at ev
                clear HOK es hv
                cases more
                · go_wp2_with fail
                  refine (unhide HNK).mono ?_
                  rintro e W4 ⟨rfl, rfl⟩
                  go_wp2
                  go_ret
                  exact ⟨by rw [unhide hf (unhide HO)]; rfl, unhide HBw⟩
                · go_wp2_with fail
                  refine (unhide HNK).mono ?_
                  rintro e W4 ⟨rfl, rfl⟩
                  go_wp2
                  go_roundg (l.length - (k + 1))
                  case measure => omega
                  case rel => exact ⟨k + 1, rfl, by go_num, by omega, unhide hnx (unhide HO), hbb⟩
              · rw [decide_eq_false hv] at ev
                have HO2 : Hid (O = if X = [35] then !(fn && !T) else true) := by rw [Hid, unhide HOK, if_neg hv]
                unfold vaS at ev
                clear HOK hv
                by_cases hs : X = [35]
                · rw [decide_eq_true hs] at es
                  have HO3 : Hid (O = !(fn && !T)) := by rw [Hid, unhide HO2, if_pos hs]
                  clear HO2 hs
                  cases fn
                  · go_wp2_with fail
                    refine (unhide HNK).mono ?_
                    rintro e W4 ⟨rfl, rfl⟩
                    go_upto_region 14 with fail
                    go_quiet (fail)
                    go_wp2
                    go_roundg (l.length - (k + 1))
                    case measure => omega
                    case rel => exact ⟨k + 1, rfl, by go_num, by omega, unhide hnx (by rw [unhide HO3]; rfl), ⟨(unhide hbb).os, (unhide hbb).tape, (unhide hbb).output, (unhide hbb).size, (unhide hbb).block⟩⟩
                  · go_wp2_with fail
                    refine (unhide HNK).mono ?_
                    rintro e W4 ⟨rfl, rfl⟩
                    go_upto_region 14 with fail
                    go_cut [54] from 44 to 54 (fun c wx => c = .bool (!T) ∧ Hid (Below (w.heap.size + 1) W3 wx))
                    case first =>
                      go_region_with (first | (go_at_call 56; with_reducible refine (unhide HNW).mono ?_; rintro e w' ⟨rfl, rfl⟩) | (go_at_call 57; with_reducible refine (unhide HTK).mono ?_; rintro e w' ⟨rfl, hbt⟩))
                      all_goals (go_wp2_with fail; go_meet; exact ⟨rfl, (unhide hbb2).trans (hbt.mono (by show _ ≤ W4.heap.size; omega))⟩)
                    case rest =>
                      obtain ⟨rfl, hbx⟩ := hcut
                      cases T
                      · go_wp2
                        go_ret
                        exact ⟨by rw [unhide hf (by rw [unhide HO3]; rfl)]; rfl, (unhide HB1).trans ((unhide hbx).mono (by omega))⟩
                      · go_wp2
                        go_roundg (l.length - (k + 1))
                        case measure => omega
                        case rel => exact ⟨k + 1, rfl, by go_num, by omega, unhide hnx (by rw [unhide HO3]; rfl), hbx⟩
                · rw [decide_eq_false hs] at es
                  have HO3 : Hid (O = true) := by rw [Hid, unhide HO2, if_neg hs]
                  clear HO2 hs
                  go_wp2_with fail
                  refine (unhide HNK).mono ?_
                  rintro e W4 ⟨rfl, rfl⟩
                  go_wp2
                  go_roundg (l.length - (k + 1))
                  case measure => omega
                  case rel => exact ⟨k + 1, rfl, by go_num, by omega, unhide hnx (unhide HO3), hbb⟩
            · have i1 : ¬ (k : Int) < (l.length : Int) := by omega
              have HT : Hid (R = true) := by
                rw [Hid, unhide HR4, List.all_eq_true]
                intro j hj
                exact unhide hok j (by have := List.mem_range.1 hj; omega)
              go_wp2
              go_ret
              exact ⟨by rw [unhide HT]; rfl, unhide HBw⟩
        · go_wp2_with fail
          refine (unhide HN0).mono ?_
          rintro e W2 ⟨rfl, rfl⟩
          go_wp2_with fail
          refine (unhide HN9).mono ?_
          rintro e W3 ⟨rfl, rfl⟩
          go_wp2
          go_ret
          exact ⟨by rw [unhide HR3]; rfl, unhide HB1⟩
      · go_wp2_with fail
        refine (unhide HN0).mono ?_
        rintro e W2 ⟨rfl, rfl⟩
        go_wp2
        go_ret
        exact ⟨by rw [unhide HR3]; rfl, unhide HB1⟩
  · have i5 : (500 : Int) < (l.length : Int) := by omega
    have HR2 : Hid (R = false) := by rw [Hid, unhide HRB, decide_eq_false h5, Bool.false_and]
    have c4 := (unhide HF).2.2.2.2
    go_enter Tryz.func38, Tryz.ntmps38
    go_wp2
    go_ret
    exact ⟨by rw [unhide HR2]; rfl, unhide HB0⟩
end Go.Proofs.YticiddcgafhkhaaGreatDoor
