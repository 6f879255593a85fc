/-
  Package expr: expressions in memory; operator, not, joined.
-/
import Derived.Test.YtmpkgjonbjpohaaGreatDoorRl
import Derived.Deep.LoopGhost
namespace Go.Proofs.YtmpkgjonbjpohaaGreatDoor
open Go Go.RowKit
set_option linter.unusedVariables false
set_option linter.unusedSimpArgs false

/-- An expression's cells, its parts where a pointer leads. -/
def exC (x : PE) (p : Option Addr) (c : Nat) : Array Value := #[.int .i64 x.is, .int .i64 x.op, .int .i64 x.k, .int .i64 x.v, .string ⟨x.nm.toArray⟩, .slice p x.l.length c, .int .i64 x.line]
def KidD (W : World) (K : Nat → Prop) : Nat → PE → Option Addr → Prop
  | 0, _, _ => True
  | d + 1, x, p => ∀ (i : Nat) (h : i < x.l.length), ∃ g o cur fz q cq, p = some ⟨g, o, none⟩ ∧ K g ∧ W.heap[g]? = some (.cells cur 24 fz) ∧ (∀ (j : Nat) (u : Value), (exC x.l[i] q cq)[j]? = some u → cur[o + i * 7 + j]? = some u) ∧ KidD W K d x.l[i] q
/-- An expression's parts, as they lie, in blocks of a kind. -/
def Kids (W : World) (K : Nat → Prop) (x : PE) (p : Option Addr) : Prop := ∀ d, KidD W K d x p
/-- A list of expressions, as it lies. -/
def KidL (W : World) (K : Nat → Prop) (l : List PE) (p : Option Addr) : Prop := ∀ (i : Nat) (h : i < l.length), ∃ g o cur fz q cq, p = some ⟨g, o, none⟩ ∧ K g ∧ W.heap[g]? = some (.cells cur 24 fz) ∧ (∀ (j : Nat) (u : Value), (exC l[i] q cq)[j]? = some u → cur[o + i * 7 + j]? = some u) ∧ Kids W K l[i] q
theorem Kids.of {W : World} {K : Nat → Prop} {x : PE} {p : Option Addr} (h : KidL W K x.l p) : Kids W K x p
  | 0 => trivial
  | d + 1 => fun i hi => by
    obtain ⟨g, o, cur, fz, q, cq, e, hK, hg, hc, hk⟩ := h i hi
    exact ⟨g, o, cur, fz, q, cq, e, hK, hg, hc, hk d⟩
theorem Kids.list {W : World} {K : Nat → Prop} {x : PE} {p : Option Addr} (h : Kids W K x p) : KidL W K x.l p := fun i hi => by
  obtain ⟨g, o, cur, fz, q, cq, rfl, hK, hg, hc, _⟩ := h 1 i hi
  refine ⟨g, o, cur, fz, q, cq, rfl, hK, hg, hc, fun d => ?_⟩
  obtain ⟨g', o', cur', fz', q', cq', e', hK', hg', hc', hk'⟩ := h (d + 1) i hi
  simp only [Option.some.injEq, Addr.mk.injEq, and_true] at e'
  obtain ⟨rfl, rfl⟩ := e'
  rw [hg] at hg'
  simp only [Option.some.injEq, Obj.cells.injEq, true_and] at hg'
  obtain ⟨rfl, rfl⟩ := hg'
  have h1 := hc 5 _ rfl
  have h2 := hc' 5 _ rfl
  rw [h1] at h2
  simp only [Option.some.injEq, Value.slice.injEq, true_and] at h2
  obtain ⟨rfl, _⟩ := h2
  exact hk'
theorem Kids.nil {W : World} {K : Nat → Prop} {x : PE} (h : x.l = []) (p : Option Addr) : Kids W K x p := Kids.of (fun i hi => by rw [h] at hi; cases hi)
theorem KidD.keep {A B : World} {K K' : Nat → Prop} (hk : ∀ (g : Nat) cs fz, K g → A.heap[g]? = some (.cells cs 24 fz) → B.heap[g]? = some (.cells cs 24 fz) ∧ K' g) : ∀ (d : Nat) (x : PE) (p : Option Addr), KidD A K d x p → KidD B K' d x p
  | 0, _, _, _ => trivial
  | d + 1, x, p, h => fun i hi => by
    obtain ⟨g, o, cur, fz, q, cq, e, hK, hg, hc, hd⟩ := h i hi
    obtain ⟨h1, h2⟩ := hk g cur fz hK hg
    exact ⟨g, o, cur, fz, q, cq, e, h2, h1, hc, KidD.keep hk d _ _ hd⟩
theorem Kids.keep {A B : World} {K K' : Nat → Prop} {x : PE} {p : Option Addr} (h : Kids A K x p) (hk : ∀ (g : Nat) cs fz, K g → A.heap[g]? = some (.cells cs 24 fz) → B.heap[g]? = some (.cells cs 24 fz) ∧ K' g) : Kids B K' x p := fun d => KidD.keep hk d x p (h d)
theorem Kids.mono {A : World} {K K' : Nat → Prop} {x : PE} {p : Option Addr} (h : Kids A K x p) (hk : ∀ g, g < A.heap.size → K g → K' g) : Kids A K' x p := h.keep (fun g cs fz hK hg => ⟨hg, hk g (Array.getElem?_eq_some_iff.1 hg).1 hK⟩)
theorem Kids.below {A B : World} {K : Nat → Prop} {x : PE} {p : Option Addr} (h : Kids A K x p) (hb : Below A.heap.size A B) : Kids B K x p := h.keep (fun g cs fz hK hg => ⟨(hb.block g (Array.getElem?_eq_some_iff.1 hg).1).trans hg, hK⟩)
theorem Kids.fr {R : Nat} {A B : World} {K : Nat → Prop} {x : PE} {p : Option Addr} {cs : Array Value} (h : Kids A K x p) (hf : FrE R A B) (hR : Bk A R 70 cs) : Kids B K x p := h.keep (fun g cs' fz hK hg => ⟨hf.bk g cs' _ fz (by decide) (fun e => by
  subst e
  have : A.heap[g]? = some (.cells cs 70 (0, 0)) := hR
  rw [this] at hg
  simp at hg) hg, hK⟩)
/-- A box that no part lies in is turned. -/
theorem Kids.off {A B : World} {K : Nat → Prop} {x : PE} {p : Option Addr} {b : Nat} (h : Kids A K x p) (hb : ∀ (j : Nat) (o : Obj), j ≠ b → A.heap[j]? = some o → B.heap[j]? = some o) (hK : ¬ K b) : Kids B K x p := h.keep (fun g cs fz hg he => ⟨hb g _ (fun e => hK (by rw [← e]; exact hg)) he, hg⟩)
theorem KidL.keep {A B : World} {K K' : Nat → Prop} {l : List PE} {p : Option Addr} (h : KidL A K l p) (hk : ∀ (g : Nat) cs fz, K g → A.heap[g]? = some (.cells cs 24 fz) → B.heap[g]? = some (.cells cs 24 fz) ∧ K' g) : KidL B K' l p := fun i hi => by
  obtain ⟨g, o, cur, fz, q, cq, e, hK, hg, hc, hd⟩ := h i hi
  obtain ⟨h1, h2⟩ := hk g cur fz hK hg
  exact ⟨g, o, cur, fz, q, cq, e, h2, h1, hc, hd.keep hk⟩
theorem KidL.one {W : World} {K : Nat → Prop} {g : Nat} {x : PE} {q : Option Addr} {c : Nat} (hb : Bk W g 24 (exC x q c)) (hK : K g) (hk : Kids W K x q) : KidL W K [x] (some ⟨g, 0, none⟩) := fun i hi => by
  obtain rfl : i = 0 := by simpa using hi
  exact ⟨g, 0, _, _, q, c, rfl, hK, hb, fun j u hu => by simpa using hu, hk⟩
theorem exC_size (x : PE) (q : Option Addr) (c : Nat) : (exC x q c).size = 7 := rfl
theorem KidL.two {W : World} {K : Nat → Prop} {g : Nat} {x y : PE} {q r : Option Addr} {c d : Nat} (hb : Bk W g 24 (exC x q c ++ exC y r d)) (hK : K g) (hk : Kids W K x q) (hk2 : Kids W K y r) : KidL W K [x, y] (some ⟨g, 0, none⟩) := fun i hi => by
  have hi' : i < 2 := by simpa using hi
  match i, hi' with
  | 0, _ => exact ⟨g, 0, _, _, q, c, rfl, hK, hb, fun j u hu => by
      have hj : j < (exC x q c).size := (Array.getElem?_eq_some_iff.1 hu).1
      rw [Array.getElem?_append_left (by simpa using hj)]
      simpa using hu, hk⟩
  | 1, _ => exact ⟨g, 0, _, _, r, d, rfl, hK, hb, fun j u hu => by
      rw [Array.getElem?_append_right (by rw [exC_size]; omega), exC_size]
      rw [show 0 + 1 * 7 + j - 7 = j by omega]
      exact hu, hk2⟩
theorem KidL.three {W : World} {K : Nat → Prop} {g : Nat} {x y z : PE} {q r s : Option Addr} {c d e : Nat} (hb : Bk W g 24 (exC x q c ++ exC y r d ++ exC z s e)) (hK : K g) (hk : Kids W K x q) (hk2 : Kids W K y r) (hk3 : Kids W K z s) : KidL W K [x, y, z] (some ⟨g, 0, none⟩) := fun i hi => by
  have hi' : i < 3 := by simpa using hi
  match i, hi' with
  | 0, _ => exact ⟨g, 0, _, _, q, c, rfl, hK, hb, fun j u hu => by
      have hj : j < (exC x q c).size := (Array.getElem?_eq_some_iff.1 hu).1
      rw [exC_size] at hj
      rw [Array.append_assoc, Array.getElem?_append_left (by rw [exC_size]; omega)]
      simpa using hu, hk⟩
  | 1, _ => exact ⟨g, 0, _, _, r, d, rfl, hK, hb, fun j u hu => by
      have hj : j < (exC y r d).size := (Array.getElem?_eq_some_iff.1 hu).1
      rw [exC_size] at hj
      rw [Array.append_assoc, Array.getElem?_append_right (by rw [exC_size]; omega), exC_size, Array.getElem?_append_left (by rw [exC_size]; omega), show 0 + 1 * 7 + j - 7 = j by omega]
      exact hu, hk2⟩
  | 2, _ => exact ⟨g, 0, _, _, s, e, rfl, hK, hb, fun j u hu => by
      rw [Array.append_assoc, Array.getElem?_append_right (by rw [exC_size]; omega), exC_size, Array.getElem?_append_right (by rw [exC_size]; omega), exC_size, show 0 + 2 * 7 + j - 7 - 7 = j by omega]
      exact hu, hk3⟩
theorem res_ex {f : Func} {k i : Nat} {tmps : Array Value} {w : World} {R : Nat} {cs : Array Value} (hr : f.results = #[.cell k 24, .tmp i]) (hp : tmps.getD k undef = .pointer (some ⟨R, 0, none⟩)) (hg : w.heap[R]? = some (.cells cs 24 (0, 0))) (hz : cs.size = 7) :
    (results f tmps).run Tryz.prog w = .ok (.tuple #[.agg cs, tmps.getD i undef]) w := by
  have hi : (Tryz.prog.info? 24).map (·.size) = some cs.size := by rw [hz]; kernel_rfl
  have hp' : tmps[k]?.getD undef = .pointer (some ⟨R, 0, none⟩) := by simpa using hp
  simp [results, hr, hp', asAddr, run_loadVar_row w R 24 24 cs (0, 0) _ hg Tryz.underlying24 rfl hi]
theorem res_e1 {f : Func} {k : Nat} {tmps : Array Value} {w : World} {R : Nat} {cs : Array Value} (hr : f.results = #[.cell k 24]) (hp : tmps.getD k undef = .pointer (some ⟨R, 0, none⟩)) (hg : w.heap[R]? = some (.cells cs 24 (0, 0))) (hz : cs.size = 7) :
    (results f tmps).run Tryz.prog w = .ok (.agg cs) w := by
  have hi : (Tryz.prog.info? 24).map (·.size) = some cs.size := by rw [hz]; kernel_rfl
  have hp' : tmps[k]?.getD undef = .pointer (some ⟨R, 0, none⟩) := by simpa using hp
  simp [results, hr, hp', asAddr, run_loadVar_row w R 24 24 cs (0, 0) _ hg Tryz.underlying24 rfl hi]
set_option maxRecDepth 100000 in
set_option maxHeartbeats 8000000 in
theorem opB_any (s : List UInt8) (w : World) (hO : Ops w) (hw : 0 < w.heap.size) :
    Calls Tryz.prog 97 #[.string ⟨s.toArray⟩, .func (.func 52) #[] #[]] w fun e w' => e = .returned (.int .i64 (opB s)) ∧ Below w.heap.size w w' := by
  have HB := veil (fun (op : Int) (W : World) (hb : Below w.heap.size w W) => Binary_any op W (hO.below hb hw) (Nat.lt_of_lt_of_le hw hb.size))
  have HS := veil (fun (op : Int) (W : World) (hb : Below w.heap.size w W) => Sign_any op W (hO.below hb hw) (Nat.lt_of_lt_of_le hw hb.size))
  have HF : Hid (opB s = fstO (fun op => (ofM op == 2) && (sigM op == s)) (18 - 1) ((1 : Nat) : Int)) := rfl
  clear hO hw
  go_enter Tryz.func97, Tryz.ntmps97
  go_upto_region 2 with fail
  go_loopg [5] 17 (fun gk iv wr => ∃ (i : Nat), gk = 18 - i ∧ iv = .int .i64 i ∧ 1 ≤ i ∧ i ≤ 18 ∧ Hid (Below w.heap.size w wr) ∧ Hid (opB s = fstO (fun op => (ofM op == 2) && (sigM op == s)) (18 - i) (i : Int)))
  case atStart => exact ⟨1, rfl, rfl, Nat.le_refl _, by omega, Below.refl _ _, HF⟩
  case round =>
    rename World => wr
    obtain ⟨i, rfl, rfl, hi1, hi2, hb, hF⟩ := hrel
    by_cases hi : i ≤ 17
    · have hii : (i : Int) ≤ 17 := by omega
      have hF' := unveil hF
      rw [show 18 - i = (18 - (i + 1)) + 1 by omega, fstO] at hF'
      have HF2 := veil hF'
      clear hF'
      cases h1 : ofM i == 2
      · have HFN : Hid (opB s = fstO (fun op => (ofM op == 2) && (sigM op == s)) (18 - (i + 1)) ((i + 1 : Nat) : Int)) := by
          have := unveil HF2
          rw [h1] at this
          show _ = _
          simpa using this
        go_wp2_with (go_at_call 52; refine (unveil HB _ _ (unveil hb)).mono ?_; rintro e W1 ⟨rfl, h1'⟩; have hb1 := veil ((unveil hb).trans (h1'.mono (unveil hb).size)); clear h1')
        go_roundg (18 - (i + 1))
        case measure => omega
        case rel => exact ⟨i + 1, rfl, by go_num, by omega, by omega, hb1, HFN⟩
      · cases h2 : sigM i == s
        · have HFN : Hid (opB s = fstO (fun op => (ofM op == 2) && (sigM op == s)) (18 - (i + 1)) ((i + 1 : Nat) : Int)) := by
            have := unveil HF2
            rw [h1, h2] at this
            show _ = _
            simpa using this
          generalize hsg : sigM i = SG at *
          go_wp2_with (first
            | (go_at_call 52; refine (unveil HB _ _ (unveil hb)).mono ?_; rintro e W1 ⟨rfl, h1'⟩; have hb1 := veil ((unveil hb).trans (h1'.mono (unveil hb).size)); clear h1')
            | (go_at_call 40; refine (unveil HS _ _ (unveil hb1)).mono ?_; rintro e W2 ⟨rfl, h2'⟩; have hb2 := veil ((unveil hb1).trans (h2'.mono (unveil hb1).size)); clear h2'; rw [hsg]))
          go_roundg (18 - (i + 1))
          case measure => omega
          case rel => exact ⟨i + 1, rfl, by go_num, by omega, by omega, hb2, HFN⟩
        · have HFN : Hid (opB s = (i : Int)) := by
            have := unveil HF2
            rw [h1, h2] at this
            show _ = _
            simpa using this
          generalize hsg : sigM i = SG at *
          go_wp2_with (first
            | (go_at_call 52; refine (unveil HB _ _ (unveil hb)).mono ?_; rintro e W1 ⟨rfl, h1'⟩; have hb1 := veil ((unveil hb).trans (h1'.mono (unveil hb).size)); clear h1')
            | (go_at_call 40; refine (unveil HS _ _ (unveil hb1)).mono ?_; rintro e W2 ⟨rfl, h2'⟩; have hb2 := veil ((unveil hb1).trans (h2'.mono (unveil hb1).size)); clear h2'; rw [hsg]))
          go_ret
          exact ⟨by rw [unveil HFN]; rfl, unveil hb2⟩
    · have hii : ¬ (i : Int) ≤ 17 := by omega
      have HFN : Hid (opB s = 0) := by
        have := unveil hF
        rw [show 18 - i = 0 by omega, fstO] at this
        exact this
      go_wp2_with fail
      go_ret
      exact ⟨by rw [unveil HFN]; rfl, unveil hb⟩
set_option maxRecDepth 100000 in
set_option maxHeartbeats 4000000 in
theorem ofOne_any (op : Int) (w : World) (hO : Ops w) (hw : 0 < w.heap.size) :
    Calls Tryz.prog 51 #[.int .i64 op] w fun e w' => e = .returned (.bool (ofO op)) ∧ Below w.heap.size w w' := by
  have HB := veil (Binary_any op w hO hw)
  have HS := veil (fun (W : World) (hb : Below w.heap.size w W) => Sign_any op W (hO.below hb hw) (Nat.lt_of_lt_of_le hw hb.size))
  clear hO hw
  unfold ofO
  generalize hsg : sigM op = SG at *
  have HSG := veil hsg
  clear hsg
  cases h1 : ofM op == 2
  · cases h2 : SG == []
    · go_enter Tryz.func51, Tryz.ntmps51
      go_wp2_with (first
        | (go_at_call 52; refine (unveil HB).mono ?_; rintro e W1 ⟨rfl, hb1⟩; rw [h1]; have HB1 := veil hb1; clear hb1)
        | (go_at_call 40; refine (unveil HS _ (unveil HB1)).mono ?_; rintro e W2 ⟨rfl, hb2⟩; have HB2 := veil ((unveil HB1).trans (hb2.mono (unveil HB1).size)); clear hb2))
      go_ret
      refine ⟨?_, unveil HB2⟩
      first | rfl | simp [bne, h2]
    · go_enter Tryz.func51, Tryz.ntmps51
      go_wp2_with (first
        | (go_at_call 52; refine (unveil HB).mono ?_; rintro e W1 ⟨rfl, hb1⟩; rw [h1]; have HB1 := veil hb1; clear hb1)
        | (go_at_call 40; refine (unveil HS _ (unveil HB1)).mono ?_; rintro e W2 ⟨rfl, hb2⟩; have HB2 := veil ((unveil HB1).trans (hb2.mono (unveil HB1).size)); clear hb2))
      go_ret
      refine ⟨?_, unveil HB2⟩
      first | rfl | simp [bne, h2]
  · go_enter Tryz.func51, Tryz.ntmps51
    go_wp2_with (first
      | (go_at_call 52; refine (unveil HB).mono ?_; rintro e W1 ⟨rfl, hb1⟩; rw [h1]; have HB1 := veil hb1; clear hb1))
    go_ret
    refine ⟨?_, unveil HB1⟩
    first | rfl | simp
set_option maxRecDepth 100000 in
set_option maxHeartbeats 8000000 in
theorem opO_any (s : List UInt8) (w : World) (hO : Ops w) (hw : 0 < w.heap.size) :
    Calls Tryz.prog 97 #[.string ⟨s.toArray⟩, .func (.func 51) #[] #[]] w fun e w' => e = .returned (.int .i64 (opO s)) ∧ Below w.heap.size w w' := by
  have HB := veil (fun (op : Int) (W : World) (hb : Below w.heap.size w W) => ofOne_any op W (hO.below hb hw) (Nat.lt_of_lt_of_le hw hb.size))
  have HS := veil (fun (op : Int) (W : World) (hb : Below w.heap.size w W) => Sign_any op W (hO.below hb hw) (Nat.lt_of_lt_of_le hw hb.size))
  have HF : Hid (opO s = fstO (fun op => ofO op && (sigM op == s)) (18 - 1) ((1 : Nat) : Int)) := rfl
  clear hO hw
  go_enter Tryz.func97, Tryz.ntmps97
  go_upto_region 2 with fail
  go_loopg [5] 17 (fun gk iv wr => ∃ (i : Nat), gk = 18 - i ∧ iv = .int .i64 i ∧ 1 ≤ i ∧ i ≤ 18 ∧ Hid (Below w.heap.size w wr) ∧ Hid (opO s = fstO (fun op => ofO op && (sigM op == s)) (18 - i) (i : Int)))
  case atStart => exact ⟨1, rfl, rfl, Nat.le_refl _, by omega, Below.refl _ _, HF⟩
  case round =>
    rename World => wr
    obtain ⟨i, rfl, rfl, hi1, hi2, hb, hF⟩ := hrel
    by_cases hi : i ≤ 17
    · have hii : (i : Int) ≤ 17 := by omega
      have hF' := unveil hF
      rw [show 18 - i = (18 - (i + 1)) + 1 by omega, fstO] at hF'
      have HF2 := veil hF'
      clear hF'
      cases h1 : ofO i
      · have HFN : Hid (opO s = fstO (fun op => ofO op && (sigM op == s)) (18 - (i + 1)) ((i + 1 : Nat) : Int)) := by
          have := unveil HF2
          rw [h1] at this
          show _ = _
          simpa using this
        go_wp2_with (go_at_call 51; refine (unveil HB _ _ (unveil hb)).mono ?_; rintro e W1 ⟨rfl, h1'⟩; have hb1 := veil ((unveil hb).trans (h1'.mono (unveil hb).size)); clear h1')
        go_roundg (18 - (i + 1))
        case measure => omega
        case rel => exact ⟨i + 1, rfl, by go_num, by omega, by omega, hb1, HFN⟩
      · cases h2 : sigM i == s
        · have HFN : Hid (opO s = fstO (fun op => ofO op && (sigM op == s)) (18 - (i + 1)) ((i + 1 : Nat) : Int)) := by
            have := unveil HF2
            rw [h1, h2] at this
            show _ = _
            simpa using this
          generalize hsg : sigM i = SG at *
          go_wp2_with (first
            | (go_at_call 51; refine (unveil HB _ _ (unveil hb)).mono ?_; rintro e W1 ⟨rfl, h1'⟩; have hb1 := veil ((unveil hb).trans (h1'.mono (unveil hb).size)); clear h1')
            | (go_at_call 40; refine (unveil HS _ _ (unveil hb1)).mono ?_; rintro e W2 ⟨rfl, h2'⟩; have hb2 := veil ((unveil hb1).trans (h2'.mono (unveil hb1).size)); clear h2'; rw [hsg]))
          go_roundg (18 - (i + 1))
          case measure => omega
          case rel => exact ⟨i + 1, rfl, by go_num, by omega, by omega, hb2, HFN⟩
        · have HFN : Hid (opO s = (i : Int)) := by
            have := unveil HF2
            rw [h1, h2] at this
            show _ = _
            simpa using this
          generalize hsg : sigM i = SG at *
          go_wp2_with (first
            | (go_at_call 51; refine (unveil HB _ _ (unveil hb)).mono ?_; rintro e W1 ⟨rfl, h1'⟩; have hb1 := veil ((unveil hb).trans (h1'.mono (unveil hb).size)); clear h1')
            | (go_at_call 40; refine (unveil HS _ _ (unveil hb1)).mono ?_; rintro e W2 ⟨rfl, h2'⟩; have hb2 := veil ((unveil hb1).trans (h2'.mono (unveil hb1).size)); clear h2'; rw [hsg]))
          go_ret
          exact ⟨by rw [unveil HFN]; rfl, unveil hb2⟩
    · have hii : ¬ (i : Int) ≤ 17 := by omega
      have HFN : Hid (opO s = 0) := by
        have := unveil hF
        rw [show 18 - i = 0 by omega, fstO] at this
        exact this
      go_wp2_with fail
      go_ret
      exact ⟨by rw [unveil HFN]; rfl, unveil hb⟩
end Go.Proofs.YtmpkgjonbjpohaaGreatDoor
