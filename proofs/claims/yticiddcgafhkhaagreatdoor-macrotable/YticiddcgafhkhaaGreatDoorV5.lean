/-
  Package macro: parseHead; lexed of the statements, with the room of what it tells.
-/
import Derived.Test.YticiddcgafhkhaaGreatDoorV4
import Derived.Test.YticiddcgafhkhaaGreatDoorUb
import Derived.BigRegion
namespace Go.Proofs.YticiddcgafhkhaaGreatDoor
open Go Go.RowKit
set_option linter.unusedVariables false
set_option linter.unusedSimpArgs false

theorem LexR_one (N : Int) (s : ByteArray) (w : World) (hs : s.size ≤ 140737488355328) (hw0 : 1 < w.heap.size) (hsg : Sg w) :
    Calls Tryz.prog 22 #[.slice (some ⟨w.heap.size, 0, none⟩) 1 1] (w.alloc (.cells #[.int .i64 N, .string s] 61)) fun e w' => ∃ v', e = .returned (.tuple #[v', .int .i64 (Tk.lex [(N, s.data.toList)]).2.1, .int .i64 (Tk.lex [(N, s.data.toList)]).2.2]) ∧
      w'.ownsRow (w.heap.size + 1) 74 6 v' (Tk.lex [(N, s.data.toList)]).1.length (tokCells (Tk.lex [(N, s.data.toList)]).1) ∧ Below (w.heap.size + 1) (w.alloc (.cells #[.int .i64 N, .string s] 61)) w' := by
  have hz : (w.alloc (.cells #[.int .i64 N, .string s] 61)).heap.size = w.heap.size + 1 := by simp
  have hnew : (w.alloc (.cells #[.int .i64 N, .string s] 61)).heap[w.heap.size]? = some (.cells #[.int .i64 N, .string s] 61 (0, 0)) := World.alloc_heap_new w _
  have hl : LnB (w.alloc (.cells #[.int .i64 N, .string s] 61)).heap.size (w.alloc (.cells #[.int .i64 N, .string s] 61)) (.slice (some ⟨w.heap.size, 0, none⟩) 1 1) [(N, s)] := by
    refine ⟨some ⟨w.heap.size, 0, none⟩, 1, rfl, fun i hi => ⟨w.heap.size, 0, rfl, by omega, ?_, ?_⟩⟩
    · obtain rfl : i = 0 := by simpa using hi
      rw [World.cell?, hnew]; rfl
    · obtain rfl : i = 0 := by simpa using hi
      rw [World.cell?, hnew]; rfl
  have hsg' : Sg (w.alloc (.cells #[.int .i64 N, .string s] 61)) := Sg.below hsg ((Below.refl _ w).alloc (Nat.le_refl _) _) hw0
  have hf : Fits [(N, s)] := ⟨by simp, fun x hx => by simp at hx; subst hx; exact hs⟩
  refine (Lex_any _ _ _ hf (by omega) hl hsg').mono ?_
  rintro e w' ⟨v', rfl, hrow, hb⟩
  rw [hz] at hrow hb
  exact ⟨v', rfl, hrow, hb⟩
set_option maxRecDepth 100000 in
set_option maxHeartbeats 4000000 in
theorem lexedR_any (s : ByteArray) (w : World) (hs : s.size ≤ 140737488355328) (hw0 : 1 < w.heap.size) (hsg : Sg w) :
    Calls Tryz.prog 7 #[.string s] w fun e w' => ∃ v', e = .returned v' ∧ w'.ownsRow w.heap.size 74 6 v' (lex1 s).1.length (tokCells (lex1 s).1) ∧ Below w.heap.size w w' := by
  have HLX := hide (LexR_one 1 s w hs hw0 hsg)
  have hb1 : Below w.heap.size w (w.alloc (.cells #[.int .i64 1, .string s] 61)) := (Below.refl _ w).alloc (Nat.le_refl _) _
  have HB := hide hb1
  clear hb1
  have e1 : Tk.lex [(1, s.data.toList)] = lex1 s := rfl
  rw [e1] at HLX
  clear e1
  generalize lex1 s = R at *
  go_enter Tryz.func7, Tryz.ntmps7
  go_wp2_with fail
  refine (unhide HLX).mono ?_
  rintro e W1 ⟨v', rfl, hT, hb1⟩
  have hb2 : Below w.heap.size w W1 := (unhide HB).trans (hb1.mono (by omega))
  clear HLX HB
  go_wp2
  go_ret
  exact ⟨_, rfl, ownsRow_base hT (by omega), hb2⟩
/-- A slice whose room is no smaller, and no greater than may be. -/
def Room (v : Value) : Prop := ∀ p n c, v = .slice p n c → n ≤ c ∧ c ≤ maxLen
theorem ownsRow_room {W : World} {base n size : Nat} {e : TypeId} {v : Value} {xs : List Value} (h : W.ownsRow base e size v n xs) : Room v := by
  intro p m c hv
  rcases h.2 with ⟨rfl, h0⟩ | ⟨g, cap, cur, rfl, _, _, h1, h2, _⟩
  · cases hv; exact ⟨Nat.le_refl _, by unfold maxLen; omega⟩
  · cases hv; exact ⟨h1, h2⟩

/-- The head of a definition: name, Func, parameters, More, the tokens behind. -/
def headQ (nm : List UInt8) : List Gt → Option (List UInt8 × Bool × List (List UInt8) × Bool × List Gt)
  | [] => some (nm, false, [], false, [])
  | b :: r => if b.sp then some (nm, false, [], false, b :: r) else if sg b [40] then (parP r).map (fun x => (nm, true, x.1, x.2.1, r.drop x.2.2)) else none
def headP (l : List Gt) : Option (List UInt8 × Bool × List (List UInt8) × Bool × List Gt) :=
  match l with
  | [] => none
  | t :: body => if t.kind = 1 then headQ t.s body else none
theorem headP_pos (l : List Gt) (h : 0 < l.length) : headP l = if l[0].kind = 1 then headQ l[0].s (l.drop 1) else none := by
  match l, h with
  | t :: r, _ => rfl
theorem headQ_pos (nm : List UInt8) (l : List Gt) (h : 0 < l.length) : headQ nm l = if l[0].sp then some (nm, false, [], false, l) else if sg l[0] [40] then (parP (l.drop 1)).map (fun x => (nm, true, x.1, x.2.1, (l.drop 1).drop x.2.2)) else none := by
  match l, h with
  | t :: r, _ => rfl
theorem goP_le : ∀ (r : List (Gt × Gt)) (ps : List (List UInt8)) (k : Nat) (x : List (List UInt8) × Bool × Nat), goP ps k r = some x → x.2.2 ≤ k + 2 * r.length ∧ 1 ≤ x.2.2
  | [], _, _, _, h => by simp [goP] at h
  | (a, b) :: r, ps, k, x, h => by
    unfold goP at h
    split at h
    · split at h
      · cases h; simp; omega
      · split at h
        · have := goP_le r _ _ x h; simp; omega
        · cases h
    · split at h
      · split at h
        · cases h; simp; omega
        · cases h
      · cases h
theorem parP_le (l : List Gt) (x : List (List UInt8) × Bool × Nat) (h : parP l = some x) : x.2.2 ≤ l.length ∧ 1 ≤ x.2.2 := by
  unfold parP at h
  split at h
  · cases h
  · split at h
    · cases h; simp
    · have h1 := goP_le _ _ _ x h
      have h2 := prs_length (‹Gt› :: ‹List Gt›)
      omega
theorem TkG.drop {B : Nat} {W : World} {g o n cap : Nat} {l : List Gt} (h : TkG B W (.slice (some ⟨g, o, none⟩) n cap) l) (k : Nat) (hk : k ≤ n) (hn : n ≤ cap) : TkG B W (.slice (if cap = k then some ⟨g, o, none⟩ else some ⟨g, o + k * 6, none⟩) (n - k) (cap - k)) (l.drop k) := by
  obtain ⟨p', cap', e, hc⟩ := h
  obtain ⟨rfl, rfl, rfl⟩ : some ⟨g, o, none⟩ = p' ∧ n = l.length ∧ cap = cap' := by simpa using e
  refine ⟨if cap = k then some ⟨g, o, none⟩ else some ⟨g, o + k * 6, none⟩, cap - k, by simp, fun i hi => ?_⟩
  have hi' : k + i < l.length := by simp at hi; omega
  obtain ⟨g', o', hp, hg, c⟩ := hc (k + i) hi'
  obtain ⟨rfl, rfl⟩ : g = g' ∧ o = o' := by simpa using hp
  rw [if_neg (by omega)]
  refine ⟨g, o + k * 6, rfl, hg, ?_⟩
  rw [show o + k * 6 + i * 6 = o + (k + i) * 6 by rw [Nat.add_mul]; omega]
  simpa using c
def put5 (W : World) (M : Nat) (nm : Value) (fn : Bool) (pv : Value) (more : Bool) (bv : Value) : World :=
  ((((W.setCell ⟨M, 0, none⟩ nm).setCell ⟨M, 1, none⟩ (.bool fn)).setCell ⟨M, 2, none⟩ pv).setCell ⟨M, 3, none⟩ (.bool more)).setCell ⟨M, 4, none⟩ bv
theorem MBox.put {W : World} {M : Nat} {nm pv bv : Value} {fn more : Bool} (h : MBox W M nm fn pv more bv) (nm' pv' bv' : Value) (fn' more' : Bool) : MBox (put5 W M nm' fn' pv' more' bv') M nm' fn' pv' more' bv' := ((((h.set0 _).set1 _).set2 _).set3 _).set4 _
theorem below_put5 {B M : Nat} {w W : World} (h : Below B w W) (hM : B ≤ M) (nm pv bv : Value) (fn more : Bool) : Below B w (put5 W M nm fn pv more bv) :=
  ((((h.setCell (p := ⟨M, 0, none⟩) hM _).setCell (p := ⟨M, 1, none⟩) hM _).setCell (p := ⟨M, 2, none⟩) hM _).setCell (p := ⟨M, 3, none⟩) hM _).setCell (p := ⟨M, 4, none⟩) hM _
theorem row_put5 {base n size M : Nat} {e : TypeId} {v : Value} {W : World} {xs : List Value} (h : W.ownsRow base e size v n xs) (hM : M < base) (nm pv bv : Value) (fn more : Bool) : (put5 W M nm fn pv more bv).ownsRow base e size v n xs :=
  ownsRow_setCell (ownsRow_setCell (ownsRow_setCell (ownsRow_setCell (ownsRow_setCell h hM _) hM _) hM _) hM _) hM _
theorem size_put5 (W : World) (M : Nat) (nm pv bv : Value) (fn more : Bool) : (put5 W M nm fn pv more bv).heap.size = W.heap.size := by simp [put5]
def HdP (w : World) (R : Option (List UInt8 × Bool × List (List UInt8) × Bool × List Gt)) (e : Ending) (w' : World) : Prop :=
  Below w.heap.size w w' ∧ ((R = none ∧ ∃ s fn q n c more sv, e = .returned (.tuple #[.agg #[.string s, .bool fn, .slice q n c, .bool more, .slice none 0 0], sv, .bool false])) ∨
    (∃ nm fn ps more body pv p' cap', R = some (nm, fn, ps, more, body) ∧ e = .returned (.tuple #[.agg #[.string ⟨nm.toArray⟩, .bool fn, pv, .bool more, .slice none 0 0], .slice p' body.length cap', .bool true]) ∧
      w'.ownsRow w.heap.size 9 1 pv ps.length (sCells ps) ∧ TkG w'.heap.size w' (.slice p' body.length cap') body))
theorem res38 {tmps : Array Value} {w : World} {R : Nat} {cs : Array Value} (hp : tmps.getD 2 undef = .pointer (some ⟨R, 0, none⟩)) (hg : w.heap[R]? = some (.cells cs 33 (0, 0))) (hz : cs.size = 5) :
    (results Tryz.f19 tmps).run Tryz.prog w = .ok (.tuple #[.agg cs, tmps.getD 3 undef, tmps.getD 4 undef]) w := by
  have hr : Tryz.f19.results = #[.cell 2 33, .tmp 3, .tmp 4] := rfl
  have hi : (Tryz.prog.info? 33).map (·.size) = some cs.size := by rw [hz]; kernel_rfl
  have hp' : tmps[2]?.getD undef = .pointer (some ⟨R, 0, none⟩) := by simpa using hp
  simp [results, hr, hp', asAddr, run_loadVar_row w R 33 33 cs (0, 0) _ hg Tryz.underlying33 rfl hi]

set_option maxRecDepth 100000 in
set_option maxHeartbeats 8000000 in
theorem parseHead_any (p : Option Addr) (cap : Nat) (l : List Gt) (w : World) (hsz : l.length * 56 ≤ 140737488355328) (hcap : l.length ≤ cap ∧ cap ≤ maxLen) (hl : TkG w.heap.size w (.slice p l.length cap) l) :
    Calls Tryz.prog 19 #[.slice p l.length cap] w fun e w' => HdP w (headP l) e w' := by
  have hbe0 : Below w.heap.size w (w.alloc (.cells #[.string ⟨#[]⟩, .bool false, .slice none 0 0, .bool false, .slice none 0 0] 33)) := (Below.refl _ w).alloc (Nat.le_refl _) _
  have hm0 : MBox (w.alloc (.cells #[.string ⟨#[]⟩, .bool false, .slice none 0 0, .bool false, .slice none 0 0] 33)) w.heap.size (.string ⟨#[]⟩) false (.slice none 0 0) false (.slice none 0 0) := World.alloc_heap_new w _
  have HB := hide hbe0
  have HM := hide hm0
  have HL := hide hl
  clear hbe0 hl
  obtain ⟨hc1, hc2⟩ := hcap
  unfold maxLen at hc2
  obtain ⟨m0, m1, m2, m3, m4⟩ := hm0.five
  clear hm0
  by_cases hl0 : l.length = 0
  · obtain rfl : l = [] := List.eq_nil_of_length_eq_zero hl0
    simp only [List.length_nil] at *
    go_enter Tryz.func19, Tryz.ntmps19
    go_wp2
    refine bodyPost_ret (res38 rfl (unhide HM) rfl) rfl ⟨unhide HB, .inl ⟨rfl, _, _, _, _, _, _, _, rfl⟩⟩
  · have hpos : 0 < l.length := by omega
    obtain ⟨p', cap', hp', hcs⟩ := unhide HL
    obtain ⟨g, o, rfl, hgw, a0, a1, a2, a3, a4, a5⟩ := hcs 0 hpos
    obtain ⟨rfl, rfl⟩ : p = some ⟨g, o, none⟩ ∧ cap = cap' := by simpa using hp'
    simp only [Nat.zero_mul, Nat.add_zero] at a0 a1 a2 a3 a4 a5
    clear hp'
    have hR := headP_pos l hpos
    generalize headP l = R at *
    have HR := hide hR
    clear hR hl0
    have i1 : (0 : Int) < (l.length : Int) := by omega
    have i2 : (((l.length : Nat) : Int) == 0) = false := by rw [beq_eq_false_iff_ne]; omega
    have HCS := hide hcs
    clear hcs
    generalize l[0] = t at *
    have HG := hide hgw
    have hww : ∀ j v, w.cell? ⟨g, j, none⟩ = some v → (w.alloc (.cells #[.string ⟨#[]⟩, .bool false, .slice none 0 0, .bool false, .slice none 0 0] 33)).cell? ⟨g, j, none⟩ = some v := fun j v h => ((unhide HB).cell (p := ⟨g, j, none⟩) hgw).trans h
    have f0 := (unhide HM).frozen 0
    replace a0 := hww _ _ a0
    replace a1 := hww _ _ a1
    have hgM : g ≠ w.heap.size := by omega
    clear a2 a3 a4 a5 hww hgw
    by_cases hk : t.kind = 1
    · have i3 : (t.kind != 1) = false := by rw [hk]; rfl
      have HK := hide hk
      clear hk
      go_enter Tryz.func19, Tryz.ntmps19
      go_upto_region 3 with fail
      generalize (w.alloc (.cells #[.string ⟨#[]⟩, .bool false, .slice none 0 0, .bool false, .slice none 0 0] 33)) = W0 at *
      go_region
      all_goals
        have hmS : MBox (W0.setCell ⟨w.heap.size, 0, none⟩ (.string ⟨t.s.toArray⟩)) w.heap.size (.string ⟨t.s.toArray⟩) false (.slice none 0 0) false (.slice none 0 0) := (unhide HM).set0 _
        have hbS : Below w.heap.size w (W0.setCell ⟨w.heap.size, 0, none⟩ (.string ⟨t.s.toArray⟩)) := (unhide HB).setCell (p := ⟨w.heap.size, 0, none⟩) (Nat.le_refl _) _
        have hl1 := ((unhide HL).below hbS).drop 1 hpos hc1
        have hlen : (l.drop 1).length = l.length - 1 := by simp
        rw [← hlen] at hl1 ⊢
        have hc3 : (l.drop 1).length ≤ cap - 1 := by omega
        have hc4 : cap - 1 ≤ 2 ^ 63 - 1 := by omega
        have hsz1 : (l.drop 1).length * 56 ≤ 140737488355328 := by omega
        simp only [Nat.one_mul] at hl1
        clear m0 m1 m2 m3 m4 a0 a1 f0 hlen HL HCS HM HB
        generalize (if cap = 1 then some (⟨g, o, none⟩ : Addr) else some ⟨g, o + 6, none⟩) = p1 at *
        generalize cap - 1 = cap1 at *
        generalize l.drop 1 = l1 at *
        have hm1 : MBox (W0.setCell ⟨w.heap.size, 0, none⟩ (.string ⟨t.s.toArray⟩)).drew w.heap.size (.string ⟨t.s.toArray⟩) false (.slice none 0 0) false (.slice none 0 0) := hmS
        have hb1 := hbS.drew
        have hl2 := hl1.below (Below.refl w.heap.size (W0.setCell ⟨w.heap.size, 0, none⟩ (.string ⟨t.s.toArray⟩))).drew
        clear hmS hbS hl1
        generalize (W0.setCell ⟨w.heap.size, 0, none⟩ (.string ⟨t.s.toArray⟩)).drew = W1 at *
        have HM := hide hm1
        obtain ⟨m0, m1, m2, m3, m4⟩ := hm1.five
        have f1 := hm1.frozen 1
        have mf0 := hm1.frozen 0
        have mf2 := hm1.frozen 2
        have mf3 := hm1.frozen 3
        have mf4 := hm1.frozen 4
        have HB := hide hb1
        have HL2 := hide hl2
        clear hm1 hb1 hl2 hgM hpos i1 i2 hc1 hc2
        have HRk : Hid (R = headQ t.s l1) := by rw [Hid, unhide HR, if_pos (unhide HK)]
        clear HR
        by_cases hl10 : l1.length = 0
        · obtain rfl : l1 = [] := List.eq_nil_of_length_eq_zero hl10
          simp only [List.length_nil] at *
          go_wp2
          refine bodyPost_ret (res38 rfl ((unhide HM).put _ _ _ _ _) rfl) rfl ⟨below_put5 (unhide HB) (Nat.le_refl _) _ _ _ _ _, .inr ⟨t.s, false, [], false, [], _, _, _, unhide HRk, rfl, World.ownsRow_nil _ _ _ _, ?_⟩⟩
          exact ⟨_, _, rfl, fun i hi => by simp at hi⟩
        · have hpos1 : 0 < l1.length := by omega
          have hQ := headQ_pos t.s l1 hpos1
          rw [← unhide HRk] at hQ
          have HQ := hide hQ
          obtain ⟨p', cap', hp', hcs⟩ := unhide HL2
          obtain ⟨g1, o1, rfl, hgw, a0, a1, a2, a3, a4, a5⟩ := hcs 0 hpos1
          obtain ⟨rfl, rfl⟩ : p1 = some ⟨g1, o1, none⟩ ∧ cap1 = cap' := by simpa using hp'
          simp only [Nat.zero_mul, Nat.add_zero] at a0 a1 a2 a3 a4 a5
          have hsb := hide (fun W => isSign_any l1[0] ⟨#[40]⟩ W)
          have hdr := (unhide HL2).drop 1 hpos1 hc3
          have i1 : (0 : Int) < (l1.length : Int) := by omega
          have i2 : (((l1.length : Nat) : Int) == 0) = false := by rw [beq_eq_false_iff_ne]; omega
          clear hp' hcs HRk hQ hl10
          generalize hb0 : l1[0] = b at *
          clear hb0
          simp only [gC] at hsb
          have G1 : Hid (sg b [40] = (decide (b.kind = 5) && decide (b.s = [40]))) := rfl
          generalize (decide (b.kind = 5) && decide (b.s = [40])) = g1b at *
          have HDR := hide hdr
          clear hdr
          cases hsp : b.sp
          · have HSP := hide hsp
            rw [hsp] at a4 hsb
            clear hsp
            go_wp2_with fail
            refine (unhide hsb _).mono ?_
            rintro e W2 ⟨rfl, hb2⟩
            have hs2 := hb2.size
            have lM := (unhide HM).lt
            have hm2 := (unhide HM).below hb2 lM
            have HB2 := hide ((unhide HB).trans (hb2.mono (Nat.le_of_lt lM)))
            have HDR2 := hide ((unhide HDR).below (hb2.mono (Nat.le_of_lt lM)))
            have HL2a := hide ((unhide HL2).below (hb2.mono (Nat.le_of_lt lM)))
            clear m0 m1 m2 m3 m4 f1 mf0 mf2 mf3 mf4 a0 a1 a2 a3 a4 a5 HM HB HDR hb2 hsb
            obtain ⟨m0, m1, m2, m3, m4⟩ := hm2.five
            have f1 := hm2.frozen 1
            have mf0 := hm2.frozen 0
            have mf2 := hm2.frozen 2
            have mf3 := hm2.frozen 3
            have mf4 := hm2.frozen 4
            have HM2 := hide hm2
            clear hm2
            cases g1b
            · have HRR : Hid (R = none) := by rw [Hid, unhide HQ, unhide HSP, unhide G1]; rfl
              go_wp2
              refine bodyPost_ret (res38 rfl ((unhide HM2).put _ _ _ _ _) rfl) rfl ⟨below_put5 (unhide HB2) (Nat.le_refl _) _ _ _ _ _, .inl ⟨unhide HRR, _, _, _, _, _, _, _, rfl⟩⟩
            · have HRR : Hid (R = (parP (l1.drop 1)).map (fun x => (t.s, true, x.1, x.2.1, (l1.drop 1).drop x.2.2))) := by rw [Hid, unhide HQ, unhide HSP, unhide G1]; rfl
              have hm3 := (unhide HM2).set1 true
              have hb3 : Below w.heap.size w (W2.setCell ⟨w.heap.size, 1, none⟩ (.bool true)) := (unhide HB2).setCell (p := ⟨w.heap.size, 1, none⟩) (Nat.le_refl _) _
              have hdr3 := (unhide HDR2).below ((Below.refl _ W2).setCell (p := ⟨w.heap.size, 1, none⟩) (Nat.le_refl _) (.bool true))
              have hzz : (W2.setCell ⟨w.heap.size, 1, none⟩ (.bool true)).heap.size = W2.heap.size := by simp
              have HM3 := hide hm3
              have HB3 := hide hb3
              have HZ := hide hzz
              have HDR3 := hide hdr3
              clear hm3 hb3 hzz hdr3 HDR2
              have el : (l1.drop 1).length = l1.length - 1 := by simp
              have hszd : (l1.drop 1).length * 56 ≤ 140737488355328 := by omega
              have hpp := hide (fun (p : Option Addr) (cap : Nat) (h : TkG w.heap.size (W2.setCell ⟨w.heap.size, 1, none⟩ (.bool true)) (.slice p (l1.drop 1).length cap) (l1.drop 1)) => parseParams_any p cap w.heap.size (l1.drop 1) _ _ _ _ hszd (by rw [unhide HZ]; omega) h (unhide HM3))
              rw [el] at hpp
              have EL := hide el
              clear el
              by_cases hcap1 : cap1 = 1
              · subst hcap1
                have hl11 : l1.length = 1 := by omega
                have hn : l1.drop 1 = [] := List.eq_nil_of_length_eq_zero (by simp; omega)
                have HRN : Hid (R = none) := by rw [Hid, unhide HRR, hn]; rfl
                have hpn : parP (l1.drop 1) = none := by rw [hn]; rfl
                rw [hpn] at hpp
                have hdr4 : TkG w.heap.size (W2.setCell ⟨w.heap.size, 1, none⟩ (.bool true)) (.slice (some ⟨g1, o1, none⟩) (l1.length - 1) 0) (l1.drop 1) := by
                  have := unhide HDR3
                  rw [if_pos rfl] at this
                  exact this
                have hcl := hide (unhide hpp _ _ hdr4)
                clear hdr4 hn hpn hpp HDR3 HRR
                rw [hl11] at hcl
                rw [hl11] at HL2 i2 ⊢
                clear i1 i2 hpos1 hc3 hsz1
                simp only [Nat.sub_self] at hcl
                go_wp2_with fail
                refine (unhide hcl).mono ?_
                rintro e W3 ⟨hb3, (⟨hR3, rfl, q3, n3, c3, more3, hm3⟩ | ⟨ps, more, k, pv, hR3, rfl, hm3, hrow3⟩)⟩
                · obtain ⟨m0, m1, m2, m3, m4⟩ := hm3.five
                  have n0 := hm3.frozen 0
                  have n1 := hm3.frozen 1
                  have n2 := hm3.frozen 2
                  have n3 := hm3.frozen 3
                  have n4 := hm3.frozen 4
                  have HM4 := hide hm3
                  have HB4 := hide ((unhide HB3).trans hb3)
                  clear hm3 hb3 hR3
                  go_upto_region 10 with fail
                  go_region
                  all_goals
                    go_wp2
                    refine bodyPost_ret (res38 rfl ((unhide HM4).put _ _ _ _ _) rfl) rfl ⟨(below_put5 (unhide HB4) (Nat.le_refl _) _ _ _ _ _).drew, .inl ⟨unhide HRN, _, _, _, _, _, _, _, rfl⟩⟩
                · cases hR3
              · have hdr4 : TkG w.heap.size (W2.setCell ⟨w.heap.size, 1, none⟩ (.bool true)) (.slice (some ⟨g1, o1 + 6, none⟩) (l1.length - 1) (cap1 - 1)) (l1.drop 1) := by
                  have := unhide HDR3
                  rw [if_neg hcap1] at this
                  exact this
                have HDR4 := hide hdr4
                clear hdr4
                go_wp2_with fail
                refine (unhide hpp _ _ (unhide HDR4)).mono ?_
                rintro e W3 ⟨hb3, (⟨hR3, rfl, q3, n3, c3, more3, hm3⟩ | ⟨ps, more, k, pv, hR3, rfl, hm3, hrow3⟩)⟩
                · have HRN : Hid (R = none) := by rw [Hid, unhide HRR, hR3]; rfl
                  obtain ⟨m0, m1, m2, m3, m4⟩ := hm3.five
                  have n0 := hm3.frozen 0
                  have n1 := hm3.frozen 1
                  have n2 := hm3.frozen 2
                  have n3 := hm3.frozen 3
                  have n4 := hm3.frozen 4
                  have HM4 := hide hm3
                  have HB4 := hide ((unhide HB3).trans hb3)
                  clear hm3 hb3 hR3
                  go_upto_region 10 with fail
                  go_region
                  all_goals
                    go_wp2
                    refine bodyPost_ret (res38 rfl ((unhide HM4).put _ _ _ _ _) rfl) rfl ⟨(below_put5 (unhide HB4) (Nat.le_refl _) _ _ _ _ _).drew, .inl ⟨unhide HRN, _, _, _, _, _, _, _, rfl⟩⟩
                · have HRN : Hid (R = some (t.s, true, ps, more, (l1.drop 1).drop k)) := by rw [Hid, unhide HRR, hR3]; rfl
                  obtain ⟨q3, c3, rfl⟩ := ownsRow_slice hrow3
                  have hkl := parP_le _ _ hR3
                  simp only at hkl
                  rw [unhide EL] at hkl
                  obtain ⟨m0, m1, m2, m3, m4⟩ := hm3.five
                  have n0 := hm3.frozen 0
                  have n1 := hm3.frozen 1
                  have n2 := hm3.frozen 2
                  have n3 := hm3.frozen 3
                  have n4 := hm3.frozen 4
                  have HM4 := hide hm3
                  have HB4 := hide ((unhide HB3).trans hb3)
                  have HRO := hide hrow3
                  have HB5 := hide hb3
                  clear hm3 hb3 hR3 hrow3
                  have j1 : IntKind.i64.wrap (1 + (k : Int)) = 1 + (k : Int) := by rw [IntKind.wrap_i64]; omega
                  have j2 : (1 + (k : Int)).toNat = 1 + k := by omega
                  have j3 : (0 : Int) ≤ 1 + (k : Int) := by omega
                  have j4 : 1 + (k : Int) ≤ (l1.length : Int) := by omega
                  go_upto_region 10 with fail
                  go_region
                  all_goals
                    have hbp := below_put5 (Below.refl w.heap.size W3) (Nat.le_refl _) (.string ⟨t.s.toArray⟩) (.slice q3 ps.length c3) (.slice none 0 0) true more
                    have hld : TkG w.heap.size (put5 W3 w.heap.size (.string ⟨t.s.toArray⟩) true (.slice q3 ps.length c3) more (.slice none 0 0)).drew (.slice (if cap1 = 1 + k then some (⟨g1, o1, none⟩ : Addr) else some ⟨g1, o1 + (1 + k) * 6, none⟩) (l1.length - (1 + k)) (cap1 - (1 + k))) ((l1.drop 1).drop k) := by
                      have := ((((unhide HL2a).below ((Below.refl _ W2).setCell (p := ⟨w.heap.size, 1, none⟩) (Nat.le_refl _) (.bool true))).below (unhide HB5)).below hbp.drew).drop (1 + k) (by omega) hc3
                      rw [List.drop_drop]
                      exact this
                    have hle2 : l1.length - (1 + k) = ((l1.drop 1).drop k).length := by simp; omega
                    rw [hle2] at hld ⊢
                    have HLD := hide hld
                    clear hld hle2
                    generalize (if cap1 = 1 + k then some (⟨g1, o1, none⟩ : Addr) else some ⟨g1, o1 + (1 + k) * 6, none⟩) = p5 at *
                    go_wp2
                    refine bodyPost_ret (res38 rfl ((unhide HM4).put _ _ _ _ _) rfl) rfl ⟨(below_put5 (unhide HB4) (Nat.le_refl _) _ _ _ _ _).drew, .inr ⟨t.s, true, ps, more, _, _, _, _, unhide HRN, rfl, ?_, ?_⟩⟩
                    · exact ownsRow_base (row_put5 (unhide HRO) (by rw [unhide HZ]; omega) _ _ _ _ _).drew (by rw [unhide HZ]; omega)
                    · exact (unhide HLD).mono (by have := (unhide HB4).size; simpa using this)
          · have HRR : Hid (R = some (t.s, false, [], false, l1)) := by rw [Hid, unhide HQ, if_pos hsp]
            rw [hsp] at a4 
            clear hsp
            go_wp2
            refine bodyPost_ret (res38 rfl ((unhide HM).put _ _ _ _ _) rfl) rfl ⟨below_put5 (unhide HB) (Nat.le_refl _) _ _ _ _ _, .inr ⟨t.s, false, [], false, l1, _, _, _, unhide HRR, rfl, World.ownsRow_nil _ _ _ _, ?_⟩⟩
            exact ((unhide HL2).below (below_put5 (Below.refl _ W1) (Nat.le_refl _) _ _ _ _ _)).mono (by have := (unhide HB).size; simpa using this)
    · have i3 : (t.kind != 1) = true := by rw [bne_iff_ne]; exact hk
      have HRR : Hid (R = none) := by rw [Hid, unhide HR, if_neg hk]
      clear hk
      go_enter Tryz.func19, Tryz.ntmps19
      go_wp2
      refine bodyPost_ret (res38 rfl (unhide HM) rfl) rfl ⟨unhide HB, .inl ⟨unhide HRR, _, _, _, _, _, _, _, rfl⟩⟩
end Go.Proofs.YticiddcgafhkhaaGreatDoor
