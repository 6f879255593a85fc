/-
  token.tokens: the events of lines, one by one, for whatever loop body.
-/
import Derived.Test.YtmpkgjonbjpohaaGreatDoorQ4
import Derived.RangeFuncNested
import Derived.RangeFuncBound
import Derived.RangeFuncCalls
import Derived.RangeFuncLeaves
import Derived.Shelf.Abstract
import Derived.Shelf.RegionOpen
import Derived.OwnWalkIn
import Derived.TacticsInMore
import Derived.LoopNIn
import Derived.LoopIn
namespace Go.Proofs.YtmpkgjonbjpohaaGreatDoor
open Go Go.RowKit Go.Shelf
attribute [local go_sem] Oper.semAt_some
set_option linter.unusedVariables false
set_option linter.unusedSimpArgs false

def encT (x : Tk.T × Int) : Array Value := #[tokV x.1, .int .i64 x.2]
/-- A slice value that reads as these lines, below block B. -/
def LnB (B : Nat) (w : World) (v : Value) (l : List (Int × ByteArray)) : Prop :=
  ∃ p cap, v = .slice p l.length cap ∧ ∀ (i : Nat) (h : i < l.length), ∃ g o, p = some ⟨g, o, none⟩ ∧ g < B ∧ w.cell? ⟨g, o + i * 2, none⟩ = some (.int .i64 l[i].1) ∧ w.cell? ⟨g, o + i * 2 + 1, none⟩ = some (.string l[i].2)
theorem LnB.below {B : Nat} {w w' : World} {v : Value} {l : List (Int × ByteArray)} (h : LnB B w v l) (hb : Below B w w') : LnB B w' v l := by
  obtain ⟨p, cap, rfl, hc⟩ := h
  refine ⟨p, cap, rfl, fun i hi => ?_⟩
  obtain ⟨g, o, rfl, hg, c0, c1⟩ := hc i hi
  exact ⟨g, o, rfl, hg, (hb.cell (p := ⟨g, o + i * 2, none⟩) hg).trans c0, (hb.cell (p := ⟨g, o + i * 2 + 1, none⟩) hg).trans c1⟩
theorem LnB.toA {B b : Nat} {w : World} {v : Value} {l : List (Int × ByteArray)} (h : LnB B w v l) (hb : B ≤ b) (hw : B ≤ w.heap.size) : LnA b w v l := by
  obtain ⟨p, cap, rfl, hc⟩ := h
  refine ⟨p, cap, rfl, fun i hi => ?_⟩
  obtain ⟨g, o, rfl, hg, c0, c1⟩ := hc i hi
  exact ⟨g, o, rfl, by omega, by omega, c0, c1⟩
theorem Reach.below {b B : Nat} {w w' : World} (h : Reach b w w') (hB : B ≤ b) (hw : B ≤ w.heap.size) : Below B w w' :=
  have g := h.of
  ⟨g.os, g.tape, g.output, g.size, fun k hk => g.block k (by omega) (fun e => by cases e; omega)⟩
theorem Reach.keep {b : Nat} {w w' : World} {J : List (Tk.T × Int) → World → Prop} {pre : List (Tk.T × Int)} (h : Reach b w w') (hJ : AbidesO b b 1 J) (hp : J pre w) : J pre w' :=
  h (fun X => J pre X) (fun A B hA hg => hJ.turn pre A B (some b) hA hg (fun r e => by cases e; exact ⟨Nat.le_refl _, .inl ⟨Nat.le_refl _, by omega⟩⟩)) (fun A hA => hJ.drew pre A hA) hp
def evAt (l : List (Int × ByteArray)) (b : Nat) (w : World) : List (Tk.T × Int) := match w.heap[b]? with
  | some (.cells #[_, .int _ r, .int _ a, .bool sp, .bool fi] _ _) => Tk.ev (st l r.toNat a.toNat) sp fi
  | _ => []
theorem evAt_rd {l : List (Int × ByteArray)} {b : Nat} {w : World} {v : Value} {row at_ : Nat} {sp fi : Bool} (h : Rd w b v row at_ sp fi) : evAt l b w = Tk.ev (st l row at_) sp fi := by
  unfold evAt; rw [show w.heap[b]? = _ from h]; rfl
theorem noRow_one {W : World} {b : Nat} {v : Value} {row at_ : Nat} {sp fi : Bool} (h : Rd W b v row at_ sp fi) : noRow 5 b 1 W := by
  intro j c fz h1 h2 h3
  obtain rfl : j = b := by omega
  rw [show W.heap[j]? = _ from h] at h3
  cases h3

set_option maxHeartbeats 400000 in
theorem tokens_any (p : Option Addr) (len cap : Nat) (w : World) :
    Calls Tryz.prog 71 #[.slice p len cap] w fun e w' => e = .returned (.func (.func 103) #[] #[.pointer (some ⟨w.heap.size, 0, none⟩)]) ∧ w' = w.alloc (.cells #[.slice p len cap] 79) := by
  go_enter Tryz.func71, Tryz.ntmps71
  go_wp2
  go_ret
  exact ⟨rfl, rfl⟩

set_option maxRecDepth 100000 in
set_option maxHeartbeats 4000000 in
theorem tokens1_in (n : Nat) (h1 : 1 ≤ n) (lp Bd B0 : Nat) (v : Value) (l : List (Int × ByteArray)) (hf : Fits l) (J Jx : List (Tk.T × Int) → World → Prop) (W : World)
    (hJ : AbidesO W.heap.size W.heap.size 1 J) (hJx : AbidesO W.heap.size W.heap.size 1 Jx)
    (hY : ∀ pre x W1, J pre W1 → W.heap.size + 1 ≤ W1.heap.size → noRow 5 W.heap.size 1 W1 → pre ++ [x] <+: Tk.ev (asL l) false true → YieldAt Fence.wide (n - 1) Tryz.prog lp (encT x) W1 fun e W' =>
      (e = .returned (.bool true) ∧ J (pre ++ [x]) W' ∧ KeepsO W.heap.size 1 W1 W' ∧ Below B0 W1 W') ∨ (e = .returned (.bool false) ∧ Jx (pre ++ [x]) W' ∧ KeepsO W.heap.size 1 W1 W'))
    (hB0 : 10 < B0) (hBW : B0 ≤ W.heap.size) (hBd : Boxed W Bd 79 v) (hl : LnB B0 W v l) (hsg : Sg W) (h0 : J [] W) :
    CallsIn Fence.wide n Tryz.prog 103 #[.func (.yield lp) #[] #[], .pointer (some ⟨Bd, 0, none⟩)] W fun e W' => (∃ v, e = .returned v) ∧
      (J (Tk.ev (asL l) false true) W' ∨ (∃ pre, pre <+: Tk.ev (asL l) false true ∧ Jx pre W')) := by
  have hc := hBd.cell
  have HL := hide hl
  have HS := hide hsg
  have HF := hide hf
  obtain ⟨p, cap, rfl, _⟩ := hl
  clear hsg hf
  generalize hfull : Tk.ev (asL l) false true = full at *
  have HFU := hide hfull
  clear hfull
  refine callsIn_of_wp Tryz.func103 rfl trivial ?_ rfl
  simp only [Tryz.ntmps103, List.size_toArray, List.length_cons, List.length_nil, Nat.reduceAdd, Nat.reduceSub, Array.replicate_succ, Array.replicate_zero, List.push_toArray, List.append_toArray, List.nil_append, List.cons_append]
  gi_wp2
  have hrd0 : Rd (W.alloc (.cells #[.slice p l.length cap, .int .i64 0, .int .i64 0, .bool false, .bool true] 137)) W.heap.size (.slice p l.length cap) 0 0 false true := World.alloc_heap_new W _
  have hre0 : Reach W.heap.size W (W.alloc (.cells #[.slice p l.length cap, .int .i64 0, .int .i64 0, .bool false, .bool true] 137)) := Reach.alloc _ _
  have hz0 : (W.alloc (.cells #[.slice p l.length cap, .int .i64 0, .int .i64 0, .bool false, .bool true] 137)).heap.size = W.heap.size + 1 := by simp
  have hj0 := hre0.keep hJ h0
  generalize (W.alloc (.cells #[.slice p l.length cap, .int .i64 0, .int .i64 0, .bool false, .bool true] 137)) = W0 at *
  clear hc
  gi_loopw [] (fun wr => ∃ (pre : List (Tk.T × Int)) (row at_ : Nat) (sp fi : Bool), Rd wr W.heap.size (.slice p l.length cap) row at_ sp fi ∧ Ok l row at_ ∧ Hid (pre ++ Tk.ev (st l row at_) sp fi = full) ∧ J pre wr ∧ W.heap.size + 1 ≤ wr.heap.size ∧ Below B0 W wr)
    (fun wr => (evAt l W.heap.size wr).length)
  case atStart =>
    refine ⟨[], 0, 0, false, true, hrd0, ⟨Nat.zero_le _, fun _ => Nat.zero_le _⟩, ?_, hj0, by omega, hre0.below hBW hBW⟩
    rw [Hid, List.nil_append, st_zero, List.drop_zero]; exact unhide HFU
  case round =>
    obtain ⟨pre, row, at_, sp, fi, hrd, hok, hpre, hJp, hsz, hbe⟩ := hrel
    clear hrd0 hre0 hz0 hj0
    have hsk := hide (skipBlanks_any W.heap.size (.slice p l.length cap) l row at_ sp fi wr (unhide HF) (LnB.toA ((unhide HL).below hbe) hBW (by omega)) hrd hok)
    have hevm := hide (evAt_rd (l := l) hrd)
    gi_wp2_with fail
    refine ⟨trivial, ?_⟩
    refine (callsIn_wide.2 (unhide hsk)).mono ?_
    rintro e W2 ⟨hre, row', at', sp', fi', hrd2, (⟨rfl, hok2, hev2, hT⟩ | ⟨en, rfl, hev2⟩)⟩
    · have hz2 := hre.size
      have hJ2 := hre.keep hJ hJp
      have hbe2 : Below B0 W W2 := hbe.trans (hre.below hBW (by omega))
      have HE2 := hide hev2
      have HT := hide hT
      clear hev2 hT hsk
      obtain ⟨c0, c1, c2, c3, c4⟩ := hrd2.cells
      by_cases hlt : row' < l.length
      · have i1 : (((row' : Nat) : Int) == ((l.length : Nat) : Int)) = false := by rw [beq_eq_false_iff_ne]; omega
        have htk := hide (take_any W.heap.size (.slice p l.length cap) l row' at' sp' fi' W2 (by omega) (Sg.below (unhide HS) hbe2 hB0) (unhide HF) (LnB.toA ((unhide HL).below hbe2) hBW (by omega)) hrd2 hok2 hlt (unhide HT hlt))
        have hst := st_at hlt at'
        have hTT := unhide HT hlt
        have hpre2 := unhide hpre
        rw [unhide HE2] at hpre2
        rw [hst] at hpre2
        have hle := Tk.ms_le (Tk.isT_ne hTT)
        gi_wp2_with fail
        refine ⟨trivial, ?_⟩
        refine (callsIn_wide.2 (unhide htk)).mono ?_
        rintro e W3 ⟨hre3, (⟨hm0, rfl, hrd3⟩ | ⟨hm0, rfl, hrd3⟩)⟩
        · rw [Tk.ev_quote _ _ _ hTT hm0] at hpre2
          have hfin := hide hpre2
          generalize l[row'].1 = N at *
          have hz3 := hre3.size
          have hre4 : ∀ o, Reach W.heap.size W2 (W3.alloc o) := fun o => hre3.trans (Reach.alloc _ _)
          have hJ4 := fun o => (hre4 o).keep hJ hJ2
          obtain ⟨fn, tmps, assign, body, hy, hR⟩ := hY pre (Tk.er 21 N) (W3.alloc (.cells #[.int .i64 0, .string ⟨#[]⟩, .string ⟨#[]⟩, .int .i64 N, .bool false, .bool false] 115)) (hJ4 _) (by simp; omega) (noRow_one (hrd3.alloc _)) ⟨[], by rw [List.append_nil]; exact unhide hfin⟩
          simp only [encT, Tk.er, tokV, tokC, Int.cast_ofNat_Int] at hy
          have HR := hide hR
          clear hR hY hpre2 hst hTT hle c0 c1 c2 c3 c4 hm0
          simp only [Tk.er, tokV, tokC, Int.cast_ofNat_Int]
          gi_wp2_with fail
          refine (unhide HR).mono ?_
          rintro e W5 (⟨rfl, hJ5, hk5, hb5⟩ | ⟨rfl, hJx5, hk5⟩)
          · gi_wp2
            refine bodyPost_ret (results_none rfl _ _ _) rfl ?_
            exact ⟨⟨_, rfl⟩, .inl (by rw [← unhide hfin]; exact hJ5)⟩
          · gi_wp2
            refine bodyPost_ret (results_none rfl _ _ _) rfl ?_
            exact ⟨⟨_, rfl⟩, .inr ⟨_, ⟨[], by rw [List.append_nil]; exact unhide hfin⟩, hJx5⟩⟩
        · rw [Tk.ev_tok _ _ _ hTT hm0, List.drop_drop] at hpre2
          have hst2 := st_at hlt (at' + (Tk.ms (l[row'].2.data.toList.drop at')).2)
          rw [← hst2] at hpre2
          have hok3 : Ok l row' (at' + (Tk.ms (l[row'].2.data.toList.drop at')).2) := ⟨by omega, fun _ => by
            have h1 := hok2.2 hlt
            simp at hle
            have e : (l[row'].2).data.size = (l[row'].2).size := rfl
            omega⟩
          have hmeas : Hid ((Tk.ev (st l row' (at' + (Tk.ms (l[row'].2.data.toList.drop at')).2)) false false).length < (Tk.ev (st l row at_) sp fi).length) := by
            rw [Hid, unhide HE2, hst, Tk.ev_tok _ _ _ hTT hm0, List.drop_drop, ← hst2]; simp
          generalize at' + (Tk.ms (l[row'].2.data.toList.drop at')).2 = at3 at *
          generalize (Tk.T.mk (Tk.ms (l[row'].2.data.toList.drop at')).1 ((l[row'].2.data.toList.drop at').take (Tk.ms (l[row'].2.data.toList.drop at')).2) l[row'].1 sp' fi') = tk at *
          have hfin : Hid (pre ++ [(tk, 0)] ++ Tk.ev (st l row' at3) false false = full) := by rw [Hid, ← hpre2]; simp
          have hz3 := hre3.size
          obtain ⟨fn, tmps, assign, body, hy, hR⟩ := hY pre (tk, 0) (W3.alloc (.cells (tokC tk).toArray 115)) ((hre3.trans (Reach.alloc _ _)).keep hJ hJ2) (by simp; omega) (noRow_one (hrd3.alloc _)) ⟨_, unhide hfin⟩
          simp only [encT, tokV, tokC] at hy
          have HR := hide hR
          have hrd4 := hrd3.alloc (.cells (tokC tk).toArray 115)
          have hbe4 : Below B0 W (W3.alloc (.cells (tokC tk).toArray 115)) := hbe2.trans ((hre3.trans (Reach.alloc _ _)).below hBW (by omega))
          have hz4 : (W3.alloc (.cells (tokC tk).toArray 115)).heap.size = W3.heap.size + 1 := by simp
          clear hR hY hpre2 hst hst2 hTT hle c0 c1 c2 c3 c4 hm0
          simp only [tokV, tokC]
          simp only [tokC] at HR hrd4 hbe4 hz4
          gi_wp2_with fail
          refine (unhide HR).mono ?_
          rintro e W5 (⟨rfl, hJ5, hk5, hb5⟩ | ⟨rfl, hJx5, hk5⟩)
          · have hrd5 : Rd W5 W.heap.size (.slice p l.length cap) row' at3 false false := hk5.same _ _ (Nat.le_refl _) hrd4 (.inr (by omega))
            have hevm5 := hide (evAt_rd (l := l) hrd5)
            gi_wp2
            go_roundw
            case rel => exact ⟨pre ++ [(tk, 0)], row', at3, false, false, hrd5, hok3, hfin, hJ5, by have := hk5.size; omega, hbe4.trans hb5⟩
            case measure => rw [unhide hevm5, unhide hevm]; exact unhide hmeas
          · gi_wp2
            refine bodyPost_ret (results_none rfl _ _ _) rfl ?_
            exact ⟨⟨_, rfl⟩, .inr ⟨_, ⟨_, unhide hfin⟩, hJx5⟩⟩
      · have hrl : row' = l.length := by have := hok2.1; omega
        have i1 : (((row' : Nat) : Int) == ((l.length : Nat) : Int)) = true := by rw [beq_iff_eq]; omega
        have hfin : Hid (pre = full) := by
          have := unhide hpre
          rw [unhide HE2, st_end (by omega), Tk.ev_nil, List.append_nil] at this
          exact this
        gi_wp2
        refine bodyPost_ret (results_none rfl _ _ _) rfl ?_
        exact ⟨⟨_, rfl⟩, .inl (unhide hfin ▸ hJ2)⟩
    · have hz2 := hre.size
      have hJ2 := hre.keep hJ hJp
      have hfin : Hid (pre ++ [Tk.er 20 en] = full) := by
        have := unhide hpre
        rw [hev2] at this
        exact this
      clear hev2 hsk
      obtain ⟨fn, tmps, assign, body, hy, hR⟩ := hY pre (Tk.er 20 en) W2 hJ2 (by omega) (noRow_one hrd2) ⟨[], by rw [List.append_nil]; exact unhide hfin⟩
      simp only [encT, Tk.er, tokV, tokC, Int.cast_ofNat_Int] at hy
      have HR := hide hR
      clear hR hY
      gi_wp2_with fail
      refine (unhide HR).mono ?_
      rintro e W3 (⟨rfl, hJ3, hk3, hb3⟩ | ⟨rfl, hJx3, hk3⟩)
      · gi_wp2
        refine bodyPost_ret (results_none rfl _ _ _) rfl ?_
        exact ⟨⟨_, rfl⟩, .inl (by rw [← unhide hfin]; exact hJ3)⟩
      · gi_wp2
        refine bodyPost_ret (results_none rfl _ _ _) rfl ?_
        exact ⟨⟨_, rfl⟩, .inr ⟨_, ⟨[], by rw [List.append_nil]; exact unhide hfin⟩, hJx3⟩⟩
end Go.Proofs.YtmpkgjonbjpohaaGreatDoor
