/-
  The reference's params.
-/
import Derived.Test.YticiddcgafhkhaaDoorV5
import Derived.Test.YticiddcgafhkhaaDoorX2
import Derived.Deep.RegionHeld3
import Derived.Deep.AppendLies
import Derived.Deep.DrawnRows
namespace Go.Proofs.YticiddcgafhkhaaDoor
open Go Go.RowKit
set_option linter.unusedVariables false
set_option linter.unusedSimpArgs false

def rgoP (acc : List (List UInt8)) (k : Nat) : List (Gt × Gt) → Option (List (List UInt8) × Bool × Nat)
  | [] => none
  | (a, b) :: r => if a.s = [46, 46, 46] ∧ b.s = [41] then some (acc, true, k + 2) else if a.kind = 1 then (if b.s = [41] then some (acc ++ [a.s], false, k + 2) else if b.s = [44] then rgoP (acc ++ [a.s]) (k + 2) r else none) else none
def rparP (l : List Gt) : Option (List (List UInt8) × Bool × Nat) :=
  match l with
  | [] => none
  | t :: r => if t.s = [41] then some ([], false, 1) else rgoP [] 0 (prs (t :: r))
theorem rparP_pos (l : List Gt) (h : 0 < l.length) : rparP l = if l[0].s = [41] then some ([], false, 1) else rgoP [] 0 (prs l) := by
  match l, h with
  | t :: r, _ => rfl
def RParP (w : World) (M : Nat) (nm : Value) (fn : Bool) (bv : Value) (R : Option (List (List UInt8) × Bool × Nat)) (e : Ending) (w' : World) : Prop :=
  Below M w w' ∧ ((R = none ∧ e = .returned (.int .i64 (-1)) ∧ ∃ q n c more, MBox w' M nm fn (.slice q n c) more bv) ∨
    (∃ ps more k pv, R = some (ps, more, k) ∧ e = .returned (.int .i64 (k : Nat)) ∧ MBox w' M nm fn pv more bv ∧ w'.ownsRow w.heap.size 9 1 pv ps.length (sCells ps)))

set_option maxRecDepth 100000 in
set_option maxHeartbeats 8000000 in
theorem rparams_any (p : Option Addr) (cap M : Nat) (l : List Gt) (nm bv : Value) (fn : Bool) (w : World) (hsz : l.length * 56 ≤ 140737488355328) (hM : M < w.heap.size) (hl : TkG M w (.slice p l.length cap) l)
    (hm : MBox w M nm fn (.slice none 0 0) false bv) :
    Calls Tryd.prog 40 #[.pointer (some ⟨M, 0, none⟩), .slice p l.length cap] w fun e w' => RParP w M nm fn bv (rparP l) e w' := by
  have hmix : Tryd.prog.follows .mixedOrders = true := by kernel_rfl
  have HL := hide hl
  clear hl
  have HM := hide hm
  clear hm
  by_cases hl0 : l.length = 0
  · obtain rfl : l = [] := List.eq_nil_of_length_eq_zero hl0
    simp only [List.length_nil] at *
    go_enter Tryd.func40, Tryd.ntmps40
    go_wp2
    go_loopg [5] 0 (fun gk i wr => i = .int .i64 0 ∧ wr = w)
    case atStart => exact ⟨rfl, rfl⟩
    case round =>
      obtain ⟨rfl, hww⟩ := hrel
      obtain rfl := hww.symm
      go_wp2
      go_ret
      exact ⟨Below.refl _ _, .inl ⟨rfl, rfl, _, _, _, _, unhide HM⟩⟩
  · have hpos : 0 < l.length := by omega
    have hR := rparP_pos l hpos
    generalize rparP l = R at *
    have HR := hide hR
    clear hR
    obtain ⟨g, o, rfl, hgM, a0⟩ := (unhide HL).at 0 hpos
    have a1 := a0.2.1
    simp only [Nat.zero_mul, Nat.add_zero] at a1
    have e0 := beq_list l[0].s [41]
    have i1 : (0 : Int) < (l.length : Int) := by omega
    have hgo0 : Hid (l[0].s ≠ [41] → rgoP [] (0 : Nat) (prs (l.drop 0)) = R) := fun h => by rw [unhide HR, if_neg h]; rfl
    have hone : Hid (l[0].s = [41] → R = some ([], false, 1)) := fun h => by rw [unhide HR, if_pos h]
    clear HR a0 hl0
    generalize l[0].s = X0 at *
    by_cases h0 : X0 = [41]
    · rw [decide_eq_true h0] at e0
      have HRR := hide (unhide hone h0)
      clear h0
      go_enter Tryd.func40, Tryd.ntmps40
      go_wp2
      go_ret
      exact ⟨Below.refl _ _, .inr ⟨[], false, 1, _, unhide HRR, rfl, unhide HM, World.ownsRow_nil _ _ _ _⟩⟩
    · rw [decide_eq_false h0] at e0
      have HG0 := hide (unhide hgo0 h0)
      clear h0 hone hgo0
      go_enter Tryd.func40, Tryd.ntmps40
      go_wp2
      clear e0 a1
      go_loopg [5] l.length (fun gk i wr => ∃ (j : Nat) (acc : List (List UInt8)) (pv : Value), gk = l.length - j ∧ i = .int .i64 j ∧ j ≤ l.length ∧ acc.length ≤ j ∧ Hid (MBox wr M nm fn pv false bv) ∧ Hid (wr.ownsRow w.heap.size 9 1 pv acc.length (sCells acc)) ∧ Hid (rgoP acc j (prs (l.drop j)) = R) ∧ Hid (Below M w wr) ∧ w.heap.size ≤ wr.heap.size)
      case atStart => exact ⟨0, [], _, rfl, rfl, by omega, by simp, HM, World.ownsRow_nil _ _ _ _, HG0, Below.refl _ _, Nat.le_refl _⟩
      case round =>
        obtain ⟨j, acc, pv, rfl, rfl, hj, hacc, hmb, hrow, hgo, hbe, hsw⟩ := hrel
        by_cases hlt : j + 1 < l.length
        · have i2 : (j : Int) + 1 < (l.length : Int) := by omega
          have i3 : (j : Int) < (l.length : Int) := by omega
          have i4 : ((j : Int) + 1).toNat = j + 1 := by omega
          have i5 : (0 : Int) ≤ (j : Int) + 1 := by omega
          have hlk := (unhide HL).below (unhide hbe)
          obtain ⟨g', o', hgo1, _, A0, A1, _⟩ := hlk.at j (by omega)
          obtain ⟨rfl, rfl⟩ : g = g' ∧ o = o' := by simpa using hgo1
          obtain ⟨g', o', hgo2, _, B0, B1, _⟩ := hlk.at (j + 1) hlt
          obtain ⟨rfl, rfl⟩ : g = g' ∧ o = o' := by simpa using hgo2
          clear hgo1 hgo2 hlk
          have hgoe := unhide hgo
          rw [prs_at l j hlt, rgoP] at hgoe
          have HGO := hide hgoe
          clear hgoe hgo
          have ea := beq_list l[j].s [46, 46, 46]
          have eb := beq_list l[j + 1].s [41]
          have ec := beq_list l[j + 1].s [44]
          have ecn : (l[j + 1].s != [44]) = !decide (l[j + 1].s = [44]) := by rw [← ec]; rfl
          have lM := (unhide hmb).lt
          obtain ⟨q, cp, rfl⟩ := ownsRow_slice (unhide hrow)
          generalize l[j] = a at *
          generalize l[j + 1] = b at *
          by_cases hdots : a.s = [46, 46, 46] ∧ b.s = [41]
          · have HRR : Hid (R = some (acc, true, j + 2)) := by
              have := unhide HGO
              rw [if_pos hdots] at this
              exact this.symm
            rw [decide_eq_true hdots.1] at ea
            rw [decide_eq_true hdots.2] at eb
            clear hdots ec ecn HGO
            obtain ⟨m0, m1, m2, m3, m4⟩ := (unhide hmb).five
            have f3 := (unhide hmb).frozen 3
            have hb2 : Hid (Below M w (wr.setCell ⟨M, 3, none⟩ (.bool true))) := (unhide hbe).setCell (p := ⟨M, 3, none⟩) (Nat.le_refl _) _
            go_wp2
            go_ret
            refine ⟨unhide hb2, .inr ⟨acc, true, j + 2, _, unhide HRR, by go_num, (unhide hmb).set3 true, ownsRow_setCell (unhide hrow) hM _⟩⟩
          · have HGO2 : Hid ((if a.kind = 1 then (if b.s = [41] then some (acc ++ [a.s], false, j + 2) else if b.s = [44] then rgoP (acc ++ [a.s]) (j + 2) (prs (l.drop (j + 2))) else none) else none) = R) := by
              have := unhide HGO
              rw [if_neg hdots] at this
              exact this
            clear HGO
            go_upto_region 6 with fail
            go_cut [37] from 23 to 37 (fun c wx => c = .bool false ∧ wx = wr)
            case first =>
              clear HGO2 hmb hrow hbe HL HM HG0
              by_cases hd1 : a.s = [46, 46, 46]
              · have hd2 : ¬ b.s = [41] := fun h => hdots ⟨hd1, h⟩
                rw [decide_eq_true hd1] at ea
                rw [decide_eq_false hd2] at eb
                clear hd1 hd2 hdots ec ecn
                go_wp2_with fail
                go_meet
                case rel => exact ⟨rfl, rfl⟩
              · rw [decide_eq_false hd1] at ea
                clear hd1 hdots ec ecn eb
                go_wp2_with fail
                go_meet
                case rel => exact ⟨rfl, rfl⟩
            case rest =>
              obtain ⟨rfl, hww⟩ := hcut
              obtain rfl := hww.symm
              clear hdots ea
              by_cases hk : a.kind = 1
              · have i6 : (a.kind != 1) = false := by rw [hk]; rfl
                have HGO3 : Hid ((if b.s = [41] then some (acc ++ [a.s], false, j + 2) else if b.s = [44] then rgoP (acc ++ [a.s]) (j + 2) (prs (l.drop (j + 2))) else none) = R) := by
                  have := unhide HGO2
                  rw [if_pos hk] at this
                  exact this
                clear HGO2 hk
                have y0 := (unhide hmb).five.2.2.1
                obtain ⟨i0, hi0, hz0, hzz1, hzz2⟩ := info_parts Tryd.info9
                have hro := unhide hrow
                go_upto_region 11 with fail
                refine wp_region_noPanic (wpIn_wide.1 (wpIn_region_held (ro := none) (n := 0) (fun w' => w'.cell? ⟨M, 2, none⟩ = some (.slice q acc.length cp) ∧ w'.cell? ⟨g, o + j * 6 + 1, none⟩ = some (.string ⟨a.s.toArray⟩))
                  10 14 hmix (by kernel_rfl) (by kernel_rfl) (by kernel_rfl) (by kernel_rfl) (by kernel_rfl) (by kernel_rfl) (fun _ _ _ _ h => h) ⟨y0, A1⟩ ?_))
                simp only [List.take_succ_cons, List.take_zero, List.drop_succ_cons, List.drop_zero]
                iterate 10 (refine yields_cons _ (.inl ⟨rfl, fun W hS => (by obtain ⟨hs1, hs2⟩ := hS; go_simp; rfl)⟩) (fun B hB => ?_); simp only [Act.put, List.setIfInBounds_toArray, List.set_cons_zero, List.set_cons_succ] at hB; subst hB)
                refine yields_nil ?_
                refine wpListS_wide (fun K hK => ?_)
                go_simp
                have lg : g < wr.heap.size := by omega
                refine hK _ _ ⟨(World.cell?_of_block (Below.heap_alloc wr _ M lM)).trans y0, (World.cell?_of_block (Below.heap_alloc wr _ g lg)).trans A1⟩ ?_
                clear hK K
                refine wpListS_wide (fun K hK => ?_)
                refine stepIn_append (by rfl) _ _ 22 (by rfl) w.heap.size 9 i0 _ 1 16 Tryd.underlying22 hi0 hz0 hzz1 hzz2 rfl (by decide) (.slice q acc.length cp) acc.length (sCells acc) (by rfl) ((hro.alloc _).drew)
                  ⟨wr.heap.size, 0, none⟩ 1 1 [.string ⟨a.s.toArray⟩] (by rfl) (by rfl)
                  (World.news_of_block (cs := #[.string ⟨a.s.toArray⟩]) (t := 9) (fr := (0, 0)) (heap_alloc_new wr _)) (by simp [Value.oneCell'])
                  (by unfold maxLen; omega) (by omega) (by simp; omega) ?_
                intro v5 W5 hown5 hgrow
                obtain ⟨gg, cap5, rfl⟩ := ownsRow_succ hown5
                have hrd := ((hro.alloc (.cells #[.string ⟨a.s.toArray⟩] 9)).drew)
                have hrt : ∀ r, (Value.slice q acc.length cp).ownBlock = some r → w.heap.size ≤ r := fun r e => (row_turn hrd r e).1
                have hbd : Below M wr (wr.alloc (.cells #[.string ⟨a.s.toArray⟩] 9)).drew := ((Below.refl _ wr).alloc (by omega) _).drew
                have hzd : (wr.alloc (.cells #[.string ⟨a.s.toArray⟩] 9)).drew.heap.size = wr.heap.size + 1 := by simp
                have hbe5 : Below M w W5 := ((unhide hbe).trans hbd).grown hgrow (by rw [hzd]; omega) (fun r e => by have := hrt r e; omega)
                have hm5 : MBox W5 M nm fn (.slice q acc.length cp) false bv := ((unhide hmb).below ((Below.refl _ wr).alloc (Nat.le_refl _) (.cells #[.string ⟨a.s.toArray⟩] 9)).drew lM).turn hgrow (fun r e => by have := hrt r e; omega)
                have u0 := hm5.five.2.2.1
                have u1 : W5.cell? ⟨g, o + j * 6 + 1, none⟩ = some (.string ⟨a.s.toArray⟩) := ((hbe5.cell (p := ⟨g, o + j * 6 + 1, none⟩) hgM)).trans (((unhide hbe).cell (p := ⟨g, o + j * 6 + 1, none⟩) hgM).symm.trans A1)
                have u2 : W5.cell? ⟨g, o + (j + 1) * 6 + 1, none⟩ = some (.string ⟨b.s.toArray⟩) := ((hbe5.cell (p := ⟨g, o + (j + 1) * 6 + 1, none⟩) hgM)).trans (((unhide hbe).cell (p := ⟨g, o + (j + 1) * 6 + 1, none⟩) hgM).symm.trans B1)
                have u3 := hm5.frozen 2
                have HM5 := hide (hm5.set2 (.slice (some ⟨gg, 0, none⟩) (acc.length + 1) cap5))
                have HB5 : Hid (Below M w (W5.setCell ⟨M, 2, none⟩ (.slice (some ⟨gg, 0, none⟩) (acc.length + 1) cap5))) := hbe5.setCell (p := ⟨M, 2, none⟩) (Nat.le_refl _) _
                have HR5 : Hid ((W5.setCell ⟨M, 2, none⟩ (.slice (some ⟨gg, 0, none⟩) (acc.length + 1) cap5)).ownsRow w.heap.size 9 1 (.slice (some ⟨gg, 0, none⟩) (acc.length + 1) cap5) (acc ++ [a.s]).length (sCells (acc ++ [a.s]))) := by
                  have := ownsRow_setCell (i := 2) hown5 hM (.slice (some ⟨gg, 0, none⟩) (acc.length + 1) cap5)
                  simpa [Hid, sCells] using this
                have hgM2 : g ≠ M := by omega
                have hs5 : w.heap.size ≤ W5.heap.size := by have := hgrow.size; rw [hzd] at this; omega
                refine hK _ _ ⟨u0, u1⟩ ?_
                clear hK K hbd hzd hrt hrd hown5 hgrow hm5 hbe5
                refine wpListS_wide (fun K hK => ?_)
                go_simp
                refine hK _ _ ⟨u0, u1⟩ ?_
                clear hK K
                refine wpListS_wide (fun K hK => ?_)
                go_simp
                refine hK _ _ ⟨u0, u1⟩ ?_
                clear hK K
                refine listS_nil ?_
                refine listIn_last rfl (fun K hK => ?_)
                go_simp
                refine hK _ _ ?_
                clear hK K
                have v2 : (W5.setCell ⟨M, 2, none⟩ (.slice (some ⟨gg, 0, none⟩) (acc.length + 1) cap5)).cell? ⟨g, o + (j + 1) * 6 + 1, none⟩ = some (.string ⟨b.s.toArray⟩) := (World.cell?_of_block (Below.heap_setCell _ _ _ _ hgM2)).trans u2
                have hs6 : w.heap.size ≤ (W5.setCell ⟨M, 2, none⟩ (.slice (some ⟨gg, 0, none⟩) (acc.length + 1) cap5)).heap.size := by simpa using hs5
                clear u0 u1 u2 u3 A0 A1 B0 B1 hs5
                generalize W5.setCell ⟨M, 2, none⟩ (.slice (some ⟨gg, 0, none⟩) (acc.length + 1) cap5) = W6 at *
                by_cases hb1 : b.s = [41]
                · have HRR : Hid (R = some (acc ++ [a.s], false, j + 2)) := by
                    have := unhide HGO3
                    rw [if_pos hb1] at this
                    exact this.symm
                  rw [decide_eq_true hb1] at eb
                  clear hb1 ec ecn HGO3
                  go_wp2
                  go_ret
                  exact ⟨unhide HB5, .inr ⟨_, false, j + 2, _, unhide HRR, by go_num, unhide HM5, unhide HR5⟩⟩
                · have HGO4 : Hid ((if b.s = [44] then rgoP (acc ++ [a.s]) (j + 2) (prs (l.drop (j + 2))) else none) = R) := by
                    have := unhide HGO3
                    rw [if_neg hb1] at this
                    exact this
                  rw [decide_eq_false hb1] at eb
                  clear hb1 HGO3
                  by_cases hb2 : b.s = [44]
                  · have HGO5 : Hid (rgoP (acc ++ [a.s]) (j + 2) (prs (l.drop (j + 2))) = R) := by
                      have := unhide HGO4
                      rw [if_pos hb2] at this
                      exact this
                    rw [decide_eq_true hb2] at ec ecn
                    clear hb2 HGO4
                    go_wp2
                    go_roundg (l.length - (j + 2))
                    case measure => omega
                    case rel => exact ⟨j + 2, acc ++ [a.s], _, rfl, by go_num, by omega, by simp; omega, HM5, HR5, HGO5, HB5, hs6⟩
                  · have HRR : Hid (R = none) := by
                      have := unhide HGO4
                      rw [if_neg hb2] at this
                      exact this.symm
                    rw [decide_eq_false hb2] at ec ecn
                    clear hb2 HGO4
                    go_wp2
                    go_ret
                    exact ⟨unhide HB5, .inl ⟨unhide HRR, rfl, _, _, _, _, unhide HM5⟩⟩
              · have i6 : (a.kind != 1) = true := by rw [bne_iff_ne]; exact hk
                have HRR : Hid (R = none) := by
                  have := unhide HGO2
                  rw [if_neg hk] at this
                  exact this.symm
                clear hk HGO2
                go_wp2
                go_ret
                exact ⟨unhide hbe, .inl ⟨unhide HRR, rfl, _, _, _, _, unhide hmb⟩⟩
        · have i2 : ¬ (j : Int) + 1 < (l.length : Int) := by omega
          have HRR : Hid (R = none) := by
            have := unhide hgo
            rw [prs_end l j hlt] at this
            exact this.symm
          obtain ⟨q, cp, rfl⟩ := ownsRow_slice (unhide hrow)
          go_wp2
          go_ret
          exact ⟨unhide hbe, .inl ⟨unhide HRR, rfl, _, _, _, _, unhide hmb⟩⟩
end Go.Proofs.YticiddcgafhkhaaDoor
