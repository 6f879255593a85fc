/-
  The document's own lexer: line, a line's tokens.
-/
import Derived.Test.YticiddcgafhkhaaGreatDoorR5
import Derived.Test.YticiddcgafhkhaaGreatDoorS4
import Derived.Test.YticiddcgafhkhaaGreatDoorRa
import Derived.Test.YticiddcgafhkhaaGreatDoorRw
import Derived.Deep.RegionHeld3
import Derived.Deep.AppendLies
import Derived.Deep.DrawnRows
namespace Go.Proofs.YticiddcgafhkhaaGreatDoor
open Go Go.RowKit
attribute [local go_sem ↓] Go.wp_at_zero Go.wp_at_succ
set_option linter.unusedVariables false
set_option linter.unusedSimpArgs false

/-- What a line leaves. -/
def LineP (F : List Tk.Ln → List Tk.T × Int × Int) (w : World) (b : Nat) (N : Int) (e : Ending) (w' : World) : Prop :=
  ∃ (er : Int) (v : Value) (out : List Tk.T) (sp fi op : Bool) (fr : Int), e = .returned (.int .i64 er) ∧ Lx w' b v sp fi op fr ∧ w'.ownsRow (b + 1) 74 6 v out.length (tokCells out) ∧ out.length ≤ 20000 ∧ Below b w w' ∧
    ((er = 0 ∧ ∀ rest, F rest = Tk.col out (if op then Tk.evO fr rest fi else Tk.ev rest false true)) ∨ (er ≠ 0 ∧ ∀ rest, F rest = ([], er, N)))

set_option maxRecDepth 100000 in
set_option maxHeartbeats 16000000 in
theorem rline_any (b : Nat) (v : Value) (out : List Tk.T) (sp fi op : Bool) (fr N : Int) (S : ByteArray) (w : World) (hS : S.size ≤ 140737488355328) (hx : Lx w b v sp fi op fr)
    (hrow : w.ownsRow (b + 1) 74 6 v out.length (tokCells out)) (hfew : out.length ≤ 20000) :
    Calls Tryz.prog 98 #[.pointer (some ⟨b, 0, none⟩), .agg #[.int .i64 N, .string S]] w fun e w' =>
      LineP (fun rest => Tk.col out (stt op (if op then sp else false) (if op then fi else true) fr ((N, S.data.toList) :: rest))) w b N e w' := by
  have hF : ∀ rest, (fun rest => Tk.col out (stt op (if op then sp else false) (if op then fi else true) fr ((N, S.data.toList) :: rest))) rest = Tk.col out (stt op (if op then sp else false) (if op then fi else true) fr ((N, S.data.toList) :: rest)) := fun _ => rfl
  generalize (fun rest => Tk.col out (stt op (if op then sp else false) (if op then fi else true) fr ((N, S.data.toList) :: rest))) = F at *
  have HF := hide hF
  clear hF
  have hb0 := hx.lt
  have hI : LxI (w.alloc (.cells #[.int .i64 N, .string S] 61)) b w.heap.size N S out v sp fi op fr :=
    ⟨(Below.heap_alloc _ _ _ hb0).trans hx, hrow.alloc _, World.alloc_heap_new w _, by omega, hfew⟩
  have hbe : Below b w (w.alloc (.cells #[.int .i64 N, .string S] 61)) := (Below.refl _ w).alloc (by omega) _
  have e3 : w.cell? ⟨b, 3, none⟩ = some (.bool op) := hx.cells.2.2.2.1
  have hnb : w.heap.size ≠ b := by omega
  have hbs : (w.alloc (.cells #[.int .i64 N, .string S] 61)).cell? ⟨w.heap.size, 1, none⟩ = some (.string S) := by rw [World.cell?, hI.box]; rfl
  go_enter Tryz.func98, Tryz.ntmps98
  go_upto_region 1 with fail
  generalize (w.alloc (.cells #[.int .i64 N, .string S] 61)) = w1 at *
  generalize w.heap.size = Bl at *
  obtain ⟨c0, c1, c2, c3, c4⟩ := hI.lx.cells
  have f1 := hI.lx.frozen 1
  have f2 := hI.lx.frozen 2
  clear e3 hx hrow
  go_upto_if 15 with fail
  go_cut [] (fun wx => ∃ sp1 fi1, LxI wx b Bl N S out v sp1 fi1 op fr ∧ Below b w wx ∧ Hid (LRel F out op sp1 fi1 fr N S.data.toList))
  case first =>
    cases op
    · go_wp2
      go_meet
      case rel =>
        refine ⟨false, true, ?_, (hbe.setCell (p := ⟨b, 2, none⟩) (Nat.le_refl _) _).setCell (p := ⟨b, 1, none⟩) (Nat.le_refl _) _, fun rest => unhide HF rest⟩
        have h2 := hI.set (hI.lx.set2 true)
        exact h2.set (h2.lx.set1 false)
    · go_wp2
      go_meet
      case rel => exact ⟨sp, fi, hI, hbe, fun rest => unhide HF rest⟩
  case rest =>
    obtain ⟨sp1, fi1, hI1, hbe1, hL1⟩ := hcut
    clear hI hbe c0 c1 c2 c3 c4 f1 f2 HF hbs
    have HBE : Hid (Below b w wc) := hbe1
    clear hbe1
    go_wp2
    go_loopg [6] S.size (fun gk i wr => ∃ (k : Nat) (out : List Tk.T) (v : Value) (sp fi op : Bool) (fr : Int), gk = S.size - k ∧ i = .int .i64 k ∧ k ≤ S.size ∧ LxI wr b Bl N S out v sp fi op fr ∧ Hid (Below b w wr) ∧ Hid (LRel F out op sp fi fr N (S.data.toList.drop k)))
    case atStart => exact ⟨0, out, v, sp1, fi1, op, fr, rfl, rfl, by omega, hI1, HBE, hL1⟩
    case round =>
      clear hI1 HBE hL1 hnb hfew
      obtain ⟨k, out, v, sp, fi, op, fr, rfl, rfl, hk, hI, hbe, hL⟩ := hrel
      obtain ⟨c0, c1, c2, c3, c4⟩ := hI.lx.cells
      have f0 := hI.lx.frozen 0
      have f1 := hI.lx.frozen 1
      have f2 := hI.lx.frozen 2
      have f3 := hI.lx.frozen 3
      have f4 := hI.lx.frozen 4
      have d0 := hI.box0
      have hne := hI.ne
      by_cases hlt : k < S.size
      · have i1 : (k : Int) < (S.size : Int) := by omega
        cases op
        · -- no comment is open
          have HB := fun W => blank_any S[k] W
          cases hbl : Tk.bl S[k]
          · simp only [hbl] at HB
            have HB' := hide HB
            clear HB
            have hp1 := pre_cases S k 47 47 47 47 rfl rfl hlt
            have hp2 := pre_cases S k 47 42 47 42 rfl rfl hlt
            have hT : Hid (Tk.pre [47, 47] (S.data.toList.drop k) = false → Tk.pre [47, 42] (S.data.toList.drop k) = false → Tk.isT (S.data.toList.drop k) = true) := by
              intro h1 h2
              rw [drop_at S k hlt] at h1 h2 ⊢
              rw [Tk.isT_iff, h1, h2, hbl]; rfl
            clear hbl
            generalize hP1 : Tk.pre [47, 47] (S.data.toList.drop k) = P1 at *
            generalize hP2 : Tk.pre [47, 42] (S.data.toList.drop k) = P2 at *
            have HP1 := hide hP1
            have HP2 := hide hP2
            clear hP1 hP2
            go_upto_region 16 with (go_at_call 107; refine (unhide HB' _).mono ?_; rintro e w' ⟨rfl, hw'⟩; obtain rfl := hw'.symm)
            go_cut [84] from 22 to 163 (fun c wx => c = .bool P1 ∧ wx = wr)
            case first =>
              rcases hp1 with ⟨rfl, e1⟩ | ⟨rfl, e1, e2⟩ | ⟨rfl, e1, e2, e3, e4⟩ | ⟨rfl, e1, e2, e3, e4⟩
              all_goals
                go_wp2_with fail
                go_meet
                case rel => exact ⟨rfl, rfl⟩
            case rest =>
              obtain ⟨rfl, hwc⟩ := hcut
              obtain rfl := hwc.symm
              clear hp1
              cases P1
              · go_upto_region 18 with fail
                go_cut [102] from 22 to 163 (fun c wx => c = .bool P2 ∧ wx = wr)
                case first =>
                  rcases hp2 with ⟨rfl, e1⟩ | ⟨rfl, e1, e2⟩ | ⟨rfl, e1, e2, e3, e4⟩ | ⟨rfl, e1, e2, e3, e4⟩
                  all_goals
                    go_wp2_with fail
                    go_meet
                    case rel => exact ⟨rfl, rfl⟩
                case rest =>
                  obtain ⟨rfl, hwc⟩ := hcut
                  obtain rfl := hwc.symm
                  cases P2
                  · -- a token
                    clear hp2
                    have hTk := unhide hT rfl rfl
                    have hSS := hS
                    have hTd := drop_data S k
                    have hTs : (S.extract k S.size).size = S.size - k := by simp
                    have hme := fun W => rfirst_any (S.extract k S.size) W (by omega) (by omega)
                    rw [hTd] at hme
                    have hml := Tk.ms_le (Tk.isT_ne hTk)
                    have hml2 : (Tk.ms (S.data.toList.drop k)).2 + k ≤ S.size := by
                      simp at hml
                      have e : S.data.size = S.size := rfl
                      omega
                    have hLt := unhide hL
                    generalize hke : Tk.ms (S.data.toList.drop k) = km at *
                    obtain ⟨kd, m⟩ := km
                    have HKE := hide hke
                    have HTK := hide hTk
                    have HME := hide hme
                    have HLT := hide hLt
                    clear hke hTk hme hTd hTs hml hLt hT HP1 HP2 HB'
                    simp only at hml2
                    unfold pairV at HME
                    go_upto_region 23 with (go_at_call 108; refine (unhide HME _).mono ?_; rintro e w' ⟨rfl, mm, rfl⟩)
                    have hI2 := hI.drewN mm
                    have hbe2 : Hid (Below b w (wr.drewN mm)) := (unhide hbe).trans (below_drewN0 _ _ _)
                    clear c0 c1 c2 c3 c4 f0 f1 f2 f3 f4 d0 hI hbe HME
                    generalize wr.drewN mm = w2 at *
                    obtain ⟨c0, c1, c2, c3, c4⟩ := hI2.lx.cells
                    have d0 := hI2.box0
                    have f0 := hI2.lx.frozen 0
                    have f1 := hI2.lx.frozen 1
                    have f2 := hI2.lx.frozen 2
                    have hvl : ∃ q cp, v = .slice q out.length cp := by
                      rcases hI2.row.2 with ⟨rfl, h0⟩ | ⟨g, cp, cur, rfl, _⟩
                      · exact ⟨none, 0, by rw [h0]⟩
                      · exact ⟨_, _, rfl⟩
                    by_cases hm0 : m = 0
                    · subst hm0
                      go_wp2
                      go_ret
                      refine ⟨21, v, out, sp, fi, false, fr, rfl, hI2.lx, hI2.row, hI2.few, unhide hbe2, .inr ⟨by decide, fun rest => ?_⟩⟩
                      rw [unhide HLT rest, stt_quote sp fi fr rest (unhide HTK) (by rw [unhide HKE])]
                      rfl
                    · have n1 : ((m : Int) == 0) = false := by rw [beq_eq_false_iff_ne]; omega
                      obtain ⟨q, cp, rfl⟩ := hvl
                      have hfw := hI2.few
                      have HLC : Hid (∀ rest, F rest = Tk.col out ((⟨kd, (S.data.toList.drop k).take m, N, sp, fi⟩, 0) :: stt false false false fr ((N, S.data.toList.drop (k + m)) :: rest))) := by
                        intro rest
                        rw [unhide HLT rest, stt_tok sp fi fr rest (unhide HTK) (by rw [unhide HKE]; exact hm0), unhide HKE, List.drop_drop]
                      clear HLT HTK HKE
                      by_cases hfull : out.length = 20000
                      · have j1 : (20000 : Int) ≤ ((out.length : Nat) : Int) := by omega
                        go_wp2
                        go_ret
                        refine ⟨22, _, out, sp, fi, false, fr, rfl, hI2.lx, hI2.row, hI2.few, unhide hbe2, .inr ⟨by decide, fun rest => ?_⟩⟩
                        rw [unhide HLC rest, Tk.col, if_pos rfl, if_neg (by omega)]
                      · have j1 : ¬ (20000 : Int) ≤ ((out.length : Nat) : Int) := by omega
                        have j2 : (k : Int) + (m : Int) ≤ (S.size : Int) := by omega
                        have j3 : (0 : Int) ≤ (k : Int) + (m : Int) := by omega
                        have j4 : (k : Int) ≤ (k : Int) + (m : Int) := by omega
                        have j5 : (0 : Int) ≤ (k : Int) := by omega
                        have j6 : IntKind.i64.wrap ((k : Int) + (m : Int)) = (k : Int) + (m : Int) := by rw [IntKind.wrap_i64]; omega
                        have lb := hI2.lx.lt
                        have lbl : Bl < w2.heap.size := (Array.getElem?_eq_some_iff.1 hI2.box).1
                        have hro := hI2.row
                        obtain ⟨o1, o2⟩ := hI2.own
                        obtain ⟨i0, hi0, hz0, hz1, hz2⟩ := info_parts Tryz.info74
                        have hbase : b + 1 ≤ w2.heap.size := by omega
                        have HI2 := hide hI2
                        clear hI2
                        go_upto_region 27 with fail
                        have hmix : Tryz.prog.follows .mixedOrders = true := by kernel_rfl
                        refine wp_region_noPanic (wpIn_wide.1 (wpIn_region_held (ro := none) (n := 0) (fun w' => w'.cell? ⟨b, 0, none⟩ = some (.slice q out.length cp) ∧ w'.cell? ⟨b, 1, none⟩ = some (.bool sp) ∧ w'.cell? ⟨b, 2, none⟩ = some (.bool fi) ∧ w'.cell? ⟨Bl, 0, none⟩ = some (.int .i64 N))
                          23 27 hmix (by kernel_rfl) (by kernel_rfl) (by kernel_rfl) (by kernel_rfl) (by kernel_rfl) (by kernel_rfl) (fun _ _ _ _ h => h) ⟨c0, c1, c2, d0⟩ ?_))
                        simp only [List.take_succ_cons, List.take_zero, List.drop_succ_cons, List.drop_zero]
                        iterate 23 (refine yields_cons _ (.inl ⟨rfl, fun W hS => (by obtain ⟨hs1, hs2, hs3, hs4⟩ := hS; go_simp; rfl)⟩) (fun B hB => ?_); simp only [Act.put, List.setIfInBounds_toArray, List.set_cons_zero, List.set_cons_succ] at hB; subst hB)
                        refine yields_nil ?_
                        refine wpListS_wide (fun K hK => ?_)
                        go_simp
                        have j7 : ((k : Int) + (m : Int)).toNat = k + m := by omega
                        rw [j7]
                        refine hK _ _ ⟨(World.cell?_of_block (Below.heap_alloc w2 _ b lb)).trans c0, (World.cell?_of_block (Below.heap_alloc w2 _ b lb)).trans c1, (World.cell?_of_block (Below.heap_alloc w2 _ b lb)).trans c2, (World.cell?_of_block (Below.heap_alloc w2 _ Bl lbl)).trans d0⟩ ?_
                        clear hK K
                        refine wpListS_wide (fun K hK => ?_)
                        refine stepIn_append (by rfl) _ _ 31 (by rfl) (b + 1) 74 i0 _ 6 56 Tryz.underlying31 hi0 hz0 hz1 hz2 rfl (by decide) (.slice q out.length cp) out.length (tokCells out) (by rfl) ((hro.alloc _).drew)
                          ⟨w2.heap.size, 0, none⟩ 1 1 [.int .i64 (kd : Nat), .string (S.extract k (k + m)), .string ⟨#[]⟩, .int .i64 N, .bool sp, .bool fi] (by rfl) (by rfl)
                          (World.news_of_block (cs := #[.int .i64 (kd : Nat), .string (S.extract k (k + m)), .string ⟨#[]⟩, .int .i64 N, .bool sp, .bool fi]) (t := 74) (fr := (0, 0)) (heap_alloc_new w2 _)) (by simp [Value.oneCell'])
                          (by unfold maxLen; omega) (by omega) (by simp; omega) ?_
                        intro v3 w3 hown3 hgrow
                        obtain ⟨gg, cap, rfl⟩ := ownsRow_succ hown3
                        have hb3 : Below b w2 w3 := (((Below.refl b w2).alloc (by omega) _).drew).grown hgrow (by simp; omega) (fun r e => by have := (row_turn hro r e).1; omega)
                        have hP3 := hide ((unhide HI2).push (w1 := ((w2.alloc (.cells #[.int .i64 (kd : Nat), .string (S.extract k (k + m)), .string ⟨#[]⟩, .int .i64 N, .bool sp, .bool fi] 74)).drew)) (.cells #[.int .i64 (kd : Nat), .string (S.extract k (k + m)), .string ⟨#[]⟩, .int .i64 N, .bool sp, .bool fi] 74) rfl ⟨kd, (S.data.toList.drop k).take m, N, sp, fi⟩ hgrow (by
                          have e : (⟨((S.data.toList.drop k).take m).toArray⟩ : ByteArray) = S.extract k (k + m) := by
                            apply WideShapes.bytes_inj
                            rw [ext_data, show k + m - k = m by omega]
                          simp only [tokC, e]
                          exact hown3) (by omega))
                        have fz : w3.frozen? ⟨b, 0, none⟩ = false := (hgrow.frozen_far ⟨b, 0, none⟩ (by simp; omega) (Ne.symm o1)).trans ((World.frozen?_of_block (Below.heap_alloc w2 _ b lb)).trans f0)
                        have g0 : w3.cell? ⟨b, 0, none⟩ = some (.slice q out.length cp) := (hgrow.cell_far ⟨b, 0, none⟩ (by simp; omega) (Ne.symm o1)).trans ((World.cell?_of_block (Below.heap_alloc w2 _ b lb)).trans c0)
                        have g1 : w3.cell? ⟨b, 1, none⟩ = some (.bool sp) := (hgrow.cell_far ⟨b, 1, none⟩ (by simp; omega) (Ne.symm o1)).trans ((World.cell?_of_block (Below.heap_alloc w2 _ b lb)).trans c1)
                        have g2 : w3.cell? ⟨b, 2, none⟩ = some (.bool fi) := (hgrow.cell_far ⟨b, 2, none⟩ (by simp; omega) (Ne.symm o1)).trans ((World.cell?_of_block (Below.heap_alloc w2 _ b lb)).trans c2)
                        have gl : w3.cell? ⟨Bl, 0, none⟩ = some (.int .i64 N) := (hgrow.cell_far ⟨Bl, 0, none⟩ (by simp; omega) (Ne.symm o2)).trans ((World.cell?_of_block (Below.heap_alloc w2 _ Bl lbl)).trans d0)
                        refine hK _ _ ⟨g0, g1, g2, gl⟩ ?_
                        clear hK K
                        refine wpListS_wide (fun K hK => ?_)
                        go_simp
                        refine hK _ _ ⟨g0, g1, g2, gl⟩ ?_
                        clear hK K
                        refine wpListS_wide (fun K hK => ?_)
                        go_simp
                        refine hK _ _ ⟨g0, g1, g2, gl⟩ ?_
                        clear hK K
                        refine listS_nil ?_
                        refine listIn_last rfl (fun K hK => ?_)
                        go_simp
                        refine hK _ _ ?_
                        clear hK K
                        have hI3 := unhide hP3
                        have hb4 : Hid (Below b w (w3.setCell ⟨b, 0, none⟩ (.slice (some ⟨gg, 0, none⟩) (out.length + 1) cap))) := ((unhide hbe2).trans hb3).setCell (p := ⟨b, 0, none⟩) (Nat.le_refl _) _
                        clear g0 g1 g2 gl fz hP3 hb3 hown3 hgrow c0 c1 c2 c3 c4 f0 f1 f2 d0 hro HI2 hbe2
                        generalize w3.setCell ⟨b, 0, none⟩ (.slice (some ⟨gg, 0, none⟩) (out.length + 1) cap) = w4 at *
                        obtain ⟨c0, c1, c2, c3, c4⟩ := hI3.lx.cells
                        have f1 := hI3.lx.frozen 1
                        have f2 := hI3.lx.frozen 2
                        go_wp2
                        go_roundg (S.size - (k + m))
                        case measure => omega
                        case rel =>
                          have h1 := hI3.set (hI3.lx.set1 false)
                          have h2 := h1.set (h1.lx.set2 false)
                          refine ⟨k + m, _, _, false, false, false, fr, rfl, by go_num, by omega, h2, ((unhide hb4).setCell (p := ⟨b, 1, none⟩) (Nat.le_refl _) _).setCell (p := ⟨b, 2, none⟩) (Nat.le_refl _) _, fun rest => ?_⟩
                          rw [unhide HLC rest, Tk.col, if_pos rfl, if_pos (by omega)]
                  · -- a comment opens
                    have hk2 : k + 2 ≤ S.size := by
                      rcases hp2 with ⟨h, _⟩ | ⟨h, _⟩ | ⟨h, _⟩ | ⟨_, _, _, h, _⟩
                      · cases h
                      · cases h
                      · cases h
                      · omega
                    clear hp2
                    go_wp2_with fail
                    go_roundg (S.size - (k + 2))
                    case measure => omega
                    case rel =>
                      have h1 := hI.set (hI.lx.set3 true)
                      have h2 := h1.set (h1.lx.set4 N)
                      refine ⟨k + 2, out, v, sp, fi, true, N, rfl, by go_num, hk2, h2, ((unhide hbe).setCell (p := ⟨b, 3, none⟩) (Nat.le_refl _) _).setCell (p := ⟨b, 4, none⟩) (Nat.le_refl _) _, fun rest => ?_⟩
                      rw [unhide hL rest, stt_open sp sp fi fr rest (unhide HP2), List.drop_drop]
              · -- a comment to the line's end
                go_wp2_with fail
                go_ret
                exact ⟨0, v, out, sp, fi, false, fr, rfl, hI.lx, hI.row, hI.few, unhide hbe, .inl ⟨rfl, fun rest => by rw [unhide hL rest, stt_line sp fi fr rest (unhide HP1)]; rfl⟩⟩
          · simp only [hbl] at HB
            have HB' := hide HB
            have HBL := hide hbl
            clear HB hbl
            go_wp2_with (go_at_call 107; refine (unhide HB' _).mono ?_; rintro e w' ⟨rfl, hw'⟩; obtain rfl := hw'.symm)
            go_roundg (S.size - (k + 1))
            case measure => omega
            case rel =>
              refine ⟨k + 1, out, v, true, fi, false, fr, rfl, by go_num, by omega, hI.set (hI.lx.set1 true), (unhide hbe).setCell (p := ⟨b, 1, none⟩) (Nat.le_refl _) _, fun rest => ?_⟩
              rw [unhide hL rest, drop_at S k hlt, stt_blank sp fi fr rest (unhide HBL)]
        · -- within a comment
          have hp := pre_cases S k 42 47 42 47 rfl rfl hlt
          generalize hP : Tk.pre [42, 47] (S.data.toList.drop k) = P at *
          have HP := hide hP
          clear hP
          go_upto_region 8 with fail
          go_cut [47] from 22 to 163 (fun c wx => c = .bool P ∧ wx = wr)
          case first =>
            rcases hp with ⟨rfl, e1⟩ | ⟨rfl, e1, e2⟩ | ⟨rfl, e1, e2, e3, e4⟩ | ⟨rfl, e1, e2, e3, e4⟩
            all_goals
              go_wp2_with fail
              go_meet
              case rel => exact ⟨rfl, rfl⟩
          case rest =>
            obtain ⟨rfl, hwc⟩ := hcut
            obtain rfl := hwc.symm
            cases P
            · clear hp
              go_wp2_with fail
              go_roundg (S.size - (k + 1))
              case measure => omega
              case rel =>
                refine ⟨k + 1, out, v, true, fi, true, fr, rfl, by go_num, by omega, hI.set (hI.lx.set1 true), (unhide hbe).setCell (p := ⟨b, 1, none⟩) (Nat.le_refl _) _, fun rest => ?_⟩
                have hpp := unhide HP
                rw [drop_at S k hlt] at hpp
                rw [unhide hL rest, drop_at S k hlt, stt_go sp true fi fr rest hpp]
            · have hk2 : k + 2 ≤ S.size := by
                rcases hp with ⟨h, _⟩ | ⟨h, _⟩ | ⟨h, _⟩ | ⟨_, _, _, h, _⟩
                · cases h
                · cases h
                · cases h
                · omega
              clear hp
              go_wp2_with fail
              go_roundg (S.size - (k + 2))
              case measure => omega
              case rel =>
                have h1 := hI.set (hI.lx.set3 false)
                have h2 := h1.set (h1.lx.set1 true)
                refine ⟨k + 2, out, v, true, fi, false, fr, rfl, by go_num, hk2, h2, ((unhide hbe).setCell (p := ⟨b, 3, none⟩) (Nat.le_refl _) _).setCell (p := ⟨b, 1, none⟩) (Nat.le_refl _) _, fun rest => ?_⟩
                rw [unhide hL rest, stt_close sp fi fr rest (unhide HP), List.drop_drop]
      · have i1 : ¬ (k : Int) < (S.size : Int) := by omega
        go_wp2
        go_ret
        exact ⟨0, v, out, sp, fi, op, fr, rfl, hI.lx, hI.row, hI.few, unhide hbe, .inl ⟨rfl, fun rest => by rw [unhide hL rest, drop_end S k (by omega), stt_end]⟩⟩
end Go.Proofs.YticiddcgafhkhaaGreatDoor
