/-
  token's reader.take: the token that begins here.
-/
import Derived.Test.YtmpkgjonbjpohaaGreatDoorQa
import Derived.Test.YtmpkgjonbjpohaaGreatDoorP6
import Derived.Test.YtmpkgjonbjpohaaGreatDoorLa
namespace Go.Proofs.YtmpkgjonbjpohaaGreatDoor
open Go Go.RowKit
set_option linter.unusedVariables false
set_option linter.unusedSimpArgs false

/-- A token's cells. -/
def tokC (t : Tk.T) : List Value := [.int .i64 (t.kind : Nat), .string ⟨t.s.toArray⟩, .string ⟨#[]⟩, .int .i64 t.line, .bool t.sp, .bool t.fi]
def tokV (t : Tk.T) : Value := .agg (tokC t).toArray
def Tka (b : Nat) (v : Value) (l : List (Int × ByteArray)) (row at_ : Nat) (sp fi : Bool) (N : Int) (s : List UInt8) (w : World) (e : Ending) (w' : World) : Prop :=
  Reach b w w' ∧ (((Tk.ms s).2 = 0 ∧ e = .returned (.tuple #[tokV (Tk.er 21 N).1, .int .i64 21]) ∧ Rd w' b v row at_ sp fi) ∨
    ((Tk.ms s).2 ≠ 0 ∧ e = .returned (.tuple #[tokV ⟨(Tk.ms s).1, s.take (Tk.ms s).2, N, sp, fi⟩, .int .i64 0]) ∧ Rd w' b v row (at_ + (Tk.ms s).2) false false))
theorem Sg.reach {b : Nat} {w w' : World} (h : Sg w) (hr : Reach b w w') (hb : 10 < b) (hb2 : b < w.heap.size) : Sg w' := fun i x hx => hr.cell (h i x hx) (by show 1 ≠ b; omega) (by show 1 < _; omega)

theorem Reach.of {b : Nat} {w w' : World} (h : Reach b w w') : w.grownBy w' (some b) :=
  h (fun X => w.grownBy X (some b)) (fun A B hA hg => ⟨hg.os.trans hA.os, hg.tape.trans hA.tape, hg.output.trans hA.output, Nat.le_trans hA.size hg.size, fun k hk hne => (hg.block k (Nat.lt_of_lt_of_le hk hA.size) hne).trans (hA.block k hk hne)⟩)
    (fun A hA => ⟨hA.os, hA.tape, hA.output, hA.size, hA.block⟩) ⟨rfl, rfl, rfl, Nat.le_refl _, fun _ _ _ => rfl⟩
theorem Reach.setNew {b j i : Nat} {w w' : World} (h : Reach b w w') (hj : w.heap.size ≤ j) (v : Value) : Reach b w (w'.setCell ⟨j, i, none⟩ v) := by
  have g := h.of
  exact .grown ⟨g.os, g.tape, g.output, Nat.le_trans g.size (KeepsWalks.setCell w' _ v).size, fun k hk hne => (Below.heap_setCell _ _ _ k (by show k ≠ j; omega)).trans (g.block k hk hne)⟩
theorem Rd.other {w : World} {b j i : Nat} {v : Value} {row at_ : Nat} {sp fi : Bool} (h : Rd w b v row at_ sp fi) (hj : b ≠ j) (u : Value) : Rd (w.setCell ⟨j, i, none⟩ u) b v row at_ sp fi :=
  (Below.heap_setCell _ _ _ b hj).trans h
def zeroT : Array Value := #[.int .i64 0, .string ⟨#[]⟩, .string ⟨#[]⟩, .int .i64 0, .bool false, .bool false]
theorem res34 {tmps : Array Value} {w : World} {R : Nat} {cs : Array Value} (hp : tmps.getD 2 undef = .pointer (some ⟨R, 0, none⟩)) (hg : w.heap[R]? = some (.cells cs 115 (0, 0))) (hz : cs.size = 6) :
    (results Tryz.f105 tmps).run Tryz.prog w = .ok (.tuple #[.agg cs, tmps.getD 3 undef]) w := by
  rw [results_cell_tmp rfl, hp]
  have hi : (Tryz.prog.info? 115).map (·.size) = some cs.size := by rw [hz]; kernel_rfl
  simp [asAddr, run_loadVar_row w R 115 115 cs (0, 0) _ hg Tryz.underlying115 rfl hi]
theorem six_set {w : World} {R : Nat} {z0 z1 z2 z3 z4 z5 : Value} (h : w.heap[R]? = some (.cells #[z0, z1, z2, z3, z4, z5] 115 (0, 0))) (a0 a1 a2 a3 a4 a5 : Value) :
    ((((((w.setCell ⟨R, 0, none⟩ a0).setCell ⟨R, 1, none⟩ a1).setCell ⟨R, 2, none⟩ a2).setCell ⟨R, 3, none⟩ a3).setCell ⟨R, 4, none⟩ a4).setCell ⟨R, 5, none⟩ a5).heap[R]? = some (.cells #[a0, a1, a2, a3, a4, a5] 115 (0, 0)) := by
  simp [World.setCell, Array.getElem?_modify, h]

set_option maxRecDepth 100000 in
set_option maxHeartbeats 8000000 in
theorem take_any (b : Nat) (v : Value) (l : List (Int × ByteArray)) (row at_ : Nat) (sp fi : Bool) (w : World) (hb0 : 10 < b) (hg : Sg w) (hf : Fits l) (hl : LnA b w v l)
    (hr : Rd w b v row at_ sp fi) (hok : Ok l row at_) (hrow : row < l.length) (hT : Tk.isT (l[row].2.data.toList.drop at_) = true) :
    Calls Tryz.prog 105 #[.pointer (some ⟨b, 0, none⟩)] w fun e w' => Tka b v l row at_ sp fi l[row].1 (l[row].2.data.toList.drop at_) w e w' := by
  have hat := hok.2 hrow
  have hS : l[row].2.size ≤ 140737488355328 := hf.2 _ (List.getElem_mem hrow)
  obtain ⟨p, cap, rfl, hcs⟩ := hl
  obtain ⟨g, o, rfl, hgb, hgl, k0, k1⟩ := hcs row hrow
  generalize l[row].2 = S at *
  generalize l[row].1 = N at *
  have hms := Tk.ms_le (Tk.isT_ne hT)
  have i1 : (row : Int) < (l.length : Int) := by omega
  have hb1 : b < w.heap.size := (Array.getElem?_eq_some_iff.1 hr).1
  have HG := hide hg
  have HT := hide hT
  have HMS := hide hms
  have hl1 := hf.1
  clear hcs hg hT hms hok hf
  obtain ⟨c0, c1, c2, c3, c4⟩ := hr.cells
  go_enter Tryz.func105, Tryz.ntmps105
  go_upto_region 1 with fail
  go_region
  have hrd2 := (hr.alloc (.cells #[.int .i64 0, .string ⟨#[]⟩, .string ⟨#[]⟩, .int .i64 0, .bool false, .bool false] 115)).alloc (.cells #[.int .i64 N, .string S] 78)
  have hre2 : Reach b w ((w.alloc (.cells #[.int .i64 0, .string ⟨#[]⟩, .string ⟨#[]⟩, .int .i64 0, .bool false, .bool false] 115)).alloc (.cells #[.int .i64 N, .string S] 78)).drew := ((Reach.alloc _ _).trans (Reach.alloc _ _)).trans (Reach.drew _)
  have hR2 : ((w.alloc (.cells #[.int .i64 0, .string ⟨#[]⟩, .string ⟨#[]⟩, .int .i64 0, .bool false, .bool false] 115)).alloc (.cells #[.int .i64 N, .string S] 78)).drew.heap[w.heap.size]? = some (.cells #[.int .i64 0, .string ⟨#[]⟩, .string ⟨#[]⟩, .int .i64 0, .bool false, .bool false] 115 (0, 0)) :=
    (Below.heap_alloc _ _ _ (by simp)).trans (World.alloc_heap_new w _)
  have hL2 : ((w.alloc (.cells #[.int .i64 0, .string ⟨#[]⟩, .string ⟨#[]⟩, .int .i64 0, .bool false, .bool false] 115)).alloc (.cells #[.int .i64 N, .string S] 78)).drew.heap[w.heap.size + 1]? = some (.cells #[.int .i64 N, .string S] 78 (0, 0)) := by
    have := World.alloc_heap_new (w.alloc (.cells #[.int .i64 0, .string ⟨#[]⟩, .string ⟨#[]⟩, .int .i64 0, .bool false, .bool false] 115)) (.cells #[.int .i64 N, .string S] 78)
    rw [World.size_alloc] at this; exact this
  have hrd3 : Rd ((w.alloc (.cells #[.int .i64 0, .string ⟨#[]⟩, .string ⟨#[]⟩, .int .i64 0, .bool false, .bool false] 115)).alloc (.cells #[.int .i64 N, .string S] 78)).drew b (.slice (some ⟨g, o, none⟩) l.length cap) row at_ sp fi := hrd2
  have hsg3 := hide (Sg.reach (unhide HG) hre2 hb0 hb1)
  clear hrd2 c0 c1 c2 c3 c4 k0 k1 hr
  generalize ((w.alloc (.cells #[.int .i64 0, .string ⟨#[]⟩, .string ⟨#[]⟩, .int .i64 0, .bool false, .bool false] 115)).alloc (.cells #[.int .i64 N, .string S] 78)).drew = w2 at *
  obtain ⟨c0, c1, c2, c3, c4⟩ := hrd3.cells
  have l0 : w2.cell? ⟨w.heap.size + 1, 0, none⟩ = some (.int .i64 N) := by rw [World.cell?, hL2]; rfl
  have l1 : w2.cell? ⟨w.heap.size + 1, 1, none⟩ = some (.string S) := by rw [World.cell?, hL2]; rfl
  have i2 : (at_ : Int) ≤ (S.size : Int) := by omega
  go_upto_region 2 with fail
  go_quiet (fail)
  have hTd := drop_data S at_
  have hTs : (S.extract at_ S.size).size = S.size - at_ := by simp
  have hT0 : 0 < (S.extract at_ S.size).size := by
    have := List.length_pos_iff.2 (Tk.isT_ne (unhide HT))
    simp at this
    have e : S.data.size = S.size := rfl
    omega
  have hme := fun W (h : Sg W) => measure_any (S.extract at_ S.size) W h (by omega) hT0
  unfold msV at hme
  rw [hTd] at hme
  have hml : (Tk.ms (S.data.toList.drop at_)).2 ≤ (S.extract at_ S.size).size := by
    have := unhide HMS
    rw [hTs]
    simp at this
    have e : S.data.size = S.size := rfl
    omega
  have hrd4 : Rd (w2.drewN nq) b (.slice (some ⟨g, o, none⟩) l.length cap) row at_ sp fi := hrd3
  have hre4 : Reach b w (w2.drewN nq) := hre2.trans (Reach.drewN _ _)
  have hR4 : (w2.drewN nq).heap[w.heap.size]? = some (.cells #[.int .i64 0, .string ⟨#[]⟩, .string ⟨#[]⟩, .int .i64 0, .bool false, .bool false] 115 (0, 0)) := hR2
  have hL4 : (w2.drewN nq).heap[w.heap.size + 1]? = some (.cells #[.int .i64 N, .string S] 78 (0, 0)) := hL2
  have hsg4 : Hid (Sg (w2.drewN nq)) := hsg3
  clear c0 c1 c2 c3 c4 l0 l1 hrd3 hre2 hR2 hL2 hsg3
  generalize w2.drewN nq = w4 at *
  have HME := hide (hme w4 (unhide hsg4))
  clear hme
  unfold pairV at HME
  have hpre : Hid (∀ n, n ≤ S.size - at_ → (⟨((S.data.toList.drop at_).take n).toArray⟩ : ByteArray) = (S.extract at_ S.size).extract 0 n) := by
    intro n hn
    apply WideShapes.bytes_inj
    rw [take_min, hTd]
  generalize hTe : S.extract at_ S.size = T at *
  generalize hse : S.data.toList.drop at_ = sl at *
  generalize hke : Tk.ms sl = km at *
  obtain ⟨kd, m⟩ := km
  have HKE := hide hke
  have HSL := hide hse
  have HTs := hide hTs
  have HTd := hide hTd
  clear hTe hse hke hTd hTs
  simp only at hml HME
  go_wp2_with fail
  refine (unhide HME).mono ?_
  rintro e w5 ⟨rfl, mm, rfl⟩
  have hrd5 : Rd (w4.drewN mm) b (.slice (some ⟨g, o, none⟩) l.length cap) row at_ sp fi := hrd4
  have hre5 : Reach b w (w4.drewN mm) := hre4.trans (Reach.drewN _ _)
  have hR5 : (w4.drewN mm).heap[w.heap.size]? = some (.cells #[.int .i64 0, .string ⟨#[]⟩, .string ⟨#[]⟩, .int .i64 0, .bool false, .bool false] 115 (0, 0)) := hR4
  have hL5 : (w4.drewN mm).heap[w.heap.size + 1]? = some (.cells #[.int .i64 N, .string S] 78 (0, 0)) := hL4
  clear hrd4 hre4 hR4 hL4 hsg4 HME
  generalize w4.drewN mm = w5 at *
  obtain ⟨c0, c1, c2, c3, c4⟩ := hrd5.cells
  have f2 := hrd5.frozen 2
  have f3 := hrd5.frozen 3
  have f4 := hrd5.frozen 4
  have l0 : w5.cell? ⟨w.heap.size + 1, 0, none⟩ = some (.int .i64 N) := by rw [World.cell?, hL5]; rfl
  have r0 : w5.cell? ⟨w.heap.size, 0, none⟩ = some (.int .i64 0) := by rw [World.cell?, hR5]; rfl
  have r1 : w5.cell? ⟨w.heap.size, 1, none⟩ = some (.string ⟨#[]⟩) := by rw [World.cell?, hR5]; rfl
  have r2 : w5.cell? ⟨w.heap.size, 2, none⟩ = some (.string ⟨#[]⟩) := by rw [World.cell?, hR5]; rfl
  have r3 : w5.cell? ⟨w.heap.size, 3, none⟩ = some (.int .i64 0) := by rw [World.cell?, hR5]; rfl
  have r4 : w5.cell? ⟨w.heap.size, 4, none⟩ = some (.bool false) := by rw [World.cell?, hR5]; rfl
  have r5 : w5.cell? ⟨w.heap.size, 5, none⟩ = some (.bool false) := by rw [World.cell?, hR5]; rfl
  have fr : ∀ i, w5.frozen? ⟨w.heap.size, i, none⟩ = false := fun i => by simp [World.frozen?, hR5]
  have fr0 := fr 0
  have fr1 := fr 1
  have fr2 := fr 2
  have fr3 := fr 3
  have fr4 := fr 4
  have fr5 := fr 5
  clear fr
  generalize hBe : w.heap.size = B at *
  have HBE := hide hBe
  clear hBe
  have hb5 : b < w5.heap.size := (Array.getElem?_eq_some_iff.1 hrd5).1
  have hB5 : B + 1 < w5.heap.size := (Array.getElem?_eq_some_iff.1 hL5).1
  have hB6 : B < w5.heap.size := by omega
  have hBb : B ≠ b := by omega
  have hwB : w.heap.size ≤ B := by rw [unhide HBE]; exact Nat.le_refl _
  by_cases hm0 : m = 0
  · subst hm0
    go_wp2
    refine bodyPost_ret (res34 rfl (six_set hR5 _ _ _ _ _ _) rfl) rfl ⟨?_, .inl ⟨?_, rfl, ?_⟩⟩
    · exact (((((hre5.setNew hwB _).setNew hwB _).setNew hwB _).setNew hwB _).setNew hwB _).setNew hwB _
    · rw [unhide HSL, unhide HKE]
    · exact Rd.other (Rd.other (Rd.other (Rd.other (Rd.other (Rd.other hrd5 (Ne.symm hBb) _) (Ne.symm hBb) _) (Ne.symm hBb) _) (Ne.symm hBb) _) (Ne.symm hBb) _) (Ne.symm hBb) _
  · have n1 : ((m : Int) == 0) = false := by rw [beq_eq_false_iff_ne]; omega
    go_upto_region 6 with fail
    go_region
    have hrd6 : Rd (w5.alloc (.cells #[.int .i64 (kd : Nat), .string (T.extract 0 m), .string ⟨#[]⟩, .int .i64 N, .bool sp, .bool fi] 115)).drew b (.slice (some ⟨g, o, none⟩) l.length cap) row at_ sp fi := hrd5.alloc _
    have hre6 : Reach b w (w5.alloc (.cells #[.int .i64 (kd : Nat), .string (T.extract 0 m), .string ⟨#[]⟩, .int .i64 N, .bool sp, .bool fi] 115)).drew := (hre5.trans (Reach.alloc _ _)).trans (Reach.drew _)
    have hR6 : (w5.alloc (.cells #[.int .i64 (kd : Nat), .string (T.extract 0 m), .string ⟨#[]⟩, .int .i64 N, .bool sp, .bool fi] 115)).drew.heap[B]? = some (.cells #[.int .i64 0, .string ⟨#[]⟩, .string ⟨#[]⟩, .int .i64 0, .bool false, .bool false] 115 (0, 0)) :=
      (Below.heap_alloc _ _ _ hB6).trans hR5
    have hN6 : (w5.alloc (.cells #[.int .i64 (kd : Nat), .string (T.extract 0 m), .string ⟨#[]⟩, .int .i64 N, .bool sp, .bool fi] 115)).drew.heap[w5.heap.size]? = some (.cells #[.int .i64 (kd : Nat), .string (T.extract 0 m), .string ⟨#[]⟩, .int .i64 N, .bool sp, .bool fi] 115 (0, 0)) := World.alloc_heap_new w5 _
    have hCb : w5.heap.size ≠ b := by omega
    have hCB : w5.heap.size ≠ B := by omega
    have HX := hide (unhide hpre m (by rw [← unhide HTs]; exact hml))
    clear c0 c1 c2 c3 c4 f2 f3 f4 l0 r0 r1 r2 r3 r4 r5 fr0 fr1 fr2 fr3 fr4 fr5 hb5 hB5 hB6 hrd5 hre5 hR5 hL5
    generalize (w5.alloc (.cells #[.int .i64 (kd : Nat), .string (T.extract 0 m), .string ⟨#[]⟩, .int .i64 N, .bool sp, .bool fi] 115)).drew = w6 at *
    generalize w5.heap.size = C at *
    obtain ⟨c0, c1, c2, c3, c4⟩ := hrd6.cells
    have f2 := hrd6.frozen 2
    have f3 := hrd6.frozen 3
    have f4 := hrd6.frozen 4
    have r0 : w6.cell? ⟨B, 0, none⟩ = some (.int .i64 0) := by rw [World.cell?, hR6]; rfl
    have r1 : w6.cell? ⟨B, 1, none⟩ = some (.string ⟨#[]⟩) := by rw [World.cell?, hR6]; rfl
    have r2 : w6.cell? ⟨B, 2, none⟩ = some (.string ⟨#[]⟩) := by rw [World.cell?, hR6]; rfl
    have r3 : w6.cell? ⟨B, 3, none⟩ = some (.int .i64 0) := by rw [World.cell?, hR6]; rfl
    have r4 : w6.cell? ⟨B, 4, none⟩ = some (.bool false) := by rw [World.cell?, hR6]; rfl
    have r5 : w6.cell? ⟨B, 5, none⟩ = some (.bool false) := by rw [World.cell?, hR6]; rfl
    have t0 : w6.cell? ⟨C, 0, none⟩ = some (.int .i64 (kd : Nat)) := by rw [World.cell?, hN6]; rfl
    have t1 : w6.cell? ⟨C, 1, none⟩ = some (.string (T.extract 0 m)) := by rw [World.cell?, hN6]; rfl
    have t2 : w6.cell? ⟨C, 2, none⟩ = some (.string ⟨#[]⟩) := by rw [World.cell?, hN6]; rfl
    have t3 : w6.cell? ⟨C, 3, none⟩ = some (.int .i64 N) := by rw [World.cell?, hN6]; rfl
    have t4 : w6.cell? ⟨C, 4, none⟩ = some (.bool sp) := by rw [World.cell?, hN6]; rfl
    have t5 : w6.cell? ⟨C, 5, none⟩ = some (.bool fi) := by rw [World.cell?, hN6]; rfl
    have fr : ∀ i, w6.frozen? ⟨B, i, none⟩ = false := fun i => by simp [World.frozen?, hR6]
    have fr0 := fr 0
    have fr1 := fr 1
    have fr2 := fr 2
    have fr3 := fr 3
    have fr4 := fr 4
    have fr5 := fr 5
    have hmx : m ≤ 140737488355328 := by have := unhide HTs; omega
    clear fr
    go_wp2
    have hrd7 := Rd.set4 (Rd.set3 (Rd.set2 hrd6 (at_ + m)) false) false
    have hre7 : Reach b w (((w6.setCell ⟨b, 2, none⟩ (.int .i64 ((at_ + m : Nat) : Int))).setCell ⟨b, 3, none⟩ (.bool false)).setCell ⟨b, 4, none⟩ (.bool false)) := ((hre6.trans (Reach.set _ _)).trans (Reach.set _ _)).trans (Reach.set _ _)
    have hR7 : (((w6.setCell ⟨b, 2, none⟩ (.int .i64 ((at_ + m : Nat) : Int))).setCell ⟨b, 3, none⟩ (.bool false)).setCell ⟨b, 4, none⟩ (.bool false)).heap[B]? = some (.cells #[.int .i64 0, .string ⟨#[]⟩, .string ⟨#[]⟩, .int .i64 0, .bool false, .bool false] 115 (0, 0)) :=
      (Below.heap_setCell _ _ _ _ hBb).trans ((Below.heap_setCell _ _ _ _ hBb).trans ((Below.heap_setCell _ _ _ _ hBb).trans hR6))
    rw [Int.natCast_add] at hrd7 hre7 hR7
    generalize ((w6.setCell ⟨b, 2, none⟩ (.int .i64 ((at_ : Int) + (m : Int)))).setCell ⟨b, 3, none⟩ (.bool false)).setCell ⟨b, 4, none⟩ (.bool false) = w7 at *
    refine bodyPost_ret (res34 rfl (six_set hR7 _ _ _ _ _ _) rfl) rfl ⟨?_, .inr ⟨?_, ?_, ?_⟩⟩
    · exact (((((hre7.setNew hwB _).setNew hwB _).setNew hwB _).setNew hwB _).setNew hwB _).setNew hwB _
    · rw [unhide HSL, unhide HKE]; exact hm0
    · rw [unhide HSL, unhide HKE]; simp only [tokV, tokC, unhide HX]; rfl
    · rw [unhide HSL, unhide HKE]
      exact Rd.other (Rd.other (Rd.other (Rd.other (Rd.other (Rd.other hrd7 (Ne.symm hBb) _) (Ne.symm hBb) _) (Ne.symm hBb) _) (Ne.symm hBb) _) (Ne.symm hBb) _) (Ne.symm hBb) _
end Go.Proofs.YtmpkgjonbjpohaaGreatDoor
