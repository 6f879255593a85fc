/-
  burinlaw02.TokenAlone answers true for every string: the walk.
-/
import Derived.Test.YtaoekfokpbebfaaDoorS2
import Derived.Test.YtaoekfokpbebfaaDoorLa
namespace Go.Proofs.YtaoekfokpbebfaaDoor
open Go Go.RowKit
set_option linter.unusedVariables false
set_option linter.unusedSimpArgs false

theorem below_drewN0 (B : Nat) (W : World) (n : Nat) : Below B W (W.drewN n) := ⟨rfl, rfl, rfl, Nat.le_refl _, fun _ _ => rfl⟩
theorem one_alone {l : List Tk.Ln} {t : Tk.T} (h : t ∈ (Tk.lex l).1) : oneV ⟨t.s.toArray⟩ = .tuple #[tokV ⟨t.kind, t.s, 1, false, true⟩, .bool true] := by
  have := (Tk.lex_alone h).1
  unfold oneV lex1
  rw [show (⟨t.s.toArray⟩ : ByteArray).data.toList = t.s from rfl, this]
  simp

set_option maxRecDepth 100000 in
set_option maxHeartbeats 8000000 in
theorem alone_walk (s T : ByteArray) (w : World) (hs : s.size ≤ 140737488355328) (hT : (2000 < s.size ∧ T = s.extract 0 2000) ∨ (s.size ≤ 2000 ∧ T = s)) (hw0 : 0 < w.heap.size) (hsg : Sg w) (htl : ∀ t ∈ (lex1 T).1, t.s.length ≤ 2001) (hll : (lex1 T).1.length ≤ 20000) :
    Calls Tryd.prog 10 #[.string s] w fun e w' => e = .returned (.bool true) ∧ Below w.heap.size w w' := by
  have hTz : T.size ≤ 140737488355328 := by
    rcases hT with ⟨_, rfl⟩ | ⟨_, rfl⟩
    · simp; omega
    · omega
  have HSH := hide (shown_any w hw0 hsg)
  have hlx : Hid (∀ W, Below w.heap.size w W → Calls Tryd.prog 13 #[.slice (some ⟨W.heap.size, 0, none⟩) 1 1] (W.alloc (.cells #[.int .i64 1, .string T] 40)) fun e w' => ∃ v', e = .returned (.tuple #[v', .int .i64 (lex1 T).2.1, .int .i64 (lex1 T).2.2]) ∧
      TkS (W.heap.size + 1) w' v' (lex1 T).1 ∧ Below (W.heap.size + 1) (W.alloc (.cells #[.int .i64 1, .string T] 40)) w') :=
    fun W hW => Lex_one _ W hTz (by have := hW.size; omega) (Sg.below hsg hW hw0)
  have HSG := hide hsg
  have hal : Hid (∀ t ∈ (lex1 T).1, oneV ⟨t.s.toArray⟩ = .tuple #[tokV ⟨t.kind, t.s, 1, false, true⟩, .bool true] ∧ Tk.pn t.s = decide (t.kind = 5) ∧ t.s.length ≤ 2001) :=
    fun t ht => ⟨one_alone ht, (Tk.lex_alone ht).2.1, htl t ht⟩
  clear hsg htl
  generalize lex1 T = R at *
  obtain ⟨L, er, n⟩ := R
  simp only at hlx hal hll
  rcases hT with ⟨h2, rfl⟩ | ⟨h2, hTs⟩
  · have i1 : (2000 : Int) < (s.size : Int) := by omega
    go_enter Tryd.func10, Tryd.ntmps10
    go_wp2_with (go_at_call 11; refine (unhide HSH).mono ?_; rintro e W1 ⟨rfl, hb1⟩)
    refine (unhide hlx _ hb1).mono ?_
    rintro e W2 ⟨v', rfl, hTk, hb2⟩
    have hb3 : Below w.heap.size w W2 := (hb1.trans ((Below.refl _ _).alloc hb1.size _)).trans (hb2.mono (by have := hb1.size; omega))
    have HTK := hide hTk
    obtain ⟨p, cap, rfl, hdrop⟩ := hTk
    clear hlx HSH hdrop
    by_cases her : er = 0
    · subst her
      go_wp2
      go_loopw [7] (fun i wr => ∃ k : Nat, i = .int .i64 k ∧ k ≤ L.length ∧ Hid (TkS (W1.heap.size + 1) wr (.slice p L.length cap) L) ∧ Below w.heap.size w wr) (fun i wr => L.length - (intOf i).toNat)
      case atStart => exact ⟨0, rfl, Nat.zero_le _, HTK, hb3⟩
      case round =>
        obtain ⟨k, rfl, hk, htk, hbe⟩ := hrel
        clear HTK hb3 hb2
        by_cases hlt : k < L.length
        · obtain ⟨p', cap', hp', hc⟩ := unhide htk
          obtain ⟨g, rfl, hg1, hg2, c0, c1, c2, c3, c4, c5⟩ := hc k hlt
          obtain ⟨rfl, rfl⟩ : p = some ⟨g, 0, none⟩ ∧ cap = cap' := by simpa using hp'
          obtain ⟨ho, hpn, hsz⟩ := unhide hal L[k] (List.getElem_mem hlt)
          have hone := One_any ⟨(L[k]).s.toArray⟩ wr (by show (L[k]).s.toArray.size ≤ _; simp; omega) (by have := hbe.size; omega) (Sg.below (unhide HSG) hbe hw0)
          rw [ho] at hone
          clear hc hp' ho
          have hbz := hbe.size
          have hLen := hide hlt
          generalize L[k] = t at *
          have HON := hide hone
          clear hone
          have hpu : Hid (∀ W, Below w.heap.size w W → Calls Tryd.prog 19 #[.string ⟨t.s.toArray⟩] W fun e w' => e = .returned (.bool (Tk.pn t.s)) ∧ w' = W) := fun W hW => punct_any ⟨t.s.toArray⟩ W (Sg.below (unhide HSG) hW hw0) (by show t.s.toArray.size ≤ _; unfold maxLen; simp; omega)
          have hne : (!Tk.pn t.s == ((t.kind : Int) == 5)) = false := by
            rw [hpn]
            have : decide (t.kind = 5) = ((t.kind : Int) == 5) := by rw [Bool.eq_iff_iff]; simp; omega
            rw [this]; cases ((t.kind : Int) == 5) <;> rfl
          have HNE := hide hne
          clear hpn hne
          generalize Tk.pn t.s = P at *
          have i2 : (k : Int) < (L.length : Int) := by omega
          go_wp2_with fail
          refine (unhide HON).mono ?_
          rintro e W4 ⟨rfl, hb4⟩
          simp only [tokV, tokC]
          have key : ∀ j u, wr.cell? ⟨g, j, none⟩ = some u → (W4.alloc (.cells #[.int .i64 (t.kind : Nat), .string ⟨t.s.toArray⟩, .string ⟨#[]⟩, .int .i64 1, .bool false, .bool true] 34)).cell? ⟨g, j, none⟩ = some u := fun j u hu =>
            ((hb4.alloc hb4.size _).cell (p := ⟨g, j, none⟩) hg2).trans hu
          have k0 := key _ _ c0
          have k1 := key _ _ c1
          have hbe5 : Below w.heap.size w (W4.alloc (.cells #[.int .i64 (t.kind : Nat), .string ⟨t.s.toArray⟩, .string ⟨#[]⟩, .int .i64 1, .bool false, .bool true] 34)) := (hbe.trans (hb4.mono hbz)).alloc (Nat.le_trans hbz hb4.size) _
          have htk5 := hide (TkS.below (unhide htk) (hb4.alloc hb4.size (.cells #[.int .i64 (t.kind : Nat), .string ⟨t.s.toArray⟩, .string ⟨#[]⟩, .int .i64 1, .bool false, .bool true] 34)) (Nat.le_refl _))
          have hnew : (W4.alloc (.cells #[.int .i64 (t.kind : Nat), .string ⟨t.s.toArray⟩, .string ⟨#[]⟩, .int .i64 1, .bool false, .bool true] 34)).heap[W4.heap.size]? = some (.cells #[.int .i64 (t.kind : Nat), .string ⟨t.s.toArray⟩, .string ⟨#[]⟩, .int .i64 1, .bool false, .bool true] 34 (0, 0)) := World.alloc_heap_new W4 _
          clear key c0 c1 c2 c3 c4 c5 htk hbe HON hal
          go_upto_region 9 with fail
          generalize (W4.alloc (.cells #[.int .i64 (t.kind : Nat), .string ⟨t.s.toArray⟩, .string ⟨#[]⟩, .int .i64 1, .bool false, .bool true] 34)) = W5 at *
          generalize W4.heap.size = A at *
          have a0 : W5.cell? ⟨A, 0, none⟩ = some (.int .i64 (t.kind : Nat)) := by rw [World.cell?, hnew]; rfl
          have a1 : W5.cell? ⟨A, 1, none⟩ = some (.string ⟨t.s.toArray⟩) := by rw [World.cell?, hnew]; rfl
          have hpw := hide (fun n => unhide hpu (W5.drewN n) (hbe5.trans (below_drewN0 _ W5 n)))
          have hne2 := unhide HNE
          go_quiet ((go_at_call 19; exact Calls.quiet_of_same (unhide hpw _)))
          go_wp2
          go_roundw
          case rel => exact ⟨k + 1, by go_num, by have := unhide hLen; omega, htk5, hbe5.trans (below_drewN0 _ W5 _)⟩
          case measure => have := unhide hLen; simp [intOf]; omega
        · go_wp2
          go_ret
          exact ⟨rfl, hbe⟩
    · have j1 : ((er : Int) != 0) = true := by rw [bne_iff_ne]; exact her
      go_wp2
      go_ret
      exact ⟨rfl, hb3⟩
  · subst hTs
    have i1 : ¬ (2000 : Int) < (T.size : Int) := by omega
    go_enter Tryd.func10, Tryd.ntmps10
    go_wp2_with (go_at_call 11; refine (unhide HSH).mono ?_; rintro e W1 ⟨rfl, hb1⟩)
    refine (unhide hlx _ hb1).mono ?_
    rintro e W2 ⟨v', rfl, hTk, hb2⟩
    have hb3 : Below w.heap.size w W2 := (hb1.trans ((Below.refl _ _).alloc hb1.size _)).trans (hb2.mono (by have := hb1.size; omega))
    have HTK := hide hTk
    obtain ⟨p, cap, rfl, hdrop⟩ := hTk
    clear hlx HSH hdrop
    by_cases her : er = 0
    · subst her
      go_wp2
      go_loopw [7] (fun i wr => ∃ k : Nat, i = .int .i64 k ∧ k ≤ L.length ∧ Hid (TkS (W1.heap.size + 1) wr (.slice p L.length cap) L) ∧ Below w.heap.size w wr) (fun i wr => L.length - (intOf i).toNat)
      case atStart => exact ⟨0, rfl, Nat.zero_le _, HTK, hb3⟩
      case round =>
        obtain ⟨k, rfl, hk, htk, hbe⟩ := hrel
        clear HTK hb3 hb2
        by_cases hlt : k < L.length
        · obtain ⟨p', cap', hp', hc⟩ := unhide htk
          obtain ⟨g, rfl, hg1, hg2, c0, c1, c2, c3, c4, c5⟩ := hc k hlt
          obtain ⟨rfl, rfl⟩ : p = some ⟨g, 0, none⟩ ∧ cap = cap' := by simpa using hp'
          obtain ⟨ho, hpn, hsz⟩ := unhide hal L[k] (List.getElem_mem hlt)
          have hone := One_any ⟨(L[k]).s.toArray⟩ wr (by show (L[k]).s.toArray.size ≤ _; simp; omega) (by have := hbe.size; omega) (Sg.below (unhide HSG) hbe hw0)
          rw [ho] at hone
          clear hc hp' ho
          have hbz := hbe.size
          have hLen := hide hlt
          generalize L[k] = t at *
          have HON := hide hone
          clear hone
          have hpu : Hid (∀ W, Below w.heap.size w W → Calls Tryd.prog 19 #[.string ⟨t.s.toArray⟩] W fun e w' => e = .returned (.bool (Tk.pn t.s)) ∧ w' = W) := fun W hW => punct_any ⟨t.s.toArray⟩ W (Sg.below (unhide HSG) hW hw0) (by show t.s.toArray.size ≤ _; unfold maxLen; simp; omega)
          have hne : (!Tk.pn t.s == ((t.kind : Int) == 5)) = false := by
            rw [hpn]
            have : decide (t.kind = 5) = ((t.kind : Int) == 5) := by rw [Bool.eq_iff_iff]; simp; omega
            rw [this]; cases ((t.kind : Int) == 5) <;> rfl
          have HNE := hide hne
          clear hpn hne
          generalize Tk.pn t.s = P at *
          have i2 : (k : Int) < (L.length : Int) := by omega
          go_wp2_with fail
          refine (unhide HON).mono ?_
          rintro e W4 ⟨rfl, hb4⟩
          simp only [tokV, tokC]
          have key : ∀ j u, wr.cell? ⟨g, j, none⟩ = some u → (W4.alloc (.cells #[.int .i64 (t.kind : Nat), .string ⟨t.s.toArray⟩, .string ⟨#[]⟩, .int .i64 1, .bool false, .bool true] 34)).cell? ⟨g, j, none⟩ = some u := fun j u hu =>
            ((hb4.alloc hb4.size _).cell (p := ⟨g, j, none⟩) hg2).trans hu
          have k0 := key _ _ c0
          have k1 := key _ _ c1
          have hbe5 : Below w.heap.size w (W4.alloc (.cells #[.int .i64 (t.kind : Nat), .string ⟨t.s.toArray⟩, .string ⟨#[]⟩, .int .i64 1, .bool false, .bool true] 34)) := (hbe.trans (hb4.mono hbz)).alloc (Nat.le_trans hbz hb4.size) _
          have htk5 := hide (TkS.below (unhide htk) (hb4.alloc hb4.size (.cells #[.int .i64 (t.kind : Nat), .string ⟨t.s.toArray⟩, .string ⟨#[]⟩, .int .i64 1, .bool false, .bool true] 34)) (Nat.le_refl _))
          have hnew : (W4.alloc (.cells #[.int .i64 (t.kind : Nat), .string ⟨t.s.toArray⟩, .string ⟨#[]⟩, .int .i64 1, .bool false, .bool true] 34)).heap[W4.heap.size]? = some (.cells #[.int .i64 (t.kind : Nat), .string ⟨t.s.toArray⟩, .string ⟨#[]⟩, .int .i64 1, .bool false, .bool true] 34 (0, 0)) := World.alloc_heap_new W4 _
          clear key c0 c1 c2 c3 c4 c5 htk hbe HON hal
          go_upto_region 9 with fail
          generalize (W4.alloc (.cells #[.int .i64 (t.kind : Nat), .string ⟨t.s.toArray⟩, .string ⟨#[]⟩, .int .i64 1, .bool false, .bool true] 34)) = W5 at *
          generalize W4.heap.size = A at *
          have a0 : W5.cell? ⟨A, 0, none⟩ = some (.int .i64 (t.kind : Nat)) := by rw [World.cell?, hnew]; rfl
          have a1 : W5.cell? ⟨A, 1, none⟩ = some (.string ⟨t.s.toArray⟩) := by rw [World.cell?, hnew]; rfl
          have hpw := hide (fun n => unhide hpu (W5.drewN n) (hbe5.trans (below_drewN0 _ W5 n)))
          have hne2 := unhide HNE
          go_quiet ((go_at_call 19; exact Calls.quiet_of_same (unhide hpw _)))
          go_wp2
          go_roundw
          case rel => exact ⟨k + 1, by go_num, by have := unhide hLen; omega, htk5, hbe5.trans (below_drewN0 _ W5 _)⟩
          case measure => have := unhide hLen; simp [intOf]; omega
        · go_wp2
          go_ret
          exact ⟨rfl, hbe⟩
    · have j1 : ((er : Int) != 0) = true := by rw [bne_iff_ne]; exact her
      go_wp2
      go_ret
      exact ⟨rfl, hb3⟩
end Go.Proofs.YtaoekfokpbebfaaDoor
