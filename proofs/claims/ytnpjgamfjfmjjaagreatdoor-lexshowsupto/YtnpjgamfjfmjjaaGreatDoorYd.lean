/-
  burinlaw07.LexBack: the walk.
-/
import Derived.Test.YtnpjgamfjfmjjaaGreatDoorYc
import Derived.Laws.StructEq
namespace Go.Proofs.YtnpjgamfjfmjjaaGreatDoor
open Go Go.RowKit
set_option linter.unusedVariables false
set_option linter.unusedSimpArgs false

theorem heldW : Tryz.prog.stoodInHeld 34 = false := by kernel_rfl
theorem fieldsW : Tryz.prog.underlying 34 = some (.struct (Tryz.prog.fieldsOf 34)) := by kernel_rfl
/-- Two words compared. -/
theorem wd_eq (x y : Wd) (W : World) : (Op.equalIn 10000 34 (.agg #[.int .i64 x.kind, .string ⟨x.s.toArray⟩, .int .i64 x.v, .int .i64 x.t, .string ⟨x.f.toArray⟩, .int .i64 x.line]) (.agg #[.int .i64 y.kind, .string ⟨y.s.toArray⟩, .int .i64 y.v, .int .i64 y.t, .string ⟨y.f.toArray⟩, .int .i64 y.line])).run Tryz.prog W = .ok (decide (x = y)) W := by
  rw [run_equalIn_struct _ 9999 34 _ _ fieldsW heldW]
  simp only [Program.fieldsOf, Tryz.underlying34]
  obtain ⟨a, s, v, t, f, m⟩ := x
  obtain ⟨b, s', v', t', g, n⟩ := y
  simp only [Wd.mk.injEq]
  have hb : ∀ (c d : List UInt8), (⟨c.toArray⟩ : ByteArray).toList = (⟨d.toArray⟩ : ByteArray).toList ↔ c = d := fun c d => by rw [ByteArray.toList_eq, ByteArray.toList_eq]
  simp [Op.eqFields, go_sem]
  by_cases h1 : a = b <;> by_cases h2 : s = s' <;> by_cases h3 : v = v' <;> by_cases h4 : t = t' <;> by_cases h5 : f = g <;> by_cases h6 : m = n <;> simp [*]
theorem wd_neq (x y : Wd) (W : World) : (binOp .neq 34 (.agg #[.int .i64 x.kind, .string ⟨x.s.toArray⟩, .int .i64 x.v, .int .i64 x.t, .string ⟨x.f.toArray⟩, .int .i64 x.line]) (.agg #[.int .i64 y.kind, .string ⟨y.s.toArray⟩, .int .i64 y.v, .int .i64 y.t, .string ⟨y.f.toArray⟩, .int .i64 y.line])).run Tryz.prog W = .ok (.bool (!decide (x = y))) W := by
  rw [run_neq_struct, wd_eq]; rfl
theorem WdG.takeZ {B : Nat} {W : World} {p : Option Addr} {cap : Nat} {l : List Wd} (h : WdG B W (.slice p l.length cap) l) (n : Nat) (hn : n ≤ l.length) : WdG B W (.slice p (l.take n).length cap) (l.take n) := by
  obtain ⟨p', cap', he, hc⟩ := h
  obtain ⟨rfl, rfl⟩ : p = p' ∧ cap = cap' := by simpa using he
  refine ⟨p, cap, rfl, fun i hi => ?_⟩
  have hi' : i < n := by simp at hi; omega
  obtain ⟨g, o, hg, hr⟩ := hc i (by omega)
  refine ⟨g, o, hg, ?_⟩
  rw [List.getElem_take]
  exact hr
/-- The cells of one word. -/
theorem WdG.at {B : Nat} {W : World} {p : Option Addr} {n cap : Nat} {l : List Wd} (h : WdG B W (.slice p n cap) l) {i : Nat} (hi : i < l.length) : ∃ g o, p = some ⟨g, o, none⟩ ∧ g < B ∧
    W.cell? ⟨g, o + i * 6, none⟩ = some (.int .i64 l[i].kind) ∧ W.cell? ⟨g, o + i * 6 + 1, none⟩ = some (.string ⟨l[i].s.toArray⟩) ∧ W.cell? ⟨g, o + i * 6 + 2, none⟩ = some (.int .i64 l[i].v) ∧
    W.cell? ⟨g, o + i * 6 + 3, none⟩ = some (.int .i64 l[i].t) ∧ W.cell? ⟨g, o + i * 6 + 4, none⟩ = some (.string ⟨l[i].f.toArray⟩) ∧ W.cell? ⟨g, o + i * 6 + 5, none⟩ = some (.int .i64 l[i].line) := by
  obtain ⟨p', cap', he, hc⟩ := h
  have : p = p' := by simp at he; exact he.1
  subst this
  exact hc i hi
set_option maxRecDepth 100000 in
set_option maxHeartbeats 8000000 in
theorem back_walk (p : Option Addr) (cap : Nat) (L : List Wd) (w : World) (hcap : L.length ≤ cap) (hcm : cap ≤ maxLen) (hs : ∀ x ∈ L, x.s.length ≤ 1000000000) (hv64 : ∀ x ∈ L, okV64 x.v) (hlen : (shP (L.take 500) (L.take 500).length).length ≤ 4000000000)
    (hv : WdG w.heap.size w (.slice p L.length cap) L) (hgl : Gl w) (htab : Tp w) :
    Calls Tryz.prog 6 #[.slice p L.length cap] w fun e w' => e = .returned (.bool true) ∧ Below w.heap.size w w' := by
  have HSH := hide (shown_any w hgl)
  have hcm' : cap ≤ 9223372036854775807 := hcm
  have HM : Hid (∃ n : Nat, min (L.length : Int) 500 = (n : Int) ∧ (n : Int) ≤ (cap : Int) ∧ n ≤ L.length ∧ n ≤ 500 ∧ L.take n = L.take 500) := by
    by_cases h : L.length ≤ 500
    · exact ⟨L.length, by omega, by omega, Nat.le_refl _, h, by rw [List.take_of_length_le (Nat.le_refl _), List.take_of_length_le h]⟩
    · exact ⟨500, by omega, by omega, by omega, by omega, rfl⟩
  obtain ⟨n, hmin, hnc, hnl, hn5, htk⟩ := unhide HM
  have hT := WdG.takeZ hv n hnl
  have htl : (L.take n).length = n := by simp; omega
  rw [← htk] at hlen
  have hLs : ∀ x ∈ L.take n, x.s.length ≤ 1000000000 := fun x hx => hs x (List.mem_of_mem_take hx)
  have hLv : ∀ x ∈ L.take n, okV64 x.v := fun x hx => hv64 x (List.mem_of_mem_take hx)
  generalize L.take n = l at *
  have HT := hide hT
  have HSW := hide (fun W (hb : Below w.heap.size w W) => Show_any (.slice p l.length cap) l W (by omega) hLs (by omega) ((hT.below hb).mono hb.size) (hgl.next hb) (htab.below hb hgl.size))
  rw [htl] at HSW HT
  have HGL := hide hgl
  have HNB := hide hnl
  obtain ⟨S, er, hz⟩ : ∃ S er, showM l = (S, er) := ⟨_, _, rfl⟩
  rw [hz] at HSW
  simp only at HSW
  have HZ := hide hz
  have HLX : Hid (er = 0 → ∀ W, Below w.heap.size w W → Calls Tryz.prog 11 #[.string ⟨S.toArray⟩] W fun e w' => ∃ p2 c2, e = .returned (.slice p2 (lx S).length c2) ∧ (lx S).length ≤ c2 ∧ TkG w'.heap.size w' (.slice p2 (lx S).length c2) (lx S) ∧ Below W.heap.size W w') := fun he W hb => by
    refine lexed_any S W ?_ (hgl.next hb)
    unfold showM at hz
    split at hz
    · obtain ⟨rfl, rfl⟩ := Prod.mk.inj hz; omega
    · exact absurd ((Prod.mk.inj hz).2.trans he) (by decide)
  have HWD : Hid (er = 0 → ∀ W p2 c2, (lx S).length ≤ c2 → TkG W.heap.size W (.slice p2 (lx S).length c2) (lx S) → Gl W → Calls Tryz.prog 8 #[.slice p2 (lx S).length c2] W fun e w' => ∃ v', e = .returned (.tuple #[v', .int .i64 0, .string ⟨#[]⟩, .int .i64 0]) ∧ WdG w'.heap.size w' v' (l.map atOne) ∧ Below W.heap.size W w') := fun he W p2 c2 hc2 hT2 hG2 => by
    unfold showM at hz
    split at hz
    · rename_i hok
      obtain ⟨rfl, rfl⟩ := Prod.mk.inj hz
      have hb := back_words l (by omega) hLv hok
      refine (Words_any p2 c2 _ W (lx_len _) hc2 hT2 (lx_ok _ (by omega) (shP_ascii l hok)) hG2).mono ?_
      rintro e w' ⟨v', rfl, hrow, hbb⟩
      rw [hb] at hrow ⊢
      exact ⟨v', rfl, WdG.of hrow rfl, hbb⟩
    · exact absurd ((Prod.mk.inj hz).2.trans he) (by decide)
  have HER : Hid (er = 0 ∨ er = 2) := by
    unfold showM at hz
    split at hz
    · exact .inl (Prod.mk.inj hz).2.symm
    · exact .inr (Prod.mk.inj hz).2.symm
  clear HM hT hgl hv hs hv64 hLs hLv hz hn5 htab hlen htk
  have hn0 : (0 : Int) ≤ (n : Int) := by omega
  go_enter Tryz.func6, Tryz.ntmps6
  go_wp2_with fail
  refine (unhide HSH).mono ?_
  rintro e W1 ⟨rfl, hb1⟩
  have HB1 := hide hb1
  clear hb1 HSH
  go_wp2_with fail
  refine (unhide HSW _ (unhide HB1)).mono ?_
  rintro e W2 ⟨rfl, hb2⟩
  have HB2 : Hid (Below w.heap.size w W2) := (unhide HB1).trans (hb2.mono (unhide HB1).size)
  clear hb2 HSW HB1
  rcases unhide HER with rfl | rfl
  · have HLX2 := hide (unhide HLX rfl W2 (unhide HB2))
    have HWD2 := hide (unhide HWD rfl)
    clear HLX HWD HER HZ
    generalize lx S = K at *
    go_wp2_with fail
    refine (unhide HLX2).mono ?_
    rintro e W3 ⟨p3, c3, rfl, hc3, hT3, hb3⟩
    have HB3 : Hid (Below w.heap.size w W3) := (unhide HB2).trans (hb3.mono (unhide HB2).size)
    have HWD3 := hide (unhide HWD2 W3 p3 c3 hc3 hT3 ((unhide HGL).next (unhide HB3)))
    clear hb3 hT3 HLX2 HWD2 HB2
    go_wp2_with fail
    refine (unhide HWD3).mono ?_
    rintro e W4 ⟨v4, rfl, hT4, hb4⟩
    have HB4 : Hid (Below w.heap.size w W4) := (unhide HB3).trans (hb4.mono (unhide HB3).size)
    have HT4 := hide hT4
    obtain ⟨p4, c4, rfl, _⟩ := hT4
    rw [List.length_map, htl] at HT4 ⊢
    have hnn : (((n : Nat) : Int) != ((n : Nat) : Int)) = false := by simp
    clear hb4 HWD3 HB3
    go_wp2
    have HB40 : Hid (Below W4.heap.size W4 W4) := Below.refl _ _
    go_loopg [10] n (fun gk i wr => ∃ k : Nat, gk = n - k ∧ i = .int .i64 (k : Int) ∧ k ≤ n ∧ Hid (Below W4.heap.size W4 wr))
    case atStart => exact ⟨0, rfl, rfl, Nat.zero_le _, HB40⟩
    case round =>
      clear HB40
      obtain ⟨k, rfl, rfl, hk, HBR⟩ := hrel
      by_cases hlt : k < n
      · have i1 : (k : Int) < (n : Int) := by omega
        obtain ⟨g, o, rfl, hgB, a0, a1, a2, a3, a4, a5⟩ := ((unhide HT).below ((unhide HB4).trans ((unhide HBR).mono (unhide HB4).size))).at (i := k) (by omega)
        obtain ⟨g2, o2, rfl, hgB2, b0, b1, b2, b3, b4, b5⟩ := ((unhide HT4).below (unhide HBR)).at (i := k) (by rw [List.length_map]; omega)
        rw [List.getElem_map] at b0 b1 b2 b3 b4 b5
        have hkl : k < l.length := by omega
        obtain ⟨x, hx⟩ : ∃ x, l[k] = x := ⟨_, rfl⟩
        obtain ⟨xk, xs, xv, xt, xf, xl⟩ := x
        rw [hx] at a0 a1 a2 a3 a4 a5 b0 b1 b2 b3 b4 b5
        simp only [atOne] at a0 a1 a2 a3 a4 a5 b0 b1 b2 b3 b4 b5
        have hneq := fun W => wd_neq ⟨xk, xs, xv, xt, [], 1⟩ ⟨xk, xs, xv, xt, [], 1⟩ W
        simp only [decide_true, Bool.not_true] at hneq
        have hzr := (unhide HBR).size
        have hgl2 : g2 < wr.heap.size := by omega
        have hbA : Below wr.heap.size wr (wr.alloc (.cells #[.int .i64 xk, .string ⟨xs.toArray⟩, .int .i64 xv, .int .i64 xt, .string ⟨xf.toArray⟩, .int .i64 xl] 34)) := below_new wr _
        have e0 := (hbA.cell (p := ⟨g2, o2 + k * 6, none⟩) hgl2).trans b0
        have e1 := (hbA.cell (p := ⟨g2, o2 + k * 6 + 1, none⟩) hgl2).trans b1
        have e2 := (hbA.cell (p := ⟨g2, o2 + k * 6 + 2, none⟩) hgl2).trans b2
        have e3 := (hbA.cell (p := ⟨g2, o2 + k * 6 + 3, none⟩) hgl2).trans b3
        have e4 := (hbA.cell (p := ⟨g2, o2 + k * 6 + 4, none⟩) hgl2).trans b4
        have e5 := (hbA.cell (p := ⟨g2, o2 + k * 6 + 5, none⟩) hgl2).trans b5
        have q1 : WBox ((wr.alloc (.cells #[.int .i64 xk, .string ⟨xs.toArray⟩, .int .i64 xv, .int .i64 xt, .string ⟨xf.toArray⟩, .int .i64 xl] 34)).alloc (.cells #[.int .i64 xk, .string ⟨xs.toArray⟩, .int .i64 xv, .int .i64 xt, .string ⟨#[]⟩, .int .i64 1] 34)) wr.heap.size ⟨xk, xs, xv, xt, xf, xl⟩ := WBox.below (WBox.new wr ⟨xk, xs, xv, xt, xf, xl⟩) (below_new _ _) (by simp)
        have q2 : WBox ((wr.alloc (.cells #[.int .i64 xk, .string ⟨xs.toArray⟩, .int .i64 xv, .int .i64 xt, .string ⟨xf.toArray⟩, .int .i64 xl] 34)).alloc (.cells #[.int .i64 xk, .string ⟨xs.toArray⟩, .int .i64 xv, .int .i64 xt, .string ⟨#[]⟩, .int .i64 1] 34)) (wr.heap.size + 1) ⟨xk, xs, xv, xt, [], 1⟩ := by
          have := WBox.new (wr.alloc (.cells #[.int .i64 xk, .string ⟨xs.toArray⟩, .int .i64 xv, .int .i64 xt, .string ⟨xf.toArray⟩, .int .i64 xl] 34)) ⟨xk, xs, xv, xt, [], 1⟩
          rwa [World.size_alloc] at this
        have hbB : Below wr.heap.size wr ((wr.alloc (.cells #[.int .i64 xk, .string ⟨xs.toArray⟩, .int .i64 xv, .int .i64 xt, .string ⟨xf.toArray⟩, .int .i64 xl] 34)).alloc (.cells #[.int .i64 xk, .string ⟨xs.toArray⟩, .int .i64 xv, .int .i64 xt, .string ⟨#[]⟩, .int .i64 1] 34)) := hbA.alloc hbA.size _
        clear b0 b1 b2 b3 b4 b5 hbA
        go_upto_region 14 with fail
        generalize ((wr.alloc _).alloc _ : World) = W5 at *
        have f4 := WBox.frozen q1 4
        have f5 := WBox.frozen q1 5
        obtain ⟨r0, r1, r2, r3, r4, r5⟩ := WBox.six q1
        clear a0 a1 a2 a3 a4 a5 e0 e1 e2 e3 e4 e5
        have p1 : WBox ((W5.setCell ⟨wr.heap.size, 4, none⟩ (.string ⟨#[]⟩)).setCell ⟨wr.heap.size, 5, none⟩ (.int .i64 1)) wr.heap.size ⟨xk, xs, xv, xt, [], 1⟩ := WBox.set5 (WBox.set4 q1 []) 1
        have p2 : WBox ((W5.setCell ⟨wr.heap.size, 4, none⟩ (.string ⟨#[]⟩)).setCell ⟨wr.heap.size, 5, none⟩ (.int .i64 1)) (wr.heap.size + 1) ⟨xk, xs, xv, xt, [], 1⟩ := (q2.setCell (by omega) _).setCell (by omega) _
        have hbC : Below wr.heap.size wr ((W5.setCell ⟨wr.heap.size, 4, none⟩ (.string ⟨#[]⟩)).setCell ⟨wr.heap.size, 5, none⟩ (.int .i64 1)) := (hbB.setCell (p := ⟨wr.heap.size, 4, none⟩) (Nat.le_refl _) _).setCell (p := ⟨wr.heap.size, 5, none⟩) (Nat.le_refl _) _
        go_upto_region 16 with fail
        generalize ((W5.setCell _ _).setCell _ _ : World) = W6 at *
        clear r0 r1 r2 r3 r4 r5 f4 f5 q1 q2 hbB
        obtain ⟨s0, s1, s2, s3, s4, s5⟩ := WBox.six p1
        obtain ⟨t0, t1, t2, t3, t4, t5⟩ := WBox.six p2
        have HBC : Hid (Below W4.heap.size W4 W6) := (unhide HBR).trans (hbC.mono hzr)
        clear hbC p1 p2
        go_wp2
        go_roundg (n - (k + 1))
        case measure => omega
        case rel => exact ⟨k + 1, rfl, by go_num, by omega, HBC⟩
      · have i1 : ¬ (k : Int) < (n : Int) := by omega
        go_wp2
        go_ret
        exact ⟨rfl, (unhide HB4).trans ((unhide HBR).mono (unhide HB4).size)⟩
  · go_wp2
    go_ret
    exact ⟨rfl, unhide HB2⟩
end Go.Proofs.YtnpjgamfjfmjjaaGreatDoor
