/-
  burinlaw07.LexShows answers true: the walk.
-/
import Derived.Test.YtnpjgamfjfmjjaaGreatDoorZm
import Derived.Test.YtnpjgamfjfmjjaaGreatDoorYd
namespace Go.Proofs.YtnpjgamfjfmjjaaGreatDoor
open Go Go.RowKit
set_option linter.unusedVariables false
set_option linter.unusedSimpArgs false

/-- A word lies at its place. -/
def SixAt (W : World) (g o k : Nat) (xk : Int) (xs : ByteArray) (xv xt : Int) (xf : ByteArray) (xl : Int) : Prop :=
  W.cell? ⟨g, o + k * 6, none⟩ = some (.int .i64 xk) ∧ W.cell? ⟨g, o + k * 6 + 1, none⟩ = some (.string xs) ∧ W.cell? ⟨g, o + k * 6 + 2, none⟩ = some (.int .i64 xv) ∧
  W.cell? ⟨g, o + k * 6 + 3, none⟩ = some (.int .i64 xt) ∧ W.cell? ⟨g, o + k * 6 + 4, none⟩ = some (.string xf) ∧ W.cell? ⟨g, o + k * 6 + 5, none⟩ = some (.int .i64 xl)
set_option maxRecDepth 100000 in
set_option maxHeartbeats 8000000 in
theorem shows_walk (p : Option Addr) (cap : Nat) (L : List Wd) (w : World) (hcap : L.length ≤ cap) (hcm : cap ≤ maxLen) (hs : ∀ x ∈ L, x.s.length ≤ 1000000000) (hv64 : ∀ x ∈ L, okV64 x.v) (hlen : (shP (L.take 500) (L.take 500).length).length ≤ 4000000000)
    (hv : WdG w.heap.size w (.slice p L.length cap) L) (hgl : Gl w) (htab : Tp w) :
    Calls Tryz.prog 5 #[.slice p L.length cap] w fun e w' => e = .returned (.bool true) ∧ Below w.heap.size w w' := by
  have hmix : Tryz.prog.follows .mixedOrders = true := by kernel_rfl
  have HSH := hide (shown_any w hgl)
  have hcm' : cap ≤ 9223372036854775807 := hcm
  have HM : Hid (∃ n : Nat, min (L.length : Int) 500 = (n : Int) ∧ (n : Int) ≤ (cap : Int) ∧ n ≤ L.length ∧ n ≤ 500 ∧ L.take n = L.take 500) := by
    by_cases h : L.length ≤ 500
    · exact ⟨L.length, by omega, by omega, Nat.le_refl _, h, by rw [List.take_of_length_le (Nat.le_refl _), List.take_of_length_le h]⟩
    · exact ⟨500, by omega, by omega, by omega, by omega, rfl⟩
  obtain ⟨n, hmin, hnc, hnl, hn5, htk⟩ := unhide HM
  have hT := WdG.takeZ hv n hnl
  have htl : (L.take n).length = n := by simp; omega
  rw [← htk] at hlen
  have hLs : ∀ x ∈ L.take n, x.s.length ≤ 1000000000 := fun x hx => hs x (List.mem_of_mem_take hx)
  have hLv : ∀ x ∈ L.take n, okV64 x.v := fun x hx => hv64 x (List.mem_of_mem_take hx)
  generalize L.take n = l at *
  have HT := hide hT
  have HSW := hide (fun W (hb : Below w.heap.size w W) => Show_any (.slice p l.length cap) l W (by omega) hLs (by omega) ((hT.below hb).mono hb.size) (hgl.next hb) (htab.below hb hgl.size))
  have HRW := hide (fun W (hb : Below w.heap.size w W) => rShow_any (.slice p l.length cap) l W (by omega) hLs hLv (by omega) ((hT.below hb).mono hb.size))
  have HR1 : Hid (∀ x ∈ l, ∀ W, Below w.heap.size w W → Calls Tryz.prog 14 #[wdV x] W fun e w' => e = .returned (.bool (rightM x)) ∧ Below W.heap.size W w') := fun x hx W hb => Right_any x W (by have := hLs x hx; omega) (Nat.lt_of_lt_of_le hgl.size hb.size) (Sg.below hgl.sg hb hgl.size)
  have HR2 : Hid (∀ x ∈ l, ∀ W, Below w.heap.size w W → Calls Tryz.prog 15 #[wdV x] W fun e w' => e = .returned (.bool (rightM x)) ∧ Below W.heap.size W w') := fun x hx W hb => rRight_any x W (by have := hLs x hx; omega) (wrap64 (hLv x hx))
  rw [htl] at HSW HRW HT
  have HLN := hide htl
  obtain ⟨S, er, hz⟩ : ∃ S er, showM l = (S, er) := ⟨_, _, rfl⟩
  rw [hz] at HSW HRW
  simp only at HSW HRW
  generalize (⟨S.toArray⟩ : ByteArray) = SB at *
  clear HM hT hgl hv hs hv64 hLs hLv hz hn5 htab hlen htk htl
  have hn0 : (0 : Int) ≤ (n : Int) := by omega
  go_enter Tryz.func5, Tryz.ntmps5
  go_wp2_with fail
  refine (unhide HSH).mono ?_
  rintro e W1 ⟨rfl, hb1⟩
  have HB1 := hide hb1
  clear hb1 HSH
  go_wp2
  go_loopg [4] n (fun gk i wr => ∃ k : Nat, gk = n - k ∧ i = .int .i64 (k : Int) ∧ k ≤ n ∧ Hid (Below w.heap.size w wr))
  case atStart => exact ⟨0, rfl, rfl, Nat.zero_le _, HB1⟩
  case round =>
    clear HB1
    obtain ⟨k, rfl, rfl, hk, HBE⟩ := hrel
    by_cases hlt : k < n
    · have i1 : (k : Int) < (n : Int) := by omega
      have hkl : k < l.length := by rw [unhide HLN]; exact hlt
      obtain ⟨g, o, rfl, hgB, a0, a1, a2, a3, a4, a5⟩ := ((unhide HT).below (unhide HBE)).at (i := k) hkl
      have h1 := unhide HR1 l[k] (List.getElem_mem hkl)
      have h2 := unhide HR2 l[k] (List.getElem_mem hkl)
      generalize l[k] = x at *
      generalize hrx : rightM x = RX at *
      obtain ⟨xk, xs, xv, xt, xf, xl⟩ := x
      simp only [wdV, wdC] at h1 h2
      simp only at a0 a1 a2 a3 a4 a5
      generalize (⟨xs.toArray⟩ : ByteArray) = XS at *
      generalize (⟨xf.toArray⟩ : ByteArray) = XF at *
      have H1 := hide h1
      have H2 := hide h2
      have HSX : Hid (SixAt wr g o k xk XS xv xt XF xl) := ⟨a0, a1, a2, a3, a4, a5⟩
      clear h1 h2 hrx HR1 HR2 a0 a1 a2 a3 a4 a5
      have hgk : (k : Int).toNat = k := by omega
      go_upto_region 6 with fail
      refine wp_region_noPanic (wpIn_wide.1 (wpIn_region_mix (ro := none) (n := 0) (fun w' => SixAt w' g o k xk XS xv xt XF xl ∧ Hid (Below w.heap.size w w'))
        [(0, true), (1, true), (2, true), (3, true), (5, true), (6, true), (7, true), (8, true), (4, false), (9, false)]
        10 hmix (by kernel_rfl) (by kernel_rfl) (by kernel_rfl) (by kernel_rfl) (by kernel_rfl) (by kernel_rfl) (fun _ _ _ _ h => h) ⟨unhide HSX, drewB (unhide HBE)⟩ ?_))
      iterate 8 (refine mix_pure _ rfl _ (.inl ⟨rfl, fun W hS => (by obtain ⟨⟨f0, f1, f2, f3, f4, f5⟩, _⟩ := hS; go_simp; rfl)⟩) (fun B hB => ?_); simp only [Act.put, List.setIfInBounds_toArray, List.set_cons_zero, List.set_cons_succ] at hB; subst hB)
      have HBd : Hid (Below w.heap.size w wr.drew) := drewB (unhide HBE)
      have HSd : Hid (SixAt wr.drew g o k xk XS xv xt XF xl) := unhide HSX
      clear HBE HSX
      refine mix_sole _ rfl (fun K hK => ?_)
      go_simp
      refine ⟨trivial, rfl, (callsIn_wide.2 (unhide H1 _ (unhide HBd))).mono ?_⟩
      rintro e W4 ⟨rfl, hb4⟩
      have hgb : g < wr.drew.heap.size := Nat.lt_of_lt_of_le hgB (unhide HBd).size
      have HS4 : Hid (SixAt W4 g o k xk XS xv xt XF xl) := by
        obtain ⟨c0, c1, c2, c3, c4, c5⟩ := unhide HSd
        have key : ∀ j u, wr.drew.cell? ⟨g, j, none⟩ = some u → W4.cell? ⟨g, j, none⟩ = some u := fun j u hu => (hb4.cell (p := ⟨g, j, none⟩) hgb).trans hu
        exact ⟨key _ _ c0, key _ _ c1, key _ _ c2, key _ _ c3, key _ _ c4, key _ _ c5⟩
      have HB4 : Hid (Below w.heap.size w W4) := (unhide HBd).trans (hb4.mono (unhide HBd).size)
      refine hK _ _ ⟨unhide HS4, HB4⟩ ?_
      clear hK K hb4 hgb HBd HSd
      refine mix_sole _ rfl (fun K hK => ?_)
      go_simp
      refine ⟨trivial, rfl, (callsIn_wide.2 (unhide H2 _ (unhide HB4))).mono ?_⟩
      rintro e W5 ⟨rfl, hb5⟩
      have hgb : g < W4.heap.size := Nat.lt_of_lt_of_le hgB (unhide HB4).size
      have HS5 : Hid (SixAt W5 g o k xk XS xv xt XF xl) := by
        obtain ⟨c0, c1, c2, c3, c4, c5⟩ := unhide HS4
        have key : ∀ j u, W4.cell? ⟨g, j, none⟩ = some u → W5.cell? ⟨g, j, none⟩ = some u := fun j u hu => (hb5.cell (p := ⟨g, j, none⟩) hgb).trans hu
        exact ⟨key _ _ c0, key _ _ c1, key _ _ c2, key _ _ c3, key _ _ c4, key _ _ c5⟩
      have HB5 : Hid (Below w.heap.size w W5) := (unhide HB4).trans (hb5.mono (unhide HB4).size)
      refine hK _ _ ⟨unhide HS5, HB5⟩ ?_
      clear hK K hb5 hgb HB4 HS4 H1 H2
      refine mix_nil ?_
      refine listIn_last rfl (fun K hK => ?_)
      go_simp
      refine hK _ _ ?_
      clear hK K
      go_wp2
      go_roundg (n - (k + 1))
      case measure => omega
      case rel => exact ⟨k + 1, rfl, by go_num, by omega, HB5⟩
    · have i1 : ¬ (k : Int) < (n : Int) := by omega
      have HSW2 := hide (unhide HSW wr (unhide HBE))
      clear HSW HR1 HR2
      go_wp2_with fail
      refine (unhide HSW2).mono ?_
      rintro e W2 ⟨rfl, hb2⟩
      have HB2 : Hid (Below w.heap.size w W2) := (unhide HBE).trans (hb2.mono (unhide HBE).size)
      have HRW2 := hide (unhide HRW W2 (unhide HB2))
      clear hb2 HSW2 HRW HBE
      go_wp2_with fail
      refine (unhide HRW2).mono ?_
      rintro e W3 ⟨rfl, hb3⟩
      have HB3 : Hid (Below w.heap.size w W3) := (unhide HB2).trans (hb3.mono (unhide HB2).size)
      clear hb3 HRW2 HB2
      go_wp2
      go_ret
      exact ⟨rfl, unhide HB3⟩
end Go.Proofs.YtnpjgamfjfmjjaaGreatDoor
