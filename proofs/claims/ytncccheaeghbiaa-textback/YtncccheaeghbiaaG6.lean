/-
  burinlaw01.TextBack: the walk.
-/
import Derived.Test.YtncccheaeghbiaaG4
import Derived.Test.YtncccheaeghbiaaG5
namespace Go.Proofs.Ytncccheaeghbiaa.textBack
open Go Go.RowKit
set_option linter.unusedVariables false

theorem up_pos {l : List (Int × ByteArray)} (h : PlainUp l l.length) : ∀ i (hi : i < l.length), 1 ≤ l[i].1 ∧ l[i].1 ≤ 1000000
  | 0, hi => by have := ((h 0 hi hi).2.1 rfl); omega
  | i + 1, hi => by
    have h1 := up_pos h i (by omega)
    have h2 := (h (i + 1) hi hi).2.2 (by omega)
    simp only [Nat.add_sub_cancel] at h2
    omega
theorem up_lt {l : List (Int × ByteArray)} (h : PlainUp l l.length) (i : Nat) (hi : i + 1 < l.length) : l[i].1 < l[i + 1].1 := by
  have h2 := (h (i + 1) hi hi).2.2 (by omega)
  simp only [Nat.add_sub_cancel] at h2
  exact h2.1
def Close (l : List (Int × ByteArray)) (k : Nat) : Prop := ∀ i (h : i < l.length), i < k → l[i].2.size ≤ 100 ∧ (∀ h0 : 0 < i, l[i].1 - (l[i - 1]'(by omega)).1 ≤ 3)
theorem good_of {l : List (Int × ByteArray)} (hn : l.length ≤ 500) (h : PlainUp l l.length) (hc : Close l l.length) : Good l := by
  refine ⟨hn, fun x hx => ?_, fun i hi => ?_⟩
  · obtain ⟨i, hi, rfl⟩ := List.getElem_of_mem hx
    exact (hc i hi hi).1
  · have h1 := up_pos h i (by omega)
    have h2 := up_pos h (i + 1) hi
    have h3 := up_lt h i hi
    have h4 := (hc (i + 1) hi hi).2 (by omega)
    simp only [Nat.add_sub_cancel] at h4
    omega
theorem back {l : List (Int × ByteArray)} (h : PlainUp l l.length) : Tx.lines (Tx.jn (cv l)) = cv l := by
  refine Tx.lines_jn _ (fun x hx => ?_) (fun i hi => ?_) (fun y hy => ?_)
  · obtain ⟨y, hy, rfl⟩ := List.mem_map.1 hx
    obtain ⟨i, hi, rfl⟩ := List.getElem_of_mem hy
    exact (h i hi hi).1
  · rw [cv_length] at hi
    rw [cv_get l i (by omega), cv_get l (i + 1) hi]
    have h1 := up_pos h i (by omega)
    have h3 := up_lt h i hi
    show l[i].1.toNat < l[i + 1].1.toNat
    omega
  · cases l with
    | nil => simp [cv] at hy
    | cons z r =>
      have h1 := (h 0 (by simp) (by simp)).2.1 rfl
      simp [cv] at hy h1
      rw [← hy]; simp [h1]
theorem Ln.take {W : World} {p : Option Addr} {cap cap' : Nat} {l : List (Int × ByteArray)} (h : Ln W (.slice p l.length cap) l) (n : Nat) (hn : n = (l.take 500).length) : Ln W (.slice p n cap') (l.take 500) := by
  obtain ⟨p', c', e, hc⟩ := h
  obtain ⟨rfl, -, rfl⟩ : p = p' ∧ l.length = l.length ∧ cap = c' := by simpa using e
  refine ⟨p, cap', by rw [hn], fun i hi => ?_⟩
  have hi' : i < l.length := by simp at hi; omega
  obtain ⟨g, o, e2, c0, c1⟩ := hc i hi'
  refine ⟨g, o, e2, ?_, ?_⟩
  · rw [List.getElem_take]; exact c0
  · rw [List.getElem_take]; exact c1

/-- What follows the slicing, at a list of at most 500 lines. -/
def BackPost (w : World) (e : Ending) (w' : World) : Prop := e = .returned (.bool true) ∧ Below w.heap.size w w'

set_option maxRecDepth 100000 in
set_option maxHeartbeats 4000000 in
theorem walk (p : Option Addr) (cap : Nat) (lf : List (Int × ByteArray)) (w : World) (hv : Ln w (.slice p lf.length cap) lf) (hcap : lf.length ≤ cap) (hmax : cap ≤ maxLen) (hsz : ∀ x ∈ lf, x.2.size ≤ maxLen) :
    Calls Try.prog 5 #[.slice p lf.length cap] w (BackPost w) := by
  unfold maxLen at hmax
  have hlen : (lf.take 500).length = min 500 lf.length := List.length_take
  have hv0 : Ln w (.slice p (lf.take 500).length cap) (lf.take 500) := Ln.take hv _ rfl
  have hszl : ∀ x ∈ lf.take 500, x.2.size ≤ maxLen := fun x hx => hsz x (List.mem_of_mem_take hx)
  generalize lf.take 500 = l at *
  have hn5 : l.length ≤ 500 := by omega
  have hmin : min (lf.length : Int) 500 = (l.length : Int) := by omega
  have m1 : (l.length : Int) ≤ (cap : Int) := by omega
  have m2 : (0 : Int) ≤ (l.length : Int) := by omega
  have HV := hide hv0
  have HSZ := hide hszl
  clear hv hv0 hszl hsz hlen
  go_enter Try.func5, Try.ntmps5
  go_wp2_with fail
  refine (shown_any _).mono ?_
  rintro e W1 ⟨rfl, hb1⟩
  have HL1 : Hid (Ln W1 (.slice p l.length cap) l) := (unhide HV).below hb1
  have hpl := hide (Plain_any _ _ W1 (unhide HL1) hn5 (unhide HSZ))
  go_wp2_with fail
  refine (unhide hpl).mono ?_
  rintro e W2 ⟨b, rfl, hup, m, rfl⟩
  clear hpl HV HSZ
  have HUP := hide hup
  clear hup
  cases b
  · go_wp2
    go_ret
    exact ⟨rfl, below_drewN hb1 _⟩
  · have hup : Hid (PlainUp l l.length) := unhide HUP rfl
    clear HUP
    go_wp2
    go_loopw [5] (fun i wr => ∃ k m : Nat, i = .int .i64 k ∧ k ≤ l.length ∧ Hid (Close l k) ∧ wr = W1.drewN m) (fun i wr => l.length - (intOf i).toNat)
    case atStart => exact ⟨0, m, rfl, Nat.zero_le _, fun i h hi => by omega, rfl⟩
    case round =>
      obtain ⟨k, m, rfl, hk, hcl, rfl⟩ := hrel
      by_cases hlt : k < l.length
      · obtain ⟨p', c', e', hc⟩ := unhide HL1
        obtain ⟨rfl, -, rfl⟩ : p = p' ∧ l.length = l.length ∧ cap = c' := by simpa using e'
        obtain ⟨g, o, rfl, c0, c1⟩ := hc k hlt
        have i1 : (k : Int) < (l.length : Int) := by omega
        have hcs : ∃ B : Bool, Hid (B = false → Close l (k + 1)) ∧
            ((B = true ∧ decide ((100 : Int) < (l[k].2.size : Int)) = true) ∨
             (B = false ∧ decide ((100 : Int) < (l[k].2.size : Int)) = false ∧ decide (0 < k) = false) ∨
             (∃ M : Int, W1.cell? ⟨g, o + (k - 1) * 2, none⟩ = some (.int .i64 M) ∧ IntKind.i64.wrap (l[k].1 - M) = l[k].1 - M ∧ decide ((100 : Int) < (l[k].2.size : Int)) = false ∧ 0 < k ∧ (1 : Int) ≤ (k : Int) ∧ (k : Int) - 1 < (l.length : Int) ∧
               ((B = true ∧ decide (3 < l[k].1 - M) = true) ∨ (B = false ∧ decide (3 < l[k].1 - M) = false)))) := by
          by_cases h1 : 100 < l[k].2.size
          · exact ⟨true, (fun h => by cases h), .inl ⟨rfl, decide_eq_true (by omega)⟩⟩
          · have hd : decide ((100 : Int) < (l[k].2.size : Int)) = false := decide_eq_false (by omega)
            by_cases hk0 : 0 < k
            · have hk1 : k - 1 < l.length := by omega
              obtain ⟨g', o', hge, cp, _⟩ := hc (k - 1) hk1
              obtain ⟨rfl, rfl⟩ : g = g' ∧ o = o' := by simpa using hge
              have b1 := up_pos (unhide hup) k hlt
              have b2 := up_pos (unhide hup) (k - 1) hk1
              have hw : IntKind.i64.wrap (l[k].1 - l[k - 1].1) = l[k].1 - l[k - 1].1 := by rw [IntKind.wrap_i64]; omega
              by_cases h3 : 3 < l[k].1 - l[k - 1].1
              · exact ⟨true, (fun h => by cases h), .inr (.inr ⟨_, cp, hw, hd, hk0, by omega, by omega, .inl ⟨rfl, decide_eq_true h3⟩⟩)⟩
              · refine ⟨false, (fun _ i h hi => ?_), .inr (.inr ⟨_, cp, hw, hd, hk0, by omega, by omega, .inr ⟨rfl, decide_eq_false h3⟩⟩)⟩
                by_cases hik : i = k
                · subst hik
                  exact ⟨by omega, fun _ => by omega⟩
                · exact unhide hcl i h (by omega)
            · refine ⟨false, (fun _ i h hi => ?_), .inr (.inl ⟨rfl, hd, decide_eq_false hk0⟩)⟩
              by_cases hik : i = k
              · subst hik
                exact ⟨by omega, fun h => absurd h hk0⟩
              · exact unhide hcl i h (by omega)
        obtain ⟨B, hBe, hcs⟩ := hcs
        have hwk : IntKind.i64.wrap ((k : Int) - 1) = (k : Int) - 1 := by rw [IntKind.wrap_i64]; omega
        generalize l[k].1 = N at *
        generalize l[k].2 = S at *
        clear hc e'
        go_wp2
        go_cut [50] from 25 to 50 (fun c wx => c = .bool B ∧ wx = (W1.drewN m).drew)
        case first =>
          rcases hcs with ⟨rfl, e0⟩ | ⟨rfl, e0, e1⟩ | ⟨M, cp, e0, e1, e2, e3, e4, ⟨rfl, e5⟩ | ⟨rfl, e5⟩⟩
          all_goals
            refine wp_region_still_plain 25 (by kernel_rfl) (by kernel_rfl) ?_
            simp only [List.take_succ_cons, List.take_zero, List.drop_succ_cons, List.drop_zero]
            refine still_first (fun K hK => ?_)
            iterate 25 (refine still_next hK (fun K1 hK1 => ?_); clear hK K; revert K1 hK1; intro K hK; go_simp)
            refine still_last hK ?_
            clear hK K
            go_wp2_with fail
            go_meet
            case rel => exact ⟨rfl, rfl⟩
        case rest =>
          obtain ⟨rfl, rfl⟩ := hcut
          clear hcs
          cases B
          · go_wp2
            go_roundw
            case rel => exact ⟨k + 1, m + 1, by go_num, by omega, unhide hBe rfl, rfl⟩
            case measure => simp [intOf]; omega
          · go_wp2
            go_ret
            exact ⟨rfl, below_drewN hb1 (m + 1)⟩
      · have hkl : k = l.length := by omega
        rw [hkl] at hcl
        have hg : Good l := good_of hn5 (unhide hup) (unhide hcl)
        have hL2 : Ln (W1.drewN m) (.slice p l.length cap) l := (unhide HL1).below (below_drewN (Below.refl _ _) m)
        have hj := hide (Join_any _ l (W1.drewN m) hL2 hg)
        have zC : (⟨(Tx.jn (cv l)).toArray⟩ : ByteArray).size ≤ 65536 := by
          have h1 := hg.short (cv l).length
          rw [cv_length] at h1
          show (Tx.jn (cv l)).toArray.size ≤ _
          rw [List.size_toArray, Tx.jn, cv_length]
          omega
        have HL2 := hide hL2
        have hw := below_drewN hb1 m
        have HW := hide hw
        have hbk : Hid (Tx.lines (Tx.jn (cv l)) = cv l) := back (unhide hup)
        have hpos : Hid (∀ x ∈ l, 0 ≤ x.1) := fun x hx => by
          obtain ⟨i, hi, rfl⟩ := List.getElem_of_mem hx
          have := up_pos (unhide hup) i hi
          omega
        clear hg hkl hL2 hw hcl hup HL1
        go_wp2_with fail
        refine (unhide hj).mono ?_
        rintro e W3 ⟨rfl, hb3⟩
        clear hj
        go_wp2_with fail
        refine (Lines_any _ _ zC).mono ?_
        rintro e W4 ⟨v2, rfl, r2, hb4⟩
        have r2' : W4.ownsRow W3.heap.size 32 2 v2 (cv l).length (lineCells (cv l)) := by
          rw [← unhide hbk]; exact r2
        have y3 := hb3.size
        have b24 : Below (W1.drewN m).heap.size (W1.drewN m) W4 := hb3.trans (hb4.mono y3)
        have y1 := (unhide HW).size
        have bw4 : Below w.heap.size w W4 := (unhide HW).trans (b24.mono y1)
        have sm := hide (Same_off _ _ l W4 ((unhide HL2).below b24) (Rd.of r2') hn5 (unhide hpos))
        clear r2 r2' hb3 hb4 b24
        go_wp2_with fail
        refine (unhide sm).mono ?_
        rintro e W5 ⟨rfl, m5, rfl⟩
        go_wp2
        go_ret
        exact ⟨rfl, below_drewN bw4 _⟩
end Go.Proofs.Ytncccheaeghbiaa.textBack
