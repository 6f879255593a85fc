/-
  burinref01.Plain: where it answers true, the lines may be.
-/
import Derived.Test.YtncccheaeghbiaaG3
namespace Go.Proofs.Ytncccheaeghbiaa
open Go Go.RowKit
set_option linter.unusedVariables false

def okAt (l : List (Int × ByteArray)) (i : Nat) (h : i < l.length) : Prop :=
  (i = 0 → l[i].1 = 1) ∧ (∀ h0 : 0 < i, (l[i - 1]'(by omega)).1 < l[i].1 ∧ l[i].1 ≤ 1000000)
def PlainUp (l : List (Int × ByteArray)) (k : Nat) : Prop := ∀ i (h : i < l.length), i < k → Tx.okS l[i].2.data.toList ∧ okAt l i h
theorem bs_of {S : ByteArray} (h : S.size = 0 ∨ ∃ h : S.size - 1 < S.size, S[S.size - 1] ≠ 92) : Tx.bsB S.data.toList = false := by
  rw [Bool.eq_false_iff]
  intro e
  rw [Tx.bsB_last] at e
  rcases h with h | ⟨h0, h⟩
  · have : S.data.toList = [] := List.length_eq_zero_iff.1 (by simpa using h)
    rw [this] at e; simp at e
  · rw [List.getLast?_eq_getElem?, List.getElem?_eq_getElem (by simp; omega)] at e
    have := Option.some.inj e
    simp at this
    exact h this

def PlPost (l : List (Int × ByteArray)) (w : World) (e : Ending) (w' : World) : Prop := ∃ b : Bool, e = .returned (.bool b) ∧ (b = true → PlainUp l l.length) ∧ ∃ m, w' = w.drewN m

set_option maxRecDepth 100000 in
set_option maxHeartbeats 4000000 in
theorem Plain_any (v : Value) (l : List (Int × ByteArray)) (w : World) (hv : Ln w v l) (hn : l.length ≤ 500) (hsz : ∀ x ∈ l, x.2.size ≤ maxLen) :
    Calls Try.prog 15 #[v] w (PlPost l w) := by
  have HSZ := hide hsz
  obtain ⟨p, cap, rfl, hc⟩ := hv
  have HC := hide hc
  clear hc hsz
  go_enter Try.func15, Try.ntmps15
  go_wp2
  go_loopw [3] (fun i wr => ∃ k m : Nat, i = .int .i64 k ∧ k ≤ l.length ∧ Hid (PlainUp l k) ∧ wr = w.drewN m) (fun i wr => l.length - (intOf i).toNat)
  case atStart => exact ⟨0, 0, rfl, Nat.zero_le _, fun i h hi => by omega, rfl⟩
  case round =>
    obtain ⟨k, m, rfl, hk, hup, rfl⟩ := hrel
    by_cases hlt : k < l.length
    · obtain ⟨g, o, rfl, c0, c1⟩ := unhide HC k hlt
      have hss : l[k].2.size ≤ 2 ^ 63 - 1 := unhide HSZ l[k] (List.getElem_mem _)
      have i1 : (k : Int) < (l.length : Int) := by omega
      generalize hN : l[k].1 = N at *
      generalize hS : l[k].2 = S at *
      have HN := hide hN
      have HS := hide hS
      clear hN hS
      go_wp2
      go_loop [5] (fun i => ∃ j : Nat, i = .int .i64 j ∧ j ≤ S.size ∧ Hid (∀ t (h : t < S.size), t < j → S[t] ≠ 13 ∧ S[t] ≠ 10)) (fun i => S.size - (intOf i).toNat)
      case atStart => exact ⟨0, rfl, Nat.zero_le _, fun t h ht => by omega⟩
      case round =>
        obtain ⟨j, rfl, hj, hno⟩ := hrel
        by_cases hjl : j < S.size
        · have i2 : (j : Int) < (S.size : Int) := by omega
          by_cases h13 : S[j] = 13
          · have g1 : ((S[j].toNat : Int) == 13) = true := by rw [h13]; rfl
            go_wp2
            go_ret
            exact ⟨false, rfl, by simp, m, rfl⟩
          · have g1 : ((S[j].toNat : Int) == 13) = false := byte_neq (d := 13) h13
            by_cases h10 : S[j] = 10
            · have g2 : ((S[j].toNat : Int) == 10) = true := by rw [h10]; rfl
              go_wp2
              go_ret
              exact ⟨false, rfl, by simp, m, rfl⟩
            · have g2 : ((S[j].toNat : Int) == 10) = false := byte_neq (d := 10) h10
              have hno2 : Hid (∀ t (h : t < S.size), t < j + 1 → S[t] ≠ 13 ∧ S[t] ≠ 10) := fun t h ht => by
                by_cases e : t = j
                · subst e; exact ⟨h13, h10⟩
                · exact unhide hno t h (by omega)
              clear h13 h10
              go_wp2
              go_round
              case rel => exact ⟨j + 1, by go_num, by omega, hno2⟩
              case measure => simp [intOf]; omega
        · have hfree : Hid (∀ c ∈ S.data.toList, c ≠ 13 ∧ c ≠ 10) := fun c hc => by
            obtain ⟨t, ht, rfl⟩ := List.getElem_of_mem hc
            have ht' : t < S.size := by simpa using ht
            exact unhide hno t ht' (by omega)
          clear hno
          have hcs : (S.size = 0 ∨ ∃ h : S.size - 1 < S.size, S[S.size - 1] ≠ 92) ∨ (0 < S.size ∧ ∃ h : S.size - 1 < S.size, S[S.size - 1] = 92) := by
            by_cases h0 : 0 < S.size
            · by_cases h : S[S.size - 1] = 92
              · exact .inr ⟨h0, by omega, h⟩
              · exact .inl (.inr ⟨by omega, h⟩)
            · exact .inl (.inl (by omega))
          rcases hcs with hgood | ⟨h0, hl, h92⟩
          · have hbs : Hid (Tx.bsB S.data.toList = false) := bs_of hgood
            go_upto_region 11 with fail
            go_cut [69] from 39 to 69 (fun c wx => c = .bool false ∧ wx = w.drewN m)
            case first =>
              rcases hgood with h0 | ⟨hl, h92⟩
              · have f0 : decide (0 < S.size) = false := decide_eq_false (by omega)
                clear h0
                go_wp2_with fail
                go_meet
                case rel => exact ⟨rfl, rfl⟩
              · have f0 : 0 < S.size := by omega
                have f1 : (1 : Int) ≤ (S.size : Int) := by omega
                have f2 : (S.size : Int) - 1 < (S.size : Int) := by omega
                have f3 : (((S[S.size - 1]).toNat : Int) == 92) = false := byte_neq (d := 92) h92
                clear h92
                go_wp2_with fail
                go_meet
                case rel => exact ⟨rfl, rfl⟩
            case rest =>
              obtain ⟨rfl, rfl⟩ := hcut
              clear hgood
              have hcs : ∃ B : Bool, Hid (B = false → okAt l k hlt) ∧
                  ((B = true ∧ ((k : Int) == 0) = true ∧ (N != 1) = true) ∨
                   (B = false ∧ ((k : Int) == 0) = true ∧ (N != 1) = false ∧ decide (0 < k) = false) ∨
                   (∃ M : Int, w.cell? ⟨g, o + (k - 1) * 2, none⟩ = some (.int .i64 M) ∧ ((k : Int) == 0) = false ∧ 0 < k ∧ (1 : Int) ≤ (k : Int) ∧ (k : Int) - 1 < (l.length : Int) ∧
                     ((B = true ∧ decide (N ≤ M) = true) ∨ (B = true ∧ decide (N ≤ M) = false ∧ decide (1000000 < N) = true) ∨ (B = false ∧ decide (N ≤ M) = false ∧ decide (1000000 < N) = false)))) := by
                by_cases hk0 : k = 0
                · by_cases hN1 : N = 1
                  · refine ⟨false, fun _ => ⟨fun _ => (unhide HN).trans hN1, fun h => by omega⟩, .inr (.inl ⟨rfl, by rw [beq_iff_eq]; omega, by rw [hN1]; rfl, decide_eq_false (by omega)⟩)⟩
                  · exact ⟨true, (fun h => by cases h), .inl ⟨rfl, by rw [beq_iff_eq]; omega, by rw [bne_iff_ne]; exact hN1⟩⟩
                · have hk1 : k - 1 < l.length := by omega
                  obtain ⟨g', o', hge, cp, _⟩ := unhide HC (k - 1) hk1
                  obtain ⟨rfl, rfl⟩ : g = g' ∧ o = o' := by simpa using hge
                  have hb0 : ((k : Int) == 0) = false := by rw [beq_eq_false_iff_ne]; omega
                  by_cases h1 : N ≤ l[k - 1].1
                  · exact ⟨true, (fun h => by cases h), .inr (.inr ⟨_, cp, hb0, by omega, by omega, by omega, .inl ⟨rfl, decide_eq_true h1⟩⟩)⟩
                  · by_cases h2 : 1000000 < N
                    · exact ⟨true, (fun h => by cases h), .inr (.inr ⟨_, cp, hb0, by omega, by omega, by omega, .inr (.inl ⟨rfl, decide_eq_false h1, decide_eq_true h2⟩)⟩)⟩
                    · refine ⟨false, fun _ => ⟨fun h => absurd h hk0, fun h0 => ?_⟩, .inr (.inr ⟨_, cp, hb0, by omega, by omega, by omega, .inr (.inr ⟨rfl, decide_eq_false h1, decide_eq_false h2⟩)⟩)⟩
                      rw [unhide HN]
                      omega
              obtain ⟨B, hBe, hcs⟩ := hcs
              have hwk : IntKind.i64.wrap ((k : Int) - 1) = (k : Int) - 1 := by rw [IntKind.wrap_i64]; omega
              go_wp2
              go_cut [105] from 70 to 105 (fun c wx => c = .bool B ∧ wx = (w.drewN m).drew)
              case first =>
                rcases hcs with ⟨rfl, e0, e1⟩ | ⟨rfl, e0, e1, e2⟩ | ⟨M, cp, e0, e1, e2, e3, ⟨rfl, e4⟩ | ⟨rfl, e4, e5⟩ | ⟨rfl, e4, e5⟩⟩
                all_goals
                  refine wp_region_still_plain 35 (by kernel_rfl) (by kernel_rfl) ?_
                  simp only [List.take_succ_cons, List.take_zero, List.drop_succ_cons, List.drop_zero]
                  refine still_first (fun K hK => ?_)
                  iterate 35 (refine still_next hK (fun K1 hK1 => ?_); clear hK K; revert K1 hK1; intro K hK; go_simp)
                  refine still_last hK ?_
                  clear hK K
                  go_wp2_with fail
                  go_meet
                  case rel => exact ⟨rfl, rfl⟩
              case rest =>
                obtain ⟨rfl, rfl⟩ := hcut
                clear hcs
                cases B
                · go_wp2
                  go_roundw
                  case rel =>
                    refine ⟨k + 1, m + 1, by go_num, by omega, fun i h hi => ?_, rfl⟩
                    by_cases hik : i = k
                    · subst hik
                      exact ⟨⟨by rw [unhide HS]; exact unhide hfree, by rw [unhide HS]; exact unhide hbs⟩, unhide hBe rfl⟩
                    · exact unhide hup i h (by omega)
                  case measure => simp [intOf]; omega
                · go_wp2
                  go_ret
                  exact ⟨false, rfl, by simp, m + 1, rfl⟩
          · have f1 : (1 : Int) ≤ (S.size : Int) := by omega
            have f2 : (S.size : Int) - 1 < (S.size : Int) := by omega
            have f4 : (((k : Int) == (l.length : Int) - 1) = true) ∨ (((k : Int) == (l.length : Int) - 1) = false) := by cases ((k : Int) == (l.length : Int) - 1) <;> simp
            rcases f4 with f4 | f4
            all_goals
              go_wp2
              go_ret
              exact ⟨false, rfl, by simp, m, rfl⟩
    · have hkl : k = l.length := by omega
      subst hkl
      go_wp2
      go_ret
      exact ⟨true, rfl, fun _ => unhide hup, m, rfl⟩
end Go.Proofs.Ytncccheaeghbiaa
