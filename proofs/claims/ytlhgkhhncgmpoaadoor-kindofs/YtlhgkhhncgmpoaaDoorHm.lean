/-
  The walk of KindNames.
-/
import Derived.Test.YtlhgkhhncgmpoaaDoorHk
import Derived.Test.YtlhgkhhncgmpoaaDoorHd
import Derived.Deep.LoopGhost
namespace Go.Proofs.YtlhgkhhncgmpoaaDoor
open Go Go.RowKit Go.Shelf
set_option linter.unusedVariables false
set_option linter.unusedSimpArgs false

theorem stg_one (W : World) (s : ByteArray) : StG (W.alloc (.cells #[.string s] 9)).heap.size (W.alloc (.cells #[.string s] 9)) (.slice (some ⟨W.heap.size, 0, none⟩) 1 1) [s.data.toList] := by
  refine ⟨_, _, rfl, fun i hi => ⟨W.heap.size, 0, rfl, by simp, ?_⟩⟩
  obtain rfl : i = 0 := by simp at hi; omega
  rw [World.cell?, World.alloc_heap_new]
  rfl
theorem stg_two (W : World) (a b : ByteArray) : StG (W.alloc (.cells #[.string a, .string b] 9)).heap.size (W.alloc (.cells #[.string a, .string b] 9)) (.slice (some ⟨W.heap.size, 0, none⟩) 2 2) [a.data.toList, b.data.toList] := by
  refine ⟨_, _, rfl, fun i hi => ⟨W.heap.size, 0, rfl, by simp, ?_⟩⟩
  obtain rfl | rfl : i = 0 ∨ i = 1 := by simp at hi; omega
  all_goals (rw [World.cell?, World.alloc_heap_new]; rfl)
theorem StG.drew {B : Nat} {W : World} {v : Value} {l : List (List UInt8)} (h : StG B W v l) : StG B W.drew v l := h
set_option maxRecDepth 100000 in
set_option maxHeartbeats 4000000 in
theorem names_core (s : ByteArray) (k : Int) (turned : Bool) (w : World) (hs : s.size ≤ 100) (h0 : s.toList.isEmpty = false) (hk0 : (k == 0) = false)
    (hsp : ∀ (j : Nat) (h : j < s.size), (s[j] == 32) = decide (j = 8)) (L : List (List UInt8)) (hL : ¬ 8 < s.size → L = [s.data.toList])
    (hL2 : 8 < s.size → L = if turned then [(s.extract 9 s.size).data.toList, (s.extract 0 8).data.toList] else [(s.extract 0 8).data.toList, (s.extract 9 s.size).data.toList])
    (hO : ofM L = (k, 0)) (HN : Hid (∀ W, Calls Tryd.prog 8 #[.int .i64 k] W fun e w' => e = .returned (.string s) ∧ w' = W)) (hmo : Mo w) (hw0 : 0 < w.heap.size) :
    Calls Tryd.prog 4 #[.int .i64 k, .bool turned] w fun e w' => e = .returned (.bool true) ∧ Below w.heap.size w w' := by
  have HH := veil (kshown_any w)
  have HMO := veil hmo
  have HS := veil hsp
  have HL := veil hL
  have HL2 := veil hL2
  have HO := veil hO
  clear hsp hL hL2 hO hmo
  go_enter Tryd.func4, Tryd.ntmps4
  go_wp2_with (first
    | (go_at_call 5; refine (unveil HH).mono ?_; rintro e w' ⟨rfl, hw'⟩; obtain rfl := hw'.symm)
    | (go_at_call 8; refine (unveil HN _).mono ?_; rintro e w' ⟨rfl, hw'⟩; obtain rfl := hw'.symm))
  go_loopw [7, 8] (fun v i wr => ∃ (j : Nat) (q : Option Addr) (cap : Nat) (M : List (List UInt8)), i = .int .i64 j ∧ j ≤ s.size ∧ v = .slice q M.length cap ∧ M.length ≤ 2 ∧ Hid (StG wr.heap.size wr (.slice q M.length cap) M) ∧ Hid (if j ≤ 8 then M = [s.data.toList] else M = L) ∧ Hid (Below w.heap.size w wr) ∧ w.heap.size ≤ wr.heap.size)
    (fun v i wr => s.size - (intOf i).toNat)
  case atStart => exact ⟨0, _, _, [s.data.toList], rfl, Nat.zero_le _, rfl, by simp, stg_one w s, by simp [Hid], (Below.refl _ w).alloc (Nat.le_refl _) _, by simp⟩
  case round =>
    obtain ⟨j, q, cap, M, rfl, hj, rfl, hM, hG, hq, hb, hsz⟩ := hrel
    by_cases hlt : j < s.size
    · have hc := unveil HS j hlt
      by_cases h8 : j = 8
      · subst h8
        have hc' : (s[8] == 32) = true := by rw [hc]; rfl
        have hbyte : ((s[8].toNat : Int) == 32) = true := by
          have : s[8] = 32 := by simpa using hc'
          rw [this]; rfl
        clear hc hc'
        cases turned
        · have hl2 := unveil HL2 hlt
          rw [if_neg (by decide)] at hl2
          have HF := veil hl2
          clear hl2
          go_wp2
          go_region
          all_goals (
            go_wp2
            go_roundw
            case rel => exact ⟨9, _, _, [(s.extract 0 8).data.toList, (s.extract 9 s.size).data.toList], by go_num, by omega, rfl, by simp, (stg_two wr _ _).drew, by rw [Hid, if_neg (by decide)]; exact (unveil HF).symm, drewK ((unveil hb).alloc hsz _), by simp; omega⟩
            case measure => simp [intOf]; omega)
        · have hl2 := unveil HL2 hlt
          rw [if_pos rfl] at hl2
          have HF := veil hl2
          clear hl2
          go_wp2
          go_region
          all_goals (
            have hb1 := veil (drewK ((unveil hb).alloc hsz (.cells #[.string (s.extract 0 8), .string (s.extract 9 s.size)] 9)))
            have hz1 : w.heap.size ≤ (wr.alloc (.cells #[.string (s.extract 0 8), .string (s.extract 9 s.size)] 9)).drew.heap.size := (unveil hb1).size
            generalize (wr.alloc (.cells #[.string (s.extract 0 8), .string (s.extract 9 s.size)] 9)).drew = W1 at *
            go_wp2
            go_region
            all_goals (
              go_wp2
              go_roundw
              case rel => exact ⟨9, _, _, [(s.extract 9 s.size).data.toList, (s.extract 0 8).data.toList], by go_num, by omega, rfl, by simp, (stg_two W1 _ _).drew, by rw [Hid, if_neg (by decide)]; exact (unveil HF).symm, drewK ((unveil hb1).alloc hz1 _), by simp; omega⟩
              case measure => simp [intOf]; omega))
      · have hbyte : ((s[j].toNat : Int) == 32) = false := by
          have : (s[j] == 32) = false := by rw [hc]; simp [h8]
          rw [beq_eq_false_iff_ne] at this ⊢
          intro e
          apply this
          apply UInt8.toNat_inj.1
          have : s[j].toNat = 32 := by omega
          exact this
        clear hc
        go_wp2
        go_roundw
        case rel => exact ⟨j + 1, q, cap, M, by go_num, by omega, rfl, hM, hG, by
          have := unveil hq
          show if j + 1 ≤ 8 then M = [s.data.toList] else M = L
          by_cases h9 : j ≤ 8
          · rw [if_pos h9] at this
            rw [if_pos (by omega)]
            exact this
          · rw [if_neg h9] at this
            rw [if_neg (by omega)]
            exact this, hb, hsz⟩
        case measure => simp [intOf]; omega
    · have hML : M = L := by
        have := unveil hq
        by_cases h9 : j ≤ 8
        · rw [if_pos h9] at this
          rw [this, unveil HL (by omega)]
        · rw [if_neg h9] at this
          exact this
      have hOf := Of_any q cap M wr (by omega) (unveil hG) ((unveil HMO).below (unveil hb) hw0) (by omega)
      rw [hML, unveil HO] at hOf
      rw [← hML] at hOf
      have HOF := veil hOf
      clear hOf hML
      go_wp2_with (go_at_call 6; refine (unveil HOF).mono ?_; rintro e W2 ⟨rfl, hb2⟩)
      go_ret
      exact ⟨by simp, (unveil hb).trans (hb2.mono hsz)⟩
end Go.Proofs.YtlhgkhhncgmpoaaDoor
