/-
  burinlaw05.digits: the walk.
-/
import Derived.Test.YtfghfohlcofdpaaDoorGb
import Derived.Test.YtfghfohlcofdpaaDoorE2
import Derived.Laws.IdiomStrings
namespace Go.Proofs.YtfghfohlcofdpaaDoor
open Go Go.RowKit
set_option linter.unusedVariables false
set_option linter.unusedSimpArgs false

set_option maxRecDepth 100000 in
set_option maxHeartbeats 1000000 in
theorem digits_any (n : Nat) (hn : n < 1048576) (w : World) : Calls Tryd.prog 17 #[.int .i64 (n : Int)] w fun e w' => e = .returned (.string ⟨(dgF 8 n).toArray⟩) ∧ Below w.heap.size w w' := by
  have HD0 : Hid (dgF 8 n = dgF 8 n) := rfl
  generalize hD : dgF 8 n = D at HD0 ⊢
  have HD := hide hD
  clear hD HD0
  go_enter Tryd.func17, Tryd.ntmps17
  go_wp2
  go_loopg [0, 3] 8 (fun gk vn vs wr => ∃ (m : Nat) (t : List UInt8), vn = .int .i64 (m : Int) ∧ vs = .string ⟨t.toArray⟩ ∧ m < 1048576 ∧ t.length + gk ≤ 8 ∧ Hid (m < 10 ^ gk) ∧ Hid ((t = [] ∧ 0 < gk ∧ D = dgF gk m) ∨ (t ≠ [] ∧ D = (if m = 0 then [] else dgF gk m) ++ t)) ∧ Hid (Below w.heap.size w wr))
  case atStart => exact ⟨n, [], rfl, rfl, hn, by simp, by rw [Hid]; omega, .inl ⟨rfl, by decide, (unhide HD).symm⟩, Below.refl _ _⟩
  case round =>
    obtain ⟨m, t, rfl, rfl, hm, htl, HM, HQ, HB⟩ := hrel
    have hzr := (unhide HB).size
    by_cases hgo : t = [] ∨ 0 < m
    · obtain ⟨g, hg⟩ : ∃ g, gk = g + 1 := by
        have h1 := unhide HM
        rcases unhide HQ with ⟨_, h2, _⟩ | ⟨h2, _⟩
        · exact ⟨gk - 1, by omega⟩
        · have hm0 : 0 < m := hgo.resolve_left h2
          cases gk with
          | zero => simp at h1; omega
          | succ g => exact ⟨g, rfl⟩
      have HN : Hid (D = (if m / 10 = 0 then [] else dgF g (m / 10)) ++ (dgt m :: t)) := by
        rw [Hid]
        rcases unhide HQ with ⟨rfl, h2, h3⟩ | ⟨h2, h3⟩
        · rw [h3, hg, dgF]
        · have hm0 : 0 < m := hgo.resolve_left h2
          rw [h3, if_neg (by omega), hg, dgF]
          simp
      have HM2 : Hid (m / 10 < 10 ^ g) := by
        have h1 := unhide HM
        rw [hg, Nat.pow_succ] at h1
        rw [Hid]; omega
      have hcase : (t == []) = true ∨ ((t == []) = false ∧ (0 : Int) < (m : Int)) := by
        rcases hgo with rfl | h
        · exact .inl rfl
        · cases ht : t == []
          · exact .inr ⟨rfl, by omega⟩
          · exact .inl rfl
      clear HM HQ hgo
      have hd1 : ((dgt m).toNat : Int) = 48 + (m : Int) % 10 := by
        have : (dgt m).toNat = 48 + m % 10 := by unfold dgt; rw [UInt8.toNat_ofNat']; omega
        rw [this]; omega
      have hcv : (convert 55 9 (.slice (some ⟨wr.heap.size, 0, none⟩) 1 1)).run Tryd.prog (wr.alloc (.cells #[.int .u8 (48 + (m : Int) % 10)] 5)) = .ok (.string ⟨#[dgt m]⟩) (wr.alloc (.cells #[.int .u8 (48 + (m : Int) % 10)] 5)) :=
        run_convert_bytes_back _ 55 9 5 ⟨wr.heap.size, 0, none⟩ 1 [dgt m] Tryd.underlying55 Tryd.underlying5 Tryd.underlying9 (fun j hj => by
          obtain rfl : j = 0 := by simpa using hj
          simp [Addr.add, hd1])
      have hsa : ∀ W, (Op.stringOp .add ⟨#[dgt m]⟩ ⟨t.toArray⟩).run Tryd.prog W = .ok (.string ⟨(dgt m :: t).toArray⟩) W := fun W => by
        have hz : (⟨t.toArray⟩ : ByteArray).size = t.length := by show t.toArray.size = _; simp
        rw [run_string_add_sum W _ _ (by rw [hz]; show 1 + t.length ≤ _; omega)]
        rw [show (⟨#[dgt m]⟩ : ByteArray) ++ ⟨t.toArray⟩ = ⟨(dgt m :: t).toArray⟩ from ba_app [dgt m] t]
      clear hd1
      rcases hcase with ht | ⟨ht, hm0⟩
      · go_wp2
        subst hg
        go_roundg g
        case measure => omega
        case rel => exact ⟨m / 10, dgt m :: t, by go_num, rfl, by omega, by simp at htl ⊢; omega, HM2, .inr ⟨by simp, unhide HN⟩, (unhide HB).alloc hzr _⟩
      · go_wp2
        subst hg
        go_roundg g
        case measure => omega
        case rel => exact ⟨m / 10, dgt m :: t, by go_num, rfl, by omega, by simp at htl ⊢; omega, HM2, .inr ⟨by simp, unhide HN⟩, (unhide HB).alloc hzr _⟩
    · have ht : (t == []) = false := by cases t with
        | nil => exact absurd (.inl rfl) hgo
        | cons x y => rfl
      have hm0 : ¬ (0 : Int) < (m : Int) := fun h => hgo (.inr (by omega))
      have hfin : D = t := by
        rcases unhide HQ with ⟨h1, _⟩ | ⟨_, h3⟩
        · exact absurd (.inl h1) hgo
        · rw [h3, if_pos (by omega)]; rfl
      subst hfin
      clear HQ HM hgo
      go_wp2
      go_ret
      exact ⟨rfl, unhide HB⟩
end Go.Proofs.YtfghfohlcofdpaaDoor
