/-
  strings.IndexAny of a text of more than 8 bytes, however long, and two bytes below 128.
-/
import Derived.Test.YtnpjgamfjfmjjaaDoorSp
namespace Go.Proofs.YtnpjgamfjfmjjaaDoor
open Go Go.RowKit Go.Shelf
set_option linter.unusedVariables false
set_option linter.unusedSimpArgs false

theorem contains_x (B : Nat) (x : UInt8) (v : Bool) (w : World) (hc : w.cell? ⟨B, x.toNat, none⟩ = some (.bool v)) :
    Calls Tryd.prog 61 #[.pointer (some ⟨B, 0, none⟩), .int .u8 x.toNat] w fun e w' => e = .returned (.bool v) ∧ w' = w :=
  Any.asciiSet_contains { Tryd.lays150 with } B x v w hc
set_option maxRecDepth 1000000 in
set_option maxHeartbeats 8000000 in
theorem any_long (s : ByteArray) (a b : UInt8) (ha : a.toNat < 128) (hb : b.toNat < 128) (h8 : 8 < s.size) (hs : s.size ≤ 140737488355328) (w : World) :
    Calls Tryd.prog 51 #[.string s, .string ⟨#[a, b]⟩] w fun e w' => e = .returned (.int .i64 (Lib.indexAny s.data.toList [a, b])) ∧ Below w.heap.size w w' := by
  have h116 : (Tryd.prog.info? (Tryd.lays150_ren.t 116)).map (fun i => (i.zero, i.size)) = some (some (.agg (Array.replicate 256 (.bool false))), 256) := by kernel_rfl
  have hM : Calls Tryd.prog 60 #[.string ⟨#[a, b]⟩] w fun e w' => e = .returned (.tuple #[.agg (Lib.setCells [a, b]), .bool true]) ∧ w' = w.alloc (.cells (Lib.setCells [a, b]) (Tryd.lays150_ren.t 116)) :=
    Any.strings_makeASCIISet { Tryd.lays150 with } (zero_of_info h116).1 (zero_of_info h116).2 ⟨#[a, b]⟩ w (by show 2 < _; decide) (fun j c hc => by
      match j, hc with
      | 0, hc => simp at hc; subst hc; exact ha
      | 1, hc => simp at hc; subst hc; exact hb
      | n + 2, hc => simp at hc)
  have h8z : decide ((8 : Int) < (s.size : Int)) = true := decide_eq_true (by omega)
  have HSI : Hid (∀ W, Calls Tryd.prog 59 #[.int .i64 (s.size : Int)] W fun e w' => e = .returned (.bool true) ∧ w' = W) := fun W => by rw [← h8z]; exact should_any _ W
  have hsz := Lib.setCells_size [a, b]
  have ht116 : Tryd.lays150_ren.t 116 = 110 := rfl
  rw [ht116] at hM
  have hsc : ∀ c : Array Value, c.size = 256 → (storeCells ⟨w.heap.size + 1, 0, none⟩ (Lib.setCells [a, b]).toList 0).run Tryd.prog ((w.alloc (.cells (Lib.setCells [a, b]) 110)).alloc (.cells c 110)) = .ok () ((w.alloc (.cells (Lib.setCells [a, b]) 110)).alloc (.cells (Lib.setCells [a, b]) 110)) := fun c hc => by
    have := run_storeCells_new (P := Tryd.prog) (w.alloc (.cells (Lib.setCells [a, b]) 110)) 110 c (Lib.setCells [a, b]) (by rw [hsz]; kernel_rfl) (by rw [hsz, hc]) (Lib.setCells_one _)
    simpa using this
  have HM := hide hM
  clear hM h8z
  have HCE : Hid (∀ x : UInt8, ((w.alloc (.cells (Lib.setCells [a, b]) 110)).alloc (.cells (Lib.setCells [a, b]) 110)).cell? ⟨w.heap.size + 1, x.toNat, none⟩ = some (.bool ([a, b].contains x))) := fun x => by
    rw [World.cell?_alloc_at _ _ _ _ (by simp), Lib.setCells_at]
  have HBE : Hid (Below w.heap.size w ((w.alloc (.cells (Lib.setCells [a, b]) 110)).alloc (.cells (Lib.setCells [a, b]) 110))) := ((Below.refl _ _).alloc (Nat.le_refl _) _).alloc (by simp) _
  obtain ⟨R, hR⟩ : ∃ R, Lib.indexAny s.data.toList [a, b] = R := ⟨_, rfl⟩
  rw [hR]
  have HR := hide hR
  clear hR
  go_enter Tryd.func51, Tryd.ntmps51
  go_wp2_with (first
    | (go_at_call 59; refine (unhide HSI _).mono ?_; rintro e w' ⟨rfl, hw'⟩; obtain rfl := hw'.symm)
    | (go_at_call 60; refine (unhide HM).mono ?_; rintro e W1 ⟨rfl, hW1⟩))
  go_loopg [8] s.size (fun gk i wx => ∃ j : Nat, j + gk = s.size ∧ i = .int .i64 (j : Int) ∧ Hid (∀ x : UInt8, wx.cell? ⟨w.heap.size + 1, x.toNat, none⟩ = some (.bool ([a, b].contains x))) ∧ Hid (Below w.heap.size w wx) ∧ Hid (Lib.NoAny s.data.toList [a, b] j))
  case atStart => exact ⟨0, by omega, rfl, HCE, HBE, Lib.NoAny.zero _ _⟩
  case round =>
    clear HCE HBE
    obtain ⟨j, hjg, rfl, HCE, HBE, HNO⟩ := hrel
    by_cases hlt : j < s.size
    · have i1 : (j : Int) < (s.size : Int) := by omega
      have hxl : s.data.toList[j]? = some (s[j]'hlt) := Lib.data_getElem? s j hlt
      have HCT := hide (contains_x (w.heap.size + 1) (s[j]'hlt) ([a, b].contains (s[j]'hlt)) wr (unhide HCE _))
      have HN2 : Hid ([a, b].contains (s[j]'hlt) = false → Lib.NoAny s.data.toList [a, b] (j + 1)) := fun h => (unhide HNO).succ hxl h
      have HR2 : Hid ([a, b].contains (s[j]'hlt) = true → R = j) := fun h => by rw [← unhide HR]; exact Lib.indexAny_hit (unhide HNO) hxl h
      clear hxl
      cases hin : [a, b].contains (s[j]'hlt)
      · rw [hin] at HCT
        have HN3 := hide (unhide HN2 hin)
        clear hin HN2 HR2 HNO
        go_wp2_with (go_at_call 61; refine (unhide HCT).mono ?_; rintro e w' ⟨rfl, hw'⟩; obtain rfl := hw'.symm)
        go_roundg (s.size - (j + 1))
        case measure => omega
        case rel => exact ⟨j + 1, by omega, by go_num, HCE, HBE, HN3⟩
      · rw [hin] at HCT
        have HR3 := hide (unhide HR2 hin)
        clear hin HN2 HR2 HNO
        go_wp2_with (go_at_call 61; refine (unhide HCT).mono ?_; rintro e w' ⟨rfl, hw'⟩; obtain rfl := hw'.symm)
        go_ret
        exact ⟨by rw [unhide HR3]; rfl, unhide HBE⟩
    · have i1 : ¬ (j : Int) < (s.size : Int) := by omega
      obtain rfl : j = s.size := by omega
      have HR2 : Hid (R = -1) := by rw [Hid, ← unhide HR]; exact Lib.indexAny_none (by rw [← Lib.size_eq]; exact unhide HNO)
      go_wp2
      go_ret
      exact ⟨by rw [unhide HR2]; rfl, unhide HBE⟩
end Go.Proofs.YtnpjgamfjfmjjaaDoor
