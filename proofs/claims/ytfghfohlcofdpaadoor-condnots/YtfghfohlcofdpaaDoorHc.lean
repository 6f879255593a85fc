/-
  burinlaw05: closed, sign.
-/
import Derived.Test.YtfghfohlcofdpaaDoorHb
namespace Go.Proofs.YtfghfohlcofdpaaDoor
open Go Go.RowKit
set_option linter.unusedVariables false
set_option linter.unusedSimpArgs false

set_option maxRecDepth 100000 in
set_option maxHeartbeats 2000000 in
theorem closed_any (p : Option Addr) (cap : Nat) (l : List Gt) (w : World) (hl : l.length ≤ 1000000) (hT : TkG w.heap.size w (.slice p l.length cap) l) :
    Calls Tryd.prog 14 #[.slice p l.length cap] w fun e w' => e = .returned (.bool (clF 0 l)) ∧ w' = w := by
  have HT := hide hT
  have HZ0 : Hid (clF 0 l = clF 0 (l.drop 0)) := rfl
  generalize clF 0 l = Z at *
  clear hT
  go_enter Tryd.func14, Tryd.ntmps14
  go_wp2
  go_loopg [3, 4] l.length (fun gk vd vi wr => ∃ (k d : Nat), gk = l.length - k ∧ vd = .int .i64 (d : Int) ∧ vi = .int .i64 (k : Int) ∧ k ≤ l.length ∧ d ≤ k ∧ Hid (Z = clF d (l.drop k)) ∧ wr = w)
  case atStart => exact ⟨0, 0, rfl, rfl, rfl, by omega, by omega, HZ0, rfl⟩
  case round =>
    clear HZ0
    obtain ⟨k, d, rfl, rfl, rfl, hk, hd, HZ, rfl⟩ := hrel
    by_cases hkl : k < l.length
    · have i1 : (k : Int) < (l.length : Int) := by omega
      obtain ⟨g, o, rfl, hg, a0, a1, a2, a3, a4, a5⟩ := (unhide HT).at k hkl
      have hz := unhide HZ
      rw [List.drop_eq_getElem_cons hkl, clF] at hz
      generalize l[k].s = s at *
      clear a0 a2 a3 a4 a5 HZ HT
      cases h41 : s == [41]
      · rw [h41] at hz
        simp only [Bool.false_eq_true, if_false] at hz
        cases h40 : s == [40]
        · rw [h40] at hz
          simp only [Bool.false_eq_true, if_false] at hz
          have HZ2 := hide hz
          clear hz
          go_wp2
          go_roundg (l.length - (k + 1))
          case measure => omega
          case rel => exact ⟨k + 1, d, rfl, rfl, by go_num, by omega, by omega, HZ2, rfl⟩
        · rw [h40] at hz
          simp only [if_true] at hz
          have HZ2 := hide hz
          clear hz
          go_wp2
          go_roundg (l.length - (k + 1))
          case measure => omega
          case rel => exact ⟨k + 1, d + 1, rfl, by go_num, by go_num, by omega, by omega, HZ2, rfl⟩
      · rw [h41] at hz
        simp only [if_true] at hz
        have h40 : (s == [40]) = false := by
          have : s = [41] := by simpa using h41
          rw [this]; rfl
        by_cases hd0 : d = 0
        · rw [if_pos hd0] at hz
          obtain rfl := hz
          subst hd0
          go_wp2
          go_ret
          exact ⟨rfl, rfl⟩
        · rw [if_neg hd0] at hz
          have HZ2 := hide hz
          clear hz
          have j1 : (1 : Int) ≤ (d : Int) := by omega
          go_wp2
          go_roundg (l.length - (k + 1))
          case measure => omega
          case rel => exact ⟨k + 1, d - 1, rfl, by go_num, by go_num, by omega, by omega, HZ2, rfl⟩
    · have i1 : ¬ (k : Int) < (l.length : Int) := by omega
      have hz := unhide HZ
      rw [List.drop_eq_nil_of_le (by omega), clF] at hz
      have e : (d == 0) = ((d : Int) == 0) := by rw [Bool.eq_iff_iff]; simp
      rw [e] at hz
      obtain rfl := hz
      clear HZ HT
      go_wp2
      go_ret
      exact ⟨rfl, rfl⟩
theorem res_t {f : Func} {k : Nat} {tmps : Array Value} {w : World} {R : Nat} {cs : Array Value} (hr : f.results = #[.cell k 35]) (hp : tmps.getD k undef = .pointer (some ⟨R, 0, none⟩)) (hg : w.heap[R]? = some (.cells cs 35 (0, 0))) (hz : cs.size = 6) :
    (results f tmps).run Tryd.prog w = .ok (.agg cs) w := by
  have hi : (Tryd.prog.info? 35).map (·.size) = some cs.size := by rw [hz]; kernel_rfl
  have hp' : tmps[k]?.getD undef = .pointer (some ⟨R, 0, none⟩) := by simpa using hp
  simp [results, hr, hp', asAddr, run_loadVar_row w R 35 35 cs (0, 0) _ hg Tryd.underlying35 rfl hi]
set_option maxRecDepth 100000 in
set_option maxHeartbeats 2000000 in
theorem sign_any (s : List UInt8) (w : World) : Calls Tryd.prog 16 #[.string ⟨s.toArray⟩] w fun e w' => e = .returned (sgT s).v ∧ Below w.heap.size w w' := by
  go_enter Tryd.func16, Tryd.ntmps16
  go_wp2
  refine bodyPost_ret (res_t (f := Tryd.f16) rfl rfl (World.alloc_heap_new w _) rfl) rfl ⟨rfl, below_new w _⟩
end Go.Proofs.YtfghfohlcofdpaaDoor
