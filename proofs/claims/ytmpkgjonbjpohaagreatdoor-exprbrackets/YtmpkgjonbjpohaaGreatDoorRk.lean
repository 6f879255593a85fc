/-
  Package arith: told, Binary, Sign, asks, shifts, reckonedIn, Result: as later layers call them.
-/
import Derived.Test.YtmpkgjonbjpohaaGreatDoorHb
import Derived.Deep.MidRow
import Derived.Laws.StructEq
import Derived.BigRegion
import Derived.Deep.RegionWith
import Derived.Deep.DeepCutAuto
namespace Go.Proofs.YtmpkgjonbjpohaaGreatDoor
open Go Go.RowKit
set_option linter.unusedVariables false
set_option linter.unusedSimpArgs false
theorem heap_newW (w : World) (o : Obj) : (w.alloc o).heap[w.heap.size]? = some o := (MapKept.heap_alloc w _).1
theorem below_newW (w : World) (o : Obj) : Below w.heap.size w (w.alloc o) := (Below.refl _ w).alloc (Nat.le_refl _) o
def ofM (op : Int) : Int := if 1 ≤ op ∧ op ≤ 14 then 2 else if 15 ≤ op ∧ op ≤ 17 then 1 else 0
def shiM (op : Int) : Bool := op == 6 || op == 7
def askM (op : Int) : Bool := op == 11 || op == 12 || op == 13 || op == 14 || op == 17
def sigM (op : Int) : List UInt8 := if op == 1 then [43] else if op == 2 then [45] else if op == 3 then [42] else if op == 4 then [47] else if op == 5 then [37] else if op == 6 then [60, 60] else if op == 7 then [62, 62] else if op == 8 then [38] else if op == 9 then [94] else if op == 10 then [124] else if op == 11 then [60] else if op == 12 then [60, 61] else if op == 13 then [61, 61] else if op == 14 then [33, 61] else if op == 15 then [45] else if op == 16 then [126] else if op == 17 then [33] else []
set_option maxRecDepth 100000 in
set_option maxHeartbeats 1000000 in
theorem shifts_any (op : Int) (w : World) : Calls Tryz.prog 102 #[.int .i64 op] w fun e w' => e = .returned (.bool (shiM op)) ∧ w' = w := by
  unfold shiM
  cases h1 : op == 6
  · go_enter Tryz.func102, Tryz.ntmps102
    go_wp2
    go_ret
    exact ⟨by simp, rfl⟩
  · go_enter Tryz.func102, Tryz.ntmps102
    go_wp2
    go_ret
    exact ⟨by simp, rfl⟩
set_option maxRecDepth 100000 in
set_option maxHeartbeats 1000000 in
theorem asks_any (op : Int) (w : World) : Calls Tryz.prog 70 #[.int .i64 op] w fun e w' => e = .returned (.bool (askM op)) ∧ w' = w := by
  have h : op = 11 ∨ op = 12 ∨ op = 13 ∨ op = 14 ∨ op = 17 ∨ ((op == 11) = false ∧ (op == 12) = false ∧ (op == 13) = false ∧ (op == 14) = false ∧ (op == 17) = false) := by
    simp only [beq_eq_false_iff_ne, ne_eq]; omega
  rcases h with rfl | rfl | rfl | rfl | rfl | ⟨h1, h2, h3, h4, h5⟩
  all_goals (
    go_enter Tryz.func70, Tryz.ntmps70
    go_wp2
    go_ret
    refine ⟨?_, rfl⟩
    first | rfl | simp [askM, *])
/-- The operators' table, as the program's text lays it: cell 2 k the sign, cell 2 k + 1 of how many. -/
def Ops (W : World) : Prop := ∀ k : Nat, k < 18 → W.cell? ⟨0, k * 2, none⟩ = some (.string ⟨(sigM k).toArray⟩) ∧ W.cell? ⟨0, k * 2 + 1, none⟩ = some (.int .i64 (ofM k))
theorem Ops.below {W W' : World} {B : Nat} (h : Ops W) (hb : Below B W W') (hB : 0 < B) : Ops W' := fun k hk =>
  ⟨(hb.cell (p := ⟨0, k * 2, none⟩) hB).trans (h k hk).1, (hb.cell (p := ⟨0, k * 2 + 1, none⟩) hB).trans (h k hk).2⟩
theorem res_o {f : Func} {k : Nat} {tmps : Array Value} {w : World} {R : Nat} {cs : Array Value} (hr : f.results = #[.cell k 109]) (hp : tmps.getD k undef = .pointer (some ⟨R, 0, none⟩)) (hg : w.heap[R]? = some (.cells cs 109 (0, 0))) (hz : cs.size = 2) :
    (results f tmps).run Tryz.prog w = .ok (.agg cs) w := by
  have hi : (Tryz.prog.info? 109).map (·.size) = some cs.size := by rw [hz]; kernel_rfl
  have hp' : tmps[k]?.getD undef = .pointer (some ⟨R, 0, none⟩) := by simpa using hp
  simp [results, hr, hp', asAddr, run_loadVar_row w R 109 109 cs (0, 0) _ hg Tryz.underlying109 rfl hi]
theorem sig_none (op : Int) (h : op < 0 ∨ 18 ≤ op) : sigM op = [] ∧ ofM op = 0 := by
  refine ⟨?_, ?_⟩
  · have k : ∀ n : Int, 0 ≤ n → n < 18 → (op == n) = false := by intro n _ _; simp only [beq_eq_false_iff_ne, ne_eq]; omega
    simp [sigM, k]
  · unfold ofM; rw [if_neg (by omega), if_neg (by omega)]
set_option maxRecDepth 100000 in
set_option maxHeartbeats 1000000 in
theorem told_any (op : Int) (w : World) (hO : Ops w) (hw : 0 < w.heap.size) : Calls Tryz.prog 68 #[.int .i64 op] w fun e w' => e = .returned (.agg #[.string ⟨(sigM op).toArray⟩, .int .i64 (ofM op)]) ∧ Below w.heap.size w w' := by
  by_cases h0 : op < 0
  · obtain ⟨e1, e2⟩ := sig_none op (by omega)
    rw [e1, e2]
    clear e1 e2
    go_enter Tryz.func68, Tryz.ntmps68
    go_wp2
    exact bodyPost_ret (res_o (f := Tryz.f68) rfl rfl (heap_newW w _) rfl) rfl ⟨rfl, below_newW w _⟩
  · by_cases h1 : op < 18
    · obtain ⟨k, rfl⟩ := Int.eq_ofNat_of_zero_le (by omega : 0 ≤ op)
      obtain ⟨c0, c1⟩ := hO k (by omega)
      generalize (⟨(sigM k).toArray⟩ : ByteArray) = S at *
      generalize ofM k = T at *
      have hk : (k : Int) < 18 := h1
      clear hO
      go_enter Tryz.func68, Tryz.ntmps68
      go_wp2
      exact bodyPost_ret (res_o (f := Tryz.f68) rfl rfl (heap_newW w _) rfl) rfl ⟨rfl, below_newW w _⟩
    · obtain ⟨e1, e2⟩ := sig_none op (by omega)
      rw [e1, e2]
      clear e1 e2
      go_enter Tryz.func68, Tryz.ntmps68
      go_wp2
      exact bodyPost_ret (res_o (f := Tryz.f68) rfl rfl (heap_newW w _) rfl) rfl ⟨rfl, below_newW w _⟩
theorem fldO0 (a b : Value) (W : World) : (Instr.field 109 (.agg #[a, b]) 0).run Tryz.prog W = .ok a W := by kernel_rfl
theorem fldO1 (a b : Value) (W : World) : (Instr.field 109 (.agg #[a, b]) 1).run Tryz.prog W = .ok b W := by kernel_rfl
set_option maxRecDepth 100000 in
set_option maxHeartbeats 1000000 in
theorem Binary_any (op : Int) (w : World) (hO : Ops w) (hw : 0 < w.heap.size) : Calls Tryz.prog 52 #[.int .i64 op] w fun e w' => e = .returned (.bool (ofM op == 2)) ∧ Below w.heap.size w w' := by
  have HT := veil (told_any op w hO hw)
  clear hO hw
  generalize (⟨(sigM op).toArray⟩ : ByteArray) = S at *
  generalize ofM op = T at *
  have hf := fldO1 (.string S) (.int .i64 T)
  go_enter Tryz.func52, Tryz.ntmps52
  go_wp2_with fail
  refine (unveil HT).mono ?_
  rintro e W ⟨rfl, hb⟩
  have HB := veil hb
  clear hb
  go_wp2
  go_ret
  exact ⟨rfl, unveil HB⟩
set_option maxRecDepth 100000 in
set_option maxHeartbeats 1000000 in
theorem Sign_any (op : Int) (w : World) (hO : Ops w) (hw : 0 < w.heap.size) : Calls Tryz.prog 40 #[.int .i64 op] w fun e w' => e = .returned (.string ⟨(sigM op).toArray⟩) ∧ Below w.heap.size w w' := by
  have HT := veil (told_any op w hO hw)
  clear hO hw
  generalize (⟨(sigM op).toArray⟩ : ByteArray) = S at *
  generalize ofM op = T at *
  have hf := fldO0 (.string S) (.int .i64 T)
  go_enter Tryz.func40, Tryz.ntmps40
  go_wp2_with fail
  refine (unveil HT).mono ?_
  rintro e W ⟨rfl, hb⟩
  have HB := veil hb
  clear hb
  go_wp2
  go_ret
  exact ⟨rfl, unveil HB⟩
/-- The kind in which is reckoned, and the error. -/
def inK (op a b : Int) : Int := if ofM op == 2 then (if shiM op && kiM a && kiM b then proM a else usuM a b) else proM a
def inE (op a b : Int) : Int := if ofM op == 2 then uerM a b else erM a
set_option maxRecDepth 100000 in
set_option maxHeartbeats 1000000 in
theorem reckonedIn_any (op a b : Int) (w : World) (hO : Ops w) (hw : 0 < w.heap.size) : Calls Tryz.prog 69 #[.int .i64 op, .int .i64 a, .int .i64 b] w fun e w' => e = .returned (.tuple #[.int .i64 (inK op a b), .int .i64 (inE op a b)]) ∧ Below w.heap.size w w' := by
  have HT := veil (Binary_any op w hO hw)
  have HP := veil (Promoted_any a)
  have HU := veil (Usual_any a b)
  have HS := veil (shifts_any op)
  clear hO hw
  unfold inK inE
  unfold uerM at HU ⊢
  generalize (ofM op == 2) = T at *
  generalize shiM op = SH at *
  cases T
  · generalize proM a = P at *
    generalize erM a = E at *
    go_enter Tryz.func69, Tryz.ntmps69
    go_wp2_with fail
    refine (unveil HT).mono ?_
    rintro e W ⟨rfl, hb⟩
    have HB := veil hb
    clear hb
    go_wp2_with (go_at_call 101; refine (unveil HP _).mono ?_; rintro e w' ⟨rfl, hw'⟩; obtain rfl := hw'.symm)
    go_ret2
    exact ⟨by simp, unveil HB⟩
  · have e1 : (SH && kiM a && kiM b) = (SH && (kiM a && kiM b)) := Bool.and_assoc _ _ _
    rw [e1]
    clear e1
    have e2 : (kiM a && kiM b) = true → erM a = 0 := by intro h; rw [Bool.and_eq_true] at h; simp [erM, h.1]
    generalize usuM a b = Y at *
    generalize (kiM a && kiM b) = K at *
    generalize proM a = P at *
    cases K
    · generalize erM a = E at *
      go_enter Tryz.func69, Tryz.ntmps69
      go_wp2_with fail
      refine (unveil HT).mono ?_
      rintro e W ⟨rfl, hb⟩
      have HB := veil hb
      clear hb
      go_wp2_with (first
        | (go_at_call 86; refine (unveil HU _).mono ?_; rintro e w' ⟨rfl, hw'⟩; obtain rfl := hw'.symm))
      go_ret2
      exact ⟨by simp, unveil HB⟩
    · rw [e2 rfl] at HP
      clear e2
      cases SH
      all_goals (
        go_enter Tryz.func69, Tryz.ntmps69
        go_wp2_with fail
        refine (unveil HT).mono ?_
        rintro e W ⟨rfl, hb⟩
        have HB := veil hb
        clear hb
        go_wp2_with (first
          | (go_at_call 86; refine (unveil HU _).mono ?_; rintro e w' ⟨rfl, hw'⟩; obtain rfl := hw'.symm)
          | (go_at_call 101; refine (unveil HP _).mono ?_; rintro e w' ⟨rfl, hw'⟩; obtain rfl := hw'.symm)
          | (go_at_call 102; refine (unveil HS _).mono ?_; rintro e w' ⟨rfl, hw'⟩; obtain rfl := hw'.symm))
        go_ret2
        exact ⟨by simp, unveil HB⟩)
/-- The kind of an operator's value, and the error. -/
def resK (op a b : Int) : Int := if ofM op == 0 then 0 else if inE op a b == 0 && askM op then 5 else inK op a b
def resE (op a b : Int) : Int := if ofM op == 0 then 2 else inE op a b
set_option maxRecDepth 100000 in
set_option maxHeartbeats 1000000 in
theorem Result_any (op a b : Int) (w : World) (hO : Ops w) (hw : 0 < w.heap.size) : Calls Tryz.prog 34 #[.int .i64 op, .int .i64 a, .int .i64 b] w fun e w' => e = .returned (.tuple #[.int .i64 (resK op a b), .int .i64 (resE op a b)]) ∧ Below w.heap.size w w' := by
  have HT := veil (told_any op w hO hw)
  have HR : Hid (∀ W, Below w.heap.size w W → Calls Tryz.prog 69 #[.int .i64 op, .int .i64 a, .int .i64 b] W fun e w' => e = .returned (.tuple #[.int .i64 (inK op a b), .int .i64 (inE op a b)]) ∧ Below W.heap.size W w') :=
    fun W hb => reckonedIn_any op a b W (hO.below hb hw) (Nat.lt_of_lt_of_le hw hb.size)
  have HA := veil (asks_any op)
  clear hO hw
  unfold resK resE
  generalize (⟨(sigM op).toArray⟩ : ByteArray) = S at *
  generalize ofM op = T at *
  generalize inK op a b = K at *
  generalize inE op a b = E at *
  generalize askM op = Q at *
  have hf := fldO1 (.string S) (.int .i64 T)
  cases hT : T == 0
  · cases hE : E == 0
    · go_enter Tryz.func34, Tryz.ntmps34
      go_wp2_with fail
      refine (unveil HT).mono ?_
      rintro e W ⟨rfl, hb⟩
      have HB := veil hb
      have HR2 := veil (unveil HR W hb)
      clear hb HR
      go_wp2_with fail
      refine (unveil HR2).mono ?_
      rintro e W2 ⟨rfl, hb⟩
      have HB2 := veil ((unveil HB).trans (hb.mono (unveil HB).size))
      clear hb HR2 HB
      go_wp2
      go_ret2
      exact ⟨by simp, unveil HB2⟩
    · cases Q
      all_goals (
        go_enter Tryz.func34, Tryz.ntmps34
        go_wp2_with fail
        refine (unveil HT).mono ?_
        rintro e W ⟨rfl, hb⟩
        have HB := veil hb
        have HR2 := veil (unveil HR W hb)
        clear hb HR
        go_wp2_with fail
        refine (unveil HR2).mono ?_
        rintro e W2 ⟨rfl, hb⟩
        have HB2 := veil ((unveil HB).trans (hb.mono (unveil HB).size))
        clear hb HR2 HB
        go_wp2_with (go_at_call 70; refine (unveil HA _).mono ?_; rintro e w' ⟨rfl, hw'⟩; obtain rfl := hw'.symm)
        go_ret2
        exact ⟨by simp at hE; simp [hE], unveil HB2⟩)
  · go_enter Tryz.func34, Tryz.ntmps34
    go_wp2_with fail
    refine (unveil HT).mono ?_
    rintro e W ⟨rfl, hb⟩
    have HB := veil hb
    clear hb HR
    go_wp2
    go_ret2
    exact ⟨by simp, unveil HB⟩
end Go.Proofs.YtmpkgjonbjpohaaGreatDoor
