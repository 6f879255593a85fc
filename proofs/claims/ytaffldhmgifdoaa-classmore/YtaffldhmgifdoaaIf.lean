/-
  Package class: up, inMemory, address, fits.
-/
import Derived.Test.YtaffldhmgifdoaaIc
namespace Go.Proofs.Ytaffldhmgifdoaa
open Go Go.RowKit Go.Shelf
attribute [local go_sem] Oper.semAt_some
set_option linter.unusedVariables false
set_option linter.unusedSimpArgs false

set_option maxRecDepth 100000 in
set_option maxHeartbeats 4000000 in
theorem up12_any (n m : Int) (w : World) (h0 : 0 ≤ n) (h1 : n ≤ 1099511627776) (hm : 1 ≤ m) (hm2 : m ≤ 1099511627776) :
    Calls Try.prog 83 #[.int .i64 n, .int .i64 m] w fun e w' => e = .returned (.int .i64 (upM n m)) ∧ w' = w := by
  have hz : ¬ m = 0 := by omega
  have hq : (n + m - 1).tdiv m = (n + m - 1) / m := Int.tdiv_eq_ediv_of_nonneg (by omega)
  obtain ⟨u1, u2, _⟩ := upM_le h0 hm
  unfold upM at *
  have hq0 : 0 ≤ (n + m - 1) / m := Int.ediv_nonneg (by omega) (by omega)
  have hq1 : (n + m - 1) / m ≤ n + m - 1 := Int.ediv_le_self _ (by omega)
  go_enter Try.func83, Try.ntmps83
  go_wp2
  go_ret
  refine ⟨?_, rfl⟩
  have e1 : wrap64 ((n + m - 1) / m * m) = (n + m - 1) / m * m := by unfold wrap64; omega
  first | (simp [hq, e1]; done) | (simp_all; done)
def memB (l : List Int) : Bool := l.any (fun x => x == 2)
set_option maxRecDepth 100000 in
set_option maxHeartbeats 8000000 in
theorem index_two (l : List Int) (p : Option Addr) (c : Nat) (w : World) (hl : l.length ≤ 1000000) (hs : IsG w.heap.size w p l) :
    Calls Try.prog 123 #[.slice p l.length c, .int .i64 2] w fun e w' => (∃ i : Int, e = .returned (.int .i64 i) ∧ decide (0 ≤ i) = memB l) ∧ w' = w := by
  have HS := veil hs
  clear hs
  go_enter Try.func123, Try.ntmps123
  go_wp2
  go_loopw [8] (fun i wr => ∃ (k : Nat), i = .int .i64 k ∧ k ≤ l.length ∧ Hid (∀ (i : Nat) (h : i < l.length), i < k → (l[i] == 2) = false) ∧ wr = w)
    (fun i wr => l.length - (intOf i).toNat)
  case atStart => exact ⟨0, rfl, Nat.zero_le _, fun i _ h => absurd h (Nat.not_lt_zero _), rfl⟩
  case round =>
    obtain ⟨k, rfl, hk, hall, rfl⟩ := hrel
    by_cases hkl : k < l.length
    · obtain ⟨g, o, rfl, hg, c0⟩ := (unveil HS).at k hkl
      have hkk : (k : Int) < (l.length : Int) := by omega
      obtain ⟨x, hx⟩ : ∃ x, l[k] = x := ⟨_, rfl⟩
      have HX := veil hx
      rw [hx] at c0
      clear hx
      cases hR : (2 : Int) == x
      · go_wp2
        go_roundw
        case rel =>
          refine ⟨k + 1, by go_num, by omega, fun i h hi => ?_, by trivial⟩
          by_cases hik : i < k
          · exact unveil hall i h hik
          · obtain rfl : i = k := by omega
            rw [unveil HX, Bool.eq_false_iff]
            simp only [ne_eq, beq_iff_eq] at hR ⊢
            intro h
            rw [h] at hR
            simp at hR
        case measure => simp [intOf]; omega
      · go_wp2
        go_ret
        refine ⟨⟨_, rfl, ?_⟩, rfl⟩
        have ha : memB l = true := List.any_eq_true.2 ⟨l[k], List.getElem_mem hkl, by rw [unveil HX]; simp at hR ⊢; exact hR.symm⟩
        rw [ha]
        simp
    · obtain rfl : k = l.length := by omega
      go_wp2
      go_ret
      refine ⟨⟨_, rfl, ?_⟩, rfl⟩
      have ha : memB l = false := List.any_eq_false.2 fun x hx => by
        obtain ⟨i, hi, rfl⟩ := List.mem_iff_getElem.1 hx
        rw [unveil hall i hi hi]
        simp
      rw [ha]
      rfl
theorem contains_two (l : List Int) (p : Option Addr) (c : Nat) (w : World) (hl : l.length ≤ 1000000) (hs : IsG w.heap.size w p l) :
    Calls Try.prog 104 #[.slice p l.length c, .int .i64 2] w fun e w' => e = .returned (.bool (memB l)) ∧ w' = w := by
  have HI := veil (index_two l p c w hl hs)
  clear hs
  generalize memB l = A at *
  go_enter Try.func104, Try.ntmps104
  go_wp2_with (go_at_call 123; refine (unveil HI).mono ?_; rintro e w' ⟨⟨i, rfl, hi⟩, hw'⟩; obtain rfl := hw'.symm; have HH := veil hi; clear hi hw')
  go_ret
  refine ⟨?_, rfl⟩
  rw [← unveil HH]
  rfl
def vaC (z a : Int) (p : Option Addr) (n c : Nat) : Array Value := #[.int .i64 z, .int .i64 a, .slice p n c]
set_option maxRecDepth 100000 in
set_option maxHeartbeats 8000000 in
theorem inMemory_any (z a : Int) (l : List Int) (p : Option Addr) (c : Nat) (w : World) (hl : l.length ≤ 1000000) (hs : IsG w.heap.size w p l) :
    Calls Try.prog 80 #[.agg #[.int .i64 z, .int .i64 a, .slice p l.length c]] w fun e w' => e = .returned (.bool (memB l)) ∧ Below w.heap.size w w' := by
  have HC : Hid (∀ o, Calls Try.prog 104 #[.slice p l.length c, .int .i64 2] (w.alloc o) fun e w' => e = .returned (.bool (memB l)) ∧ w' = w.alloc o) := fun o => contains_two l p c _ hl (hs.size (new1_below w o) (by simp))
  clear hs
  have HB := veil (new1_below w)
  generalize memB l = A at *
  go_enter Try.func80, Try.ntmps80
  go_wp2_with (go_at_call 104; refine (unveil HC _).mono ?_; rintro e w' ⟨rfl, hw'⟩; obtain rfl := hw'.symm)
  go_ret
  exact ⟨rfl, unveil HB _⟩
/-- Whether so many registers take all of it. -/
def fitM : Int → List Int → Bool
  | _, [] => true
  | n, c :: r => if c == 2 then false else if c == 1 then (if n - 1 < 0 then false else fitM (n - 1) r) else fitM n r
theorem fit_at {n : Int} {l : List Int} {k : Nat} (h : k < l.length) : fitM n (l.drop k) = if l[k] == 2 then false else if l[k] == 1 then (if n - 1 < 0 then false else fitM (n - 1) (l.drop (k + 1))) else fitM n (l.drop (k + 1)) := by
  rw [List.drop_eq_getElem_cons h, fitM]
set_option maxRecDepth 100000 in
set_option maxHeartbeats 8000000 in
theorem fits_any (z a : Int) (l : List Int) (p : Option Addr) (c : Nat) (w : World) (Pb : Nat) (lv : Value) (us st : Int) (hl : l.length ≤ 1000) (hus : 0 ≤ us ∧ us ≤ 6) (hs : IsG w.heap.size w p l) (hp : Bk w Pb 125 #[lv, .int .i64 us, .int .i64 st]) :
    Calls Try.prog 105 #[.pointer (some ⟨Pb, 0, none⟩), .agg #[.int .i64 z, .int .i64 a, .slice p l.length c]] w fun e w' => e = .returned (.bool (fitM (6 - us) l)) ∧ Below w.heap.size w w' := by
  have HB := veil (new1_below w (.cells #[.int .i64 z, .int .i64 a, .slice p l.length c] 119))
  have HS := veil hs
  have u1 := (hp.alloc (.cells #[.int .i64 z, .int .i64 a, .slice p l.length c] 119)).cell 1
  simp only [List.getElem?_toArray, List.getElem?_cons_succ, List.getElem?_cons_zero] at u1
  have hPl := hp.lt
  obtain ⟨hus0, hus1⟩ := hus
  clear hs hp
  obtain ⟨R, hR⟩ : ∃ R, fitM (6 - us) l = R := ⟨_, rfl⟩
  rw [hR]
  have HR : Hid (fitM (6 - us) (l.drop 0) = R) := hR
  clear hR
  go_enter Try.func105, Try.ntmps105
  go_wp2
  go_step3
  go_wp2
  go_step3
  go_wp2
  have HSa : Hid (IsG w.heap.size (w.alloc (.cells #[.int .i64 z, .int .i64 a, .slice p l.length c] 119)) p l) := (unveil HS).below (unveil HB)
  have hsz : w.heap.size ≤ (w.alloc (.cells #[.int .i64 z, .int .i64 a, .slice p l.length c] 119)).heap.size := (unveil HB).size
  generalize (w.alloc (.cells #[.int .i64 z, .int .i64 a, .slice p l.length c] 119)) = W0 at *
  have HBX : Hid (Below w.heap.size w W0) := HB
  clear u1 HS
  go_loopw [5, 6, 17] (fun lf fv i wr => ∃ (k : Nat) (n : Int), lf = .int .i64 n ∧ fv = .bool true ∧ i = .int .i64 k ∧ k ≤ l.length ∧ -1 ≤ n ∧ n ≤ 6 ∧ Hid (fitM n (l.drop k) = R) ∧ wr = W0) (fun lf fv i wr => l.length - (intOf i).toNat)
  case atStart => exact ⟨0, 6 - us, rfl, rfl, rfl, Nat.zero_le _, by omega, by omega, HR, rfl⟩
  case round =>
    obtain ⟨k, n, rfl, rfl, rfl, hk, hn0, hn1, hfit, rfl⟩ := hrel
    by_cases hkl : k < l.length
    · have hkk : (k : Int) < (l.length : Int) := by omega
      obtain ⟨g, o, rfl, hg, ck⟩ := (unveil HSa).at k hkl
      have hgl : g < wr.heap.size := Nat.lt_of_lt_of_le hg hsz
      have hf := unveil hfit
      rw [fit_at hkl] at hf
      generalize l[k] = x at *
      clear hfit
      cases h2 : x == 2
      · rw [h2] at hf
        simp only [Bool.false_eq_true, if_false] at hf
        cases h1 : x == 1
        · rw [h1] at hf
          simp only [Bool.false_eq_true, if_false] at hf
          have HF := veil hf
          clear hf
          go_wp2
          go_roundw
          case rel => exact ⟨k + 1, n, rfl, rfl, by go_num, by omega, by omega, by omega, HF, by trivial⟩
          case measure => simp [intOf]; omega
        · rw [h1] at hf
          simp only [if_true] at hf
          by_cases hlt : n - 1 < 0
          · rw [if_pos hlt] at hf
            have HF := veil hf
            clear hf
            go_wp2
            rw [Exit.noGoto_ret]
            go_ret
            exact ⟨by first | (rw [← unveil HF]; rfl) | exact congrArg (fun b => Ending.returned (.bool b)) (unveil HF), unveil HBX⟩
          · rw [if_neg hlt] at hf
            have HF := veil hf
            clear hf
            go_wp2
            go_roundw
            case rel => exact ⟨k + 1, (n - 1), rfl, rfl, by go_num, by omega, by omega, by omega, HF, by trivial⟩
            case measure => simp [intOf]; omega
      · rw [h2] at hf
        simp only [if_true] at hf
        have HF := veil hf
        clear hf
        go_wp2
        rw [Exit.noGoto_ret]
        go_ret
        exact ⟨by first | (rw [← unveil HF]; rfl) | exact congrArg (fun b => Ending.returned (.bool b)) (unveil HF), unveil HBX⟩
    · obtain rfl : k = l.length := by omega
      have hf := unveil hfit
      rw [List.drop_length] at hf
      have HF : Hid (true = R) := hf
      clear hf hfit
      go_wp2
      rw [Exit.noGoto_ret]
      go_ret
      exact ⟨by first | (rw [← unveil HF]; rfl) | exact congrArg (fun b => Ending.returned (.bool b)) (unveil HF), unveil HBX⟩
end Go.Proofs.Ytaffldhmgifdoaa
