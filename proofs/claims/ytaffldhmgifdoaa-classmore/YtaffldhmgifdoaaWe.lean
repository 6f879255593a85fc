/-
  Package shape: sameField, EqualFunc of types and of members, Same.
-/
import Derived.Test.YtaffldhmgifdoaaZ6
namespace Go.Proofs.Ytaffldhmgifdoaa
open Go Go.RowKit Go.Shelf
set_option linter.unusedVariables false
set_option linter.unusedSimpArgs false

/-- What Same tells of two types that are no deeper than so much. -/
def SamC (f : Nat) (d : Nat) : Prop := ∀ (a b : ShT) (W : World), SizeOf.sizeOf a < d → a.In W.heap.size W → b.In W.heap.size W → a.Len → b.Len →
  Calls Try.prog f #[a.v, b.v] W fun e w' => e = .returned (.bool (samM d a b)) ∧ Below W.heap.size W w'
set_option maxRecDepth 100000 in
set_option maxHeartbeats 8000000 in
theorem equalTypes_any (d : Nat) (hS : SamC 31 d) (a b : ShT) (hd : SizeOf.sizeOf a < d + 1) (w : World) (ha : a.In w.heap.size w) (hb : b.In w.heap.size w) (la : a.Len) (lb : b.Len) :
    Calls Try.prog 59 #[.slice a.op a.of.length a.oc, .slice b.op b.of.length b.oc, .func (.func 31) #[] #[]] w fun e w' => e = .returned (.bool (all2 (samM d) a.of b.of)) ∧ Below w.heap.size w w' := by
  have HA := veil ha
  have HB := veil hb
  have la1 : a.of.length ≤ 9223372036854775807 := by have := la.one.1; unfold maxLen at this; omega
  obtain ⟨R, HR⟩ : ∃ R, Hid (all2 (samM d) a.of b.of = R) := ⟨_, rfl⟩
  rw [unveil HR]
  have HSM : Hid (∀ (i : Nat) (h : i < a.of.length) (h' : i < b.of.length) W, Below w.heap.size w W → Calls Try.prog 31 #[a.of[i].v, b.of[i].v] W fun e w' => e = .returned (.bool (samM d a.of[i] b.of[i])) ∧ Below W.heap.size W w') := fun i h h' W hW => by
    have hma := List.getElem_mem h
    have hmb := List.getElem_mem h'
    refine hS _ _ W (by have := sz_of hma; omega) ?_ ?_ (la.part (List.mem_append_left _ hma)) (lb.part (List.mem_append_left _ hmb))
    · exact ((parts_in (ha.below hW) (List.mem_append_left _ hma))).mono hW.size
    · exact ((parts_in (hb.below hW) (List.mem_append_left _ hmb))).mono hW.size
  clear ha hb hS
  by_cases hl : a.of.length = b.of.length
  · have hne : ((a.of.length : Int) != (b.of.length : Int)) = false := by simp [hl]
    have HL := veil hl
    clear hl
    go_enter Try.func59, Try.ntmps59
    go_wp2_with fail
    go_loopw [17] (fun i wr => ∃ (k : Nat), i = .int .i64 k ∧ k ≤ a.of.length ∧ Hid (∀ (i : Nat) (h : i < a.of.length) (h' : i < b.of.length), i < k → samM d a.of[i] b.of[i] = true) ∧ Hid (Below w.heap.size w wr))
      (fun i wr => a.of.length - (intOf i).toNat)
    case atStart => exact ⟨0, rfl, Nat.zero_le _, fun i _ _ h => absurd h (Nat.not_lt_zero _), Below.refl _ _⟩
    case round =>
      obtain ⟨k, rfl, hk, hall, hbe⟩ := hrel
      by_cases hkl : k < a.of.length
      · have hkb : k < b.of.length := by have := unveil HL; omega
        obtain ⟨g, o, hop, hg, hco, _⟩ := ((unveil HA).below (unveil hbe)).of k hkl
        obtain ⟨c0, c1, c2, c3, c4, c5, c6⟩ := seven hco
        obtain ⟨g', o', hop', hg', hco', _⟩ := ((unveil HB).below (unveil hbe)).of k hkb
        obtain ⟨e0, e1, e2, e3, e4, e5, e6⟩ := seven hco'
        have HS1 : Hid (∀ o1 o2, Calls Try.prog 31 #[a.of[k].v, b.of[k].v] ((wr.alloc o1).alloc o2) fun e w' => e = .returned (.bool (samM d a.of[k] b.of[k])) ∧ Below ((wr.alloc o1).alloc o2).heap.size ((wr.alloc o1).alloc o2) w') := fun o1 o2 =>
          unveil HSM k hkl hkb _ (((unveil hbe).alloc (unveil hbe).size o1).alloc (by have := (unveil hbe).size; simp; omega) o2)
        have HBY : Hid (∀ o1 o2 W, Below ((wr.alloc o1).alloc o2).heap.size ((wr.alloc o1).alloc o2) W → Below w.heap.size w W) := fun o1 o2 W h => (((unveil hbe).alloc (unveil hbe).size o1).alloc (by have := (unveil hbe).size; simp; omega) o2).trans (h.mono (by have := (unveil hbe).size; simp; omega))
        have hlt1 : g < wr.heap.size := World.block_lt_of_cell? wr _ c0
        have hlt2 : g' < wr.heap.size := World.block_lt_of_cell? wr _ e0
        obtain ⟨F, hF⟩ : ∃ F, samM d a.of[k] b.of[k] = F := ⟨_, rfl⟩
        have HFF := veil hF
        rw [hF] at HS1
        unfold ShT.v ShT.cs at HS1
        rw [hop, hop']
        clear hco hco' hF hop hop'
        cases F
        · go_wp2_with (go_at_call 31; refine (unveil HS1 _ _).mono ?_; rintro e w' ⟨rfl, hw'⟩)
          go_ret
          refine ⟨?_, unveil HBY _ _ _ hw'⟩
          rw [← unveil HR, all2_at k hkl hkb (unveil HFF)]
          rfl
        · go_wp2_with (go_at_call 31; refine (unveil HS1 _ _).mono ?_; rintro e w' ⟨rfl, hw'⟩)
          go_roundw
          case rel =>
            refine ⟨k + 1, by go_num, by omega, fun i h h' hi => ?_, unveil HBY _ _ _ hw'⟩
            by_cases hik : i < k
            · exact unveil hall i h h' hik
            · obtain rfl : i = k := by omega
              exact unveil HFF
          case measure => simp [intOf]; omega
      · obtain rfl : k = a.of.length := by omega
        go_wp2_with fail
        go_ret
        refine ⟨?_, unveil hbe⟩
        rw [← unveil HR, all2_yes (unveil HL) (fun i h h' => unveil hall i h h' h)]
        rfl
  · have hne : ((a.of.length : Int) != (b.of.length : Int)) = true := by simp; omega
    go_enter Try.func59, Try.ntmps59
    go_wp2_with fail
    go_ret
    refine ⟨?_, Below.refl _ _⟩
    rw [← unveil HR, all2_len hl]
    rfl
end Go.Proofs.Ytaffldhmgifdoaa
