/-
  Package shape: sameField, EqualFunc of members, Same.
-/
import Derived.Test.YtaffldhmgifdoaaWe
namespace Go.Proofs.Ytaffldhmgifdoaa
open Go Go.RowKit Go.Shelf
set_option linter.unusedVariables false
set_option linter.unusedSimpArgs false

def sfM (d : Nat) (f g : FdOf ShT) : Bool := f.nm == g.nm && f.bits == g.bits && samM d f.t g.t
set_option maxRecDepth 100000 in
set_option maxHeartbeats 8000000 in
theorem sameField_any (d : Nat) (hS : SamC 31 d) (f g : FdOf ShT) (w : World) (hd : SizeOf.sizeOf f.t < d) (ha : f.t.In w.heap.size w) (hb : g.t.In w.heap.size w) (la : f.t.Len) (lb : g.t.Len) :
    Calls Try.prog 61 #[f.v, g.v] w fun e w' => e = .returned (.bool (sfM d f g)) ∧ Below w.heap.size w w' := by
  have HS : Hid (∀ o1 o2, Calls Try.prog 31 #[f.t.v, g.t.v] ((w.alloc o1).alloc o2) fun e w' => e = .returned (.bool (samM d f.t g.t)) ∧ Below ((w.alloc o1).alloc o2).heap.size ((w.alloc o1).alloc o2) w') := fun o1 o2 =>
    hS _ _ _ hd ((ha.below (below_new2 w o1 o2)).mono (by simp; omega)) ((hb.below (below_new2 w o1 o2)).mono (by simp; omega)) la lb
  have HB := veil (below_new2 w)
  have HBT : Hid (∀ o1 o2 W, Below ((w.alloc o1).alloc o2).heap.size ((w.alloc o1).alloc o2) W → Below w.heap.size w W) := fun o1 o2 W h => (below_new2 w o1 o2).trans (h.mono (by simp; omega))
  clear hS ha hb la lb hd
  unfold sfM
  obtain ⟨nm, t, bi⟩ := f
  obtain ⟨nm', t', bi'⟩ := g
  simp only at *
  generalize samM d t t' = S at *
  unfold FdOf.v FdOf.cs ShT.v ShT.cs at *
  simp only at *
  by_cases hn : nm = nm'
  · subst hn
    by_cases hbi : bi = bi'
    · subst hbi
      go_enter Try.func61, Try.ntmps61
      go_wp2_with (go_at_call 31; refine (unveil HS _ _).mono ?_; rintro e w' ⟨rfl, hw'⟩)
      go_ret
      exact ⟨by simp, unveil HBT _ _ _ hw'⟩
    · have hb2 : (bi == bi') = false := by simpa using hbi
      go_enter Try.func61, Try.ntmps61
      go_wp2_with fail
      go_ret
      exact ⟨by simp [hb2], unveil HB _ _⟩
  · have hn2 : (nm == nm') = false := by simpa using hn
    go_enter Try.func61, Try.ntmps61
    go_wp2_with fail
    go_ret
    exact ⟨by simp [hn2], unveil HB _ _⟩
set_option maxRecDepth 100000 in
set_option maxHeartbeats 8000000 in
theorem equalFields_any (d : Nat) (hS : SamC 31 d) (a b : ShT) (hd : SizeOf.sizeOf a < d + 1) (w : World) (ha : a.In w.heap.size w) (hb : b.In w.heap.size w) (la : a.Len) (lb : b.Len) :
    Calls Try.prog 60 #[.slice a.fp a.fs.length a.fc, .slice b.fp b.fs.length b.fc, .func (.func 61) #[] #[]] w fun e w' => e = .returned (.bool (all2 (sfM d) a.fs b.fs)) ∧ Below w.heap.size w w' := by
  have HA := veil ha
  have HB := veil hb
  have la1 : a.fs.length ≤ 9223372036854775807 := by have := la.one.2; unfold maxLen at this; omega
  obtain ⟨R, HR⟩ : ∃ R, Hid (all2 (sfM d) a.fs b.fs = R) := ⟨_, rfl⟩
  rw [unveil HR]
  have HSM : Hid (∀ (i : Nat) (h : i < a.fs.length) (h' : i < b.fs.length) W, Below w.heap.size w W → Calls Try.prog 61 #[a.fs[i].v, b.fs[i].v] W fun e w' => e = .returned (.bool (sfM d a.fs[i] b.fs[i])) ∧ Below W.heap.size W w') := fun i h h' W hW => by
    have hma := List.getElem_mem h
    have hmb := List.getElem_mem h'
    refine sameField_any d hS _ _ W (by have := sz_fs hma; omega) ?_ ?_ (la.part (fs_part hma)) (lb.part (fs_part hmb))
    · exact ((parts_in (ha.below hW) (fs_part hma))).mono hW.size
    · exact ((parts_in (hb.below hW) (fs_part hmb))).mono hW.size
  clear ha hb hS
  by_cases hl : a.fs.length = b.fs.length
  · have hne : ((a.fs.length : Int) != (b.fs.length : Int)) = false := by simp [hl]
    have HL := veil hl
    clear hl
    go_enter Try.func60, Try.ntmps60
    go_wp2_with fail
    go_loopw [17] (fun i wr => ∃ (k : Nat), i = .int .i64 k ∧ k ≤ a.fs.length ∧ Hid (∀ (i : Nat) (h : i < a.fs.length) (h' : i < b.fs.length), i < k → sfM d a.fs[i] b.fs[i] = true) ∧ Hid (Below w.heap.size w wr))
      (fun i wr => a.fs.length - (intOf i).toNat)
    case atStart => exact ⟨0, rfl, Nat.zero_le _, fun i _ _ h => absurd h (Nat.not_lt_zero _), Below.refl _ _⟩
    case round =>
      obtain ⟨k, rfl, hk, hall, hbe⟩ := hrel
      by_cases hkl : k < a.fs.length
      · have hkb : k < b.fs.length := by have := unveil HL; omega
        obtain ⟨g, o, hop, hg, hco, hxx1, _⟩ := ((unveil HA).below (unveil hbe)).fs k hkl
        obtain ⟨c0, c1, c2, c3, c4, c5, c6, c7, c8⟩ := nine hco
        obtain ⟨g', o', hop', hg', hco', hxx2, _⟩ := ((unveil HB).below (unveil hbe)).fs k hkb
        obtain ⟨e0, e1, e2, e3, e4, e5, e6, e7, e8⟩ := nine hco'
        have HS1 : Hid (∀ o1 o2, Calls Try.prog 61 #[a.fs[k].v, b.fs[k].v] ((wr.alloc o1).alloc o2) fun e w' => e = .returned (.bool (sfM d a.fs[k] b.fs[k])) ∧ Below ((wr.alloc o1).alloc o2).heap.size ((wr.alloc o1).alloc o2) w') := fun o1 o2 =>
          unveil HSM k hkl hkb _ (((unveil hbe).alloc (unveil hbe).size o1).alloc (by have := (unveil hbe).size; simp; omega) o2)
        have HBY : Hid (∀ o1 o2 W, Below ((wr.alloc o1).alloc o2).heap.size ((wr.alloc o1).alloc o2) W → Below w.heap.size w W) := fun o1 o2 W h => (((unveil hbe).alloc (unveil hbe).size o1).alloc (by have := (unveil hbe).size; simp; omega) o2).trans (h.mono (by have := (unveil hbe).size; simp; omega))
        have hlt1 : g < wr.heap.size := World.block_lt_of_cell? wr _ c0
        have hlt2 : g' < wr.heap.size := World.block_lt_of_cell? wr _ e0
        obtain ⟨F, hF⟩ : ∃ F, sfM d a.fs[k] b.fs[k] = F := ⟨_, rfl⟩
        have HFF := veil hF
        rw [hF] at HS1
        unfold FdOf.v FdOf.cs at HS1
        rw [hop, hop']
        clear hco hco' hF hop hop' hxx1 hxx2
        cases F
        · go_wp2_with (go_at_call 61; refine (unveil HS1 _ _).mono ?_; rintro e w' ⟨rfl, hw'⟩)
          go_ret
          refine ⟨?_, unveil HBY _ _ _ hw'⟩
          rw [← unveil HR, all2_at k hkl hkb (unveil HFF)]
          rfl
        · go_wp2_with (go_at_call 61; refine (unveil HS1 _ _).mono ?_; rintro e w' ⟨rfl, hw'⟩)
          go_roundw
          case rel =>
            refine ⟨k + 1, by go_num, by omega, fun i h h' hi => ?_, unveil HBY _ _ _ hw'⟩
            by_cases hik : i < k
            · exact unveil hall i h h' hik
            · obtain rfl : i = k := by omega
              exact unveil HFF
          case measure => simp [intOf]; omega
      · obtain rfl : k = a.fs.length := by omega
        go_wp2_with fail
        go_ret
        refine ⟨?_, unveil hbe⟩
        rw [← unveil HR, all2_yes (unveil HL) (fun i h h' => unveil hall i h h' h)]
        rfl
  · have hne : ((a.fs.length : Int) != (b.fs.length : Int)) = true := by simp; omega
    go_enter Try.func60, Try.ntmps60
    go_wp2_with fail
    go_ret
    refine ⟨?_, Below.refl _ _⟩
    rw [← unveil HR, all2_len hl]
    rfl
end Go.Proofs.Ytaffldhmgifdoaa
