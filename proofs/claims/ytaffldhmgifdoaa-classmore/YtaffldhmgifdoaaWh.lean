/-
  The document's own Same: up to the lists.
-/
import Derived.Test.YtaffldhmgifdoaaWg
namespace Go.Proofs.Ytaffldhmgifdoaa
open Go Go.RowKit Go.Shelf
set_option linter.unusedVariables false
set_option linter.unusedSimpArgs false

theorem lenBB (n m : Nat) : ((n : Int) == (m : Int)) = (n == m) := by
  cases h : n == m
  · simp at h ⊢; omega
  · simp at h ⊢; omega
set_option maxRecDepth 100000 in
set_option maxHeartbeats 20000000 in
theorem rsame_step (d : Nat) (hS : SamC 32 d) : SamC 32 (d + 1) := by
  intro a b w hd ha hb la lb
  have HX := veil (tyB_new2 w a b)
  have HW0 := veil (unveil HX _ (Below.refl _ _))
  have hsm : samM (d + 1) a b = (hdM a b && all2 (samM d) a.of b.of && all2 (sfM d) a.fs b.fs) := rfl
  have HSO : Hid (∀ (i : Nat) (h : i < a.of.length) (h' : i < b.of.length) W, Below w.heap.size w W → Calls Try.prog 32 #[a.of[i].v, b.of[i].v] W fun e w' => e = .returned (.bool (samM d a.of[i] b.of[i])) ∧ Below W.heap.size W w') := fun i h h' W hW => by
    have hma := List.getElem_mem h
    have hmb := List.getElem_mem h'
    exact hS _ _ W (by have := sz_of hma; omega) ((parts_in (ha.below hW) (List.mem_append_left _ hma)).mono hW.size) ((parts_in (hb.below hW) (List.mem_append_left _ hmb)).mono hW.size) (la.part (List.mem_append_left _ hma)) (lb.part (List.mem_append_left _ hmb))
  have HSF : Hid (∀ (i : Nat) (h : i < a.fs.length) (h' : i < b.fs.length) W, Below w.heap.size w W → Calls Try.prog 32 #[a.fs[i].t.v, b.fs[i].t.v] W fun e w' => e = .returned (.bool (samM d a.fs[i].t b.fs[i].t)) ∧ Below W.heap.size W w') := fun i h h' W hW => by
    have hma := List.getElem_mem h
    have hmb := List.getElem_mem h'
    exact hS _ _ W (by have := sz_fs hma; omega) ((parts_in (ha.below hW) (fs_part hma)).mono hW.size) ((parts_in (hb.below hW) (fs_part hmb)).mono hW.size) (la.part (fs_part hma)) (lb.part (fs_part hmb))
  obtain ⟨R, HR⟩ : ∃ R, Hid (samM (d + 1) a b = R) := ⟨_, rfl⟩
  rw [unveil HR]
  rw [hsm] at HR
  have la1 : a.of.length ≤ 9223372036854775807 := by have := la.one.1; unfold maxLen at this; omega
  have la2 : a.fs.length ≤ 9223372036854775807 := by have := la.one.2; unfold maxLen at this; omega
  have HA := veil ha
  have HB := veil hb
  clear hS hd ha hb la lb hsm
  obtain ⟨HD, HHD⟩ : ∃ HD, Hid ((hdM a b && (a.of.length == b.of.length) && (a.fs.length == b.fs.length)) = HD) := ⟨_, rfl⟩
  have HRN : Hid (HD = false → R = false) := fun h => by
    rw [← unveil HR]
    have h2 := unveil HHD
    rw [h] at h2
    cases h3 : hdM a b
    · rfl
    · rw [h3, Bool.true_and] at h2
      cases h4 : a.of.length == b.of.length
      · rw [all2_len (by simpa using h4)]; rfl
      · rw [h4, Bool.true_and] at h2
        rw [all2_len (l := a.fs) (by simpa using h2), Bool.and_false]
  have HRY : Hid (HD = true → R = (all2 (samM d) a.of b.of && all2 (sfM d) a.fs b.fs) ∧ a.of.length = b.of.length ∧ a.fs.length = b.fs.length) := fun h => by
    have h2 := unveil HHD
    rw [h] at h2
    simp only [Bool.and_eq_true, beq_iff_eq] at h2
    refine ⟨?_, h2.1.2, h2.2⟩
    rw [← unveil HR, h2.1.1, Bool.true_and]
  unfold hdM at HHD
  rw [← lenBB a.of.length, ← lenBB a.fs.length] at HHD
  unfold ShT.v ShT.cs at HW0 ⊢
  go_enter Try.func32, Try.ntmps32
  go_upto_region 1 with fail
  generalize ((w.alloc (.cells #[.int .i64 a.sh, .int .i64 a.k, .int .i64 a.n, .slice a.op a.of.length a.oc, .slice a.fp a.fs.length a.fc, .bool a.pk, .int .i64 a.al] 25)).alloc (.cells #[.int .i64 b.sh, .int .i64 b.k, .int .i64 b.n, .slice b.op b.of.length b.oc, .slice b.fp b.fs.length b.fc, .bool b.pk, .int .i64 b.al] 25)) = W0 at HW0 ⊢
  obtain ⟨y0, y1, y2, y3, y4, y5, y6⟩ := (unveil HW0).1.seven
  obtain ⟨z0, z1, z2, z3, z4, z5, z6⟩ := (unveil HW0).2.1.seven
  have XB := veil (unveil HW0).2.2
  go_cut [59] (fun c wx => c = .bool (!HD) ∧ wx = W0)
  case first =>
    clear HX HW0 XB HSO HSF HRN HRY HR HA HB
    generalize a.pk = p1 at *
    generalize b.pk = p2 at *
    generalize a.of.length = l1 at *
    generalize b.of.length = l2 at *
    generalize a.fs.length = l3 at *
    generalize b.fs.length = l4 at *
    cases h1 : a.sh != b.sh
    · cases h2 : a.k != b.k
      · cases h3 : a.n != b.n
        · cases p1 <;> cases p2
          all_goals (
            cases h4 : a.al != b.al
            · cases h5 : (l1 : Int) != (l2 : Int)
              all_goals
                go_wp2_with fail
                go_meet
                case rel => exact ⟨by rw [← unveil HHD]; clear HHD; simp only [bne] at *; simp_all, rfl⟩
            · go_wp2_with fail
              go_meet
              case rel => exact ⟨by rw [← unveil HHD]; clear HHD; simp only [bne] at *; simp_all, rfl⟩)
        · go_wp2_with fail
          go_meet
          case rel => exact ⟨by rw [← unveil HHD]; clear HHD; simp only [bne] at *; simp_all, rfl⟩
      · go_wp2_with fail
        go_meet
        case rel => exact ⟨by rw [← unveil HHD]; clear HHD; simp only [bne] at *; simp_all, rfl⟩
    · go_wp2_with fail
      go_meet
      case rel => exact ⟨by rw [← unveil HHD]; clear HHD; simp only [bne] at *; simp_all, rfl⟩
  case rest =>
    obtain ⟨rfl, rfl⟩ := hcut
    cases HD
    · obtain rfl := unveil HRN rfl
      go_wp2_with fail
      go_ret
      exact ⟨rfl, unveil XB⟩
    · obtain ⟨hR1, hl1, hl2⟩ := unveil HRY rfl
      have HR1 := veil hR1
      have HL1 := veil hl1
      have HL2 := veil hl2
      clear hR1 hl1 hl2 HRY HRN HHD
      have HT0 : Hid (TyB _ w.heap.size a ∧ TyB _ (w.heap.size + 1) b) := ⟨(unveil HW0).1, (unveil HW0).2.1⟩
      clear HX HW0 y0 y1 y2 y3 y4 y5 y6 z0 z1 z2 z3 z4 z5 z6
      go_wp2_with fail
      go_loopw [5] (fun i wr => ∃ (k : Nat), i = .int .i64 k ∧ k ≤ a.of.length ∧ Hid (∀ (i : Nat) (h : i < a.of.length) (h' : i < b.of.length), i < k → samM d a.of[i] b.of[i] = true) ∧ Hid (Below w.heap.size w wr) ∧ Hid (TyB wr w.heap.size a ∧ TyB wr (w.heap.size + 1) b))
        (fun i wr => a.of.length - (intOf i).toNat)
      case atStart => exact ⟨0, rfl, Nat.zero_le _, fun i _ _ h => absurd h (Nat.not_lt_zero _), XB, HT0⟩
      case round =>
        obtain ⟨k, rfl, hk, hall, hbe, hty⟩ := hrel
        have y3 := (unveil hty).1.seven.2.2.2.1
        have z3 := (unveil hty).2.seven.2.2.2.1
        by_cases hkl : k < a.of.length
        · have hkb : k < b.of.length := by have := unveil HL1; omega
          obtain ⟨g, o, hop, hg, hco, _⟩ := ((unveil HA).below (unveil hbe)).of k hkl
          obtain ⟨c0, c1, c2, c3, c4, c5, c6⟩ := seven hco
          obtain ⟨g2, o2, hop', hg', hco', _⟩ := ((unveil HB).below (unveil hbe)).of k hkb
          obtain ⟨e0, e1, e2, e3, e4, e5, e6⟩ := seven hco'
          have HS1 := veil (unveil HSO k hkl hkb)
          obtain ⟨F, hF⟩ : ∃ F, samM d a.of[k] b.of[k] = F := ⟨_, rfl⟩
          have HFF := veil hF
          rw [hF] at HS1
          rw [hop] at y3
          rw [hop'] at z3
          have hg1 : g < wr.heap.size := World.block_lt_of_cell? wr _ c0
          have hg2 : g2 < wr.heap.size := World.block_lt_of_cell? wr _ e0
          have hg3 : w.heap.size < wr.heap.size := (unveil hty).1.lt
          have hg4 : w.heap.size + 1 < wr.heap.size := (unveil hty).2.lt
          unfold ShT.v ShT.cs at HS1
          rw [hop, hop']
          clear hco hco' hF hop hop'
          have HNO : Hid (F = false → R = false) := fun h => by rw [unveil HR1, all2_at k hkl hkb ((unveil HFF).trans h)]; rfl
          have HYE : Hid (F = true → ∀ (i : Nat) (h : i < a.of.length) (h' : i < b.of.length), i < k + 1 → samM d a.of[i] b.of[i] = true) := fun h i hi hi' hik => by
            by_cases hlt : i < k
            · exact unveil hall i hi hi' hlt
            · obtain rfl : i = k := by omega
              exact (unveil HFF).trans h
          clear HFF
          generalize a.of[k] = x at *
          generalize b.of[k] = y at *
          have HFW : Hid (∀ W : World, Below wr.heap.size wr W → W.cell? ⟨g, o + k * 7, none⟩ = some (.int .i64 x.sh) ∧ W.cell? ⟨g, o + k * 7 + 1, none⟩ = some (.int .i64 x.k) ∧ W.cell? ⟨g, o + k * 7 + 2, none⟩ = some (.int .i64 x.n) ∧ W.cell? ⟨g, o + k * 7 + 3, none⟩ = some (.slice x.op x.of.length x.oc) ∧ W.cell? ⟨g, o + k * 7 + 4, none⟩ = some (.slice x.fp x.fs.length x.fc) ∧ W.cell? ⟨g, o + k * 7 + 5, none⟩ = some (.bool x.pk) ∧ W.cell? ⟨g, o + k * 7 + 6, none⟩ = some (.int .i64 x.al) ∧ W.cell? ⟨g2, o2 + k * 7, none⟩ = some (.int .i64 y.sh) ∧ W.cell? ⟨g2, o2 + k * 7 + 1, none⟩ = some (.int .i64 y.k) ∧ W.cell? ⟨g2, o2 + k * 7 + 2, none⟩ = some (.int .i64 y.n) ∧ W.cell? ⟨g2, o2 + k * 7 + 3, none⟩ = some (.slice y.op y.of.length y.oc) ∧ W.cell? ⟨g2, o2 + k * 7 + 4, none⟩ = some (.slice y.fp y.fs.length y.fc) ∧ W.cell? ⟨g2, o2 + k * 7 + 5, none⟩ = some (.bool y.pk) ∧ W.cell? ⟨g2, o2 + k * 7 + 6, none⟩ = some (.int .i64 y.al) ∧ W.cell? ⟨w.heap.size, 3, none⟩ = some (.slice (some ⟨g, o, none⟩) a.of.length a.oc) ∧ W.cell? ⟨w.heap.size + 1, 3, none⟩ = some (.slice (some ⟨g2, o2, none⟩) b.of.length b.oc)) := fun W h => ⟨(h.cell (p := ⟨g, o + k * 7, none⟩) hg1).trans c0, (h.cell (p := ⟨g, o + k * 7 + 1, none⟩) hg1).trans c1, (h.cell (p := ⟨g, o + k * 7 + 2, none⟩) hg1).trans c2, (h.cell (p := ⟨g, o + k * 7 + 3, none⟩) hg1).trans c3, (h.cell (p := ⟨g, o + k * 7 + 4, none⟩) hg1).trans c4, (h.cell (p := ⟨g, o + k * 7 + 5, none⟩) hg1).trans c5, (h.cell (p := ⟨g, o + k * 7 + 6, none⟩) hg1).trans c6, (h.cell (p := ⟨g2, o2 + k * 7, none⟩) hg2).trans e0, (h.cell (p := ⟨g2, o2 + k * 7 + 1, none⟩) hg2).trans e1, (h.cell (p := ⟨g2, o2 + k * 7 + 2, none⟩) hg2).trans e2, (h.cell (p := ⟨g2, o2 + k * 7 + 3, none⟩) hg2).trans e3, (h.cell (p := ⟨g2, o2 + k * 7 + 4, none⟩) hg2).trans e4, (h.cell (p := ⟨g2, o2 + k * 7 + 5, none⟩) hg2).trans e5, (h.cell (p := ⟨g2, o2 + k * 7 + 6, none⟩) hg2).trans e6, (h.cell (p := ⟨w.heap.size, 3, none⟩) hg3).trans y3, (h.cell (p := ⟨w.heap.size + 1, 3, none⟩) hg4).trans z3⟩
          have HBW : Hid (∀ W, Below wr.heap.size wr W → Below w.heap.size w W ∧ TyB W w.heap.size a ∧ TyB W (w.heap.size + 1) b) := fun W h => ⟨(unveil hbe).trans (h.mono (unveil hbe).size), (unveil hty).1.below h, (unveil hty).2.below h⟩
          go_upto_region 6 with fail
          refine wp_region_noPanic (wpIn_wide.1 (wpIn_region_mix (ro := none) (n := 0) (fun w' => Hid (Below wr.heap.size wr w'))
            [(0, true), (1, true), (2, true), (3, true), (4, true), (5, true), (6, true), (7, true), (8, true), (9, true), (10, false)]
            11 hmixW (by kernel_rfl) (by kernel_rfl) (by kernel_rfl) (by kernel_rfl) (by kernel_rfl) (by kernel_rfl) (fun _ _ _ _ h => h) (Below.refl _ wr).drew ?_))
          refine mix_pure _ rfl _ (.inl ⟨rfl, fun W hS => (by obtain ⟨c0, c1, c2, c3, c4, c5, c6, e0, e1, e2, e3, e4, e5, e6, y3, z3⟩ := unveil HFW W (unveil hS); go_simp; rfl)⟩) (fun B hB => ?_); simp only [Act.put, List.setIfInBounds_toArray, List.set_cons_zero, List.set_cons_succ] at hB; subst hB
          refine mix_pure _ rfl _ (.inl ⟨rfl, fun W hS => (by obtain ⟨c0, c1, c2, c3, c4, c5, c6, e0, e1, e2, e3, e4, e5, e6, y3, z3⟩ := unveil HFW W (unveil hS); go_simp; rfl)⟩) (fun B hB => ?_); simp only [Act.put, List.setIfInBounds_toArray, List.set_cons_zero, List.set_cons_succ] at hB; subst hB
          refine mix_pure _ rfl _ (.inl ⟨rfl, fun W hS => (by obtain ⟨c0, c1, c2, c3, c4, c5, c6, e0, e1, e2, e3, e4, e5, e6, y3, z3⟩ := unveil HFW W (unveil hS); go_simp; rfl)⟩) (fun B hB => ?_); simp only [Act.put, List.setIfInBounds_toArray, List.set_cons_zero, List.set_cons_succ] at hB; subst hB
          refine mix_pure _ rfl _ (.inl ⟨rfl, fun W hS => (by obtain ⟨c0, c1, c2, c3, c4, c5, c6, e0, e1, e2, e3, e4, e5, e6, y3, z3⟩ := unveil HFW W (unveil hS); go_simp; rfl)⟩) (fun B hB => ?_); simp only [Act.put, List.setIfInBounds_toArray, List.set_cons_zero, List.set_cons_succ] at hB; subst hB
          refine mix_pure _ rfl _ (.inl ⟨rfl, fun W hS => (by obtain ⟨c0, c1, c2, c3, c4, c5, c6, e0, e1, e2, e3, e4, e5, e6, y3, z3⟩ := unveil HFW W (unveil hS); go_simp; rfl)⟩) (fun B hB => ?_); simp only [Act.put, List.setIfInBounds_toArray, List.set_cons_zero, List.set_cons_succ] at hB; subst hB
          refine mix_pure _ rfl _ (.inl ⟨rfl, fun W hS => (by obtain ⟨c0, c1, c2, c3, c4, c5, c6, e0, e1, e2, e3, e4, e5, e6, y3, z3⟩ := unveil HFW W (unveil hS); go_simp; rfl)⟩) (fun B hB => ?_); simp only [Act.put, List.setIfInBounds_toArray, List.set_cons_zero, List.set_cons_succ] at hB; subst hB
          refine mix_pure _ rfl _ (.inl ⟨rfl, fun W hS => (by obtain ⟨c0, c1, c2, c3, c4, c5, c6, e0, e1, e2, e3, e4, e5, e6, y3, z3⟩ := unveil HFW W (unveil hS); go_simp; rfl)⟩) (fun B hB => ?_); simp only [Act.put, List.setIfInBounds_toArray, List.set_cons_zero, List.set_cons_succ] at hB; subst hB
          refine mix_pure _ rfl _ (.inl ⟨rfl, fun W hS => (by obtain ⟨c0, c1, c2, c3, c4, c5, c6, e0, e1, e2, e3, e4, e5, e6, y3, z3⟩ := unveil HFW W (unveil hS); go_simp; rfl)⟩) (fun B hB => ?_); simp only [Act.put, List.setIfInBounds_toArray, List.set_cons_zero, List.set_cons_succ] at hB; subst hB
          refine mix_pure _ rfl _ (.inl ⟨rfl, fun W hS => (by obtain ⟨c0, c1, c2, c3, c4, c5, c6, e0, e1, e2, e3, e4, e5, e6, y3, z3⟩ := unveil HFW W (unveil hS); go_simp; rfl)⟩) (fun B hB => ?_); simp only [Act.put, List.setIfInBounds_toArray, List.set_cons_zero, List.set_cons_succ] at hB; subst hB
          refine mix_pure _ rfl _ (.inl ⟨rfl, fun W hS => (by obtain ⟨c0, c1, c2, c3, c4, c5, c6, e0, e1, e2, e3, e4, e5, e6, y3, z3⟩ := unveil HFW W (unveil hS); go_simp; rfl)⟩) (fun B hB => ?_); simp only [Act.put, List.setIfInBounds_toArray, List.set_cons_zero, List.set_cons_succ] at hB; subst hB
          refine mix_sole _ rfl (fun K hK => ?_)
          go_simp
          refine ⟨trivial, rfl, (callsIn_wide.2 (unveil HS1 _ (unveil HBW _ (Below.refl _ wr).drew).1)).mono ?_⟩
          rintro e W5 ⟨rfl, hb5⟩
          have hB5 : Below wr.heap.size wr W5 := (Below.refl _ wr).drew.trans hb5
          have HB5 := veil (unveil HBW _ hB5)
          refine hK _ _ hB5 ?_
          clear hK K hb5 hB5
          refine mix_nil ?_
          refine listIn_last rfl (fun K hK => ?_)
          go_simp
          refine hK _ _ ?_
          clear hK K c0 c1 c2 c3 c4 c5 c6 e0 e1 e2 e3 e4 e5 e6 y3 z3 HFW
          cases F
          · obtain rfl := unveil HNO rfl
            go_wp2_with fail
            go_ret
            exact ⟨rfl, (unveil HB5).1⟩
          · go_wp2_with fail
            exact ⟨⟨k + 1, by go_num, by omega, unveil HYE trivial, (unveil HB5).1, (unveil HB5).2⟩, by simp [intOf]; omega⟩
        · obtain rfl : k = a.of.length := by omega
          have HR2 : Hid (R = all2 (sfM d) a.fs b.fs) := by unfold Hid; rw [unveil HR1, all2_yes (unveil HL1) (fun i h h' => unveil hall i h h' h), Bool.true_and]
          clear hall HR1 HSO z3 hkl
          go_wp2_with fail
          clear y3
          go_loopw [7] (fun i wr => ∃ (m : Nat), i = .int .i64 m ∧ m ≤ a.fs.length ∧ Hid (∀ (i : Nat) (h : i < a.fs.length) (h' : i < b.fs.length), i < m → sfM d a.fs[i] b.fs[i] = true) ∧ Hid (Below w.heap.size w wr) ∧ Hid (TyB wr w.heap.size a ∧ TyB wr (w.heap.size + 1) b))
            (fun i wr => a.fs.length - (intOf i).toNat)
          case atStart => exact ⟨0, rfl, Nat.zero_le _, fun i _ _ h => absurd h (Nat.not_lt_zero _), hbe, hty⟩
          case round =>
            clear hbe hty
            obtain ⟨k, rfl, hk, hall, hbe, hty⟩ := hrel
            have y4 := (unveil hty).1.seven.2.2.2.2.1
            have z4 := (unveil hty).2.seven.2.2.2.2.1
            by_cases hkl : k < a.fs.length
            · have hkb : k < b.fs.length := by have := unveil HL2; omega
              obtain ⟨g, o, hop, hg, hco, hxx1, _⟩ := ((unveil HA).below (unveil hbe)).fs k hkl
              obtain ⟨c0, c1, c2, c3, c4, c5, c6, c7, c8⟩ := nine hco
              obtain ⟨g2, o2, hop', hg', hco', hxx2, _⟩ := ((unveil HB).below (unveil hbe)).fs k hkb
              obtain ⟨e0, e1, e2, e3, e4, e5, e6, e7, e8⟩ := nine hco'
              have HS1 := veil (unveil HSF k hkl hkb)
              obtain ⟨F, hF⟩ : ∃ F, samM d a.fs[k].t b.fs[k].t = F := ⟨_, rfl⟩
              have HFF := veil hF
              rw [hF] at HS1
              rw [hop] at y4
              rw [hop'] at z4
              have hg1 : g < wr.heap.size := World.block_lt_of_cell? wr _ c0
              have hg2 : g2 < wr.heap.size := World.block_lt_of_cell? wr _ e0
              have hg3 : w.heap.size < wr.heap.size := (unveil hty).1.lt
              have hg4 : w.heap.size + 1 < wr.heap.size := (unveil hty).2.lt
              unfold ShT.v ShT.cs at HS1
              rw [hop, hop']
              clear hco hco' hF hop hop' hxx1 hxx2
              have HNO : Hid ((a.fs[k].nm == b.fs[k].nm && a.fs[k].bits == b.fs[k].bits && F) = false → R = false) := fun h => by rw [unveil HR2, all2_at k hkl hkb (by unfold sfM; rw [unveil HFF]; exact h)]
              have HYE : Hid ((a.fs[k].nm == b.fs[k].nm && a.fs[k].bits == b.fs[k].bits && F) = true → ∀ (i : Nat) (h : i < a.fs.length) (h' : i < b.fs.length), i < k + 1 → sfM d a.fs[i] b.fs[i] = true) := fun h i hi hi' hik => by
                by_cases hlt : i < k
                · exact unveil hall i hi hi' hlt
                · obtain rfl : i = k := by omega
                  unfold sfM; rw [unveil HFF]; exact h
              clear HFF
              generalize a.fs[k] = x at *
              generalize b.fs[k] = y at *
              obtain ⟨n1, x, b1⟩ := x
              obtain ⟨n2, y, b2⟩ := y
              simp only at c0 c1 c2 c3 c4 c5 c6 c7 c8 e0 e1 e2 e3 e4 e5 e6 e7 e8 HS1 HNO HYE
              have HFW : Hid (∀ W : World, Below wr.heap.size wr W → (W.cell? ⟨g, o + k * 9, none⟩ = some (.string ⟨n1.toArray⟩) ∧ W.cell? ⟨g, o + k * 9 + 1, none⟩ = some (.int .i64 x.sh) ∧ W.cell? ⟨g, o + k * 9 + 2, none⟩ = some (.int .i64 x.k) ∧ W.cell? ⟨g, o + k * 9 + 3, none⟩ = some (.int .i64 x.n) ∧ W.cell? ⟨g, o + k * 9 + 4, none⟩ = some (.slice x.op x.of.length x.oc) ∧ W.cell? ⟨g, o + k * 9 + 5, none⟩ = some (.slice x.fp x.fs.length x.fc) ∧ W.cell? ⟨g, o + k * 9 + 6, none⟩ = some (.bool x.pk) ∧ W.cell? ⟨g, o + k * 9 + 7, none⟩ = some (.int .i64 x.al) ∧ W.cell? ⟨g, o + k * 9 + 8, none⟩ = some (.int .i64 b1)) ∧ (W.cell? ⟨g2, o2 + k * 9, none⟩ = some (.string ⟨n2.toArray⟩) ∧ W.cell? ⟨g2, o2 + k * 9 + 1, none⟩ = some (.int .i64 y.sh) ∧ W.cell? ⟨g2, o2 + k * 9 + 2, none⟩ = some (.int .i64 y.k) ∧ W.cell? ⟨g2, o2 + k * 9 + 3, none⟩ = some (.int .i64 y.n) ∧ W.cell? ⟨g2, o2 + k * 9 + 4, none⟩ = some (.slice y.op y.of.length y.oc) ∧ W.cell? ⟨g2, o2 + k * 9 + 5, none⟩ = some (.slice y.fp y.fs.length y.fc) ∧ W.cell? ⟨g2, o2 + k * 9 + 6, none⟩ = some (.bool y.pk) ∧ W.cell? ⟨g2, o2 + k * 9 + 7, none⟩ = some (.int .i64 y.al) ∧ W.cell? ⟨g2, o2 + k * 9 + 8, none⟩ = some (.int .i64 b2)) ∧ W.cell? ⟨w.heap.size, 4, none⟩ = some (.slice (some ⟨g, o, none⟩) a.fs.length a.fc) ∧ W.cell? ⟨w.heap.size + 1, 4, none⟩ = some (.slice (some ⟨g2, o2, none⟩) b.fs.length b.fc)) := fun W h => ⟨⟨(h.cell (p := ⟨g, o + k * 9, none⟩) hg1).trans c0, (h.cell (p := ⟨g, o + k * 9 + 1, none⟩) hg1).trans c1, (h.cell (p := ⟨g, o + k * 9 + 2, none⟩) hg1).trans c2, (h.cell (p := ⟨g, o + k * 9 + 3, none⟩) hg1).trans c3, (h.cell (p := ⟨g, o + k * 9 + 4, none⟩) hg1).trans c4, (h.cell (p := ⟨g, o + k * 9 + 5, none⟩) hg1).trans c5, (h.cell (p := ⟨g, o + k * 9 + 6, none⟩) hg1).trans c6, (h.cell (p := ⟨g, o + k * 9 + 7, none⟩) hg1).trans c7, (h.cell (p := ⟨g, o + k * 9 + 8, none⟩) hg1).trans c8⟩, ⟨(h.cell (p := ⟨g2, o2 + k * 9, none⟩) hg2).trans e0, (h.cell (p := ⟨g2, o2 + k * 9 + 1, none⟩) hg2).trans e1, (h.cell (p := ⟨g2, o2 + k * 9 + 2, none⟩) hg2).trans e2, (h.cell (p := ⟨g2, o2 + k * 9 + 3, none⟩) hg2).trans e3, (h.cell (p := ⟨g2, o2 + k * 9 + 4, none⟩) hg2).trans e4, (h.cell (p := ⟨g2, o2 + k * 9 + 5, none⟩) hg2).trans e5, (h.cell (p := ⟨g2, o2 + k * 9 + 6, none⟩) hg2).trans e6, (h.cell (p := ⟨g2, o2 + k * 9 + 7, none⟩) hg2).trans e7, (h.cell (p := ⟨g2, o2 + k * 9 + 8, none⟩) hg2).trans e8⟩, (h.cell (p := ⟨w.heap.size, 4, none⟩) hg3).trans y4, (h.cell (p := ⟨w.heap.size + 1, 4, none⟩) hg4).trans z4⟩
              have HBW : Hid (∀ W, Below wr.heap.size wr W → Below w.heap.size w W ∧ TyB W w.heap.size a ∧ TyB W (w.heap.size + 1) b) := fun W h => ⟨(unveil hbe).trans (h.mono (unveil hbe).size), (unveil hty).1.below h, (unveil hty).2.below h⟩
              go_upto_region 12 with fail
              refine wp_region_noPanic (wpIn_wide.1 (wpIn_region_mix (ro := none) (n := 0) (fun w' => Hid (Below wr.heap.size wr w'))
                [(0, true), (1, true), (2, true), (3, true), (4, true), (5, true), (6, true), (7, true), (8, true), (9, true), (10, true), (11, true), (12, false)]
                13 hmixW (by kernel_rfl) (by kernel_rfl) (by kernel_rfl) (by kernel_rfl) (by kernel_rfl) (by kernel_rfl) (fun _ _ _ _ h => h) (Below.refl _ wr).drew ?_))
              iterate 12 (
                refine mix_pure _ rfl _ (.inl ⟨rfl, fun W hS => (by obtain ⟨⟨c0, c1, c2, c3, c4, c5, c6, c7, c8⟩, ⟨e0, e1, e2, e3, e4, e5, e6, e7, e8⟩, y4, z4⟩ := unveil HFW W (unveil hS); go_simp; rfl)⟩) (fun B hB => ?_)
                simp only [Act.put, List.setIfInBounds_toArray, List.set_cons_zero, List.set_cons_succ] at hB
                subst hB)
              refine mix_sole _ rfl (fun K hK => ?_)
              go_simp
              refine ⟨trivial, rfl, (callsIn_wide.2 (unveil HS1 _ (unveil HBW _ (Below.refl _ wr).drew).1)).mono ?_⟩
              rintro e W5 ⟨rfl, hb5⟩
              have hB5 : Below wr.heap.size wr W5 := (Below.refl _ wr).drew.trans hb5
              have HB5 := veil (unveil HBW _ hB5)
              have HF5 := veil (unveil HFW _ hB5)
              refine hK _ _ hB5 ?_
              clear hK K hb5 hB5
              refine mix_nil ?_
              refine listIn_last rfl (fun K hK => ?_)
              go_simp
              refine hK _ _ ?_
              clear hK K c0 c1 c2 c3 c4 c5 c6 c7 c8 e0 e1 e2 e3 e4 e5 e6 e7 e8 y4 z4 HFW
              obtain ⟨⟨c0, c1, c2, c3, c4, c5, c6, c7, c8⟩, ⟨e0, e1, e2, e3, e4, e5, e6, e7, e8⟩, y4, z4⟩ := unveil HF5
              clear c1 c2 c3 c4 c5 c6 c7 e1 e2 e3 e4 e5 e6 e7
              cases F
              · obtain rfl := unveil HNO (by simp)
                go_upto_region 13 with fail
                go_quiet (fail)
                go_wp2_with fail
                go_ret
                exact ⟨rfl, below_drewS (unveil HB5).1 _⟩
              · by_cases hn : n1 = n2
                · subst hn
                  by_cases hbi : b1 = b2
                  · subst hbi
                    go_upto_region 13 with fail
                    go_quiet (fail)
                    go_wp2_with fail
                    exact ⟨⟨k + 1, by go_num, by omega, unveil HYE (by simp), below_drewS (unveil HB5).1 _, (unveil HB5).2⟩, by simp [intOf]; omega⟩
                  · have hb2 : (b1 == b2) = false := by simpa using hbi
                    have hb3 : (b1 != b2) = true := by simp [bne, hb2]
                    obtain rfl := unveil HNO (by simp [hb2])
                    go_upto_region 13 with fail
                    go_quiet (fail)
                    go_wp2_with fail
                    go_ret
                    exact ⟨rfl, below_drewS (unveil HB5).1 _⟩
                · have hn2 : (n1 == n2) = false := by simpa using hn
                  have hn3 : (n1 != n2) = true := by simp [bne, hn2]
                  obtain rfl := unveil HNO (by simp [hn2])
                  go_upto_region 13 with fail
                  go_quiet (fail)
                  go_wp2_with fail
                  go_ret
                  exact ⟨rfl, below_drewS (unveil HB5).1 _⟩
            · obtain rfl : k = a.fs.length := by omega
              go_wp2_with fail
              go_ret
              refine ⟨?_, unveil hbe⟩
              rw [unveil HR2, all2_yes (unveil HL2) (fun i h h' => unveil hall i h h' h)]
              rfl
theorem rsame_any : ∀ d, SamC 32 d
  | 0 => fun a b w hd => by omega
  | d + 1 => rsame_step d (rsame_any d)
end Go.Proofs.Ytaffldhmgifdoaa
