/-
  The document's own bareField, isAlign.
  The document's own fields.
  A type that is handed in, opened.
  Lengths of a type that is handed in; how deep it is; the sameness of two types.
  The document's own plain.
  The document's own plain, of whatever type.
  The document's own Of, Members, SameSpots.
  The document's own SameSpots, at two lists that are the same.
-/
import Derived.Test.YtkiebejidpebdaaZ1
import Derived.Test.YtkiebejidpebdaaZ4
import Derived.Test.YtkiebejidpebdaaUp
import Derived.Test.YtkiebejidpebdaaRows
import Derived.Deep.Slices
import Derived.ChangeArms
import Derived.Test.YtkiebejidpebdaaZ5
import Derived.Laws.StructEq
import Derived.BigQuiet
namespace Go.Proofs.Ytkiebejidpebdaa
open Go Go.RowKit
set_option linter.unusedVariables false
set_option linter.unusedSimpArgs false

set_option maxRecDepth 100000 in
set_option maxHeartbeats 8000000 in
theorem bareField_any (f : FdOf ShT) (w : World) : Calls Try.prog 83 #[f.v] w fun e w' => e = .returned (.bool (ffM f)) ∧ Below w.heap.size w w' := by
  have HS := veil (RSize_any f.t.k)
  have hsz := siz_cases f.t.k
  unfold ffM FdOf.v FdOf.cs
  generalize f.t.sh = sh
  generalize f.t.k = k at *
  generalize f.t.n = n
  generalize f.t.op = op
  generalize f.t.of.length = ol
  generalize f.t.oc = oc
  generalize f.t.fp = fp
  generalize f.t.fs.length = fl
  generalize f.t.fc = fc
  generalize f.t.pk = pk
  generalize f.t.al = al
  generalize f.bits = bi
  generalize f.nm = nm
  generalize sizM k = z at *
  have hz : 0 ≤ z ∧ z ≤ 8 := by omega
  clear hsz
  obtain ⟨hz0, hz8⟩ := hz
  have hbe : ∀ o, Below w.heap.size w (w.alloc o) := fun o => (Below.refl _ w).alloc (Nat.le_refl _) o
  have HBE := veil hbe
  clear hbe
  by_cases hb : bi < 0
  · go_enter Try.func83, Try.ntmps83
    go_wp2
    go_ret
    refine ⟨?_, unveil HBE _⟩
    simp [hb]
  · cases h1 : sh == 1
    · have h1' : (sh != 1) = true := by simp [bne, h1]
      go_enter Try.func83, Try.ntmps83
      go_wp2
      go_quiet (fail)
      go_wp2
      go_ret
      refine ⟨?_, below_drewS (unveil HBE _) _⟩
      simp [hb]
    · have h1' : (sh != 1) = false := by simp [bne, h1]
      by_cases hg : bi > 8 * z
      · go_enter Try.func83, Try.ntmps83
        go_wp2
        go_quiet ((go_at_call 68; exact Calls.quiet_of_same (unveil HS _)))
        go_wp2
        go_ret
        refine ⟨?_, below_drewS (unveil HBE _) _⟩
        simp [hb, show ¬ bi ≤ 8 * z by omega]
      · by_cases h0 : bi > 0
        · go_enter Try.func83, Try.ntmps83
          go_wp2
          go_quiet ((go_at_call 68; exact Calls.quiet_of_same (unveil HS _)))
          go_wp2
          go_ret
          refine ⟨?_, below_drewS (unveil HBE _) _⟩
          have : ¬ bi = 0 := by omega
          simp [hb, this, show bi ≤ 8 * z by omega]
        · obtain rfl : bi = 0 := by omega
          cases hn : nm.isEmpty
          all_goals
            go_enter Try.func83, Try.ntmps83
            go_wp2
            go_quiet ((go_at_call 68; exact Calls.quiet_of_same (unveil HS _)))
            go_wp2
            go_ret
            refine ⟨?_, below_drewS (unveil HBE _) _⟩
            simp [hn, show (0 : Int) ≤ 8 * z by omega]
def PwL : List Int := [1, 2, 4, 8, 16, 32, 64]
theorem ali_no {n : Int} (h : ∀ m ∈ PwL, n ≠ m) : aliM n = (n == 0) := by
  unfold PwL at h
  simp only [List.mem_cons, List.not_mem_nil, or_false, forall_eq_or_imp, forall_eq] at h
  obtain ⟨h1, h2, h3, h4, h5, h6, h7⟩ := h
  unfold aliM
  rw [Bool.eq_iff_iff]
  simp only [Bool.or_eq_true, beq_iff_eq]
  omega
theorem ali_yes {n : Int} (h : n ∈ PwL) : aliM n = true := by
  unfold PwL at h
  simp only [List.mem_cons, List.not_mem_nil, or_false] at h
  rcases h with rfl | rfl | rfl | rfl | rfl | rfl | rfl <;> rfl
set_option maxRecDepth 100000 in
set_option maxHeartbeats 8000000 in
theorem isAlign_any (n : Int) (w : World) : Calls Try.prog 66 #[.int .i64 n] w fun e w' => e = .returned (.bool (aliM n)) ∧ w' = w := by
  obtain ⟨R, HR⟩ : ∃ R, Hid (aliM n = R) := ⟨_, rfl⟩
  rw [unveil HR]
  go_enter Try.func66, Try.ntmps66
  go_wp2
  go_loopw [3] (fun i wr => ∃ (k : Int), i = .int .i64 k ∧ Hid (k ∈ PwL ++ [128]) ∧ Hid (∀ m ∈ PwL, m < k → n ≠ m) ∧ wr = w)
    (fun i wr => 128 - (intOf i).toNat)
  case atStart => exact ⟨1, rfl, by unfold Hid; decide, fun m hm hl => by unfold PwL at hm; simp at hm; omega, rfl⟩
  case round =>
    obtain ⟨k, rfl, hk, hall, rfl⟩ := hrel
    have hk' := unveil hk
    unfold PwL at hk'
    simp only [List.mem_append, List.mem_cons, List.not_mem_nil, or_false] at hk'
    by_cases hlast : k = 128
    · subst hlast
      have hno := ali_no (n := n) (fun m hm => unveil hall m hm (by unfold PwL at hm; simp at hm; omega))
      rw [unveil HR] at hno
      subst hno
      clear HR hk'
      go_wp2
      go_ret
      exact ⟨rfl, rfl⟩
    · by_cases hn : n = k
      · have hR : R = true := by
          rw [← unveil HR]
          apply ali_yes
          unfold PwL
          simp only [List.mem_cons, List.not_mem_nil, or_false]
          omega
        subst hR
        subst hn
        have h64 : n ≤ 64 := by omega
        clear hk' hlast HR
        go_wp2
        go_ret
        exact ⟨rfl, rfl⟩
      · have hne : (n == k) = false := by simpa using hn
        have h64 : k ≤ 64 := by omega
        have h1 : 1 ≤ k := by omega
        have HK := veil hk'
        have HN := veil hn
        have HLA := veil hlast
        clear hk' hn hlast
        go_wp2
        go_roundw
        case rel =>
          refine ⟨2 * k, by go_num, ?_, fun m hm hlt => ?_, trivial⟩
          · show 2 * k ∈ PwL ++ [128]
            have := unveil HK
            have h2 := unveil HLA
            unfold PwL
            simp only [List.mem_append, List.mem_cons, List.not_mem_nil, or_false]
            omega
          · by_cases hlk : m < k
            · exact unveil hall m hm hlk
            · have h2 := unveil HN
              have h3 := unveil HK
              unfold PwL at hm
              simp only [List.mem_cons, List.not_mem_nil, or_false] at hm
              omega
        case measure => simp [intOf]; omega
end Go.Proofs.Ytkiebejidpebdaa
namespace Go.Proofs.Ytkiebejidpebdaa
open Go Go.RowKit
set_option linter.unusedVariables false
set_option linter.unusedSimpArgs false

theorem has_snoc {l : List (List UInt8)} {k : Nat} (h : k < l.length) : hasN (l.take (k + 1)) = (hasN (l.take k) || !l[k].isEmpty) := by
  unfold hasN
  rw [List.take_succ_eq_append_getElem h, List.any_append]
  simp
set_option maxRecDepth 100000 in
set_option maxHeartbeats 20000000 in
theorem fields_any (d : Nat) (D : Int) (p : Option Addr) (cap : Nat) (l : List (FdOf ShT)) (w : World) (hT : FdG w.heap.size w p l) (hlen : l.length ≤ 9223372036854775807)
    (hP : ∀ f ∈ l, ∀ W, Below w.heap.size w W → Calls Try.prog 41 #[f.t.v, .int .i64 D] W fun e w' => e = .returned (.bool (rigM d f.t)) ∧ Below W.heap.size W w') :
    Calls Try.prog 67 #[.slice p l.length cap, .int .i64 D] w fun e w' => e = .returned (.bool (rfM d l)) ∧ Below w.heap.size w w' := by
  have HT := veil hT
  have HP := veil hP
  clear hT hP
  obtain ⟨R, HR⟩ : ∃ R, Hid (rfM d l = R) := ⟨_, rfl⟩
  rw [unveil HR]
  go_enter Try.func67, Try.ntmps67
  go_wp2_with fail
  go_loopw [5, 6] (fun nm i wr => ∃ (k : Nat) (N : Bool), i = .int .i64 k ∧ nm = .bool N ∧ k ≤ l.length ∧ Hid (N = hasN ((l.map FdOf.nm).take k)) ∧ Hid (∀ x ∈ l.take k, (rigM d x.t && ffM x) = true) ∧ Hid (dsM ((l.map FdOf.nm).take k).reverse = true) ∧ Hid (Below w.heap.size w wr))
    (fun nm i wr => l.length - (intOf i).toNat)
  case atStart => exact ⟨0, false, rfl, rfl, Nat.zero_le _, rfl, fun x hx => (by simp at hx), rfl, Below.refl _ _⟩
  case round =>
    obtain ⟨k, N, rfl, rfl, hk, hN, hall, hds, hbe⟩ := hrel
    by_cases hkl : k < l.length
    · have HT1 := veil ((unveil HT).below (unveil hbe))
      obtain ⟨g, o, rfl, hg, hc, hnl⟩ := unveil HT1 k hkl
      obtain ⟨c0, c1, c2, c3, c4, c5, c6, c7, c8⟩ := nine (f := l[k]) hc
      have hglt : g < wr.heap.size := World.block_lt_of_cell? wr _ c0
      have HPL := veil (unveil HP l[k] (List.getElem_mem _) wr (unveil hbe))
      have HBF := veil (bareField_any l[k])
      obtain ⟨F, hF⟩ : ∃ F, rigM d l[k].t = F := ⟨_, rfl⟩
      obtain ⟨G, hG⟩ : ∃ G, ffM l[k] = G := ⟨_, rfl⟩
      have HNO : Hid ((F && G) = false → R = false) := fun h => by rw [← unveil HR]; exact rf_bad (List.getElem_mem hkl) (by rw [hF, hG]; exact h)
      have HYE : Hid ((F && G) = true → ∀ x ∈ l.take (k + 1), (rigM d x.t && ffM x) = true) := fun h y hy => by
        rw [List.take_succ_eq_append_getElem hkl, List.mem_append] at hy
        rcases hy with hy | hy
        · exact unveil hall y hy
        · obtain rfl := List.mem_singleton.1 hy
          rw [hF, hG]; exact h
      rw [hF] at HPL
      rw [hG] at HBF
      have HFW : Hid (∀ W : World, Below wr.heap.size wr W → W.cell? ⟨g, o + k * 9, none⟩ = some (.string ⟨l[k].nm.toArray⟩) ∧ W.cell? ⟨g, o + k * 9 + 1, none⟩ = some (.int .i64 l[k].t.sh) ∧ W.cell? ⟨g, o + k * 9 + 2, none⟩ = some (.int .i64 l[k].t.k) ∧ W.cell? ⟨g, o + k * 9 + 3, none⟩ = some (.int .i64 l[k].t.n) ∧ W.cell? ⟨g, o + k * 9 + 4, none⟩ = some (.slice l[k].t.op l[k].t.of.length l[k].t.oc) ∧ W.cell? ⟨g, o + k * 9 + 5, none⟩ = some (.slice l[k].t.fp l[k].t.fs.length l[k].t.fc) ∧ W.cell? ⟨g, o + k * 9 + 6, none⟩ = some (.bool l[k].t.pk) ∧ W.cell? ⟨g, o + k * 9 + 7, none⟩ = some (.int .i64 l[k].t.al) ∧ W.cell? ⟨g, o + k * 9 + 8, none⟩ = some (.int .i64 l[k].bits)) := fun W h => by
        have e := fun (j : Nat) => h.cell (p := ⟨g, o + k * 9 + j, none⟩) hglt
        exact ⟨(e 0).trans c0, (e 1).trans c1, (e 2).trans c2, (e 3).trans c3, (e 4).trans c4, (e 5).trans c5, (e 6).trans c6, (e 7).trans c7, (e 8).trans c8⟩
      have HBY : Hid (∀ W, Below wr.heap.size wr W → Below w.heap.size w W) := fun W h => (unveil hbe).trans (h.mono (unveil hbe).size)
      have HST : Hid (∀ W, Below wr.heap.size wr W → ∀ W2, Below W.heap.size W W2 → Below wr.heap.size wr W2) := fun W h W2 h2 => h.trans (h2.mono h.size)
      unfold FdOf.v FdOf.cs at HBF
      unfold ShT.v ShT.cs at HPL
      clear hF hG hc hnl
      cases F
      · obtain rfl := unveil HNO rfl
        go_wp2_with (go_at_call 41; refine (unveil HPL).mono ?_; rintro e W1 ⟨rfl, hb1⟩)
        go_ret
        exact ⟨rfl, unveil HBY _ hb1⟩
      · cases G
        · obtain rfl := unveil HNO rfl
          go_wp2_with (first
            | (go_at_call 41; refine (unveil HPL).mono ?_; rintro e W1 ⟨rfl, hb1⟩; clear c0 c1 c2 c3 c4 c5 c6 c7 c8; obtain ⟨c0, c1, c2, c3, c4, c5, c6, c7, c8⟩ := unveil HFW W1 hb1)
            | (go_at_call 83; refine (unveil HBF _).mono ?_; rintro e W2 ⟨rfl, hb2⟩))
          go_ret
          exact ⟨rfl, unveil HBY _ (unveil HST _ hb1 _ hb2)⟩
        · have HALL := veil (unveil HYE rfl)
          clear HYE HNO hall
          go_upto_region 8 with (first
            | (go_at_call 41; refine (unveil HPL).mono ?_; rintro e W1 ⟨rfl, hb1⟩; clear c0 c1 c2 c3 c4 c5 c6 c7 c8; obtain ⟨c0, c1, c2, c3, c4, c5, c6, c7, c8⟩ := unveil HFW W1 hb1)
            | (go_at_call 83; refine (unveil HBF _).mono ?_; rintro e W2 ⟨rfl, hb2⟩; have HB2 := veil (unveil HST _ hb1 _ hb2); clear c0 c1 c2 c3 c4 c5 c6 c7 c8; obtain ⟨c0, c1, c2, c3, c4, c5, c6, c7, c8⟩ := unveil HFW W2 (unveil HB2); clear hb2))
          obtain ⟨NN, hNN⟩ : ∃ NN, (N || !l[k].nm.isEmpty) = NN := ⟨_, rfl⟩
          have HNN := veil hNN
          clear hNN
          have HB1 := veil hb1
          clear hb1 HPL HBF
          go_cut [5] from 9 to 64 (fun c wx => c = .bool NN ∧ wx = W2)
          case first =>
            clear hN hds hbe HBY HST HALL HB1 HB2 HFW c1 c2 c3 c4 c5 c6 c7 c8 HP
            generalize l[k].nm = nk at *
            cases N
            · cases hn : nk.isEmpty
              all_goals
                rw [hn] at HNN
                go_wp2_with fail
                go_meet
                case rel => exact ⟨by rw [← unveil HNN]; rfl, rfl⟩
            · go_wp2_with fail
              go_meet
              case rel => exact ⟨by rw [← unveil HNN]; rfl, rfl⟩
          case rest =>
            obtain ⟨rfl, rfl⟩ := hcut
            clear c0 c1 c2 c3 c4 c5 c6 c7 c8
            go_wp2_with fail
            go_loopw [8] (fun i wx => ∃ (m : Nat), i = .int .i64 m ∧ m ≤ k ∧ Hid (l[k].nm.isEmpty = true ∨ ∀ (j : Nat) (hj : j < m) (hj2 : j < l.length), l[j].nm ≠ l[k].nm) ∧ Hid (Below wr.heap.size wr wx))
              (fun i wx => k - (intOf i).toNat)
            case atStart => exact ⟨0, rfl, Nat.zero_le _, .inr (fun j hj => absurd hj (Nat.not_lt_zero _)), HB2⟩
            case round =>
              obtain ⟨m, rfl, hm, hne, hbx⟩ := hrel
              have c0 := (unveil HFW _ (unveil hbx)).1
              by_cases hmk : m < k
              · obtain ⟨g1, o1, he1, _, hc1, _⟩ := ((unveil HT).below (unveil HBY _ (unveil hbx))) m (by omega)
                cases he1
                have d0 := (nine (f := l[m]) hc1).1
                have HDUP : Hid (l[k].nm.isEmpty = false → l[m].nm = l[k].nm → R = false) := fun h1 h2 => by rw [← unveil HR]; exact rf_dup hkl hmk h1 h2
                have HNX : Hid (l[k].nm.isEmpty = true ∨ ¬ l[m].nm = l[k].nm → (l[k].nm.isEmpty = true ∨ ∀ (j : Nat) (hj : j < m + 1) (hj2 : j < l.length), l[j].nm ≠ l[k].nm)) := fun h => by
                  rcases h with h | h
                  · exact .inl h
                  · rcases unveil hne with h2 | h2
                    · exact .inl h2
                    · refine .inr fun j hj hj2 => ?_
                      by_cases hjm : j < m
                      · exact h2 j hjm hj2
                      · obtain rfl : j = m := by omega
                        exact h
                have hmi : (m : Int) < (k : Int) := by omega
                have hmi2 : (m : Int) < (l.length : Int) := by omega
                have hki2 : (k : Int) < (l.length : Int) := by omega
                clear hc1 hne HNN hN hds
                generalize hnk : l[k].nm = nk at *
                generalize hnm : l[m].nm = nm at *
                clear hnk hnm
                cases hn : nk.isEmpty
                · by_cases hd : nm = nk
                  · subst hd
                    obtain rfl := unveil HDUP hn rfl
                    go_upto_region 12 with fail
                    go_quiet (fail)
                    go_wp2_with fail
                    go_ret
                    exact ⟨rfl, below_drewS (unveil HBY _ (unveil hbx)) _⟩
                  · have hd2 : (nm == nk) = false := by simpa using hd
                    have HN2 := veil (unveil HNX (.inr hd))
                    clear HNX HDUP hd
                    go_upto_region 12 with fail
                    go_quiet (fail)
                    go_wp2_with fail
                    go_roundw
                    case rel => exact ⟨m + 1, by go_num, by omega, by first | exact Or.inl trivial | (have h := unveil HN2; rw [hn] at h; exact h), below_drewS (unveil hbx) _⟩
                    case measure => simp [intOf]; omega
                · have HN2 := veil (unveil HNX (.inl hn))
                  clear HNX HDUP
                  go_upto_region 12 with fail
                  go_quiet (fail)
                  go_wp2_with fail
                  go_roundw
                  case rel => exact ⟨m + 1, by go_num, by omega, by first | exact Or.inl trivial | (have h := unveil HN2; rw [hn] at h; exact h), below_drewS (unveil hbx) _⟩
                  case measure => simp [intOf]; omega
              · obtain rfl : m = k := by omega
                go_wp2_with fail
                go_roundw
                case rel =>
                  refine ⟨m + 1, NN, by go_num, rfl, by omega, ?_, HALL, ?_, unveil HBY _ (unveil hbx)⟩
                  · show NN = _
                    rw [← unveil HNN, has_snoc (by simpa using hkl), unveil hN, List.getElem_map]
                  · refine ds_step (by simpa using hkl) (unveil hds) ?_
                    simp only [List.getElem_map]
                    rcases unveil hne with h2 | h2
                    · exact .inl h2
                    · exact .inr fun j hj => h2 j hj (by omega)
                case measure => simp [intOf]; omega
    · obtain rfl : k = l.length := by omega
      rw [List.take_of_length_le (by simp)] at hN hall hds
      have hR := unveil HR
      rw [rf_end (unveil hall) (unveil hds), ← unveil hN] at hR
      clear hall hds hN HR
      by_cases h40 : l.length ≤ 40
      · have h40' : (l.length : Int) ≤ 40 := by omega
        rw [decide_eq_true h40, Bool.and_true] at hR
        subst hR
        cases N
        all_goals
          go_wp2_with fail
          go_ret
          exact ⟨rfl, unveil hbe⟩
      · have h40' : ¬ (l.length : Int) ≤ 40 := by omega
        rw [decide_eq_false h40, Bool.and_false] at hR
        subst hR
        cases N
        all_goals
          go_wp2_with fail
          go_ret
          exact ⟨rfl, unveil hbe⟩
end Go.Proofs.Ytkiebejidpebdaa
namespace Go.Proofs.Ytkiebejidpebdaa
open Go.ChangeShapes Go.WideShapes Go.RowKit
set_option linter.unusedVariables false

theorem cellsT2 : Try.prog.cellsOf 2 = 1 := by kernel_rfl
theorem cellsT3 : Try.prog.cellsOf 3 = 1 := by kernel_rfl
theorem cellsT4 : Try.prog.cellsOf 4 = 1 := by kernel_rfl
theorem cellsT9 : Try.prog.cellsOf 9 = 1 := by kernel_rfl
theorem cellsTs : Try.prog.cellsOf 22 = 1 := by kernel_rfl
theorem cellsTf : Try.prog.cellsOf 23 = 1 := by kernel_rfl
theorem cellsTy : Try.prog.cellsOf 25 = 7 := by kernel_rfl
theorem cellsFd : Try.prog.cellsOf 45 = 9 := by kernel_rfl
theorem add_plainS (b o j : Nat) : (⟨b, o, none⟩ : Addr).add j = ⟨b, o + j, none⟩ := by unfold Addr.add; split <;> simp_all
theorem pick_funS {α β : Type} {r : α → β → Prop} (h : ∀ x, ∃ y, r x y) : ∃ f : α → β, ∀ x, r x (f x) := ⟨fun x => Classical.choose (h x), fun x => Classical.choose_spec (h x)⟩
theorem bulk_mem {H : Type} : ∀ (l : List (DataW H)) (d : DataW H), d ∈ l → Rows.uptoBulk d ≤ Rows.uptoBulkAll l
  | [], _, h => by cases h
  | x :: r, d, h => by
    rcases List.mem_cons.1 h with rfl | h
    · simp only [Rows.uptoBulkAll]; omega
    · have := bulk_mem r d h; simp only [Rows.uptoBulkAll]; omega
def zT : ShT := .mk 0 0 0 none 0 [] none 0 [] false 0
set_option maxRecDepth 100000 in
theorem open_type {H : Type} {enc : TypeId × Value → H} {W : World} : ∀ (b fuel : Nat) (cs : List Value) (x : DataW H × List MemPlace), Rows.uptoBulk x.1 ≤ b →
    DataW.trod enc Try.prog W 0 (fun _ => true) true fuel 25 cs = some x → ∃ t : ShT, cs = t.cs.toList ∧ t.In W.heap.size W := by
  intro b
  induction b with
  | zero =>
    intro fuel cs x hb h
    obtain ⟨xs, k, _, hxy, hl, hxl, hf⟩ := DataW.trod_struct Try.underlying25 h
    rw [hxy] at hb
    simp only [Rows.uptoBulk] at hb
    omega
  | succ b ih =>
    intro fuel cs x hb h
    obtain ⟨xs, k, _, hxy, hl, hxl, hf⟩ := DataW.trod_struct Try.underlying25 h
    rw [cellsTy] at hl
    match xs, hxl, cs, hl with
    | [y0, y1, y2, y3, y4, y5, y6], _, [v0, v1, v2, v3, v4, v5, v6], _ =>
      have g0 := hf 0 _ rfl
      have g1 := hf 1 _ rfl
      have g2 := hf 2 _ rfl
      have g3 := hf 3 _ rfl
      have g4 := hf 4 _ rfl
      have g5 := hf 5 _ rfl
      have g6 := hf 6 _ rfl
      simp [cellsT2, cellsT3, cellsT4, cellsTs, cellsTf] at g0 g1 g2 g3 g4 g5 g6
      obtain ⟨sh, e0, _, _⟩ := DataW.trod_int Try.underlying3 g0
      obtain ⟨kk, e1, _, _⟩ := DataW.trod_int Try.underlying3 g1
      obtain ⟨nn, e2, _, _⟩ := DataW.trod_int Try.underlying2 g2
      obtain ⟨pk, e5, _⟩ := DataW.trod_bool Try.underlying4 g5
      obtain ⟨al, e6, _, _⟩ := DataW.trod_int Try.underlying2 g6
      simp only [List.cons.injEq, and_true] at e0 e1 e2 e5 e6
      rw [hxy] at hb
      simp only [List.map_cons, List.map_nil, Rows.uptoBulk, Rows.uptoBulkAll] at hb
      have hO : ∃ (op : Option Addr) (oc : Nat) (of : List ShT), v3 = .slice op of.length oc ∧ ∀ (i : Nat) (h : i < of.length), ∃ g o, op = some ⟨g, o, none⟩ ∧ g < W.heap.size ∧ (∀ (j : Nat), j < 7 → W.cell? ⟨g, o + i * 7 + j, none⟩ = of[i].cs[j]?) ∧ of[i].In W.heap.size W := by
        rcases Go.Deep.open_slice Try.underlying22 g3 with ⟨hc, hx⟩ | ⟨a, len, cap, m, n, D, Pl, hc, _, hl, hm, hmm, hx, hall⟩
        · exact ⟨none, 0, [], by simpa using hc, fun i hi => by simp at hi⟩
        · simp only [if_true] at hmm
          subst hmm
          have hbs : Rows.uptoBulkAll ((List.range len).map D) ≤ b := by
            have : Rows.uptoBulk y3.1 = Rows.uptoBulk (DataW.slice ((List.range len).map D) ((List.range (m - len)).map fun j => D (len + j))) := by rw [hx]
            simp only [Rows.uptoBulk] at this
            omega
          have key : ∀ i, ∃ t : ShT, i < len → (∀ j, j < 7 → W.cell? (a.add (i * 7 + j)) = t.cs[j]?) ∧ t.In W.heap.size W := fun i => by
            by_cases hi : i < len
            · obtain ⟨cs', h1, h2⟩ := hall i (by omega)
              rw [cellsTy] at h1
              obtain ⟨_, hlen, hcell⟩ := World.cells?_some h1
              obtain ⟨t, rfl, htin⟩ := ih n cs' _ (Nat.le_trans (bulk_mem _ _ (List.mem_map.2 ⟨i, List.mem_range.2 hi, rfl⟩)) hbs) h2
              refine ⟨t, fun _ => ⟨fun j hj => ?_, htin⟩⟩
              have := hcell j hj
              rw [Go.Deep.add_add] at this
              simpa using this
            · exact ⟨zT, fun h => absurd h hi⟩
          obtain ⟨G, hG⟩ := pick_funS key
          refine ⟨some a, m, (List.range len).map G, by simpa using hc, fun i hi => ?_⟩
          have hi' : i < len := by simpa using hi
          obtain ⟨bb, off, spot⟩ := a
          have c00 := (hG i hi').1 0 (by decide)
          have c000 := (hG 0 (by omega)).1 0 (by decide)
          have hspot : spot = none := by simpa [Addr.add] using World.cell?_spot (c000.trans (show (G 0).cs[0]? = some _ from rfl))
          subst hspot
          simp only [List.getElem_map, List.getElem_range]
          refine ⟨bb, off, rfl, ?_, fun j hj => ?_, (hG i hi').2⟩
          · have := c00.trans (show (G i).cs[0]? = some _ from rfl)
            rw [add_plainS] at this
            exact World.block_lt_of_cell? W _ this
          · have := (hG i hi').1 j hj
            rw [add_plainS] at this
            rw [Nat.add_assoc]
            exact this
      have hF : ∃ (op : Option Addr) (oc : Nat) (of : List (FdOf ShT)), v4 = .slice op of.length oc ∧ ∀ (i : Nat) (h : i < of.length), ∃ g o, op = some ⟨g, o, none⟩ ∧ g < W.heap.size ∧ (∀ (j : Nat), j < 9 → W.cell? ⟨g, o + i * 9 + j, none⟩ = of[i].cs[j]?) ∧ of[i].nm.length ≤ maxLen ∧ of[i].t.In W.heap.size W := by
        rcases Go.Deep.open_slice Try.underlying23 g4 with ⟨hc, hx⟩ | ⟨a, len, cap, m, n, D, Pl, hc, _, hl, hm, hmm, hx, hall⟩
        · exact ⟨none, 0, [], by simpa using hc, fun i hi => by simp at hi⟩
        · simp only [if_true] at hmm
          subst hmm
          have hbs : Rows.uptoBulkAll ((List.range len).map D) ≤ b := by
            have : Rows.uptoBulk y4.1 = Rows.uptoBulk (DataW.slice ((List.range len).map D) ((List.range (m - len)).map fun j => D (len + j))) := by rw [hx]
            simp only [Rows.uptoBulk] at this
            omega
          have key : ∀ i, ∃ t : FdOf ShT, i < len → (∀ j, j < 9 → W.cell? (a.add (i * 9 + j)) = t.cs[j]?) ∧ t.nm.length ≤ maxLen ∧ t.t.In W.heap.size W := fun i => by
            by_cases hi : i < len
            · obtain ⟨cs', h1, h2⟩ := hall i (by omega)
              rw [cellsFd] at h1
              obtain ⟨_, hlen, hcell⟩ := World.cells?_some h1
              obtain ⟨zs, kz, _, hzy, hzl, hzx, hzf⟩ := DataW.trod_struct Try.underlying45 h2
              rw [cellsFd] at hzl
              have hbD : Rows.uptoBulk (D i) ≤ b := Nat.le_trans (bulk_mem _ _ (List.mem_map.2 ⟨i, List.mem_range.2 hi, rfl⟩)) hbs
              match zs, hzx, cs', hzl with
              | [z0, z1, z2], _, [u0, u1, u2, u3, u4, u5, u6, u7, u8], _ =>
              have r0 := hzf 0 _ rfl
              have r1 := hzf 1 _ rfl
              have r2 := hzf 2 _ rfl
              simp [cellsT9, cellsT3, cellsTy] at r0 r1 r2
              obtain ⟨st, q0, _, qn⟩ := DataW.trod_string Try.underlying9 r0
              obtain ⟨bi, q2, _, _⟩ := DataW.trod_int Try.underlying3 r2
              have hbz : Rows.uptoBulk z1.1 ≤ b := by
                have h3 : D i = .agg ([z0, z1, z2].map (·.1)) := congrArg Prod.fst hzy
                rw [h3] at hbD
                simp only [List.map_cons, List.map_nil, Rows.uptoBulk, Rows.uptoBulkAll] at hbD
                omega
              obtain ⟨t, q1, htin⟩ := ih kz _ _ hbz r1
              simp only [List.cons.injEq, and_true] at q0 q2
              refine ⟨⟨st.data.toList, t, bi⟩, fun _ => ⟨fun j hj => ?_, by simpa using qn, htin⟩⟩
              have := hcell j hj
              rw [Go.Deep.add_add] at this
              rw [this, q0, q2]
              simp only [ShT.cs, List.cons.injEq, and_true] at q1
              obtain ⟨q11, q12, q13, q14, q15, q16, q17⟩ := q1
              rw [q11, q12, q13, q14, q15, q16, q17]
              simp [FdOf.cs]
            · exact ⟨⟨[], zT, 0⟩, fun h => absurd h hi⟩
          obtain ⟨G, hG⟩ := pick_funS key
          refine ⟨some a, m, (List.range len).map G, by simpa using hc, fun i hi => ?_⟩
          have hi' : i < len := by simpa using hi
          obtain ⟨bb, off, spot⟩ := a
          have c00 := (hG i hi').1 0 (by decide)
          have c000 := (hG 0 (by omega)).1 0 (by decide)
          have hspot : spot = none := by simpa [Addr.add] using World.cell?_spot (c000.trans (show (G 0).cs[0]? = some _ from rfl))
          subst hspot
          simp only [List.getElem_map, List.getElem_range]
          refine ⟨bb, off, rfl, ?_, fun j hj => ?_, (hG i hi').2.1, (hG i hi').2.2⟩
          · have := c00.trans (show (G i).cs[0]? = some _ from rfl)
            rw [add_plainS] at this
            exact World.block_lt_of_cell? W _ this
          · have := (hG i hi').1 j hj
            rw [add_plainS] at this
            rw [Nat.add_assoc]
            exact this
      obtain ⟨op, oc, of, ho, hof⟩ := hO
      obtain ⟨fp, fc, fs, hfp, hfs⟩ := hF
      refine ⟨.mk sh kk nn op oc of fp fc fs pk al, ?_, fun d => ?_⟩
      · rw [e0, e1, e2, ho, hfp, e5, e6]
        rfl
      · cases d with
        | zero => trivial
        | succ d =>
          refine ⟨fun i hi => ?_, fun i hi => ?_⟩
          · obtain ⟨g, o, p1, p2, p3, p4⟩ := hof i hi
            exact ⟨g, o, p1, p2, p3, p4 d⟩
          · obtain ⟨g, o, p1, p2, p3, p4, p5⟩ := hfs i hi
            exact ⟨g, o, p1, p2, p3, p4, p5 d⟩
end Go.Proofs.Ytkiebejidpebdaa
namespace Go.Proofs.Ytkiebejidpebdaa
open Go.ChangeShapes Go.WideShapes Go.RowKit
set_option linter.unusedVariables false

def ShT.LenD : Nat → ShT → Prop
  | 0, _ => True
  | d + 1, t => t.of.length ≤ maxLen ∧ t.fs.length ≤ maxLen ∧ ∀ x ∈ t.parts, ShT.LenD d x
def ShT.Len (t : ShT) : Prop := ∀ d, t.LenD d
theorem ShT.Len.one {t : ShT} (h : t.Len) : t.of.length ≤ maxLen ∧ t.fs.length ≤ maxLen := ⟨(h 1).1, (h 1).2.1⟩
theorem ShT.Len.part {t x : ShT} (h : t.Len) (hx : x ∈ t.parts) : x.Len := fun d => (h (d + 1)).2.2 x hx
theorem sz_of {t x : ShT} (h : x ∈ t.of) : SizeOf.sizeOf x < SizeOf.sizeOf t := by
  cases t
  have := List.sizeOf_lt_of_mem h
  simp only [ShT.of] at this
  simp only [ShT.mk.sizeOf_spec]
  omega
theorem sz_fs {t : ShT} {f : FdOf ShT} (h : f ∈ t.fs) : SizeOf.sizeOf f.t < SizeOf.sizeOf t := by
  cases t
  have := List.sizeOf_lt_of_mem h
  simp only [ShT.fs] at this
  have h2 : SizeOf.sizeOf f.t < SizeOf.sizeOf f := by cases f; simp only [FdOf.mk.sizeOf_spec]; omega
  simp only [ShT.mk.sizeOf_spec]
  omega
/-- Two lists, place by place. -/
def all2 {α : Type} (R : α → α → Bool) : List α → List α → Bool
  | [], [] => true
  | x :: r, y :: s => R x y && all2 R r s
  | _, _ => false
theorem all2_len {α : Type} {R : α → α → Bool} : ∀ {l m : List α}, l.length ≠ m.length → all2 R l m = false
  | [], [], h => absurd rfl h
  | [], _ :: _, _ => rfl
  | _ :: _, [], _ => rfl
  | x :: r, y :: s, h => by rw [all2, all2_len (by simpa using h), Bool.and_false]
theorem all2_at {α : Type} {R : α → α → Bool} : ∀ {l m : List α} (i : Nat) (h : i < l.length) (h' : i < m.length), R l[i] m[i] = false → all2 R l m = false
  | x :: r, y :: s, 0, _, _, h => by simp only [List.getElem_cons_zero] at h; rw [all2, h, Bool.false_and]
  | x :: r, y :: s, i + 1, h, h', hR => by rw [all2, all2_at i (by simpa using h) (by simpa using h') (by simpa using hR), Bool.and_false]
theorem all2_yes {α : Type} {R : α → α → Bool} : ∀ {l m : List α} (hl : l.length = m.length), (∀ (i : Nat) (h : i < l.length) (h' : i < m.length), R l[i] m[i] = true) → all2 R l m = true
  | [], [], _, _ => rfl
  | x :: r, y :: s, hl, h => by
    rw [all2, show R x y = true from h 0 (by simp) (by simp), Bool.true_and]
    exact all2_yes (by simpa using hl) (fun i hi hi' => h (i + 1) (Nat.succ_lt_succ hi) (Nat.succ_lt_succ hi'))
def hdM (a b : ShT) : Bool := a.sh == b.sh && a.k == b.k && a.n == b.n && a.pk == b.pk && a.al == b.al
/-- Are both alike, down to so much depth? -/
def samM : Nat → ShT → ShT → Bool
  | 0, _, _ => false
  | d + 1, a, b => hdM a b && all2 (samM d) a.of b.of && all2 (fun f g => f.nm == g.nm && f.bits == g.bits && samM d f.t g.t) a.fs b.fs
set_option maxRecDepth 100000 in
theorem open_typeL {H : Type} {enc : TypeId × Value → H} {W : World} : ∀ (b fuel : Nat) (cs : List Value) (x : DataW H × List MemPlace), Rows.uptoBulk x.1 ≤ b →
    DataW.trod enc Try.prog W 0 (fun _ => true) true fuel 25 cs = some x → ∃ t : ShT, cs = t.cs.toList ∧ t.In W.heap.size W ∧ t.Len := by
  intro b
  induction b with
  | zero =>
    intro fuel cs x hb h
    obtain ⟨xs, k, _, hxy, hl, hxl, hf⟩ := DataW.trod_struct Try.underlying25 h
    rw [hxy] at hb
    simp only [Rows.uptoBulk] at hb
    omega
  | succ b ih =>
    intro fuel cs x hb h
    obtain ⟨xs, k, _, hxy, hl, hxl, hf⟩ := DataW.trod_struct Try.underlying25 h
    rw [cellsTy] at hl
    match xs, hxl, cs, hl with
    | [y0, y1, y2, y3, y4, y5, y6], _, [v0, v1, v2, v3, v4, v5, v6], _ =>
      have g0 := hf 0 _ rfl
      have g1 := hf 1 _ rfl
      have g2 := hf 2 _ rfl
      have g3 := hf 3 _ rfl
      have g4 := hf 4 _ rfl
      have g5 := hf 5 _ rfl
      have g6 := hf 6 _ rfl
      simp [cellsT2, cellsT3, cellsT4, cellsTs, cellsTf] at g0 g1 g2 g3 g4 g5 g6
      obtain ⟨sh, e0, _, _⟩ := DataW.trod_int Try.underlying3 g0
      obtain ⟨kk, e1, _, _⟩ := DataW.trod_int Try.underlying3 g1
      obtain ⟨nn, e2, _, _⟩ := DataW.trod_int Try.underlying2 g2
      obtain ⟨pk, e5, _⟩ := DataW.trod_bool Try.underlying4 g5
      obtain ⟨al, e6, _, _⟩ := DataW.trod_int Try.underlying2 g6
      simp only [List.cons.injEq, and_true] at e0 e1 e2 e5 e6
      rw [hxy] at hb
      simp only [List.map_cons, List.map_nil, Rows.uptoBulk, Rows.uptoBulkAll] at hb
      have hO : ∃ (op : Option Addr) (oc : Nat) (of : List ShT), v3 = .slice op of.length oc ∧ of.length ≤ maxLen ∧ ∀ (i : Nat) (h : i < of.length), ∃ g o, op = some ⟨g, o, none⟩ ∧ g < W.heap.size ∧ (∀ (j : Nat), j < 7 → W.cell? ⟨g, o + i * 7 + j, none⟩ = of[i].cs[j]?) ∧ of[i].In W.heap.size W ∧ of[i].Len := by
        rcases Go.Deep.open_slice Try.underlying22 g3 with ⟨hc, hx⟩ | ⟨a, len, cap, m, n, D, Pl, hc, _, hl, hm, hmm, hx, hall⟩
        · exact ⟨none, 0, [], by simpa using hc, Nat.zero_le _, fun i hi => by simp at hi⟩
        · simp only [if_true] at hmm
          subst hmm
          have hbs : Rows.uptoBulkAll ((List.range len).map D) ≤ b := by
            have : Rows.uptoBulk y3.1 = Rows.uptoBulk (DataW.slice ((List.range len).map D) ((List.range (m - len)).map fun j => D (len + j))) := by rw [hx]
            simp only [Rows.uptoBulk] at this
            omega
          have key : ∀ i, ∃ t : ShT, i < len → (∀ j, j < 7 → W.cell? (a.add (i * 7 + j)) = t.cs[j]?) ∧ t.In W.heap.size W ∧ t.Len := fun i => by
            by_cases hi : i < len
            · obtain ⟨cs', h1, h2⟩ := hall i (by omega)
              rw [cellsTy] at h1
              obtain ⟨_, hlen, hcell⟩ := World.cells?_some h1
              obtain ⟨t, rfl, htin, htl⟩ := ih n cs' _ (Nat.le_trans (bulk_mem _ _ (List.mem_map.2 ⟨i, List.mem_range.2 hi, rfl⟩)) hbs) h2
              refine ⟨t, fun _ => ⟨fun j hj => ?_, htin, htl⟩⟩
              have := hcell j hj
              rw [Go.Deep.add_add] at this
              simpa using this
            · exact ⟨zT, fun h => absurd h hi⟩
          obtain ⟨G, hG⟩ := pick_funS key
          refine ⟨some a, m, (List.range len).map G, by simpa using hc, by simp; omega, fun i hi => ?_⟩
          have hi' : i < len := by simpa using hi
          obtain ⟨bb, off, spot⟩ := a
          have c00 := (hG i hi').1 0 (by decide)
          have c000 := (hG 0 (by omega)).1 0 (by decide)
          have hspot : spot = none := by simpa [Addr.add] using World.cell?_spot (c000.trans (show (G 0).cs[0]? = some _ from rfl))
          subst hspot
          simp only [List.getElem_map, List.getElem_range]
          refine ⟨bb, off, rfl, ?_, fun j hj => ?_, (hG i hi').2.1, (hG i hi').2.2⟩
          · have := c00.trans (show (G i).cs[0]? = some _ from rfl)
            rw [add_plainS] at this
            exact World.block_lt_of_cell? W _ this
          · have := (hG i hi').1 j hj
            rw [add_plainS] at this
            rw [Nat.add_assoc]
            exact this
      have hF : ∃ (op : Option Addr) (oc : Nat) (of : List (FdOf ShT)), v4 = .slice op of.length oc ∧ of.length ≤ maxLen ∧ ∀ (i : Nat) (h : i < of.length), ∃ g o, op = some ⟨g, o, none⟩ ∧ g < W.heap.size ∧ (∀ (j : Nat), j < 9 → W.cell? ⟨g, o + i * 9 + j, none⟩ = of[i].cs[j]?) ∧ of[i].nm.length ≤ maxLen ∧ of[i].t.In W.heap.size W ∧ of[i].t.Len := by
        rcases Go.Deep.open_slice Try.underlying23 g4 with ⟨hc, hx⟩ | ⟨a, len, cap, m, n, D, Pl, hc, _, hl, hm, hmm, hx, hall⟩
        · exact ⟨none, 0, [], by simpa using hc, Nat.zero_le _, fun i hi => by simp at hi⟩
        · simp only [if_true] at hmm
          subst hmm
          have hbs : Rows.uptoBulkAll ((List.range len).map D) ≤ b := by
            have : Rows.uptoBulk y4.1 = Rows.uptoBulk (DataW.slice ((List.range len).map D) ((List.range (m - len)).map fun j => D (len + j))) := by rw [hx]
            simp only [Rows.uptoBulk] at this
            omega
          have key : ∀ i, ∃ t : FdOf ShT, i < len → (∀ j, j < 9 → W.cell? (a.add (i * 9 + j)) = t.cs[j]?) ∧ t.nm.length ≤ maxLen ∧ t.t.In W.heap.size W ∧ t.t.Len := fun i => by
            by_cases hi : i < len
            · obtain ⟨cs', h1, h2⟩ := hall i (by omega)
              rw [cellsFd] at h1
              obtain ⟨_, hlen, hcell⟩ := World.cells?_some h1
              obtain ⟨zs, kz, _, hzy, hzl, hzx, hzf⟩ := DataW.trod_struct Try.underlying45 h2
              rw [cellsFd] at hzl
              have hbD : Rows.uptoBulk (D i) ≤ b := Nat.le_trans (bulk_mem _ _ (List.mem_map.2 ⟨i, List.mem_range.2 hi, rfl⟩)) hbs
              match zs, hzx, cs', hzl with
              | [z0, z1, z2], _, [u0, u1, u2, u3, u4, u5, u6, u7, u8], _ =>
              have r0 := hzf 0 _ rfl
              have r1 := hzf 1 _ rfl
              have r2 := hzf 2 _ rfl
              simp [cellsT9, cellsT3, cellsTy] at r0 r1 r2
              obtain ⟨st, q0, _, qn⟩ := DataW.trod_string Try.underlying9 r0
              obtain ⟨bi, q2, _, _⟩ := DataW.trod_int Try.underlying3 r2
              have hbz : Rows.uptoBulk z1.1 ≤ b := by
                have h3 : D i = .agg ([z0, z1, z2].map (·.1)) := congrArg Prod.fst hzy
                rw [h3] at hbD
                simp only [List.map_cons, List.map_nil, Rows.uptoBulk, Rows.uptoBulkAll] at hbD
                omega
              obtain ⟨t, q1, htin, htl⟩ := ih kz _ _ hbz r1
              simp only [List.cons.injEq, and_true] at q0 q2
              refine ⟨⟨st.data.toList, t, bi⟩, fun _ => ⟨fun j hj => ?_, by simpa using qn, htin, htl⟩⟩
              have := hcell j hj
              rw [Go.Deep.add_add] at this
              rw [this, q0, q2]
              simp only [ShT.cs, List.cons.injEq, and_true] at q1
              obtain ⟨q11, q12, q13, q14, q15, q16, q17⟩ := q1
              rw [q11, q12, q13, q14, q15, q16, q17]
              simp [FdOf.cs]
            · exact ⟨⟨[], zT, 0⟩, fun h => absurd h hi⟩
          obtain ⟨G, hG⟩ := pick_funS key
          refine ⟨some a, m, (List.range len).map G, by simpa using hc, by simp; omega, fun i hi => ?_⟩
          have hi' : i < len := by simpa using hi
          obtain ⟨bb, off, spot⟩ := a
          have c00 := (hG i hi').1 0 (by decide)
          have c000 := (hG 0 (by omega)).1 0 (by decide)
          have hspot : spot = none := by simpa [Addr.add] using World.cell?_spot (c000.trans (show (G 0).cs[0]? = some _ from rfl))
          subst hspot
          simp only [List.getElem_map, List.getElem_range]
          refine ⟨bb, off, rfl, ?_, fun j hj => ?_, (hG i hi').2.1, (hG i hi').2.2.1, (hG i hi').2.2.2⟩
          · have := c00.trans (show (G i).cs[0]? = some _ from rfl)
            rw [add_plainS] at this
            exact World.block_lt_of_cell? W _ this
          · have := (hG i hi').1 j hj
            rw [add_plainS] at this
            rw [Nat.add_assoc]
            exact this
      obtain ⟨op, oc, of, ho, hol, hof⟩ := hO
      obtain ⟨fp, fc, fs, hfp, hfl, hfs⟩ := hF
      refine ⟨.mk sh kk nn op oc of fp fc fs pk al, ?_, fun d => ?_, fun d => ?_⟩
      · rw [e0, e1, e2, ho, hfp, e5, e6]
        rfl
      · cases d with
        | zero => trivial
        | succ d =>
          refine ⟨fun i hi => ?_, fun i hi => ?_⟩
          · obtain ⟨g, o, p1, p2, p3, p4, _⟩ := hof i hi
            exact ⟨g, o, p1, p2, p3, p4 d⟩
          · obtain ⟨g, o, p1, p2, p3, p4, p5, _⟩ := hfs i hi
            exact ⟨g, o, p1, p2, p3, p4, p5 d⟩
      · cases d with
        | zero => trivial
        | succ d =>
          refine ⟨hol, hfl, fun x hx => ?_⟩
          rcases List.mem_append.1 hx with hx | hx
          · obtain ⟨i, hi, rfl⟩ := List.getElem_of_mem hx
            obtain ⟨_, _, _, _, _, _, p5⟩ := hof i hi
            exact p5 d
          · obtain ⟨f, hf, rfl⟩ := List.mem_map.1 hx
            obtain ⟨i, hi, rfl⟩ := List.getElem_of_mem hf
            obtain ⟨_, _, _, _, _, _, _, p6⟩ := hfs i hi
            exact p6 d
end Go.Proofs.Ytkiebejidpebdaa
namespace Go.Proofs.Ytkiebejidpebdaa
open Go Go.RowKit
set_option linter.unusedVariables false
set_option linter.unusedSimpArgs false

/-- A type at a place. -/
def SevAt (W : World) (g o : Nat) (y : ShT) : Prop :=
  W.cell? ⟨g, o, none⟩ = some (.int .i64 y.sh) ∧ W.cell? ⟨g, o + 1, none⟩ = some (.int .i64 y.k) ∧ W.cell? ⟨g, o + 2, none⟩ = some (.int .i64 y.n) ∧ W.cell? ⟨g, o + 3, none⟩ = some (.slice y.op y.of.length y.oc) ∧
    W.cell? ⟨g, o + 4, none⟩ = some (.slice y.fp y.fs.length y.fc) ∧ W.cell? ⟨g, o + 5, none⟩ = some (.bool y.pk) ∧ W.cell? ⟨g, o + 6, none⟩ = some (.int .i64 y.al)
theorem first_at {t : ShT} {w : World} (hin : t.In w.heap.size w) (hl : t.of.length = 1) : ∃ y g o, t.op = some ⟨g, o, none⟩ ∧ t.of = [y] ∧ ∀ W, Below w.heap.size w W → SevAt W g o y ∧ g < W.heap.size := by
  obtain ⟨g, o, e, hg, hc, _⟩ := hin.of 0 (by omega)
  obtain ⟨y, hof⟩ := List.length_eq_one_iff.1 hl
  have hy : t.of[0]'(by omega) = y := by simp [hof]
  rw [hy] at hc
  simp only [Nat.zero_mul, Nat.add_zero] at hc
  refine ⟨y, g, o, e, hof, fun W hW => ⟨?_, Nat.lt_of_lt_of_le hg hW.size⟩⟩
  have h7 : ∀ (j : Nat), j < 7 → W.cell? ⟨g, o + j, none⟩ = y.cs[j]? := fun j hj => (hW.cell (p := ⟨g, o + j, none⟩) hg).trans (hc j hj)
  exact seven h7
/-- What plain tells, over what its calls tell. -/
def plaW (sh k n : Int) (ol : Int) (B ki al rf x : Bool) : Bool :=
  if sh == 1 then B && ki && n == 0 && ol == 0
  else if sh == 2 then B && k == 0 && n == 0 && ol == 0
  else if sh == 3 then (if B && k == 0 && decide (1 ≤ n) && ol == 1 then x else false)
  else if sh == 4 || sh == 5 then (if k == 0 && n == 0 && ol == 0 && al then rf else false)
  else false
set_option maxRecDepth 100000 in
set_option maxHeartbeats 8000000 in
theorem plain_low (t : ShT) (w : World) : Calls Try.prog 41 #[t.v, .int .i64 0] w fun e w' => e = .returned (.bool false) ∧ Below w.heap.size w w' := by
  unfold ShT.v ShT.cs
  go_enter Try.func41, Try.ntmps41
  go_wp2_with fail
  go_ret
  exact ⟨rfl, (Below.refl _ w).alloc (Nat.le_refl _) _⟩
set_option maxRecDepth 100000 in
set_option maxHeartbeats 20000000 in
theorem plain_walk (t : ShT) (D : Int) (h1 : 1 ≤ D) (h6 : D ≤ 6) (w : World) (hin : t.In w.heap.size w) (x rf : Bool)
    (hx : ∀ y, t.of = [y] → ∀ W, Below w.heap.size w W → Calls Try.prog 41 #[y.v, .int .i64 (D - 1)] W fun e w' => e = .returned (.bool x) ∧ Below W.heap.size W w')
    (hf : ∀ W, Below w.heap.size w W → Calls Try.prog 67 #[.slice t.fp t.fs.length t.fc, .int .i64 (D - 1)] W fun e w' => e = .returned (.bool rf) ∧ Below W.heap.size W w') :
    Calls Try.prog 41 #[t.v, .int .i64 D] w fun e w' => e = .returned (.bool (plaW t.sh t.k t.n t.of.length ((t.fs.length : Int) == 0 && !t.pk && t.al == 0) (kiM t.k) (aliM t.al) rf x)) ∧ Below w.heap.size w w' := by
  have HI := veil (RIs_any t.k)
  have HA := veil (isAlign_any t.al)
  have HF := veil hf
  have HW0 := veil (And.intro (TyB.new w t).seven ((Below.refl _ w).alloc (Nat.le_refl _) (.cells t.cs 25)))
  have hD : ¬ D < 1 := by omega
  have HARR : Hid (t.of.length = 1 → ∃ y g o, t.op = some ⟨g, o, none⟩ ∧ (∀ W, Below w.heap.size w W → SevAt W g o y ∧ g < W.heap.size) ∧ ∀ W, Below w.heap.size w W → Calls Try.prog 41 #[y.v, .int .i64 (D - 1)] W fun e w' => e = .returned (.bool x) ∧ Below W.heap.size W w') := fun hl => by
    obtain ⟨y, g, o, e, hof, hh⟩ := first_at hin hl
    exact ⟨y, g, o, e, hh, hx y hof⟩
  clear hx hf hin
  unfold ShT.v ShT.cs at HW0 ⊢
  unfold plaW
  obtain ⟨B, hB⟩ : ∃ B, ((t.fs.length : Int) == 0 && !t.pk && t.al == 0) = B := ⟨_, rfl⟩
  rw [hB]
  have HBB := veil hB
  clear hB
  generalize t.sh = sh at *
  generalize kiM t.k = ki at *
  generalize t.k = k at *
  generalize t.n = n at *
  generalize t.op = op at *
  generalize t.of.length = ol at *
  generalize t.oc = oc at *
  generalize t.fp = fp at *
  generalize t.fs.length = fl at *
  generalize t.fc = fc at *
  generalize t.pk = pk at *
  generalize aliM t.al = a at *
  generalize t.al = al at *
  go_enter Try.func41, Try.ntmps41
  go_upto_region 3 with fail
  generalize (w.alloc (.cells #[.int .i64 sh, .int .i64 k, .int .i64 n, .slice op ol oc, .slice fp fl fc, .bool pk, .int .i64 al] 25)) = W0 at HW0 ⊢
  obtain ⟨⟨y0, y1, y2, y3, y4, y5, y6⟩, hb0⟩ := unveil HW0
  have HB0 := veil hb0
  have HB1 : Hid (∀ w', Below W0.heap.size W0 w' → Below w.heap.size w w') := fun w' h => (unveil HB0).trans (h.mono (unveil HB0).size)
  clear HW0 hb0
  go_cut [5] (fun c wx => c = .bool B ∧ wx = W0)
  case first =>
    clear HARR HF HA HI HB0 HB1
    cases hn : (fl : Int) == 0
    · go_wp2_with fail
      go_meet
      case rel => exact ⟨by rw [← unveil HBB, hn]; simp, rfl⟩
    · cases pk
      all_goals
        go_wp2_with fail
        go_meet
        case rel => exact ⟨by rw [← unveil HBB, hn]; simp, rfl⟩
  case rest =>
    obtain ⟨rfl, rfl⟩ := hcut
    clear HBB
    cases h1 : sh == 1
    · cases h2 : sh == 2
      · cases h3 : sh == 3
        · cases h4 : sh == 4
          · cases h5 : sh == 5
            · go_wp2_with fail
              go_ret
              exact ⟨by simp, unveil HB0⟩
            · cases hk : k == 0
              · have hk' : (k != 0) = true := by simp [bne, hk]
                go_wp2_with fail
                go_ret
                exact ⟨by simp, unveil HB0⟩
              · have hk' : (k != 0) = false := by simp [bne, hk]
                cases hn : n == 0
                · have hn' : (n != 0) = true := by simp [bne, hn]
                  go_wp2_with fail
                  go_ret
                  exact ⟨by simp, unveil HB0⟩
                · have hn' : (n != 0) = false := by simp [bne, hn]
                  by_cases ho : ol > 0
                  · have ho' : (ol : Int) > 0 := by omega
                    have ho2 : ((ol : Int) == 0) = false := by simp; omega
                    go_wp2_with fail
                    go_ret
                    exact ⟨by simp [ho2], unveil HB0⟩
                  · obtain rfl : ol = 0 := by omega
                    cases a
                    all_goals
                      go_wp2_with (first
                        | (go_at_call 66; refine (unveil HA _).mono ?_; rintro e w' ⟨rfl, hw'⟩; obtain rfl := hw'.symm)
                        | (go_at_call 67; refine (unveil HF _ (unveil HB0)).mono ?_; rintro e w' ⟨rfl, hw'⟩))
                      go_ret
                      exact ⟨by simp, by first | exact unveil HB0 | exact unveil HB1 _ hw'⟩
          · cases hk : k == 0
            · have hk' : (k != 0) = true := by simp [bne, hk]
              go_wp2_with fail
              go_ret
              exact ⟨by simp, unveil HB0⟩
            · have hk' : (k != 0) = false := by simp [bne, hk]
              cases hn : n == 0
              · have hn' : (n != 0) = true := by simp [bne, hn]
                go_wp2_with fail
                go_ret
                exact ⟨by simp, unveil HB0⟩
              · have hn' : (n != 0) = false := by simp [bne, hn]
                by_cases ho : ol > 0
                · have ho' : (ol : Int) > 0 := by omega
                  have ho2 : ((ol : Int) == 0) = false := by simp; omega
                  go_wp2_with fail
                  go_ret
                  exact ⟨by simp [ho2], unveil HB0⟩
                · obtain rfl : ol = 0 := by omega
                  cases a
                  all_goals
                    go_wp2_with (first
                      | (go_at_call 66; refine (unveil HA _).mono ?_; rintro e w' ⟨rfl, hw'⟩; obtain rfl := hw'.symm)
                      | (go_at_call 67; refine (unveil HF _ (unveil HB0)).mono ?_; rintro e w' ⟨rfl, hw'⟩))
                    go_ret
                    exact ⟨by simp, by first | exact unveil HB0 | exact unveil HB1 _ hw'⟩
        · cases B
          · go_wp2_with fail
            go_ret
            exact ⟨by simp, unveil HB0⟩
          · cases hk : k == 0
            · have hk' : (k != 0) = true := by simp [bne, hk]
              go_wp2_with fail
              go_ret
              exact ⟨by simp, unveil HB0⟩
            · have hk' : (k != 0) = false := by simp [bne, hk]
              by_cases hn : n < 1
              · go_wp2_with fail
                go_ret
                exact ⟨by simp [show ¬ 1 ≤ n by omega], unveil HB0⟩
              · by_cases ho : ol = 1
                · obtain ⟨y, g, o, rfl, hc, hy⟩ := unveil HARR ho
                  subst ho
                  have HY := veil (hy _ (unveil HB0))
                  obtain ⟨⟨c0, c1, c2, c3, c4, c5, c6⟩, hgl⟩ := hc _ (unveil HB0)
                  clear hy hc HARR
                  unfold ShT.v ShT.cs at HY
                  go_wp2_with (go_at_call 41; refine (unveil HY).mono ?_; rintro e w' ⟨rfl, hw'⟩)
                  go_ret
                  exact ⟨by simp [show 1 ≤ n by omega], unveil HB1 _ hw'⟩
                · have ho1 : ((ol : Int) == 1) = false := by simp; omega
                  have ho2 : ((ol : Int) != 1) = true := by simp [bne, ho1]
                  go_wp2_with fail
                  go_ret
                  exact ⟨by simp [ho1], unveil HB0⟩
      · cases B
        · go_wp2_with fail
          go_ret
          exact ⟨by simp, unveil HB0⟩
        · cases hk : k == 0
          · go_wp2_with fail
            go_ret
            exact ⟨by simp, unveil HB0⟩
          · cases hn : n == 0
            all_goals
              go_wp2_with fail
              go_ret
              exact ⟨by simp, unveil HB0⟩
    · cases B
      · go_wp2_with fail
        go_ret
        exact ⟨by simp, unveil HB0⟩
      · cases ki
        · go_wp2_with (go_at_call 65; refine (unveil HI _).mono ?_; rintro e w' ⟨rfl, hw'⟩; obtain rfl := hw'.symm)
          go_ret
          exact ⟨by simp, unveil HB0⟩
        · cases hn : n == 0
          all_goals
            go_wp2_with (go_at_call 65; refine (unveil HI _).mono ?_; rintro e w' ⟨rfl, hw'⟩; obtain rfl := hw'.symm)
            go_ret
            exact ⟨by simp, unveil HB0⟩
end Go.Proofs.Ytkiebejidpebdaa
namespace Go.Proofs.Ytkiebejidpebdaa
open Go Go.RowKit
set_option linter.unusedVariables false
set_option linter.unusedSimpArgs false

theorem pla_is (d : Nat) (t : ShT) : plaW t.sh t.k t.n t.of.length ((t.fs.length : Int) == 0 && !t.pk && t.al == 0) (kiM t.k) (aliM t.al) (rfM d t.fs) (match t.of with | [y] => rigM d y | _ => false) = rigM (d + 1) t := by
  unfold plaW
  rw [lenB0, lenB0, lenB1]
  cases h1 : t.sh == 1
  · cases h2 : t.sh == 2
    · cases h3 : t.sh == 3
      · simp only [Bool.false_eq_true, if_false]
        cases h4 : (t.sh == 4 || t.sh == 5)
        · simp only [Bool.or_eq_false_iff] at h4
          rw [rig_none h1 h2 h3 h4.1 h4.2]
          rfl
        · rw [rig_mem h4]
          simp only [if_true]
          cases t.k == 0 <;> cases t.n == 0 <;> cases t.of.length == 0 <;> cases aliM t.al <;> simp
      · simp only [Bool.false_eq_true, if_false, if_true]
        cases hc : ((t.fs.length == 0 && !t.pk && t.al == 0) && t.k == 0 && decide (1 ≤ t.n) && t.of.length == 1)
        · rw [rig_arr_no h3 hc]
          rfl
        · simp only [if_true]
          have hl : t.of.length = 1 := by simp only [Bool.and_eq_true, beq_iff_eq] at hc; exact hc.2
          obtain ⟨y, hy⟩ := List.length_eq_one_iff.1 hl
          rw [rig_arr h3 hc hy, hy]
    · simp only [Bool.false_eq_true, if_false, if_true]
      rw [rig_ptr h1 h2]
  · simp only [if_true]
    rw [rig_int h1]
theorem plain_any : ∀ (d : Nat), d ≤ 6 → ∀ (t : ShT) (w : World), t.In w.heap.size w → t.Len →
    Calls Try.prog 41 #[t.v, .int .i64 d] w fun e w' => e = .returned (.bool (rigM d t)) ∧ Below w.heap.size w w'
  | 0, _, t, w, _, _ => plain_low t w
  | d + 1, hd, t, w, hin, hle => by
    rw [← pla_is]
    have hsub : (((d + 1 : Nat) : Int) - 1) = d := by omega
    refine plain_walk t ((d + 1 : Nat) : Int) (by omega) (by omega) w hin _ _ (fun y hy W hW => ?_) (fun W hW => ?_)
    · rw [hy]
      simp only
      rw [hsub]
      have hm : y ∈ t.parts := by unfold ShT.parts; rw [hy]; simp
      exact plain_any d (by omega) y W ((parts_in (hin.below hW) hm).mono hW.size) (hle.part hm)
    · rw [hsub]
      refine fields_any d d _ _ _ W (fun i hi => ?_) (by have := hle.one.2; unfold maxLen at this; omega) (fun f hf W' hW' => ?_)
      · obtain ⟨g, o, e, hg, hc, hn⟩ := ((FdG.of hin).below hW) i hi
        exact ⟨g, o, e, Nat.lt_of_lt_of_le hg hW.size, hc, hn⟩
      · have hW2 : Below w.heap.size w W' := hW.trans (hW'.mono hW.size)
        exact plain_any d (by omega) f.t W' ((parts_in (hin.below hW2) (fs_part hf)).mono hW2.size) (hle.part (fs_part hf))
end Go.Proofs.Ytkiebejidpebdaa
namespace Go.Proofs.Ytkiebejidpebdaa
open Go Go.RowKit Go.Shelf
set_option linter.unusedVariables false
set_option linter.unusedSimpArgs false

/-- What Of tells. -/
def OfP (w : World) (z a er : Int) (L : List Mb) (e : Ending) (w' : World) : Prop :=
  ∃ q n c, e = .returned (.tuple #[.agg (bxC z a false (.slice q n c)), .int .i64 er]) ∧ Below w.heap.size w w' ∧ w'.ownsRow w.heap.size 42 3 (.slice q n c) L.length (spCs L)
def ofL (t : ShT) : List Mb := if (chkM t).2 == 0 then boxL 6 t else []
theorem res_bt {f : Func} {k j : Nat} {tmps : Array Value} {w : World} {R : Nat} {cs : Array Value} (hr : f.results = #[.cell k 32, .tmp j]) (hp : tmps.getD k undef = .pointer (some ⟨R, 0, none⟩)) (hg : w.heap[R]? = some (.cells cs 32 (0, 0))) (hz : cs.size = 4) :
    (results f tmps).run Try.prog w = .ok (.tuple #[.agg cs, tmps.getD j undef]) w := by
  rw [results_cell_tmp hr, hp]
  have hi : (Try.prog.info? 32).map (·.size) = some cs.size := by rw [hz]; kernel_rfl
  simp [asAddr, run_loadVar_row w R 32 32 cs (0, 0) _ hg Try.underlying32 rfl hi]
set_option maxRecDepth 100000 in
set_option maxHeartbeats 8000000 in
theorem Of_any (t : ShT) (w : World) (hin : t.In w.heap.size w) (hle : t.Len) :
    Calls Try.prog 19 #[t.v] w (OfP w (chkM t).1.1 (chkM t).1.2 (chkM t).2 (ofL t)) := by
  have hS := BoS.new w t
  have HR : Hid (∀ W, BoS w W t → Calls Try.prog 41 #[t.v, .int .i64 6] W fun r w' => r = .returned (.bool (rigM 6 t)) ∧ Below W.heap.size W w') := fun W h => plain_any 6 (Nat.le_refl _) t W ((hin.below h.be).mono h.be.size) hle
  have HM : Hid (rigM 6 t = true → ∀ W, BoS w W t → Calls Try.prog 42 #[t.v] W (BxP W (meaM 6 t).1 (meaM 6 t).2 (decide (65536 < (meaM 6 t).1)) (boxL 6 t))) := fun hr W h => box_any 6 t W hr ((hin.below h.be).mono h.be.size)
  have HS := veil hS
  clear hin hS hle
  unfold ofL chkM
  generalize rigM 6 t = RG at *
  generalize meaM 6 t = M at *
  generalize boxL 6 t = BL at *
  obtain ⟨z, a⟩ := M
  unfold ShT.v ShT.cs at *
  unfold bxC at HS
  simp only
  cases RG
  · simp only [Bool.false_eq_true, if_false]
    have e1 : ((100 : Int) == 0) = false := rfl
    rw [e1]
    simp only [Bool.false_eq_true, if_false]
    go_enter Try.func19, Try.ntmps19
    go_upto_region 1 with fail
    generalize ((w.alloc (.cells #[.int .i64 t.sh, .int .i64 t.k, .int .i64 t.n, .slice t.op t.of.length t.oc, .slice t.fp t.fs.length t.fc, .bool t.pk, .int .i64 t.al] 25)).alloc (.cells #[.int .i64 0, .int .i64 0, .bool false, .slice none 0 0] 32)) = W0 at HS ⊢
    obtain ⟨y0, y1, y2, y3, y4, y5, y6⟩ := (unveil HS).t.seven
    go_wp2_with (go_at_call 41; refine (unveil HR _ (unveil HS)).mono ?_; rintro r W1 ⟨rfl, hb1⟩; have HS1 := veil ((unveil HS).call hb1); obtain ⟨p0, p1, p2, p3, f0, f1, f2, f3⟩ := (unveil HS1).zcells)
    exact bodyPost_ret (res_bt (f := Try.f19) rfl rfl ((unveil HS1).fin _ _ _ _).1 rfl) rfl ⟨none, 0, 0, rfl, ((unveil HS1).fin _ _ _ _).2, World.ownsRow_nil _ _ _ _⟩
  · have HM1 := veil (unveil HM rfl)
    clear HM
    simp only [if_true]
    by_cases hb : 65536 < z
    · simp only [if_pos hb]
      rw [decide_eq_true hb] at HM1
      have e1 : ((101 : Int) == 0) = false := rfl
      rw [e1]
      simp only [Bool.false_eq_true, if_false]
      clear hb
      go_enter Try.func19, Try.ntmps19
      go_upto_region 1 with fail
      generalize ((w.alloc (.cells #[.int .i64 t.sh, .int .i64 t.k, .int .i64 t.n, .slice t.op t.of.length t.oc, .slice t.fp t.fs.length t.fc, .bool t.pk, .int .i64 t.al] 25)).alloc (.cells #[.int .i64 0, .int .i64 0, .bool false, .slice none 0 0] 32)) = W0 at HS ⊢
      obtain ⟨y0, y1, y2, y3, y4, y5, y6⟩ := (unveil HS).t.seven
      go_wp2_with (first
        | (go_at_call 41; refine (unveil HR _ (unveil HS)).mono ?_; rintro r W1 ⟨rfl, hb1⟩; have HS1 := veil ((unveil HS).call hb1); obtain ⟨x0, x1, x2, x3, x4, x5, x6⟩ := (unveil HS1).t.seven)
        | (go_at_call 42; refine (unveil HM1 _ (unveil HS1)).mono ?_; rintro r W2 ⟨s, al, uq, un, uc, he, hb2, hpost⟩; unfold bxC at he; subst he; have HS2 := veil ((unveil HS1).call hb2); obtain ⟨p0, p1, p2, p3, f0, f1, f2, f3⟩ := (unveil HS2).zcells; have lt1 := (unveil HS2).z.lt; clear hpost))
      exact bodyPost_ret (res_bt (f := Try.f19) rfl rfl (((unveil HS2).fin _ _ _ _).1.alloc _) rfl) rfl ⟨none, 0, 0, rfl, ((unveil HS2).fin _ _ _ _).2.alloc ((unveil HS2).fin _ _ _ _).2.size _, World.ownsRow_nil _ _ _ _⟩
    · simp only [if_neg hb]
      rw [decide_eq_false hb] at HM1
      have e1 : ((0 : Int) == 0) = true := rfl
      rw [e1]
      simp only [if_true]
      clear hb
      go_enter Try.func19, Try.ntmps19
      go_upto_region 1 with fail
      generalize ((w.alloc (.cells #[.int .i64 t.sh, .int .i64 t.k, .int .i64 t.n, .slice t.op t.of.length t.oc, .slice t.fp t.fs.length t.fc, .bool t.pk, .int .i64 t.al] 25)).alloc (.cells #[.int .i64 0, .int .i64 0, .bool false, .slice none 0 0] 32)) = W0 at HS ⊢
      obtain ⟨y0, y1, y2, y3, y4, y5, y6⟩ := (unveil HS).t.seven
      go_wp2_with (first
        | (go_at_call 41; refine (unveil HR _ (unveil HS)).mono ?_; rintro r W1 ⟨rfl, hb1⟩; have HS1 := veil ((unveil HS).call hb1); obtain ⟨x0, x1, x2, x3, x4, x5, x6⟩ := (unveil HS1).t.seven)
        | (go_at_call 42; refine (unveil HM1 _ (unveil HS1)).mono ?_; rintro r W2 ⟨s, al, uq, un, uc, he, hb2, hpost⟩; obtain ⟨rfl, rfl, hrow⟩ := hpost rfl; unfold bxC at he; subst he; have HS2 := veil ((unveil HS1).call hb2); have HROW := veil (ownsRow_baseS hrow (unveil HS1).be.size); obtain ⟨p0, p1, p2, p3, f0, f1, f2, f3⟩ := (unveil HS2).zcells; have lt1 := (unveil HS2).z.lt; clear hpost hrow))
      exact bodyPost_ret (res_bt (f := Try.f19) rfl rfl (((unveil HS2).fin _ _ _ _).1.alloc _) rfl) rfl ⟨uq, un, uc, rfl, ((unveil HS2).fin _ _ _ _).2.alloc ((unveil HS2).fin _ _ _ _).2.size _, (row_put4 (unveil HROW) (unveil HS2).z (by decide) _ _ _ _).alloc _⟩
theorem ofL_mem {t : ShT} (hc : ((chkM t).2 == 0) = true) (hs : (t.sh == 4 || t.sh == 5) = true) : ofL t = (t.ml (meaM 5)).map Prod.snd := by
  have h4 : t.sh = 4 ∨ t.sh = 5 := by simpa using hs
  unfold ofL
  rw [if_pos hc, boxL]
  rcases h4 with h | h <;> rw [h] <;> rfl
set_option maxRecDepth 100000 in
set_option maxHeartbeats 8000000 in
theorem RMembers_any (t : ShT) (w : World) (hin : t.In w.heap.size w) (hle : t.Len) :
    Calls Try.prog 22 #[t.v] w fun e w' => MbP w (memL t).1 (memL t).2 e w' := by
  have HO : Hid (∀ W, TyB W w.heap.size t → Below w.heap.size w W → Calls Try.prog 19 #[t.v] W (OfP W (chkM t).1.1 (chkM t).1.2 (chkM t).2 (ofL t))) := fun W _ h => Of_any t W ((hin.below h).mono h.size) hle
  have HT0 := veil (And.intro (TyB.new w t) ((Below.refl _ w).alloc (Nat.le_refl _) (.cells t.cs 25)))
  clear hin hle
  have HOF := veil (fun hc hs => ofL_mem (t := t) hc hs)
  unfold memL
  generalize (t.ml (meaM 5)).map Prod.snd = ML at *
  generalize ofL t = OL at *
  generalize chkM t = C at *
  obtain ⟨⟨z, a⟩, er⟩ := C
  simp only at *
  unfold ShT.v ShT.cs at *
  cases hc : er == 0
  · simp only [Bool.false_eq_true, if_false]
    have hc' : (er != 0) = true := by simp only [bne, hc]; rfl
    clear HOF
    go_enter Try.func22, Try.ntmps22
    go_upto_region 1 with fail
    generalize (w.alloc (.cells #[.int .i64 t.sh, .int .i64 t.k, .int .i64 t.n, .slice t.op t.of.length t.oc, .slice t.fp t.fs.length t.fc, .bool t.pk, .int .i64 t.al] 25)) = W0 at HT0 ⊢
    obtain ⟨y0, y1, y2, y3, y4, y5, y6⟩ := (unveil HT0).1.seven
    go_wp2_with (go_at_call 19; refine (unveil HO _ (unveil HT0).1 (unveil HT0).2).mono ?_; rintro r W1 ⟨q, n, c, he, hb1, hrow⟩; unfold bxC at he; subst he; have HB := veil ((unveil HT0).2.trans (hb1.mono (unveil HT0).2.size)); clear hb1 hrow)
    refine bodyPost_ret (results_tmp2 rfl _ _ _) rfl ?_
    exact ⟨_, rfl, World.ownsRow_nil _ _ _ _, (unveil HB).alloc (unveil HB).size _⟩
  · simp only [if_true]
    obtain rfl : er = 0 := by simpa using hc
    clear hc
    cases hs : (t.sh == 4 || t.sh == 5)
    · simp only [Bool.false_eq_true, if_false]
      have hs4 : (t.sh != 4) = true := by cases h : t.sh == 4 <;> simp_all [bne]
      have hs5 : (t.sh != 5) = true := by cases h : t.sh == 5 <;> simp_all [bne]
      clear hs HOF
      go_enter Try.func22, Try.ntmps22
      go_upto_region 1 with fail
      generalize (w.alloc (.cells #[.int .i64 t.sh, .int .i64 t.k, .int .i64 t.n, .slice t.op t.of.length t.oc, .slice t.fp t.fs.length t.fc, .bool t.pk, .int .i64 t.al] 25)) = W0 at HT0 ⊢
      obtain ⟨y0, y1, y2, y3, y4, y5, y6⟩ := (unveil HT0).1.seven
      go_wp2_with (go_at_call 19; refine (unveil HO _ (unveil HT0).1 (unveil HT0).2).mono ?_; rintro r W1 ⟨q, n, c, he, hb1, hrow⟩; unfold bxC at he; subst he; have HB := veil ((unveil HT0).2.trans (hb1.mono (unveil HT0).2.size)); obtain ⟨x0, x1, x2, x3, x4, x5, x6⟩ := ((unveil HT0).1.below hb1).seven; have lt0 := ((unveil HT0).1.below hb1).lt; clear hb1 hrow)
      refine bodyPost_ret (results_tmp2 rfl _ _ _) rfl ?_
      exact ⟨_, rfl, World.ownsRow_nil _ _ _ _, (unveil HB).alloc (unveil HB).size _⟩
    · simp only [if_true]
      obtain rfl := unveil HOF rfl hs
      have hs2 : ((t.sh != 4) = false) ∨ ((t.sh != 4) = true ∧ (t.sh != 5) = false) := by
        have hsh : t.sh = 4 ∨ t.sh = 5 := by simpa using hs
        rcases hsh with h | h <;> simp [h]
      clear hs HOF
      rcases hs2 with h4 | ⟨h4, h5⟩
      all_goals
        go_enter Try.func22, Try.ntmps22
        go_upto_region 1 with fail
        generalize (w.alloc (.cells #[.int .i64 t.sh, .int .i64 t.k, .int .i64 t.n, .slice t.op t.of.length t.oc, .slice t.fp t.fs.length t.fc, .bool t.pk, .int .i64 t.al] 25)) = W0 at HT0 ⊢
        obtain ⟨y0, y1, y2, y3, y4, y5, y6⟩ := (unveil HT0).1.seven
        go_wp2_with (go_at_call 19; refine (unveil HO _ (unveil HT0).1 (unveil HT0).2).mono ?_; rintro r W1 ⟨q, n, c, he, hb1, hrow⟩; unfold bxC at he; subst he; have HB := veil ((unveil HT0).2.trans (hb1.mono (unveil HT0).2.size)); have HROW := veil (ownsRow_baseS hrow (unveil HT0).2.size); obtain ⟨x0, x1, x2, x3, x4, x5, x6⟩ := ((unveil HT0).1.below hb1).seven; have lt0 := ((unveil HT0).1.below hb1).lt; clear hb1 hrow)
        refine bodyPost_ret (results_tmp2 rfl _ _ _) rfl ?_
        exact ⟨_, rfl, (unveil HROW).alloc _, (unveil HB).alloc (unveil HB).size _⟩
end Go.Proofs.Ytkiebejidpebdaa
namespace Go.Proofs.Ytkiebejidpebdaa
open Go Go.RowKit Go.Shelf
set_option linter.unusedVariables false
set_option linter.unusedSimpArgs false

theorem heldSp : Try.prog.stoodInHeld 42 = false := by kernel_rfl
theorem fieldsSp : Try.prog.underlying 42 = some (.struct (Try.prog.fieldsOf 42)) := by kernel_rfl
/-- Two spots compared. -/
theorem spot_eq (a b c a' b' c' : Int) (W : World) : (Op.equalIn 10000 42 (.agg #[.int .i64 a, .int .i64 b, .int .i64 c]) (.agg #[.int .i64 a', .int .i64 b', .int .i64 c'])).run Try.prog W = .ok (decide (a = a' ∧ b = b' ∧ c = c')) W := by
  rw [run_equalIn_struct _ 9999 42 _ _ fieldsSp heldSp]
  simp only [Program.fieldsOf, Try.underlying42]
  simp [Op.eqFields, go_sem]
  by_cases h1 : a = a' <;> by_cases h2 : b = b' <;> by_cases h3 : c = c' <;> simp [*]
theorem spot_neq (a b c a' b' c' : Int) (W : World) : (binOp .neq 42 (.agg #[.int .i64 a, .int .i64 b, .int .i64 c]) (.agg #[.int .i64 a', .int .i64 b', .int .i64 c'])).run Try.prog W = .ok (.bool (!decide (a = a' ∧ b = b' ∧ c = c'))) W := by
  rw [run_neq_struct, spot_eq]; rfl
theorem spCs_at : ∀ (l : List Mb) (i : Nat) (h : i < l.length), (spCs l)[i * 3]? = some (.int .i64 l[i].bit) ∧ (spCs l)[i * 3 + 1]? = some (.int .i64 l[i].bits) ∧ (spCs l)[i * 3 + 2]? = some (.int .i64 l[i].k)
  | [], _, h => absurd h (Nat.not_lt_zero _)
  | m :: r, 0, _ => by simp [spCs, spC]
  | m :: r, i + 1, h => by
    have ih := spCs_at r i (by simpa using h)
    have e : spCs (m :: r) = spC m ++ spCs r := by simp [spCs]
    rw [e]
    have e3 : (spC m).length = 3 := rfl
    refine ⟨?_, ?_, ?_⟩
    · rw [List.getElem?_append_right (by omega), e3, show (i + 1) * 3 - 3 = i * 3 by omega]; exact ih.1
    · rw [List.getElem?_append_right (by omega), e3, show (i + 1) * 3 + 1 - 3 = i * 3 + 1 by omega]; exact ih.2.1
    · rw [List.getElem?_append_right (by omega), e3, show (i + 1) * 3 + 2 - 3 = i * 3 + 2 by omega]; exact ih.2.2
/-- The cells of one spot. -/
theorem row_at {W : World} {base : Nat} {p : Option Addr} {n cap : Nat} {L : List Mb} (h : W.ownsRow base 42 3 (.slice p n cap) L.length (spCs L)) {i : Nat} (hi : i < L.length) :
    n = L.length ∧ n ≤ cap ∧ ∃ g, p = some ⟨g, 0, none⟩ ∧ base ≤ g ∧ g < W.heap.size ∧ W.cell? ⟨g, i * 3, none⟩ = some (.int .i64 L[i].bit) ∧ W.cell? ⟨g, i * 3 + 1, none⟩ = some (.int .i64 L[i].bits) ∧ W.cell? ⟨g, i * 3 + 2, none⟩ = some (.int .i64 L[i].k) := by
  obtain ⟨m, hm⟩ : ∃ m, L.length = m + 1 := ⟨L.length - 1, by omega⟩
  rw [hm] at h
  obtain ⟨g, cp, he, h1, h2, h3, h4⟩ := row_cells h
  obtain ⟨rfl, rfl, rfl⟩ : p = some ⟨g, 0, none⟩ ∧ n = m + 1 ∧ cap = cp := by simpa using he
  obtain ⟨e1, e2, e3⟩ := spCs_at L i hi
  exact ⟨hm.symm, h3, g, rfl, h1, h2, h4 _ _ e1, h4 _ _ e2, h4 _ _ e3⟩
set_option maxRecDepth 100000 in
set_option maxHeartbeats 8000000 in
theorem spots_eq (va vb : Value) (L : List Mb) (Ba Bb : Nat) (w : World) (hsz : L.length ≤ 1000000) (ha : w.ownsRow Ba 42 3 va L.length (spCs L)) (hb : w.ownsRow Bb 42 3 vb L.length (spCs L)) :
    Calls Try.prog 23 #[va, vb] w fun e w' => e = .returned (.bool true) ∧ Below w.heap.size w w' := by
  obtain ⟨p, cp, rfl⟩ := row_slice ha
  obtain ⟨q, cq, rfl⟩ := row_slice hb
  have HA := veil ha
  have HB := veil hb
  clear ha hb
  have i0 : (((L.length : Nat) : Int) != ((L.length : Nat) : Int)) = false := by simp
  go_enter Try.func23, Try.ntmps23
  go_wp2
  go_loopg [5] L.length (fun gk i wr => ∃ (k : Nat), gk = L.length - k ∧ i = .int .i64 k ∧ k ≤ L.length ∧ Hid (Below w.heap.size w wr))
  case atStart => exact ⟨0, rfl, rfl, by omega, Below.refl _ _⟩
  case round =>
    obtain ⟨k, rfl, rfl, hk, hw⟩ := hrel
    by_cases hlt : k < L.length
    · have i1 : (k : Int) < (L.length : Int) := by omega
      obtain ⟨_, _, g, rfl, _, hg, a0, a1, a2⟩ := row_at (unveil HA) (i := k) hlt
      obtain ⟨_, _, g', rfl, _, hg', b0, b1, b2⟩ := row_at (unveil HB) (i := k) hlt
      have hww : ∀ b o v, b < w.heap.size → w.cell? ⟨b, o, none⟩ = some v → wr.cell? ⟨b, o, none⟩ = some v := fun b o v hb h => ((unveil hw).cell (p := ⟨b, o, none⟩) hb).trans h
      replace a0 := hww _ _ _ hg a0
      replace a1 := hww _ _ _ hg a1
      replace a2 := hww _ _ _ hg a2
      replace b0 := hww _ _ _ hg' b0
      replace b1 := hww _ _ _ hg' b1
      replace b2 := hww _ _ _ hg' b2
      clear hww
      generalize L[k] = x at *
      obtain ⟨x1, x2, x3, x4⟩ := x
      simp only at a0 a1 a2 b0 b1 b2
      have hneq := fun W => spot_neq x1 x2 x3 x1 x2 x3 W
      simp only [and_self, decide_true, Bool.not_true] at hneq
      go_upto_region 6 with fail
      go_quiet (fail)
      go_wp2
      go_roundg (L.length - (k + 1))
      case measure => omega
      case rel => exact ⟨k + 1, rfl, by go_num, by omega, below_drewS (unveil hw) _⟩
    · have i1 : ¬ (k : Int) < (L.length : Int) := by omega
      go_wp2
      go_ret
      exact ⟨rfl, unveil hw⟩
end Go.Proofs.Ytkiebejidpebdaa
