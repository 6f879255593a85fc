/-
  The document's own fields.
-/
import Derived.Test.YtgomlfaekfabpaaJa
import Derived.Test.YtgomlfaekfabpaaZzd
namespace Go.Proofs.Ytgomlfaekfabpaa
open Go Go.RowKit
set_option linter.unusedVariables false
set_option linter.unusedSimpArgs false

theorem has_snoc {l : List (List UInt8)} {k : Nat} (h : k < l.length) : hasN (l.take (k + 1)) = (hasN (l.take k) || !l[k].isEmpty) := by
  unfold hasN
  rw [List.take_succ_eq_append_getElem h, List.any_append]
  simp
set_option maxRecDepth 100000 in
set_option maxHeartbeats 20000000 in
theorem fields_any (d : Nat) (D : Int) (p : Option Addr) (cap : Nat) (l : List (FdOf ShT)) (w : World) (hT : FdG w.heap.size w p l) (hlen : l.length ≤ 9223372036854775807)
    (hP : ∀ f ∈ l, ∀ W, Below w.heap.size w W → Calls Try.prog 41 #[f.t.v, .int .i64 D] W fun e w' => e = .returned (.bool (rigM d f.t)) ∧ Below W.heap.size W w') :
    Calls Try.prog 67 #[.slice p l.length cap, .int .i64 D] w fun e w' => e = .returned (.bool (rfM d l)) ∧ Below w.heap.size w w' := by
  have HT := veil hT
  have HP := veil hP
  clear hT hP
  obtain ⟨R, HR⟩ : ∃ R, Hid (rfM d l = R) := ⟨_, rfl⟩
  rw [unveil HR]
  go_enter Try.func67, Try.ntmps67
  go_wp2_with fail
  go_loopw [5, 6] (fun nm i wr => ∃ (k : Nat) (N : Bool), i = .int .i64 k ∧ nm = .bool N ∧ k ≤ l.length ∧ Hid (N = hasN ((l.map FdOf.nm).take k)) ∧ Hid (∀ x ∈ l.take k, (rigM d x.t && ffM x) = true) ∧ Hid (dsM ((l.map FdOf.nm).take k).reverse = true) ∧ Hid (Below w.heap.size w wr))
    (fun nm i wr => l.length - (intOf i).toNat)
  case atStart => exact ⟨0, false, rfl, rfl, Nat.zero_le _, rfl, fun x hx => (by simp at hx), rfl, Below.refl _ _⟩
  case round =>
    obtain ⟨k, N, rfl, rfl, hk, hN, hall, hds, hbe⟩ := hrel
    by_cases hkl : k < l.length
    · have HT1 := veil ((unveil HT).below (unveil hbe))
      obtain ⟨g, o, rfl, hg, hc, hnl⟩ := unveil HT1 k hkl
      obtain ⟨c0, c1, c2, c3, c4, c5, c6, c7, c8⟩ := nine (f := l[k]) hc
      have hglt : g < wr.heap.size := World.block_lt_of_cell? wr _ c0
      have HPL := veil (unveil HP l[k] (List.getElem_mem _) wr (unveil hbe))
      have HBF := veil (bareField_any l[k])
      obtain ⟨F, hF⟩ : ∃ F, rigM d l[k].t = F := ⟨_, rfl⟩
      obtain ⟨G, hG⟩ : ∃ G, ffM l[k] = G := ⟨_, rfl⟩
      have HNO : Hid ((F && G) = false → R = false) := fun h => by rw [← unveil HR]; exact rf_bad (List.getElem_mem hkl) (by rw [hF, hG]; exact h)
      have HYE : Hid ((F && G) = true → ∀ x ∈ l.take (k + 1), (rigM d x.t && ffM x) = true) := fun h y hy => by
        rw [List.take_succ_eq_append_getElem hkl, List.mem_append] at hy
        rcases hy with hy | hy
        · exact unveil hall y hy
        · obtain rfl := List.mem_singleton.1 hy
          rw [hF, hG]; exact h
      rw [hF] at HPL
      rw [hG] at HBF
      have HFW : Hid (∀ W : World, Below wr.heap.size wr W → W.cell? ⟨g, o + k * 9, none⟩ = some (.string ⟨l[k].nm.toArray⟩) ∧ W.cell? ⟨g, o + k * 9 + 1, none⟩ = some (.int .i64 l[k].t.sh) ∧ W.cell? ⟨g, o + k * 9 + 2, none⟩ = some (.int .i64 l[k].t.k) ∧ W.cell? ⟨g, o + k * 9 + 3, none⟩ = some (.int .i64 l[k].t.n) ∧ W.cell? ⟨g, o + k * 9 + 4, none⟩ = some (.slice l[k].t.op l[k].t.of.length l[k].t.oc) ∧ W.cell? ⟨g, o + k * 9 + 5, none⟩ = some (.slice l[k].t.fp l[k].t.fs.length l[k].t.fc) ∧ W.cell? ⟨g, o + k * 9 + 6, none⟩ = some (.bool l[k].t.pk) ∧ W.cell? ⟨g, o + k * 9 + 7, none⟩ = some (.int .i64 l[k].t.al) ∧ W.cell? ⟨g, o + k * 9 + 8, none⟩ = some (.int .i64 l[k].bits)) := fun W h => by
        have e := fun (j : Nat) => h.cell (p := ⟨g, o + k * 9 + j, none⟩) hglt
        exact ⟨(e 0).trans c0, (e 1).trans c1, (e 2).trans c2, (e 3).trans c3, (e 4).trans c4, (e 5).trans c5, (e 6).trans c6, (e 7).trans c7, (e 8).trans c8⟩
      have HBY : Hid (∀ W, Below wr.heap.size wr W → Below w.heap.size w W) := fun W h => (unveil hbe).trans (h.mono (unveil hbe).size)
      have HST : Hid (∀ W, Below wr.heap.size wr W → ∀ W2, Below W.heap.size W W2 → Below wr.heap.size wr W2) := fun W h W2 h2 => h.trans (h2.mono h.size)
      unfold FdOf.v FdOf.cs at HBF
      unfold ShT.v ShT.cs at HPL
      clear hF hG hc hnl
      cases F
      · obtain rfl := unveil HNO rfl
        go_wp2_with (go_at_call 41; refine (unveil HPL).mono ?_; rintro e W1 ⟨rfl, hb1⟩)
        go_ret
        exact ⟨rfl, unveil HBY _ hb1⟩
      · cases G
        · obtain rfl := unveil HNO rfl
          go_wp2_with (first
            | (go_at_call 41; refine (unveil HPL).mono ?_; rintro e W1 ⟨rfl, hb1⟩; clear c0 c1 c2 c3 c4 c5 c6 c7 c8; obtain ⟨c0, c1, c2, c3, c4, c5, c6, c7, c8⟩ := unveil HFW W1 hb1)
            | (go_at_call 83; refine (unveil HBF _).mono ?_; rintro e W2 ⟨rfl, hb2⟩))
          go_ret
          exact ⟨rfl, unveil HBY _ (unveil HST _ hb1 _ hb2)⟩
        · have HALL := veil (unveil HYE rfl)
          clear HYE HNO hall
          go_upto_region 8 with (first
            | (go_at_call 41; refine (unveil HPL).mono ?_; rintro e W1 ⟨rfl, hb1⟩; clear c0 c1 c2 c3 c4 c5 c6 c7 c8; obtain ⟨c0, c1, c2, c3, c4, c5, c6, c7, c8⟩ := unveil HFW W1 hb1)
            | (go_at_call 83; refine (unveil HBF _).mono ?_; rintro e W2 ⟨rfl, hb2⟩; have HB2 := veil (unveil HST _ hb1 _ hb2); clear c0 c1 c2 c3 c4 c5 c6 c7 c8; obtain ⟨c0, c1, c2, c3, c4, c5, c6, c7, c8⟩ := unveil HFW W2 (unveil HB2); clear hb2))
          obtain ⟨NN, hNN⟩ : ∃ NN, (N || !l[k].nm.isEmpty) = NN := ⟨_, rfl⟩
          have HNN := veil hNN
          clear hNN
          have HB1 := veil hb1
          clear hb1 HPL HBF
          go_cut [5] from 9 to 64 (fun c wx => c = .bool NN ∧ wx = W2)
          case first =>
            clear hN hds hbe HBY HST HALL HB1 HB2 HFW c1 c2 c3 c4 c5 c6 c7 c8 HP
            generalize l[k].nm = nk at *
            cases N
            · cases hn : nk.isEmpty
              all_goals
                rw [hn] at HNN
                go_wp2_with fail
                go_meet
                case rel => exact ⟨by rw [← unveil HNN]; rfl, rfl⟩
            · go_wp2_with fail
              go_meet
              case rel => exact ⟨by rw [← unveil HNN]; rfl, rfl⟩
          case rest =>
            obtain ⟨rfl, rfl⟩ := hcut
            clear c0 c1 c2 c3 c4 c5 c6 c7 c8
            go_wp2_with fail
            go_loopw [8] (fun i wx => ∃ (m : Nat), i = .int .i64 m ∧ m ≤ k ∧ Hid (l[k].nm.isEmpty = true ∨ ∀ (j : Nat) (hj : j < m) (hj2 : j < l.length), l[j].nm ≠ l[k].nm) ∧ Hid (Below wr.heap.size wr wx))
              (fun i wx => k - (intOf i).toNat)
            case atStart => exact ⟨0, rfl, Nat.zero_le _, .inr (fun j hj => absurd hj (Nat.not_lt_zero _)), HB2⟩
            case round =>
              obtain ⟨m, rfl, hm, hne, hbx⟩ := hrel
              have c0 := (unveil HFW _ (unveil hbx)).1
              by_cases hmk : m < k
              · obtain ⟨g1, o1, he1, _, hc1, _⟩ := ((unveil HT).below (unveil HBY _ (unveil hbx))) m (by omega)
                cases he1
                have d0 := (nine (f := l[m]) hc1).1
                have HDUP : Hid (l[k].nm.isEmpty = false → l[m].nm = l[k].nm → R = false) := fun h1 h2 => by rw [← unveil HR]; exact rf_dup hkl hmk h1 h2
                have HNX : Hid (l[k].nm.isEmpty = true ∨ ¬ l[m].nm = l[k].nm → (l[k].nm.isEmpty = true ∨ ∀ (j : Nat) (hj : j < m + 1) (hj2 : j < l.length), l[j].nm ≠ l[k].nm)) := fun h => by
                  rcases h with h | h
                  · exact .inl h
                  · rcases unveil hne with h2 | h2
                    · exact .inl h2
                    · refine .inr fun j hj hj2 => ?_
                      by_cases hjm : j < m
                      · exact h2 j hjm hj2
                      · obtain rfl : j = m := by omega
                        exact h
                have hmi : (m : Int) < (k : Int) := by omega
                have hmi2 : (m : Int) < (l.length : Int) := by omega
                have hki2 : (k : Int) < (l.length : Int) := by omega
                clear hc1 hne HNN hN hds
                generalize hnk : l[k].nm = nk at *
                generalize hnm : l[m].nm = nm at *
                clear hnk hnm
                cases hn : nk.isEmpty
                · by_cases hd : nm = nk
                  · subst hd
                    obtain rfl := unveil HDUP hn rfl
                    go_upto_region 12 with fail
                    go_quiet (fail)
                    go_wp2_with fail
                    go_ret
                    exact ⟨rfl, below_drewS (unveil HBY _ (unveil hbx)) _⟩
                  · have hd2 : (nm == nk) = false := by simpa using hd
                    have HN2 := veil (unveil HNX (.inr hd))
                    clear HNX HDUP hd
                    go_upto_region 12 with fail
                    go_quiet (fail)
                    go_wp2_with fail
                    go_roundw
                    case rel => exact ⟨m + 1, by go_num, by omega, by first | exact Or.inl trivial | (have h := unveil HN2; rw [hn] at h; exact h), below_drewS (unveil hbx) _⟩
                    case measure => simp [intOf]; omega
                · have HN2 := veil (unveil HNX (.inl hn))
                  clear HNX HDUP
                  go_upto_region 12 with fail
                  go_quiet (fail)
                  go_wp2_with fail
                  go_roundw
                  case rel => exact ⟨m + 1, by go_num, by omega, by first | exact Or.inl trivial | (have h := unveil HN2; rw [hn] at h; exact h), below_drewS (unveil hbx) _⟩
                  case measure => simp [intOf]; omega
              · obtain rfl : m = k := by omega
                go_wp2_with fail
                go_roundw
                case rel =>
                  refine ⟨m + 1, NN, by go_num, rfl, by omega, ?_, HALL, ?_, unveil HBY _ (unveil hbx)⟩
                  · show NN = _
                    rw [← unveil HNN, has_snoc (by simpa using hkl), unveil hN, List.getElem_map]
                  · refine ds_step (by simpa using hkl) (unveil hds) ?_
                    simp only [List.getElem_map]
                    rcases unveil hne with h2 | h2
                    · exact .inl h2
                    · exact .inr fun j hj => h2 j hj (by omega)
                case measure => simp [intOf]; omega
    · obtain rfl : k = l.length := by omega
      rw [List.take_of_length_le (by simp)] at hN hall hds
      have hR := unveil HR
      rw [rf_end (unveil hall) (unveil hds), ← unveil hN] at hR
      clear hall hds hN HR
      by_cases h40 : l.length ≤ 40
      · have h40' : (l.length : Int) ≤ 40 := by omega
        rw [decide_eq_true h40, Bool.and_true] at hR
        subst hR
        cases N
        all_goals
          go_wp2_with fail
          go_ret
          exact ⟨rfl, unveil hbe⟩
      · have h40' : ¬ (l.length : Int) ≤ 40 := by omega
        rw [decide_eq_false h40, Bool.and_false] at hR
        subst hR
        cases N
        all_goals
          go_wp2_with fail
          go_ret
          exact ⟨rfl, unveil hbe⟩
end Go.Proofs.Ytgomlfaekfabpaa
