/-
  Package shape: fieldsFormed; formed.
-/
import Derived.Test.YtgomlfaekfabpaaUc
import Derived.Test.YtgomlfaekfabpaaUd
namespace Go.Proofs.Ytgomlfaekfabpaa
open Go Go.RowKit
set_option linter.unusedVariables false
set_option linter.unusedSimpArgs false

def ffsM (l : List (FdOf ShT)) : Bool := decide (1 ≤ l.length) && decide (l.length ≤ 40) && l.all ffM && namM (l.map FdOf.nm)
set_option maxRecDepth 100000 in
set_option maxHeartbeats 8000000 in
theorem fieldsFormed_any (p : Option Addr) (cap : Nat) (l : List (FdOf ShT)) (w : World) (hT : FdG w.heap.size w p l) :
    Calls Try.prog 92 #[.slice p l.length cap] w fun e w' => e = .returned (.bool (ffsM l)) ∧ Below w.heap.size w w' := by
  have HT := veil hT
  clear hT
  obtain ⟨R, HR⟩ : ∃ R, Hid (ffsM l = R) := ⟨_, rfl⟩
  rw [unveil HR]
  by_cases h1 : l.length < 1
  · have h1' : (l.length : Int) < 1 := by omega
    have hR := unveil HR
    unfold ffsM at hR
    rw [decide_eq_false (by omega)] at hR
    simp at hR
    subst hR
    go_enter Try.func92, Try.ntmps92
    go_wp2_with fail
    go_ret
    exact ⟨rfl, Below.refl _ _⟩
  · by_cases h2 : l.length > 40
    · have h1' : ¬ (l.length : Int) < 1 := by omega
      have h2' : (l.length : Int) > 40 := by omega
      have hR := unveil HR
      unfold ffsM at hR
      rw [decide_eq_false (show ¬ l.length ≤ 40 by omega)] at hR
      simp at hR
      subst hR
      go_enter Try.func92, Try.ntmps92
      go_wp2_with fail
      go_ret
      exact ⟨rfl, Below.refl _ _⟩
    · have h1' : ¬ (l.length : Int) < 1 := by omega
      have h2' : ¬ (l.length : Int) > 40 := by omega
      have hR := unveil HR
      unfold ffsM at hR
      rw [decide_eq_true (show 1 ≤ l.length by omega), decide_eq_true (show l.length ≤ 40 by omega)] at hR
      simp only [Bool.true_and] at hR
      have HRR := veil hR
      clear hR HR
      go_enter Try.func92, Try.ntmps92
      go_wp2_with fail
      go_loopw [15] (fun i wr => ∃ (k : Nat), i = .int .i64 k ∧ k ≤ l.length ∧ Hid (∀ x ∈ l.take k, ffM x = true) ∧ Hid (Below w.heap.size w wr))
        (fun i wr => l.length - (intOf i).toNat)
      case atStart => exact ⟨0, rfl, Nat.zero_le _, fun x hx => (by simp at hx), Below.refl _ _⟩
      case round =>
        obtain ⟨k, rfl, hk, hall, hbe⟩ := hrel
        by_cases hkl : k < l.length
        · obtain ⟨g, o, rfl, hg, hc, hnl⟩ := ((unveil HT).below (unveil hbe)) k hkl
          obtain ⟨c0, c1, c2, c3, c4, c5, c6, c7, c8⟩ := nine (f := l[k]) hc
          have HF := veil (fieldFormed_any l[k])
          have HBX : Hid (∀ o, Below w.heap.size w (wr.alloc o)) := fun o => (unveil hbe).alloc (unveil hbe).size o
          have HBY : Hid (∀ o W, Below (wr.alloc o).heap.size (wr.alloc o) W → Below w.heap.size w W) := fun o W h => ((unveil hbe).alloc (unveil hbe).size o).trans (h.mono (by have := (unveil hbe).size; simp; omega))
          have hff : ∃ F, ffM l[k] = F := ⟨_, rfl⟩
          obtain ⟨F, hff⟩ := hff
          have HFF := veil hff
          rw [hff] at HF
          unfold FdOf.v FdOf.cs at HF
          clear hc hnl hff
          generalize hx : l[k] = x at *
          have HX := veil hx
          clear hx
          generalize x.t.sh = a1 at *
          generalize x.t.k = a2 at *
          generalize x.t.n = a3 at *
          generalize x.t.op = a4 at *
          generalize x.t.of.length = a4l at *
          generalize x.t.oc = a4c at *
          generalize x.t.fp = a5 at *
          generalize x.t.fs.length = a5l at *
          generalize x.t.fc = a5c at *
          generalize x.t.pk = a6 at *
          generalize x.t.al = a7 at *
          generalize x.bits = a8 at *
          generalize x.nm = a9 at *
          cases F
          · go_wp2_with (go_at_call 94; refine (unveil HF _).mono ?_; rintro e w' ⟨rfl, hw'⟩)
            go_ret
            refine ⟨?_, unveil HBY _ _ hw'⟩
            have : l.all ffM = false := List.all_eq_false.2 ⟨x, by rw [← unveil HX]; exact List.getElem_mem _, by rw [unveil HFF]; simp⟩
            rw [← unveil HRR, this]
            rfl
          · go_wp2_with (go_at_call 94; refine (unveil HF _).mono ?_; rintro e w' ⟨rfl, hw'⟩)
            go_roundw
            case rel =>
              refine ⟨k + 1, by go_num, by omega, fun y hy => ?_, unveil HBY _ _ hw'⟩
              rw [List.take_succ_eq_append_getElem hkl, List.mem_append] at hy
              rcases hy with hy | hy
              · exact unveil hall y hy
              · obtain rfl := List.mem_singleton.1 hy
                rw [unveil HX]
                exact unveil HFF
            case measure => simp [intOf]; omega
        · obtain rfl : k = l.length := by omega
          rw [List.take_length] at hall
          have HN := veil (named_any p cap l wr (by omega) (fun i hi => by
            obtain ⟨g, o, e, hg, hc, hn⟩ := ((unveil HT).below (unveil hbe)) i hi
            exact ⟨g, o, e, Nat.lt_of_lt_of_le hg (unveil hbe).size, hc, hn⟩))
          have hRR := unveil HRR
          rw [List.all_eq_true.2 (unveil hall), Bool.true_and] at hRR
          rw [hRR] at HN
          clear hRR
          go_wp2_with (go_at_call 95; refine (unveil HN).mono ?_; rintro e w' ⟨rfl, hw'⟩)
          go_ret
          exact ⟨rfl, (unveil hbe).trans (hw'.mono (unveil hbe).size)⟩
def formM (t : ShT) : Bool := formW t (aliM t.al) (ffsM t.fs)
theorem formed_is (t : ShT) (w : World) (h : t.In w.heap.size w) :
    Calls Try.prog 80 #[t.v] w fun e w' => e = .returned (.bool (formM t)) ∧ Below w.heap.size w w' :=
  formed_any t w (ffsM t.fs) (fun W hb => fieldsFormed_any _ _ _ _ (fun i hi => by
    obtain ⟨g, o, e, hg, hc, hn⟩ := ((FdG.of h).below hb) i hi
    exact ⟨g, o, e, Nat.lt_of_lt_of_le hg hb.size, hc, hn⟩))
end Go.Proofs.Ytgomlfaekfabpaa
