/-
  text.Physical: how many physical lines a string has, for every string.
-/
import Derived.Test.YtncccheaeghbiaaA3
namespace Go.Proofs.Ytncccheaeghbiaa
open Go Go.RowKit Go.Shelf
attribute [local go_sem] Oper.semAt_some
set_option linter.unusedVariables false

set_option maxHeartbeats 1000000 in
theorem Physical_any (s : ByteArray) (w : World) (hs : s.size ≤ maxLen) :
    Calls Try.prog 13 #[.string s] w fun e w' => e = .returned (.int .i64 ((Tx.phys s.data.toList).length : Nat)) ∧ Below w.heap.size w w' := by
  have hs' : s.size ≤ 2 ^ 63 - 1 := hs
  have hlen : s.data.toList.length = s.size := by simp
  have hpl := Tx.phys_length s.data.toList
  rw [hlen] at hpl
  refine (callsIn_wide (n := 8)).1 ?_
  refine callsIn_of_wp_marks Try.func13 rfl trivial ?_ rfl
  simp only [Try.ntmps13, List.size_toArray, List.length_cons, List.length_nil, Nat.reduceAdd, Nat.reduceSub, Array.replicate_succ, Array.replicate_zero, List.push_toArray, List.append_toArray, List.nil_append, List.cons_append]
  gi_wp2_with (refine ⟨trivial, ?_⟩; gi_at_call 18; refine (callsIn_wide.2 (physical_any s _)).mono ?_; rintro e w' ⟨rfl, rfl⟩)
  have b1 : Boxed ((w.alloc (.cells #[.int .i64 0] 3)).alloc (.cells #[.string s] 9)) w.heap.size 3 (.int .i64 0) := (Boxed.new w 3 _).alloc _
  have b2 : Boxed ((w.alloc (.cells #[.int .i64 0] 3)).alloc (.cells #[.string s] 9)) (w.heap.size + 1) 9 (.string s) := by
    have := Boxed.new (w.alloc (.cells #[.int .i64 0] 3)) 9 (.string s)
    rwa [World.size_alloc] at this
  have hz : ((w.alloc (.cells #[.int .i64 0] 3)).alloc (.cells #[.string s] 9)).heap.size = w.heap.size + 2 := by simp
  have hbe : Below w.heap.size w ((w.alloc (.cells #[.int .i64 0] 3)).alloc (.cells #[.string s] 9)) := ((Below.refl _ w).alloc (Nat.le_refl _) _).alloc (by simp) _
  generalize ((w.alloc (.cells #[.int .i64 0] 3)).alloc (.cells #[.string s] 9)) = W0 at *
  refine wpIn_rangeFunc_ownO (k := 3) rfl (by decide) (gf := 28) (lb := #[.pointer (some ⟨w.heap.size + 1, 0, none⟩)]) rfl trivial (enters_of Try.func28 (by kernel_rfl) rfl)
    (physical_stops 7 (by decide) (w.heap.size + 1) s hs W0 b2) keepsB_t (keepsB_b (by omega)) (Below.refl _ _) (fun _ => rfl)
    (fun pre W' => Boxed W' w.heap.size 3 (.int .i64 (pre.length : Nat)) ∧ Below w.heap.size w W')
    (fun c _ W' => False)
    ⟨fun pre X Y row hs hg hr => ⟨Boxed.turn hs.1 hg (fun r e => by have := (hr r e).1; omega), hs.2.grown hg hs.2.size (fun r e => by have := (hr r e).1; omega)⟩, fun pre X hs => ⟨hs.1, hs.2.drew⟩⟩
    (fun c => ⟨fun pre X Y row hs hg hr => hs, fun pre X hs => hs⟩)
    ⟨b1, hbe⟩
    (fun x => { tmps := #[.string s, undef, .int .i64 0, .pointer (some ⟨w.heap.size, 0, none⟩), .string s, .func (.func 28) #[] #[.pointer (some ⟨w.heap.size + 1, 0, none⟩)], .string ⟨x.1.toArray⟩, .bool x.2, undef, undef, undef], defers := [] })
    ?assign ?body ?done ?stop
  case assign =>
    intro l' x W' K hK
    simp only [encP]
    gi_wp2
    simpa using hK
  case body =>
    rintro l' pre x W1 hroom _ ⟨c1, c2⟩ ⟨rest, hrest⟩
    have hl : pre.length + 1 ≤ s.size := by
      have := congrArg List.length hrest
      simp at this
      omega
    have d1 := c1.cell
    have d2 := c1.frozen
    clear hrest
    gi_wp2
    refine ⟨(KeepsOthers.setCell _ _ _).from _, KeepsO.setCell (.inl (by omega)), Below.heap_setCell _ _ _ _ (by simp), ?_, c2.setCell (p := ⟨w.heap.size, 0, none⟩) (Nat.le_refl _) _⟩
    rw [List.length_append, List.length_singleton]
    exact c1.set _
  case done =>
    rintro D W' hD ⟨c1, c2⟩ hK
    have d1 := c1.cell
    gi_wp2
    refine ⟨by simp, .inl ⟨_, _, rfl, run_takeDeferred hK, ?_⟩⟩
    refine ⟨_, results_tmp rfl _ _ _, rfl, ?_⟩
    exact c2.trans (belowK_b (w := w) (Nat.le_refl _) W' D _ _ (by omega) hK rfl rfl)
  case stop =>
    rintro D c pre W' hD _ h hK
    exact h.elim
end Go.Proofs.Ytncccheaeghbiaa
