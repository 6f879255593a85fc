/-
  The document's parser as a whole, and its Eval: the same answer as the program's.
-/
import Derived.Test.YtfghfohlcofdpaaGreatDoorJh
import Derived.Test.YtfghfohlcofdpaaGreatDoorJi
import Derived.Test.YtfghfohlcofdpaaGreatDoorJj
import Derived.Test.YtfghfohlcofdpaaGreatDoorJk
namespace Go.Proofs.YtfghfohlcofdpaaGreatDoor
open Go Go.RowKit
set_option linter.unusedVariables false
set_option linter.unusedSimpArgs false

/-- What the parser's choice tells here. -/
def ChH (l : List Gt) (k b : Nat) (sl : Value) : Prop := ∀ (live : Bool) (W : World), Pb W b sl k true → TkG b W sl l → Calls Tryz.prog 11 #[.pointer (some ⟨b, 0, none⟩), .bool live] W (RP .choice live l k b sl W)
theorem parser_all (b : Nat) (p : Option Addr) (cap : Nat) (l : List Gt) (hl : l.length ≤ 1000000) (hls : ∀ t ∈ l, t.s.length ≤ 140737488355328) : ∀ (d k : Nat), l.length < k + d → k ≤ l.length →
    AtF l k b (.slice p l.length cap) ∧ FrH l k b (.slice p l.length cap) ∧ CnF l k b (.slice p l.length cap) ∧ ChH l k b (.slice p l.length cap) := by
  intro d
  induction d with
  | zero => intro k h hk; omega
  | succ d IH =>
    intro k h hk
    have hCh : ChF l k b (.slice p l.length cap) := fun k' live W h1 h2 hp ht => (IH k' (by omega) h2).2.2.2 live W hp ht
    have hAt : AtF l k b (.slice p l.length cap) := fun live W hp ht => atom_any live b p cap l k W hl hls hp ht hCh
    have hFr : FrH l k b (.slice p l.length cap) := fun live W hp ht => front_any live b p cap l k W hl hp ht (fun k' live W h1 h2 hp ht => (IH k' (by omega) h2).2.1 live W hp ht) hAt
    have hCn : CnF l k b (.slice p l.length cap) := fun n live W h0 h1 hp ht => chain_any n h0 h1 live b p cap l k W hl hk hp ht hFr (fun k' h1 h2 => (IH k' (by omega) h2).2.2.1)
    exact ⟨hAt, hFr, hCn, fun live W hp ht => choice_any live b p cap l k W hl hp ht hCh hCn⟩
set_option maxRecDepth 100000 in
set_option maxHeartbeats 4000000 in
theorem REval_any (p : Option Addr) (cap : Nat) (l : List Gt) (w : World) (hl : l.length ≤ 1000000) (hls : ∀ t ∈ l, t.s.length ≤ 140737488355328) (hT : TkG w.heap.size w (.slice p l.length cap) l) :
    Calls Tryz.prog 7 #[.slice p l.length cap] w fun e w' => e = .returned (evalV (evM l)) ∧ Below w.heap.size w w' := by
  have hB := below_new w (.cells #[.slice p l.length cap, .int .i64 0, .bool true] 42)
  have hP : Pb (w.alloc (.cells #[.slice p l.length cap, .int .i64 0, .bool true] 42)) w.heap.size (.slice p l.length cap) ((0 : Nat) : Int) true := World.alloc_heap_new w _
  have HCH := hide ((parser_all w.heap.size p cap l hl hls (l.length + 1) 0 (by omega) (by omega)).2.2.2 true _ hP (hT.below hB))
  have HB := hide hB
  clear hB hP hT
  have HE : Hid (∀ (x : Vl) (rest : List Gt) (ok : Bool), Pr .choice true (l.drop 0) x rest ok → (ok = true → rest = [] → evalV (evM l) = .tuple #[.int .u64 x.b, .bool x.u, .int .i64 0]) ∧ (ok = false ∨ rest ≠ [] → evalV (evM l) = .tuple #[.int .u64 0, .bool false, .int .i64 50])) := by
    intro x rest ok h
    rw [List.drop_zero] at h
    refine ⟨fun h1 h2 => ?_, fun h1 => ?_⟩
    · subst h1 h2
      rw [ev_yes h]; rfl
    · have := ev_no h h1
      unfold evalV
      rw [this]; rfl
  generalize evalV (evM l) = Z at *
  go_enter Tryz.func7, Tryz.ntmps7
  go_wp2_with fail
  refine (unhide HCH).mono ?_
  rintro e W1 ⟨⟨vb, vu⟩, rest, ok, k', rfl, hp, hf, hx, hpr, hr⟩
  have hp2 := hp.next (below_new W1 (.cells #[.int .u64 vb, .bool vu] 44))
  have HB2 : Hid (Below w.heap.size w (W1.alloc (.cells #[.int .u64 vb, .bool vu] 44))) := ((unhide HB).trans hf.below).trans ((below_new W1 _).mono (Nat.le_of_lt hp.lt))
  have hV2 : RB (W1.alloc (.cells #[.int .u64 vb, .bool vu] 44)) W1.heap.size vb vu := World.alloc_heap_new W1 _
  have hEv := unhide HE _ _ _ hpr
  clear HE HCH HB
  cases ok
  · have hz := hEv.2 (.inl rfl)
    subst hz
    obtain ⟨p0, p1, p2⟩ := hp2.three
    clear hEv hpr hr hp hf hx hp2 hV2
    simp only [Vl.v] at *
    go_upto_region 3 with fail
    generalize (W1.alloc (.cells #[.int .u64 vb, .bool vu] 44)) = W2 at *
    go_wp2
    go_ret3
    exact ⟨rfl, unhide HB2⟩
  · obtain ⟨m, rfl, rfl, hkm, hml⟩ := hr rfl
    obtain ⟨p0, p1, p2⟩ := hp2.three
    obtain ⟨v0, v1⟩ := hV2.two
    by_cases hm : m = l.length
    · have hz := hEv.1 rfl (List.drop_eq_nil_of_le (by omega))
      subst hz
      have hmm : (m : Int) = (l.length : Int) := by omega
      rw [hmm] at p1
      clear hEv hpr hr hp hf hx hp2 hV2 hm hkm hml hmm
      simp only [Vl.v] at *
      go_upto_region 3 with fail
      generalize (W1.alloc (.cells #[.int .u64 vb, .bool vu] 44)) = W2 at *
      go_upto_region 5 with fail
      go_quiet (fail)
      go_wp2
      go_ret3
      exact ⟨rfl, below_drewN (unhide HB2) nq⟩
    · have hz := hEv.2 (.inr (by intro h; have := congrArg List.length h; simp at this; omega))
      subst hz
      have hmm : ((m : Int) == (l.length : Int)) = false := by simp; omega
      clear hEv hpr hr hp hf hx hp2 hV2 hm hkm hml
      simp only [Vl.v] at *
      go_upto_region 3 with fail
      generalize (W1.alloc (.cells #[.int .u64 vb, .bool vu] 44)) = W2 at *
      go_wp2
      go_ret3
      exact ⟨rfl, unhide HB2⟩
end Go.Proofs.YtfghfohlcofdpaaGreatDoor
