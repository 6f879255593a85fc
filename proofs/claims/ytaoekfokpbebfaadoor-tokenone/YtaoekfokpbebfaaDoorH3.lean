/-
  burinlaw02.TokenOne answers true for every string: the walk.
-/
import Derived.Test.YtaoekfokpbebfaaDoorR8
import Derived.Test.YtaoekfokpbebfaaDoorG1
import Derived.Test.YtaoekfokpbebfaaDoorS2
import Derived.Test.YtaoekfokpbebfaaDoorS4
namespace Go.Proofs.YtaoekfokpbebfaaDoor
open Go Go.RowKit
set_option linter.unusedVariables false
set_option linter.unusedSimpArgs false

theorem oneV_form (s : ByteArray) : ∃ (x : Gt) (b : Bool), oneV s = .tuple #[.agg (gC x), .bool b] := by
  unfold oneV
  split
  · rename_i t ht
    split
    · exact ⟨t.g, true, rfl⟩
    · exact ⟨⟨0, [], [], 0, false, false⟩, false, rfl⟩
  · exact ⟨⟨0, [], [], 0, false, false⟩, false, rfl⟩

set_option maxRecDepth 100000 in
set_option maxHeartbeats 4000000 in
theorem one_walk (s : ByteArray) (w : World) (hs : s.size ≤ 140737488355328) (hw0 : 0 < w.heap.size) (hsg : Sg w) :
    Calls Tryd.prog 5 #[.string s] w fun e w' => e = .returned (.bool true) ∧ Below w.heap.size w w' := by
  have HSG := hide hsg
  have HSH := hide (shown_any w hw0 hsg)
  clear hsg
  have HO : Hid (∀ W, 0 < W.heap.size → Sg W → Calls Tryd.prog 17 #[.string s] W fun e w' => e = .returned (oneV s) ∧ Below W.heap.size W w') := fun W h1 h2 => One_any s W hs h1 h2
  have HR : Hid (∀ W, Calls Tryd.prog 18 #[.string s] W fun e w' => e = .returned (oneV s) ∧ Below W.heap.size W w') := fun W => rOne_any s W hs
  have HP : Hid (∀ W, Sg W → Calls Tryd.prog 19 #[.string s] W fun e w' => e = .returned (.bool (Tk.pn s.data.toList)) ∧ w' = W) := fun W h => punct_any s W h (by unfold maxLen; omega)
  have HQ : Hid (∀ W, Calls Tryd.prog 20 #[.string s] W fun e w' => e = .returned (.bool (Tk.pn s.data.toList)) ∧ w' = W) := fun W => rpunct_any s W
  obtain ⟨x, b, hx⟩ := oneV_form s
  rw [hx] at HO HR
  clear hx
  generalize Tk.pn s.data.toList = P at *
  have hgd := guard34
  have hne := fun W => gt_eql x x W
  simp only [gC, decide_true] at hne HO HR
  go_enter Tryd.func5, Tryd.ntmps5
  go_wp2_with fail
  refine (unhide HSH).mono ?_
  rintro e W1 ⟨rfl, hb1⟩
  have hz1 := hb1.size
  have HO1 := hide (unhide HO W1 (by omega) (Sg.below (unhide HSG) hb1 hw0))
  clear HO
  go_wp2_with fail
  refine (unhide HO1).mono ?_
  rintro e W2 ⟨rfl, hb2⟩
  have hz2 := hb2.size
  have hA : (W2.alloc (.cells #[.int .i64 x.kind, .string ⟨x.s.toArray⟩, .string ⟨x.f.toArray⟩, .int .i64 x.line, .bool x.sp, .bool x.fi] 34)).heap[W2.heap.size]? = some (.cells #[.int .i64 x.kind, .string ⟨x.s.toArray⟩, .string ⟨x.f.toArray⟩, .int .i64 x.line, .bool x.sp, .bool x.fi] 34 (0, 0)) := World.alloc_heap_new W2 _
  have hbA : Below w.heap.size w (W2.alloc (.cells #[.int .i64 x.kind, .string ⟨x.s.toArray⟩, .string ⟨x.f.toArray⟩, .int .i64 x.line, .bool x.sp, .bool x.fi] 34)) := (hb1.trans (hb2.mono (by omega))).alloc (by omega) _
  have hzA : (W2.alloc (.cells #[.int .i64 x.kind, .string ⟨x.s.toArray⟩, .string ⟨x.f.toArray⟩, .int .i64 x.line, .bool x.sp, .bool x.fi] 34)).heap.size = W2.heap.size + 1 := by simp
  go_wp2_with fail
  generalize (W2.alloc (.cells #[.int .i64 x.kind, .string ⟨x.s.toArray⟩, .string ⟨x.f.toArray⟩, .int .i64 x.line, .bool x.sp, .bool x.fi] 34)) = W3 at *
  refine (unhide HR W3).mono ?_
  rintro e W4 ⟨rfl, hb4⟩
  have hz4 := hb4.size
  have hA4 : W4.heap[W2.heap.size]? = some (.cells #[.int .i64 x.kind, .string ⟨x.s.toArray⟩, .string ⟨x.f.toArray⟩, .int .i64 x.line, .bool x.sp, .bool x.fi] 34 (0, 0)) := (hb4.block _ (by omega)).trans hA
  have hb5 : Below w.heap.size w W4 := hbA.trans (hb4.mono (by omega))
  have hB5 : (W4.alloc (.cells #[.int .i64 x.kind, .string ⟨x.s.toArray⟩, .string ⟨x.f.toArray⟩, .int .i64 x.line, .bool x.sp, .bool x.fi] 34)).heap[W4.heap.size]? = some (.cells #[.int .i64 x.kind, .string ⟨x.s.toArray⟩, .string ⟨x.f.toArray⟩, .int .i64 x.line, .bool x.sp, .bool x.fi] 34 (0, 0)) := World.alloc_heap_new W4 _
  have hA5 : (W4.alloc (.cells #[.int .i64 x.kind, .string ⟨x.s.toArray⟩, .string ⟨x.f.toArray⟩, .int .i64 x.line, .bool x.sp, .bool x.fi] 34)).heap[W2.heap.size]? = some (.cells #[.int .i64 x.kind, .string ⟨x.s.toArray⟩, .string ⟨x.f.toArray⟩, .int .i64 x.line, .bool x.sp, .bool x.fi] 34 (0, 0)) := (Below.heap_alloc _ _ _ (by omega)).trans hA4
  have hb6 : Below w.heap.size w (W4.alloc (.cells #[.int .i64 x.kind, .string ⟨x.s.toArray⟩, .string ⟨x.f.toArray⟩, .int .i64 x.line, .bool x.sp, .bool x.fi] 34)) := hb5.alloc (by omega) _
  go_upto_region 4 with fail
  generalize (W4.alloc (.cells #[.int .i64 x.kind, .string ⟨x.s.toArray⟩, .string ⟨x.f.toArray⟩, .int .i64 x.line, .bool x.sp, .bool x.fi] 34)) = W5 at *
  generalize W2.heap.size = A at *
  generalize W4.heap.size = B at *
  have a0 : W5.cell? ⟨A, 0, none⟩ = some (.int .i64 x.kind) := by rw [World.cell?, hA5]; rfl
  have a1 : W5.cell? ⟨A, 1, none⟩ = some (.string ⟨x.s.toArray⟩) := by rw [World.cell?, hA5]; rfl
  have a2 : W5.cell? ⟨A, 2, none⟩ = some (.string ⟨x.f.toArray⟩) := by rw [World.cell?, hA5]; rfl
  have a3 : W5.cell? ⟨A, 3, none⟩ = some (.int .i64 x.line) := by rw [World.cell?, hA5]; rfl
  have a4 : W5.cell? ⟨A, 4, none⟩ = some (.bool x.sp) := by rw [World.cell?, hA5]; rfl
  have a5 : W5.cell? ⟨A, 5, none⟩ = some (.bool x.fi) := by rw [World.cell?, hA5]; rfl
  have b0 : W5.cell? ⟨B, 0, none⟩ = some (.int .i64 x.kind) := by rw [World.cell?, hB5]; rfl
  have b1 : W5.cell? ⟨B, 1, none⟩ = some (.string ⟨x.s.toArray⟩) := by rw [World.cell?, hB5]; rfl
  have b2 : W5.cell? ⟨B, 2, none⟩ = some (.string ⟨x.f.toArray⟩) := by rw [World.cell?, hB5]; rfl
  have b3 : W5.cell? ⟨B, 3, none⟩ = some (.int .i64 x.line) := by rw [World.cell?, hB5]; rfl
  have b4 : W5.cell? ⟨B, 4, none⟩ = some (.bool x.sp) := by rw [World.cell?, hB5]; rfl
  have b5 : W5.cell? ⟨B, 5, none⟩ = some (.bool x.fi) := by rw [World.cell?, hB5]; rfl
  have HP5 := hide (unhide HP W5 (Sg.below (unhide HSG) hb6 hw0))
  clear HP HSG hA hbA hzA hA4 hb5 hB5 hA5 hb4
  go_wp2_with (first | (go_at_call 19; refine (unhide HP5).mono ?_; rintro e w' ⟨rfl, hw'⟩; obtain rfl := hw'.symm) | (go_at_call 20; refine (unhide HQ _).mono ?_; rintro e w' ⟨rfl, hw'⟩; obtain rfl := hw'.symm))
  go_ret
  exact ⟨rfl, hb6⟩
end Go.Proofs.YtaoekfokpbebfaaDoor
