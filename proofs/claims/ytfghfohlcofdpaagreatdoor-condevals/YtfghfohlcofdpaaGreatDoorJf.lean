/-
  The document's parser, once something was wrong: all that is left tells nothing.
-/
import Derived.Test.YtfghfohlcofdpaaGreatDoorJb
namespace Go.Proofs.YtfghfohlcofdpaaGreatDoor
open Go Go.RowKit
set_option linter.unusedVariables false
set_option linter.unusedSimpArgs false

/-- The answer's box, and the parser. -/
structure On (w W : World) (b : Nat) (v : Value) (k : Int) (ok : Bool) (x : Int) (u : Bool) : Prop where
  r : RB W w.heap.size x u
  p : Pb W b v k ok
  f : Fb b w W
  lt : b < w.heap.size
section
variable {w W W' : World} {b : Nat} {v : Value} {k k' : Int} {ok ok' u : Bool} {x : Int}
theorem on_made (hP : Pb w b v k ok) : On w (w.alloc (.cells #[.int .u64 0, .bool false] 44)) b v k ok 0 false :=
  ⟨World.alloc_heap_new w _, hP.next (below_new w _), Fb.of (below_new w _) (Nat.le_of_lt hP.lt), hP.lt⟩
theorem On.next (h : On w W b v k ok x u) (hb : Below W.heap.size W W') : On w W' b v k ok x u :=
  ⟨h.r.next hb, h.p.next hb, h.f.trans (Fb.of hb (Nat.le_of_lt h.p.lt)), h.lt⟩
theorem On.step (h : On w W b v k ok x u) (hf : Fb b W W') (hp : Pb W' b v k' ok') : On w W' b v k' ok' x u :=
  ⟨h.r.fb hf (by have := h.lt; omega), hp, h.f.trans hf, h.lt⟩
theorem On.set1 (h : On w W b v k ok x u) (k' : Int) : On w (W.setCell ⟨b, 1, none⟩ (.int .i64 k')) b v k' ok x u :=
  ⟨h.r.other (by have := h.lt; omega), h.p.set1 k', h.f.setCell (.inl rfl) (by have := h.lt; omega) _, h.lt⟩
theorem On.set2 (h : On w W b v k ok x u) (o : Bool) : On w (W.setCell ⟨b, 2, none⟩ (.bool o)) b v k o x u :=
  ⟨h.r.other (by have := h.lt; omega), h.p.set2 o, h.f.setCell (.inl rfl) (by have := h.lt; omega) _, h.lt⟩
theorem On.put (h : On w W b v k ok x u) (x' : Int) (u' : Bool) : On w ((W.setCell ⟨w.heap.size, 0, none⟩ (.int .u64 x')).setCell ⟨w.heap.size, 1, none⟩ (.bool u')) b v k ok x' u' :=
  ⟨h.r.put x' u', (h.p.other (by have := h.lt; omega)).other (by have := h.lt; omega), (h.f.setCell (.inr (by omega)) (by have := h.lt; omega) _).setCell (.inr (by omega)) (by have := h.lt; omega) _, h.lt⟩
theorem On.new (h : On w W b v k ok x u) (o : Obj) : On w (W.alloc o) b v k ok x u := h.next (below_new W o)
theorem On.all (h : On w W b v k ok x u) : (W.cell? ⟨w.heap.size, 0, none⟩ = some (.int .u64 x) ∧ W.cell? ⟨w.heap.size, 1, none⟩ = some (.bool u)) ∧ (W.cell? ⟨b, 0, none⟩ = some v ∧ W.cell? ⟨b, 1, none⟩ = some (.int .i64 k) ∧ W.cell? ⟨b, 2, none⟩ = some (.bool ok)) ∧ W.frozen? ⟨w.heap.size, 0, none⟩ = false ∧ W.frozen? ⟨w.heap.size, 1, none⟩ = false ∧ W.frozen? ⟨b, 1, none⟩ = false ∧ W.frozen? ⟨b, 2, none⟩ = false ∧ w.heap.size ≠ b ∧ b < W.heap.size ∧ w.heap.size < W.heap.size :=
  ⟨h.r.two, h.p.three, h.r.frozen 0, h.r.frozen 1, h.p.frozen 1, h.p.frozen 2, by have := h.lt; omega, h.p.lt, h.r.lt⟩
end
set_option maxRecDepth 100000 in
set_option maxHeartbeats 4000000 in
theorem atom_no (live : Bool) (b : Nat) (v : Value) (k : Int) (w : World) (hP : Pb w b v k false) :
    Calls Tryz.prog 51 #[.pointer (some ⟨b, 0, none⟩), .bool live] w fun e w' => e = .returned (Vl.v ⟨0, false⟩) ∧ Pb w' b v k false ∧ Fb b w w' := by
  have HO := hide (on_made hP)
  have HTk := hide (fun s W (h : Pb W b v k false) => takes_no s b v k W h)
  clear hP
  simp only [Vl.v] at *
  go_enter Tryz.func51, Tryz.ntmps51
  go_wp2_with fail
  refine (unhide HTk [40] _ (unhide HO).p).mono ?_
  rintro e W1 ⟨rfl, hb1⟩
  have hO1 := (unhide HO).next hb1
  obtain ⟨⟨r0, r1⟩, ⟨p0, p1, p2⟩, fr0, fr1, fp1, fp2, hne, hl1, hl2⟩ := hO1.all
  have HO1 := hide hO1
  clear hb1 HO hO1
  go_upto_region 7 with fail
  go_quiet (fail)
  go_wp2
  have hO2 := (((unhide HO1).next (drewNB W1 nq)).set2 false).put 0 false
  exact bodyPost_ret (res_x (f := Tryz.f51) rfl rfl hO2.r rfl) rfl ⟨rfl, hO2.p, hO2.f⟩
set_option maxRecDepth 100000 in
set_option maxHeartbeats 4000000 in
theorem front_no (live : Bool) (b : Nat) (v : Value) (k : Int) (w : World) (hP : Pb w b v k false) :
    Calls Tryz.prog 31 #[.pointer (some ⟨b, 0, none⟩), .bool live] w fun e w' => e = .returned (Vl.v ⟨0, false⟩) ∧ Pb w' b v k false ∧ Fb b w w' := by
  have HO := hide (on_made hP)
  have HTk := hide (fun s W (h : Pb W b v k false) => takes_no s b v k W h)
  have HA := hide (fun W (h : Pb W b v k false) => atom_no live b v k W h)
  clear hP
  simp only [Vl.v] at *
  go_enter Tryz.func31, Tryz.ntmps31
  go_wp2_with fail
  refine (unhide HTk [43] _ (unhide HO).p).mono ?_
  rintro e W1 ⟨rfl, hb1⟩
  have HO1 := hide ((unhide HO).next hb1)
  clear hb1 HO
  go_wp2_with fail
  refine (unhide HTk [45] _ (unhide HO1).p).mono ?_
  rintro e W2 ⟨rfl, hb1⟩
  have HO2 := hide ((unhide HO1).next hb1)
  clear hb1 HO1
  go_wp2_with fail
  refine (unhide HTk [126] _ (unhide HO2).p).mono ?_
  rintro e W3 ⟨rfl, hb1⟩
  have HO3 := hide ((unhide HO2).next hb1)
  clear hb1 HO2
  go_wp2_with fail
  refine (unhide HTk [33] _ (unhide HO3).p).mono ?_
  rintro e W4 ⟨rfl, hb1⟩
  have HO4 := hide ((unhide HO3).next hb1)
  clear hb1 HO3
  go_wp2_with fail
  refine (unhide HA _ (unhide HO4).p).mono ?_
  rintro e W5 ⟨rfl, hp, hf⟩
  have hO5 := (unhide HO4).step hf hp
  obtain ⟨⟨r0, r1⟩, ⟨p0, p1, p2⟩, fr0, fr1, fp1, fp2, hne, hl1, hl2⟩ := hO5.all
  have HO5 := hide hO5
  clear hp hf hO5 HO4
  go_wp2
  have hO6 := (unhide HO5).put 0 false
  exact bodyPost_ret (res_x (f := Tryz.f31) rfl rfl hO6.r rfl) rfl ⟨rfl, hO6.p, hO6.f⟩
set_option maxRecDepth 100000 in
set_option maxHeartbeats 4000000 in
theorem chain_no (least : Int) (live : Bool) (b : Nat) (v : Value) (k : Int) (w : World) (hP : Pb w b v k false) :
    Calls Tryz.prog 18 #[.pointer (some ⟨b, 0, none⟩), .int .i64 least, .bool live] w fun e w' => e = .returned (Vl.v ⟨0, false⟩) ∧ Pb w' b v k false ∧ Fb b w w' := by
  have HO := hide (on_made hP)
  have HA := hide (fun W (h : Pb W b v k false) => front_no live b v k W h)
  clear hP
  simp only [Vl.v] at *
  go_enter Tryz.func18, Tryz.ntmps18
  go_wp2_with fail
  refine (unhide HA _ (unhide HO).p).mono ?_
  rintro e W1 ⟨rfl, hp, hf⟩
  have hO1 := (unhide HO).step hf hp
  have hO2 := hO1.new (.cells #[.int .u64 0, .bool false] 44)
  have hV : RB (W1.alloc (.cells #[.int .u64 0, .bool false] 44)) W1.heap.size 0 false := World.alloc_heap_new W1 _
  have HO2 := hide hO2
  have HV := hide hV
  clear hp hf hO2 hO1 HO hV
  go_wp2
  generalize (W1.alloc (.cells #[.int .u64 0, .bool false] 44)) = W2 at *
  generalize W1.heap.size = m at *
  go_loopg [] 0 (fun gk wr => gk = 0 ∧ wr = W2)
  case atStart => exact ⟨rfl, rfl⟩
  case round =>
    obtain ⟨rfl, rfl⟩ := hrel
    obtain ⟨⟨r0, r1⟩, ⟨p0, p1, p2⟩, fr0, fr1, fp1, fp2, hne, hl1, hl2⟩ := (unhide HO2).all
    obtain ⟨v0, v1⟩ := (unhide HV).two
    go_upto_region 2 with fail
    go_quiet (fail)
    go_wp2
    have hO3 := ((unhide HO2).next (drewNB wr nq)).put 0 false
    exact bodyPost_ret (res_x (f := Tryz.f18) rfl rfl hO3.r rfl) rfl ⟨rfl, hO3.p, hO3.f⟩
set_option maxRecDepth 100000 in
set_option maxHeartbeats 4000000 in
theorem choice_no (live : Bool) (b : Nat) (v : Value) (k : Int) (w : World) (hP : Pb w b v k false) :
    Calls Tryz.prog 11 #[.pointer (some ⟨b, 0, none⟩), .bool live] w fun e w' => e = .returned (Vl.v ⟨0, false⟩) ∧ Pb w' b v k false ∧ Fb b w w' := by
  have HO := hide (on_made hP)
  have HTk := hide (fun s W (h : Pb W b v k false) => takes_no s b v k W h)
  have HA := hide (fun W (h : Pb W b v k false) => chain_no 1 live b v k W h)
  clear hP
  simp only [Vl.v] at *
  go_enter Tryz.func11, Tryz.ntmps11
  go_wp2_with fail
  refine (unhide HA _ (unhide HO).p).mono ?_
  rintro e W1 ⟨rfl, hp, hf⟩
  have hO1 := (unhide HO).step hf hp
  have hO2 := hO1.new (.cells #[.int .u64 0, .bool false] 44)
  have hV : RB (W1.alloc (.cells #[.int .u64 0, .bool false] 44)) W1.heap.size 0 false := World.alloc_heap_new W1 _
  have HO2 := hide hO2
  have HV := hide hV
  clear hp hf hO2 hO1 HO hV
  go_wp2_with fail
  refine (unhide HTk [63] _ (unhide HO2).p).mono ?_
  rintro e W2 ⟨rfl, hb1⟩
  have hO3 := (unhide HO2).next hb1
  have hV3 := (unhide HV).next hb1
  obtain ⟨⟨r0, r1⟩, ⟨p0, p1, p2⟩, fr0, fr1, fp1, fp2, hne, hl1, hl2⟩ := hO3.all
  obtain ⟨v0, v1⟩ := hV3.two
  have HO3 := hide hO3
  clear hb1 HO2 hO3 hV3
  go_wp2
  have hO6 := (unhide HO3).put 0 false
  exact bodyPost_ret (res_x (f := Tryz.f11) rfl rfl hO6.r rfl) rfl ⟨rfl, hO6.p, hO6.f⟩
end Go.Proofs.YtfghfohlcofdpaaGreatDoor
