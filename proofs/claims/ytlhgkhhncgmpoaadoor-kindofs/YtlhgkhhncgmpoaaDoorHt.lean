/-
  burinlaw08.KindOfs answers true for every list of words, with the package variable as the program's text lays it.
-/
import Derived.Test.YtlhgkhhncgmpoaaDoorHs
import Derived.Test.YtlhgkhhncgmpoaaDoorHp
import Derived.Deep.Slices
namespace Go.Proofs.YtlhgkhhncgmpoaaDoor
open Go.ChangeShapes Go.WideShapes Go.ChangeAt Go.RowKit
set_option linter.unusedVariables false

theorem cellsStr : Tryd.prog.cellsOf 9 = 1 := by kernel_rfl
theorem bytesStr : Tryd.prog.bytesOf 9 = 16 := by kernel_rfl
theorem laidOut : laidOutB Tryd.prog = true := by kernel_rfl
theorem add_plain (b o j : Nat) : (⟨b, o, none⟩ : Addr).add j = ⟨b, o + j, none⟩ := by unfold Addr.add; split <;> simp_all
theorem pick_fun {α β : Type} {r : α → β → Prop} (h : ∀ x, ∃ y, r x y) : ∃ f : α → β, ∀ x, r x (f x) := ⟨fun x => Classical.choose (h x), fun x => Classical.choose_spec (h x)⟩
theorem open_strs {H : Type} {enc : TypeId × Value → H} {W : World} {p : Option Addr} {len cap fuel : Nat} {x : DataW H × List MemPlace}
    (h : DataW.trod enc Tryd.prog W 0 (fun _ => true) true fuel 22 [.slice p len cap] = some x) :
    ∃ lf : List (List UInt8), lf.length = len ∧ StG W.heap.size W (.slice p lf.length cap) lf ∧ len ≤ cap ∧ ((x.1.weights Tryd.prog 22).all (· ≤ reachBytes) = true → cap * 16 ≤ reachBytes) := by
  rcases Go.Deep.open_slice Tryd.underlying22 h with ⟨hc, hx⟩ | ⟨a, len', cap', m, k, D, Pl, hc, _, hl, hm, hmm, hx, hall⟩
  · obtain ⟨rfl, rfl, rfl⟩ : p = none ∧ len = 0 ∧ cap = 0 := by simpa using hc
    exact ⟨[], rfl, ⟨none, 0, rfl, fun i hi => by simp at hi⟩, Nat.le_refl _, fun _ => Nat.zero_le _⟩
  · obtain ⟨rfl, rfl, rfl⟩ : p = some a ∧ len = len' ∧ cap = cap' := by simpa using hc
    simp only [if_true] at hmm
    subst hmm
    have key : ∀ i, ∃ t : List UInt8, i < m → W.cell? (a.add i) = some (.string ⟨t.toArray⟩) := fun i => by
      by_cases hi : i < m
      · obtain ⟨cs', h1, h2⟩ := hall i hi
        rw [cellsStr] at h1
        obtain ⟨_, hlen, hcell⟩ := World.cells?_some h1
        obtain ⟨s, e1, d1, _⟩ := DataW.trod_string Tryd.underlying9 h2
        subst e1
        refine ⟨s.data.toList, fun _ => ?_⟩
        have := hcell 0 (by decide)
        rw [Go.Deep.add_add] at this
        simpa using this
      · exact ⟨[], fun h => absurd h hi⟩
    obtain ⟨G, hG⟩ := pick_fun key
    refine ⟨(List.range len).map G, by simp, ⟨some a, m, by simp, fun i hi => ?_⟩, hl, fun hw => ?_⟩
    rotate_left
    · rw [hx] at hw
      simp only [DataW.weights, Tryd.underlying22, List.all_cons, Bool.and_eq_true, decide_eq_true_eq, List.all_append, bytesStr] at hw
      have := hw.1
      simp at this
      omega
    have hi' : i < len := by simpa using hi
    have c0 := hG i (by omega)
    obtain ⟨b, off, spot⟩ := a
    have c00 := hG 0 (by omega)
    have hspot : spot = none := by simpa [Addr.add] using World.cell?_spot c00
    subst hspot
    rw [add_plain] at c0
    simp only [List.getElem_map, List.getElem_range]
    exact ⟨b, off, rfl, World.block_lt_of_cell? W _ c0, c0⟩
set_option maxRecDepth 100000 in
set_option maxHeartbeats 2000000 in
theorem ofs_walk (p : Option Addr) (cap : Nat) (l : List (List UInt8)) (w : World) (hl : l.length ≤ 281474976710656) (hT : StG w.heap.size w (.slice p l.length cap) l) (hmo : Mo w) (hw0 : 0 < w.heap.size) :
    Calls Tryd.prog 3 #[.slice p l.length cap] w fun e w' => e = .returned (.bool true) ∧ Below w.heap.size w w' := by
  have HH := veil (kshown_any w)
  have H1 := veil (Of_any p cap l w (by omega) hT hmo hw0)
  have H2 : Hid (∀ W, Below w.heap.size w W → Calls Tryd.prog 7 #[.slice p l.length cap] W fun e w' => e = .returned (.tuple #[.int .i64 (ofM l).1, .int .i64 (ofM l).2]) ∧ w' = W) := fun W hb => by
    obtain ⟨p', cap', e, hc⟩ := hT.below hb
    exact ROf_any p cap l W hl ⟨p', cap', e, fun i hi => by
      obtain ⟨g, o, h1, h2, h3⟩ := hc i hi
      exact ⟨g, o, h1, Nat.lt_of_lt_of_le h2 hb.size, h3⟩⟩
  clear hT hmo hw0
  generalize ofM l = R at *
  obtain ⟨k, e⟩ := R
  simp only at *
  go_enter Tryd.func3, Tryd.ntmps3
  go_wp2_with (first
    | (go_at_call 5; refine (unveil HH).mono ?_; rintro e w' ⟨rfl, hw'⟩; obtain rfl := hw'.symm)
    | (go_at_call 6; refine (unveil H1).mono ?_; rintro e W1 ⟨rfl, hb1⟩)
    | (go_at_call 7; refine (unveil H2 _ hb1).mono ?_; rintro e w' ⟨rfl, hw'⟩; obtain rfl := hw'.symm))
  go_ret
  exact ⟨by simp, hb1⟩
end Go.Proofs.YtlhgkhhncgmpoaaDoor
namespace Go.Proofs.YtlhgkhhncgmpoaaDoor.kindOfs
open Go.ChangeShapes Go.WideShapes Go.ChangeAt Go.RowKit
set_option linter.unusedVariables false

set_option maxRecDepth 100000 in
theorem lifted (os : Os) (started : os.Started) (H : Type) (enc : TypeId × Value → H) :
    ReturnsInHanded {} Tryd.checked os 3 .any (fun w args => (Rows.kindOfsSpec.pre enc Tryd.prog Tryd.f3 [] false w args ∧ laidMetH Tryd.prog laid1 w) ∧ sizedMet enc Tryd.prog Tryd.f3 (OpenSpec.ofChange Rows.kindOfsSpec) false w args)
      (Rows.kindOfsSpec.post enc Tryd.prog Tryd.f3 false true false false) := by
  refine returnsInHanded_of_change_and (C := Tryd.checked) (X := fun w _ => laidMetH Tryd.prog laid1 w) (fun _ _ _ hh h => h.of_heap hh) own started (by kernel_rfl) Tryd.func3
    (ChangeSpec.witness_shaped (enc := enc) (C := Tryd.checked) (os := os) (X := fun w _ => laidMetH Tryd.prog laid1 w) false (World.doorLaid Tryd.prog 400 os) #[.slice none 0 0] 8 rfl (World.shaped_of_RefB (by kernel_rfl) (by kernel_rfl)) (by kernel_rfl) (by kernel_rfl) (by kernel_rfl) (door_met os _)) ?_
  intro W base args ds gs before hval0 hW _ hsz0 hL _
  have hval : ∀ (j : Nat) t v, Tryd.f3.params[j]? = some t → args[j]? = some v → Value.okWide Tryd.prog W .any base t v := hval0
  have hsz : (DataW.weightsEach Tryd.prog (Tryd.f3.params.toList ++ Rows.kindOfsSpec.plain.varTypes Tryd.prog) (ds ++ gs)).all (· ≤ reachBytes) = true := hsz0
  have hW' := hW
  obtain ⟨p, q, hA0, hV, rfl, hfz, hnd⟩ := hW
  have hA : DataW.TrodAll enc Tryd.prog W 0 (fun _ => true) true Tryd.f3.params.toList args.toList ds p := hA0
  rw [Tryd.params3] at hA hval hsz
  obtain ⟨v0, d0, rfl, rfl, h0⟩ := trodAll_one hA
  obtain ⟨rfl, rfl⟩ := trodVars_none hV
  obtain ⟨a0, len, cap, rfl⟩ := okWide_slice Tryd.underlying22 (hval 0 22 v0 rfl rfl)
  have h0k := h0
  obtain ⟨fuel, hf⟩ := h0
  have hwt : (d0.weights Tryd.prog 22).all (· ≤ reachBytes) = true := List.all_eq_true.2 fun n hn => List.all_eq_true.1 hsz n (DataW.weights_mem_each (j := 0) rfl rfl n hn)
  obtain ⟨hmo, hw0⟩ := mo_of_laid hL
  clear hA0
  simp only [List.append_nil] at hW'
  have hlt : ∀ x ∈ p, x.block < W.heap.size := fun x hx => by simpa using hW'.lt x hx
  obtain ⟨lf, rfl, hln, hcap, hcm⟩ := open_strs (by simpa [Value.cells] using hf)
  refine (ofs_walk a0 cap lf W (by have h1 := hcm hwt
                                   have : reachBytes ≤ 281474976710656 := by decide
                                   omega) hln hmo hw0).mono fun e W' ⟨he, hg⟩ => ?_
  subst he
  exact ⟨_, rfl, _, _, _, [], _, [], hW', trodAll_cons_mk (shut_bool Tryd.underlying4 _) trodAll_mk0, trodAll_cons_mk (Below.trod laidOut (by kernel_rfl) (of_decide_eq_true (by kernel_rfl)) h0k hg hlt) trodAll_mk0, rfl, hg.frame _, fun h => by cases h⟩

theorem proved : Rows.KindOfsSaid :=
  OpenClaim.holds_of_wide 3 Tryd.f3 rfl rfl rfl rfl rfl rfl rfl ⟨rfl, rfl, rfl, rfl, rfl⟩ rfl rfl rfl rfl rfl (by kernel_rfl) Tryd.func3 (by kernel_rfl)
    (of_decide_eq_true (by kernel_rfl)) (by unfold Func.isWrapper; first | (rw [if_pos (by decide +kernel)]; kernel_rfl) | (rw [if_neg (by decide +kernel)]; exact ⟨rfl, rfl⟩))
    (fun os started H enc _ => lifted os started H enc)
end Go.Proofs.YtlhgkhhncgmpoaaDoor.kindOfs
namespace Go.Proofs.YtlhgkhhncgmpoaaDoor
open Go
theorem kindOfs_holds : Rows.KindOfsCardSaid :=
  Claim7.holds_tied_plain_at .later [] [.data] true (true, "3a56f6a74a5b85607d06c857ea9093b0508747ea7cae3b3bdbb7a8bd8eb0cf07") false
    kindOfs.proved (fun _ h => by cases h) (by kernel_rfl) (fun _ h => by cases h) kindOfs_row_tie rfl ⟨rfl, rfl⟩ (by kernel_rfl) rfl
    (fun f fn hf hfn => by
      obtain rfl : f = 3 := Option.some.inj ((show Tryd.prog.funcNamed Tryd.f3.name = some 3 by kernel_rfl).symm.trans hf) |>.symm
      obtain rfl : fn = Tryd.f3 := (Option.some.inj (Tryd.func3.symm.trans hfn)).symm
      exact ⟨by kernel_rfl, fun j t ht => by
        rw [Tryd.params3] at ht
        have hm : t ∈ [22] := by simpa using Array.mem_of_getElem? ht
        have hall : ([22].all fun u => !Tryd.prog.wantsStandIn u) = true := by kernel_rfl
        exact (show Tryd.prog.wantsStandIn t = false by simpa using List.all_eq_true.1 hall t hm)⟩)
    (by kernel_rfl)
end Go.Proofs.YtlhgkhhncgmpoaaDoor
