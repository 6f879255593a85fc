/-
  Arguments opened: a list of lines that is handed in.
  Arguments opened: a list of tokens that is handed in.
  Package macro: what a nil table tells.
  Package macro: Get of a nil table.
  Package macro: Parse.
  Package macro: Parse of the tokens of a line.
  burinlaw03.shown answers true.
-/
import Derived.Test.YticiddcgafhkhaaGreatDoorQ5
import Derived.Test.YticiddcgafhkhaaGreatDoorS3
import Derived.Test.YticiddcgafhkhaaGreatDoorCards
import Derived.Test.YticiddcgafhkhaaGreatDoorTie
import Derived.ProofKit
import Derived.SizedLaws
import Derived.LaidMore
import Derived.OpenShut
import Derived.SevenTiedAt
import Derived.Deep.SlicePairs
import Derived.Test.YticiddcgafhkhaaGreatDoorK1
import Derived.Deep.Slices
import Derived.Test.YticiddcgafhkhaaGreatDoorUb
import Derived.Test.YticiddcgafhkhaaGreatDoorV5
import Derived.Test.YticiddcgafhkhaaGreatDoorU8
import Derived.Test.YticiddcgafhkhaaGreatDoorUa
import Derived.Test.YticiddcgafhkhaaGreatDoorUF
import Derived.Test.YticiddcgafhkhaaGreatDoorLa
import Derived.Test.YticiddcgafhkhaaGreatDoorUc
namespace Go.Proofs.YticiddcgafhkhaaGreatDoor
open Go.ChangeShapes Go.WideShapes Go.ChangeAt Go.RowKit
set_option linter.unusedVariables false

theorem own : ownKnob Tryz.prog.godebug = none := by kernel_rfl
theorem laidOut : laidOutB Tryz.prog = true := by kernel_rfl
theorem cells40 : Tryz.prog.cellsOf 61 = 2 := by kernel_rfl
theorem cells3 : Tryz.prog.cellsOf 3 = 1 := by kernel_rfl
theorem bytes40 : Tryz.prog.bytesOf 61 = 24 := by kernel_rfl
theorem door_met (os : Os) (args : Array Value) : laidMetH Tryz.prog [("burin/token.signs", Rows.laid_burin_token_signs)] ((World.doorLaid Tryz.prog 400 os).forCall (fun _ _ => 0) ⟨#[], args, []⟩).memory :=
  laidMetH_of_parts3 (fuel := 8) (laidMet_of_run' 8 (by kernel_rfl) (by kernel_rfl)) (by kernel_rfl) (by kernel_rfl)
theorem add_plain (b o j : Nat) : (⟨b, o, none⟩ : Addr).add j = ⟨b, o + j, none⟩ := by unfold Addr.add; split <;> simp_all
theorem weightsAll_mem {H : Type} {P : Program} {e : TypeId} : ∀ {l : List (DataW H)} {d : DataW H}, d ∈ l → ∀ n ∈ d.weights P e, n ∈ DataW.weightsAll P e l
  | x :: r, d, h, n, hn => by
    rw [DataW.weightsAll, List.mem_append]
    rcases List.mem_cons.1 h with rfl | h
    · exact .inl hn
    · exact .inr (weightsAll_mem h n hn)

/-- The argument opened: lines lie behind the address. -/
theorem open_lines {H : Type} {enc : TypeId × Value → H} {W : World} {p : Option Addr} {len cap fuel : Nat} {x : DataW H × List MemPlace}
    (h : DataW.trod enc Tryz.prog W 0 (fun _ => true) true fuel 62 [.slice p len cap] = some x) :
    ∃ lf : List (Int × ByteArray), lf.length = len ∧ LnB W.heap.size W (.slice p lf.length cap) lf ∧ ((x.1.weights Tryz.prog 62).all (· ≤ reachBytes) = true → Fits lf ∧ cap * 24 ≤ reachBytes ∧ len ≤ cap) := by
  rcases Go.Deep.open_slice_pairs Tryz.underlying62 Tryz.underlying61 cells40 rfl rfl cells3 cells9 h with ⟨hc, hx⟩ | ⟨a, len', cap', m, k, V0, V1, D0, D1, P0, P1, hc, _, hl, hm, hmm, hx, hall⟩
  · obtain ⟨rfl, rfl, rfl⟩ : p = none ∧ len = 0 ∧ cap = 0 := by simpa using hc
    exact ⟨[], rfl, ⟨none, 0, rfl, fun i hi => by simp at hi⟩, fun _ => ⟨⟨by simp, fun y hy => by simp at hy⟩, by simp, Nat.le_refl _⟩⟩
  · obtain ⟨rfl, rfl, rfl⟩ : p = some a ∧ len = len' ∧ cap = cap' := by simpa using hc
    simp only [if_true] at hmm
    subst hmm
    have key : ∀ i, i < m → ∃ (n : Int) (s : ByteArray), V0 i = .int .i64 n ∧ V1 i = .string s ∧ D1 i = .lit (.string s.data.toList) := fun i hi => by
      obtain ⟨_, _, t0, t1⟩ := hall i hi
      obtain ⟨n, e0, _, _⟩ := DataW.trod_int Tryz.underlying3 t0
      obtain ⟨s, e1, e2, hs⟩ := DataW.trod_string Tryz.underlying9 t1
      simp only [List.cons.injEq, and_true] at e0 e1
      exact ⟨n, s, e0, e1, by simpa using congrArg Prod.fst e2⟩
    refine ⟨(List.range len).map fun i => (match V0 i with | .int _ n => n | _ => 0, match V1 i with | .string s => s | _ => ⟨#[]⟩), by simp, ⟨some a, m, rfl, fun i hi => ?_⟩, fun hw => ?_⟩
    · have hi' : i < len := by simpa using hi
      obtain ⟨c0, c1, _, _⟩ := hall i (by omega)
      obtain ⟨n, s, e0, e1, _⟩ := key i (by omega)
      obtain ⟨b, off, spot⟩ := a
      have c00 := (hall 0 (by omega)).1
      have hspot : spot = none := by simpa [Addr.add] using World.cell?_spot c00
      subst hspot
      rw [add_plain] at c0 c1
      rw [← Nat.add_assoc] at c1
      refine ⟨b, off, rfl, World.block_lt_of_cell? W _ c0, ?_, ?_⟩
      · rw [c0]; simp [e0]
      · rw [c1]; simp [e1]
    · rw [hx] at hw
      simp only [DataW.weights, Tryz.underlying62, List.all_cons, Bool.and_eq_true, decide_eq_true_eq, List.all_append, bytes40] at hw
      obtain ⟨h1, h2, _⟩ := hw
      have hmm : len + (m - len) = m := by omega
      have hcap : m * 24 ≤ reachBytes := by
        simp only [List.length_map, List.length_range] at h1
        rw [hmm] at h1
        exact h1
      refine ⟨⟨?_, fun y hy => ?_⟩, hcap, hl⟩
      · simp [reachBytes] at hcap ⊢; omega
      · obtain ⟨i, hi, rfl⟩ := List.mem_map.1 hy
        have hi' := List.mem_range.1 hi
        obtain ⟨n, s, e0, e1, e2⟩ := key i (by omega)
        simp only [e1]
        have := List.all_eq_true.1 h2 s.data.toList.length (weightsAll_mem (d := .agg [D0 i, D1 i]) (List.mem_map.2 ⟨i, hi, rfl⟩) _ (by
          simp only [DataW.weights, Tryz.underlying61, e2]
          simp [DataW.weightsEach, DataW.weights]))
        have h3 := of_decide_eq_true this
        have e : s.data.toList.length = s.size := by simp
        rw [e, reachBytes] at h3
        omega
end Go.Proofs.YticiddcgafhkhaaGreatDoor
namespace Go.Proofs.YticiddcgafhkhaaGreatDoor
open Go.ChangeShapes Go.WideShapes Go.ChangeAt Go.RowKit
set_option linter.unusedVariables false

theorem cells34 : Tryz.prog.cellsOf 74 = 6 := by kernel_rfl
theorem cells4 : Tryz.prog.cellsOf 4 = 1 := by kernel_rfl
/-- A text's letters and one more, of each token. -/
def gBulk : List Gt → Nat
  | [] => 0
  | t :: r => t.s.length + 1 + gBulk r
theorem gBulk_take (l : List Gt) : ∀ k, gBulk (l.take k) ≤ gBulk l := by
  induction l with
  | nil => intro k; simp [gBulk]
  | cons t r ih =>
    intro k
    cases k with
    | zero => simp [gBulk]
    | succ k => have := ih k; simp only [List.take_succ_cons, gBulk]; omega
theorem gBulk_app (l m : List Gt) : gBulk (l ++ m) = gBulk l + gBulk m := by
  induction l with
  | nil => simp [gBulk]
  | cons t r ih => simp only [List.cons_append, gBulk, ih]; omega
theorem gBulk_len (l : List Gt) : l.length ≤ gBulk l := by
  induction l with
  | nil => simp [gBulk]
  | cons t r ih => simp only [List.length_cons, gBulk]; omega
theorem sep_len (k : Nat) (t : Gt) : (sepG k t).length ≤ 1 := by
  unfold sepG
  split
  · simp
  · split
    · simp
    · split <;> simp
theorem spP_bulk (l : List Gt) : ∀ k, k ≤ l.length → (spP l k).length ≤ gBulk (l.take k) := by
  intro k
  induction k with
  | zero => intro _; simp [spP_zero]
  | succ k ih =>
    intro hk
    have := ih (by omega)
    have h1 := sep_len k l[k]
    rw [spP_succ (by omega), List.take_succ_eq_append_getElem (by omega), gBulk_app, List.length_append, List.length_append]
    simp only [gBulk]
    omega
theorem spG_bulk (l : List Gt) : (spG l).length ≤ gBulk l := by
  have := spP_bulk l l.length (Nat.le_refl _)
  rw [List.take_length] at this
  exact this

set_option maxRecDepth 100000 in
/-- One token of the six cells. -/
theorem tok_open {H : Type} {enc : TypeId × Value → H} {W : World} {n : Nat} {cs : List Value} {y : DataW H × List MemPlace}
    (h : DataW.trod enc Tryz.prog W 0 (fun _ => true) true n 74 cs = some y) :
    ∃ t : Gt, cs = [.int .i64 t.kind, .string ⟨t.s.toArray⟩, .string ⟨t.f.toArray⟩, .int .i64 t.line, .bool t.sp, .bool t.fi] ∧ t.s.length + 1 ≤ Rows.uptoBulk y.1 := by
  obtain ⟨xs, k, _, hxy, hl, hxl, hf⟩ := DataW.trod_struct Tryz.underlying74 h
  rw [cells34] at hl
  match xs, hxl, cs, hl with
  | [y0, y1, y2, y3, y4, y5], _, [v0, v1, v2, v3, v4, v5], _ =>
    have g0 := hf 0 _ rfl
    have g1 := hf 1 _ rfl
    have g2 := hf 2 _ rfl
    have g3 := hf 3 _ rfl
    have g4 := hf 4 _ rfl
    have g5 := hf 5 _ rfl
    simp [cells3, cells9, cells4] at g0 g1 g2 g3 g4 g5
    obtain ⟨a, e0, _, _⟩ := DataW.trod_int Tryz.underlying3 g0
    obtain ⟨s, e1, d1, _⟩ := DataW.trod_string Tryz.underlying9 g1
    obtain ⟨f, e2, _, _⟩ := DataW.trod_string Tryz.underlying9 g2
    obtain ⟨m, e3, _, _⟩ := DataW.trod_int Tryz.underlying3 g3
    obtain ⟨b, e4, _⟩ := DataW.trod_bool Tryz.underlying4 g4
    obtain ⟨c, e5, _⟩ := DataW.trod_bool Tryz.underlying4 g5
    simp only [List.cons.injEq, and_true] at e0 e1 e2 e3 e4 e5
    refine ⟨⟨a, s.data.toList, f.data.toList, m, b, c⟩, by rw [e0, e1, e2, e3, e4, e5], ?_⟩
    have hd1 : y1.1 = .lit (.string s.data.toList) := by simpa using congrArg Prod.fst d1
    rw [hxy]
    simp only [List.map_cons, List.map_nil, Rows.uptoBulk, Rows.uptoBulkAll, hd1]
    omega

theorem pick_fun {α β : Type} {r : α → β → Prop} (h : ∀ x, ∃ y, r x y) : ∃ f : α → β, ∀ x, r x (f x) := ⟨fun x => Classical.choose (h x), fun x => Classical.choose_spec (h x)⟩
/-- The argument opened: tokens lie behind the address. -/
theorem open_toks {H : Type} {enc : TypeId × Value → H} {W : World} {p : Option Addr} {len cap fuel : Nat} {x : DataW H × List MemPlace}
    (h : DataW.trod enc Tryz.prog W 0 (fun _ => true) true fuel 31 [.slice p len cap] = some x) :
    ∃ lf : List Gt, lf.length = len ∧ TkG W.heap.size W (.slice p lf.length cap) lf ∧ len ≤ cap ∧ cap ≤ maxLen ∧ gBulk lf ≤ Rows.uptoBulk x.1 := by
  rcases Go.Deep.open_slice Tryz.underlying31 h with ⟨hc, hx⟩ | ⟨a, len', cap', m, k, D, Pl, hc, _, hl, hm, hmm, hx, hall⟩
  · obtain ⟨rfl, rfl, rfl⟩ : p = none ∧ len = 0 ∧ cap = 0 := by simpa using hc
    exact ⟨[], rfl, ⟨none, 0, rfl, fun i hi => by simp at hi⟩, Nat.le_refl _, Nat.zero_le _, by simp [gBulk]⟩
  · obtain ⟨rfl, rfl, rfl⟩ : p = some a ∧ len = len' ∧ cap = cap' := by simpa using hc
    simp only [if_true] at hmm
    subst hmm
    have key : ∀ i, ∃ t : Gt, i < m → (W.cell? (a.add (i * 6)) = some (.int .i64 t.kind) ∧ W.cell? (a.add (i * 6 + 1)) = some (.string ⟨t.s.toArray⟩) ∧ W.cell? (a.add (i * 6 + 2)) = some (.string ⟨t.f.toArray⟩) ∧
        W.cell? (a.add (i * 6 + 3)) = some (.int .i64 t.line) ∧ W.cell? (a.add (i * 6 + 4)) = some (.bool t.sp) ∧ W.cell? (a.add (i * 6 + 5)) = some (.bool t.fi)) ∧ t.s.length + 1 ≤ Rows.uptoBulk (D i) := fun i => by
      by_cases hi : i < m
      · obtain ⟨cs', h1, h2⟩ := hall i hi
        rw [cells34] at h1
        obtain ⟨_, hlen, hcell⟩ := World.cells?_some h1
        obtain ⟨t, rfl, hb⟩ := tok_open h2
        refine ⟨t, fun _ => ⟨?_, hb⟩⟩
        have c : ∀ j, j < 6 → W.cell? (a.add (i * 6 + j)) = [Value.int .i64 t.kind, .string ⟨t.s.toArray⟩, .string ⟨t.f.toArray⟩, .int .i64 t.line, .bool t.sp, .bool t.fi][j]? := fun j hj => by
          have := hcell j hj
          rw [Go.Deep.add_add] at this
          exact this
        exact ⟨c 0 (by decide), c 1 (by decide), c 2 (by decide), c 3 (by decide), c 4 (by decide), c 5 (by decide)⟩
      · exact ⟨⟨0, [], [], 0, false, false⟩, fun h => absurd h hi⟩
    obtain ⟨G, hG⟩ := pick_fun key
    refine ⟨(List.range len).map G, by simp, ⟨some a, m, by simp, fun i hi => ?_⟩, hl, hm, ?_⟩
    · have hi' : i < len := by simpa using hi
      obtain ⟨⟨c0, c1, c2, c3, c4, c5⟩, _⟩ := hG i (by omega)
      obtain ⟨b, off, spot⟩ := a
      have c00 := (hG 0 (by omega)).1.1
      have hspot : spot = none := by simpa [Addr.add] using World.cell?_spot c00
      subst hspot
      rw [add_plain] at c0 c1 c2 c3 c4 c5
      simp only [← Nat.add_assoc] at c1 c2 c3 c4 c5
      simp only [List.getElem_map, List.getElem_range]
      exact ⟨b, off, rfl, World.block_lt_of_cell? W _ c0, c0, c1, c2, c3, c4, c5⟩
    · rw [hx]
      simp only [Rows.uptoBulk]
      have hs : ∀ n, n ≤ m → gBulk ((List.range n).map G) ≤ Rows.uptoBulkAll ((List.range n).map D) := by
        intro n
        induction n with
        | zero => intro _; simp [gBulk]
        | succ n ih =>
          intro hn
          have := ih (by omega)
          have h2 := (hG n (by omega)).2
          rw [List.range_succ, List.map_append, List.map_append, gBulk_app]
          have happ : ∀ (l r : List (DataW H)), Rows.uptoBulkAll (l ++ r) = Rows.uptoBulkAll l + Rows.uptoBulkAll r := by
            intro l r
            induction l with
            | nil => simp [Rows.uptoBulkAll]
            | cons x l ih => simp only [List.cons_append, Rows.uptoBulkAll, ih]; omega
          rw [happ]
          simp only [List.map_cons, List.map_nil, gBulk, Rows.uptoBulkAll]
          omega
      have := hs len hl
      omega
end Go.Proofs.YticiddcgafhkhaaGreatDoor
namespace Go.Proofs.YticiddcgafhkhaaGreatDoor
open Go Go.RowKit
set_option linter.unusedVariables false
set_option linter.unusedSimpArgs false

set_option maxRecDepth 100000 in
set_option maxHeartbeats 2000000 in
theorem Undef_nil (s : ByteArray) (w : World) : Calls Tryz.prog 10 #[.pointer none, .string s] w fun e w' => e = .returned (.int .i64 1) ∧ w' = w := by
  go_enter Tryz.func10, Tryz.ntmps10
  go_wp2
  go_ret
  exact ⟨rfl, rfl⟩
set_option maxRecDepth 100000 in
set_option maxHeartbeats 2000000 in
theorem Names_nil (w : World) : Calls Tryz.prog 16 #[.pointer none] w fun e w' => e = .returned (.slice none 0 0) ∧ w' = w := by
  go_enter Tryz.func16, Tryz.ntmps16
  go_wp2
  go_ret
  exact ⟨rfl, rfl⟩
set_option maxRecDepth 100000 in
set_option maxHeartbeats 2000000 in
theorem Define_nil (nm pv bv : Value) (fn more : Bool) (w : World) : Calls Tryz.prog 8 #[.pointer none, .agg #[nm, .bool fn, pv, .bool more, bv]] w fun e w' => e = .returned (.int .i64 1) ∧ Below w.heap.size w w' := by
  have hb : ∀ o, Below w.heap.size w (w.alloc o) := fun o => (Below.refl _ w).alloc (Nat.le_refl _) o
  have HB := hide hb
  clear hb
  go_enter Tryz.func8, Tryz.ntmps8
  go_wp2
  go_ret
  exact ⟨rfl, unhide HB _⟩
end Go.Proofs.YticiddcgafhkhaaGreatDoor
namespace Go.Proofs.YticiddcgafhkhaaGreatDoor
open Go Go.RowKit
set_option linter.unusedVariables false
set_option linter.unusedSimpArgs false

def zeroM : Array Value := #[.string ⟨#[]⟩, .bool false, .slice none 0 0, .bool false, .slice none 0 0]
theorem res24 {tmps : Array Value} {w : World} {R : Nat} {cs : Array Value} (hp : tmps.getD 4 undef = .pointer (some ⟨R, 0, none⟩)) (hg : w.heap[R]? = some (.cells cs 33 (0, 0))) (hz : cs.size = 5) :
    (results Tryz.f12 tmps).run Tryz.prog w = .ok (.tuple #[.agg cs, tmps.getD 5 undef]) w := by
  rw [results_cell_tmp rfl, hp]
  have hi : (Tryz.prog.info? 33).map (·.size) = some cs.size := by rw [hz]; kernel_rfl
  simp [asAddr, run_loadVar_row w R 33 33 cs (0, 0) _ hg Tryz.underlying33 rfl hi]
set_option maxRecDepth 100000 in
set_option maxHeartbeats 2000000 in
theorem Get_nil (s : ByteArray) (w : World) : Calls Tryz.prog 12 #[.pointer none, .string s] w fun e w' => e = .returned (.tuple #[.agg zeroM, .bool false]) ∧ Below w.heap.size w w' := by
  have hb : ∀ o, Below w.heap.size w (w.alloc o) := fun o => (Below.refl _ w).alloc (Nat.le_refl _) o
  have HB := hide hb
  clear hb
  unfold zeroM
  go_enter Tryz.func12, Tryz.ntmps12
  go_wp2
  refine bodyPost_ret (res24 rfl (World.alloc_heap_new w _) rfl) rfl ⟨?_, unhide HB _⟩
  rfl
end Go.Proofs.YticiddcgafhkhaaGreatDoor
namespace Go.Proofs.YticiddcgafhkhaaGreatDoor
open Go Go.RowKit
set_option linter.unusedVariables false
set_option linter.unusedSimpArgs false

/-- A slice that lies in new memory. -/
def NewS (B : Nat) (v : Value) : Prop := ∀ g o n c, v = .slice (some ⟨g, o, none⟩) n c → B ≤ g
theorem newS_of {W : World} {base n size : Nat} {e : TypeId} {v : Value} {xs : List Value} (h : W.ownsRow base e size v n xs) : NewS base v := by
  intro g o m c hv
  rcases h.2 with ⟨rfl, h0⟩ | ⟨g', cap, cur, rfl, hb, _⟩
  · cases hv
  · cases hv; exact hb
theorem placelessN_any (v : Value) (l : List Gt) (w : World) (hl : l.length * 56 ≤ 140737488355328) (hv : TkG w.heap.size w v l) :
    Calls Tryz.prog 20 #[v] w fun e w' => ∃ v', e = .returned v' ∧ TkG w'.heap.size w' v' (bareG l) ∧ Below w.heap.size w w' ∧ NewS w.heap.size v' := by
  have HCL := hide (CloneT_any v l w hl hv)
  clear hv
  go_enter Tryz.func20, Tryz.ntmps20
  go_wp2_with fail
  refine (unhide HCL).mono ?_
  rintro e W1 ⟨v', rfl, hrow, hb1⟩
  clear HCL
  by_cases h0 : l.length = 0
  · obtain rfl : l = [] := List.eq_nil_of_length_eq_zero h0
    have hnew := newS_of hrow
    obtain ⟨p, cap, rfl⟩ := ownsRow_slice hrow
    go_wp2
    go_loopg [9] 0 (fun gk i wr => i = .int .i64 0 ∧ wr = W1)
    case atStart => exact ⟨rfl, rfl⟩
    case round =>
      obtain ⟨rfl, hww⟩ := hrel
      obtain rfl := hww.symm
      go_wp2
      go_ret
      exact ⟨_, rfl, ⟨p, cap, rfl, fun i hi => by simp [bareG] at hi⟩, hb1, hnew⟩
  · obtain ⟨g, cap, rfl⟩ : ∃ g cap, v' = .slice (some ⟨g, 0, none⟩) l.length cap := by
      rcases hrow.2 with ⟨_, h⟩ | ⟨g, cap, cur, h, _⟩
      · exact absurd h h0
      · exact ⟨g, cap, h⟩
    have hbg : Bg w W1 g l 0 := by
      rcases hrow.2 with ⟨h, _⟩ | ⟨g', cap', cur, h, hbase, hg, hn, hm, hcs, htk⟩
      · cases h
      · obtain ⟨rfl, rfl⟩ : g = g' ∧ cap = cap' := by simpa using h
        refine ⟨hb1, hbase, fun j => by simp [World.frozen?, hg], fun i hi => ?_⟩
        rw [if_neg (by omega)]
        have key : ∀ j u, j < 6 → (gL l[i])[j]? = some u → W1.cell? ⟨g, i * 6 + j, none⟩ = some u := fun j u hj hu => by
          have e := gCells_at l i hi j hj
          rw [← htk, List.getElem?_take_of_lt (by omega)] at e
          rw [hu] at e
          simp [World.cell?, hg]
          simpa using e
        exact ⟨key 0 _ (by decide) rfl, key 1 _ (by decide) rfl, key 2 _ (by decide) rfl, key 3 _ (by decide) rfl, key 4 _ (by decide) rfl, key 5 _ (by decide) rfl⟩
    have HBG := hide hbg
    clear hbg hrow
    go_wp2
    go_loopg [9] l.length (fun gk i wr => ∃ k : Nat, gk = l.length - k ∧ i = .int .i64 k ∧ k ≤ l.length ∧ Hid (Bg w wr g l k))
    case atStart => exact ⟨0, rfl, rfl, by omega, HBG⟩
    case round =>
      clear HBG
      obtain ⟨k, rfl, rfl, hk, hbg⟩ := hrel
      by_cases hlt : k < l.length
      · have i1 : (k : Int) < (l.length : Int) := by omega
        obtain ⟨c0, c1, c2, c3, c4, c5⟩ := (unhide hbg).at_ k hlt
        rw [if_neg (by omega)] at c0 c1 c2 c3 c4 c5
        have fr := (unhide hbg).free
        have f2 := fr (k * 6 + 2)
        have f3 := fr (k * 6 + 3)
        have f4 := fr (k * 6 + 4)
        have f5 := fr (k * 6 + 5)
        clear fr
        by_cases hk0 : k = 0
        · subst hk0
          have HN := hide ((unhide hbg).first hlt)
          simp only [Nat.zero_mul, Nat.zero_add] at c0 c1 c2 c3 c4 c5 f2 f3 f4 f5
          generalize l[0] = t at *
          go_wp2
          go_roundg (l.length - 1)
          case measure => omega
          case rel => exact ⟨1, rfl, by go_num, by omega, HN⟩
        · have i2 : ((k : Int) == 0) = false := by rw [beq_eq_false_iff_ne]; omega
          have HN := hide ((unhide hbg).next hlt (by omega))
          generalize l[k] = t at *
          go_wp2
          go_roundg (l.length - (k + 1))
          case measure => omega
          case rel => exact ⟨k + 1, rfl, by go_num, by omega, HN⟩
      · have i1 : ¬ (k : Int) < (l.length : Int) := by omega
        go_wp2
        go_ret
        refine ⟨_, rfl, ⟨some ⟨g, 0, none⟩, cap, by rw [bareG_length]; rfl, fun i hi => ?_⟩, (unhide hbg).below, fun g' o n c h => by cases h; exact (unhide hbg).new⟩
        have hi' : i < l.length := by rw [← bareG_length]; exact hi
        have h6 := (unhide hbg).at_ i hi'
        rw [if_pos (by omega)] at h6
        rw [bareG_at]
        refine ⟨g, 0, rfl, World.block_lt_of_cell? _ _ h6.1, ?_⟩
        simp only [Nat.zero_add]
        exact h6

theorem StG.keepsS {B : Nat} {S : Nat → Prop} {W W' : World} {p : Option Addr} {n cap : Nat} {l : List (List UInt8)} (h : StG B W (.slice p n cap) l) (hk : keepsS S W W') (hS : ∀ g o, p = some ⟨g, o, none⟩ → S g) : StG B W' (.slice p n cap) l := by
  obtain ⟨p', cap', e, hc⟩ := h
  obtain ⟨rfl, rfl, rfl⟩ : p = p' ∧ n = l.length ∧ cap = cap' := by simpa using e
  refine ⟨p, cap, rfl, fun i hi => ?_⟩
  obtain ⟨g, o, hp, hg, c0⟩ := hc i hi
  exact ⟨g, o, hp, hg, (World.cell?_of_block (hk g (hS g o hp))).trans c0⟩
theorem keepsS_put5 (W : World) (M : Nat) (nm pv bv : Value) (fn more : Bool) : keepsS (fun b => b ≠ M) W (put5 W M nm fn pv more bv) := fun b hb =>
  (Below.heap_setCell _ _ _ _ hb).trans ((Below.heap_setCell _ _ _ _ hb).trans ((Below.heap_setCell _ _ _ _ hb).trans ((Below.heap_setCell _ _ _ _ hb).trans (Below.heap_setCell _ _ _ _ hb))))
/-- The macro that tokens define, if they define one. -/
def parseM (l : List Gt) : Option Mc :=
  match headP l with
  | none => none
  | some (nm, fn, ps, more, body) => if rightM ⟨nm, fn, ps, more, bareG body⟩ then some ⟨nm, fn, ps, more, bareG body⟩ else none
/-- Both lists of what is told are new. -/
def PNw (w : World) (x : Value) : Prop := ∀ a f pv mo bv, x = .agg #[a, f, pv, mo, bv] → (∀ g o n c, pv = .slice (some ⟨g, o, none⟩) n c → w.heap.size ≤ g) ∧ (∀ g o n c, bv = .slice (some ⟨g, o, none⟩) n c → w.heap.size ≤ g)
/-- What Parse tells. -/
def ParseP (w : World) (R : Option Mc) (e : Ending) (w' : World) : Prop :=
  Below w.heap.size w w' ∧ ((R = none ∧ e = .returned (.tuple #[.agg zeroM, .int .i64 30])) ∨
    (∃ m x, R = some m ∧ e = .returned (.tuple #[x, .int .i64 0]) ∧ McV w'.heap.size w' x m ∧ PNw w x))
theorem res17P {tmps : Array Value} {w : World} {R : Nat} {cs : Array Value} (hp : tmps.getD 2 undef = .pointer (some ⟨R, 0, none⟩)) (hg : w.heap[R]? = some (.cells cs 33 (0, 0))) (hz : cs.size = 5) :
    (results Tryz.f6 tmps).run Tryz.prog w = .ok (.tuple #[.agg cs, tmps.getD 3 undef]) w := by
  rw [results_cell_tmp rfl, hp]
  have hi : (Tryz.prog.info? 33).map (·.size) = some cs.size := by rw [hz]; kernel_rfl
  simp [asAddr, run_loadVar_row w R 33 33 cs (0, 0) _ hg Tryz.underlying33 rfl hi]

set_option maxRecDepth 100000 in
set_option maxHeartbeats 8000000 in
theorem Parse_any (p : Option Addr) (cap : Nat) (l : List Gt) (w : World) (hsz : l.length * 56 ≤ 140737488355328) (hcap : l.length ≤ cap ∧ cap ≤ maxLen) (hl : TkG w.heap.size w (.slice p l.length cap) l)
    (hfit : ∀ nm fn ps more body, headP l = some (nm, fn, ps, more, body) → McFits ⟨nm, fn, ps, more, bareG body⟩ ∧ body.length ≤ l.length) (hw0 : 1 < w.heap.size) (hsg : Sg w) :
    Calls Tryz.prog 6 #[.slice p l.length cap] w fun e w' => ParseP w (parseM l) e w' := by
  have hbe0 : Below w.heap.size w (w.alloc (.cells #[.string ⟨#[]⟩, .bool false, .slice none 0 0, .bool false, .slice none 0 0] 33)) := (Below.refl _ w).alloc (Nat.le_refl _) _
  have hm0 : MBox (w.alloc (.cells #[.string ⟨#[]⟩, .bool false, .slice none 0 0, .bool false, .slice none 0 0] 33)) w.heap.size (.string ⟨#[]⟩) false (.slice none 0 0) false (.slice none 0 0) := World.alloc_heap_new w _
  have hz0 : (w.alloc (.cells #[.string ⟨#[]⟩, .bool false, .slice none 0 0, .bool false, .slice none 0 0] 33)).heap.size = w.heap.size + 1 := by simp
  have HH := hide (parseHead_any p cap l (w.alloc (.cells #[.string ⟨#[]⟩, .bool false, .slice none 0 0, .bool false, .slice none 0 0] 33)) hsz hcap ((hl.below hbe0).mono (by omega)))
  have HM := hide hm0
  have HB := hide hbe0
  have HSG := hide hsg
  have HF := hide hfit
  have hR : parseM l = match headP l with
    | none => none
    | some (nm, fn, ps, more, body) => if rightM ⟨nm, fn, ps, more, bareG body⟩ then some ⟨nm, fn, ps, more, bareG body⟩ else none := rfl
  generalize parseM l = R at *
  have HR := hide hR
  clear hR hfit hsg hbe0 hm0 hl
  generalize hN : l.length = N at *
  go_enter Tryz.func6, Tryz.ntmps6
  go_wp2_with fail
  refine (unhide HH).mono ?_
  rintro e W1 ⟨hb1, (⟨hRn, s, fn, q, n, c, more, sv, rfl⟩ | ⟨nm, fn, ps, more, body, pv, p', cap', hRs, rfl, hrow, htk⟩)⟩
  · have HRR : Hid (R = none) := by rw [Hid, unhide HR, hRn]
    rw [hz0] at hb1
    have hm1 := (unhide HM).below hb1 (by omega)
    have HB1 := hide ((unhide HB).trans (hb1.mono (by omega)))
    clear HH HM HB hb1 hz0
    have hm2 := hm1.below ((Below.refl _ W1).alloc (Nat.le_refl _) (.cells #[.string s, .bool fn, .slice q n c, .bool more, .slice none 0 0] 33)) hm1.lt
    have mm := hm2.five
    obtain ⟨m0, m1, m2, m3, m4⟩ := mm
    have n0 := hm2.frozen 0
    have n1 := hm2.frozen 1
    have n2 := hm2.frozen 2
    have n3 := hm2.frozen 3
    have n4 := hm2.frozen 4
    have HM2 := hide hm2
    have hne : w.heap.size ≠ W1.heap.size := Nat.ne_of_lt hm1.lt
    clear hm2 hm1
    go_wp2
    refine bodyPost_ret (res17P rfl ((unhide HM2).put _ _ _ _ _) rfl) rfl ⟨below_put5 ((unhide HB1).alloc (unhide HB1).size _) (Nat.le_refl _) _ _ _ _ _, .inl ⟨unhide HRR, rfl⟩⟩
  · have HRR : Hid (R = if rightM ⟨nm, fn, ps, more, bareG body⟩ then some ⟨nm, fn, ps, more, bareG body⟩ else none) := by rw [Hid, unhide HR, hRs]
    obtain ⟨hfit, hbl⟩ := unhide HF _ _ _ _ _ hRs
    rw [hz0] at hb1 hrow
    have hm1 := (unhide HM).below hb1 (by omega)
    have HB1 := hide ((unhide HB).trans (hb1.mono (by omega)))
    have hz1 : w.heap.size < W1.heap.size := hm1.lt
    obtain ⟨q, c, rfl⟩ := ownsRow_slice hrow
    have hal : Below W1.heap.size W1 (W1.alloc (.cells #[.string ⟨nm.toArray⟩, .bool fn, .slice q ps.length c, .bool more, .slice none 0 0] 33)) := (Below.refl _ W1).alloc (Nat.le_refl _) _
    have HPL := hide (placelessN_any (.slice p' body.length cap') body (W1.alloc (.cells #[.string ⟨nm.toArray⟩, .bool fn, .slice q ps.length c, .bool more, .slice none 0 0] 33)) (by omega) ((htk.below hal).mono (by simp)))
    have hm2 : MBox (W1.alloc (.cells #[.string ⟨nm.toArray⟩, .bool fn, .slice q ps.length c, .bool more, .slice none 0 0] 33)) W1.heap.size (.string ⟨nm.toArray⟩) fn (.slice q ps.length c) more (.slice none 0 0) := World.alloc_heap_new W1 _
    have HM1 := hide (hm1.below hal hm1.lt)
    have HM2 := hide hm2
    have HST := hide (StG.of hrow rfl)
    have HRM := hide (ownsRow_room hrow)
    have HNP := hide (newS_of hrow)
    have hz2 : (W1.alloc (.cells #[.string ⟨nm.toArray⟩, .bool fn, .slice q ps.length c, .bool more, .slice none 0 0] 33)).heap.size = W1.heap.size + 1 := by simp
    have HFT := hide hfit
    clear HH HM HB hb1 hz0 hm1 hal hm2 hrow htk hRs HR HF hfit
    go_wp2_with fail
    refine (unhide HPL).mono ?_
    rintro e W2 ⟨v', rfl, htk2, hb2, hnew⟩
    obtain ⟨pb, cb, rfl, _⟩ := id htk2
    have hs2 := hb2.size
    rw [hz2] at hs2 hnew
    have hm2 := (unhide HM2).below hb2 (by omega)
    have hm1 := (unhide HM1).below hb2 (by omega)
    have mf4 := hm2.frozen 4
    obtain ⟨mc0, mc1, mc2, mc3, mc4⟩ := hm2.five
    have hB12 : Below W1.heap.size W1 W2 := ((Below.refl _ W1).alloc (Nat.le_refl _) _).trans (hb2.mono (by rw [hz2]; omega))
    have hB13 : Below W1.heap.size W1 (W2.setCell ⟨W1.heap.size, 4, none⟩ (.slice pb (bareG body).length cb)) := hB12.setCell (p := ⟨W1.heap.size, 4, none⟩) (Nat.le_refl _) _
    have x1 := hide (hm1.setCell (b := W1.heap.size) (i := 4) (by omega) (.slice pb (bareG body).length cb))
    have x2 := hide (hm2.set4 (.slice pb (bareG body).length cb))
    have x4 : Below w.heap.size w (W2.setCell ⟨W1.heap.size, 4, none⟩ (.slice pb (bareG body).length cb)) := (unhide HB1).trans (hB13.mono (Nat.le_of_lt hz1))
    have hzz : (W2.setCell ⟨W1.heap.size, 4, none⟩ (.slice pb (bareG body).length cb)).heap.size = W2.heap.size := by simp
    have x5 : TkG W2.heap.size (W2.setCell ⟨W1.heap.size, 4, none⟩ (.slice pb (bareG body).length cb)) (.slice pb (bareG body).length cb) (bareG body) := by
      refine htk2.keepsS (S := fun b => b ≠ W1.heap.size) (fun b hb => Below.heap_setCell _ _ _ _ hb) (fun g o hp => ?_)
      have := hnew g o _ _ (by rw [hp])
      omega
    have x6 : McV (W2.setCell ⟨W1.heap.size, 4, none⟩ (.slice pb (bareG body).length cb)).heap.size (W2.setCell ⟨W1.heap.size, 4, none⟩ (.slice pb (bareG body).length cb)) (.agg #[.string ⟨nm.toArray⟩, .bool fn, .slice q ps.length c, .bool more, .slice pb (bareG body).length cb]) ⟨nm, fn, ps, more, bareG body⟩ :=
      ⟨_, _, rfl, ((unhide HST).below hB13).mono (by rw [hzz]; omega), by rw [hzz]; exact x5, unhide HRM⟩
    have HRG := hide (Right_any _ _ _ (unhide HFT) x6 (by rw [hzz]; omega) (Sg.below (unhide HSG) x4 hw0))
    have HX6 := hide x6
    have HX4 := hide x4
    have HZZ := hide hzz
    clear hb2 htk2 hm1 HPL x5 x6 x4 hzz hB12 hB13 hm2 HM1 HM2 hs2 hz2
    go_wp2_with fail
    refine (unhide HRG).mono ?_
    rintro e W4 ⟨rfl, hb4⟩
    have hs4 := hb4.size
    rw [unhide HZZ] at hs4
    have h1l := (unhide x1).lt
    have h2l := (unhide x2).lt
    have hm1 := (unhide x1).below hb4 h1l
    have hm2 := (unhide x2).below hb4 h2l
    have HB5 := hide ((unhide HX4).trans (hb4.mono (unhide HX4).size))
    have HX7 := hide (McV.below (unhide HX6) hb4)
    clear mc0 mc1 mc2 mc3 mc4 mf4 HX6 HX4 HRG x1 x2 hb4 HZZ h1l h2l
    have HM1 := hide hm1
    obtain ⟨m0, m1, m2, m3, m4⟩ := hm1.five
    obtain ⟨k0, k1, k2, k3, k4⟩ := hm2.five
    have n0 := hm1.frozen 0
    have n1 := hm1.frozen 1
    have n2 := hm1.frozen 2
    have n3 := hm1.frozen 3
    have n4 := hm1.frozen 4
    clear hm1 hm2
    generalize rightM ⟨nm, fn, ps, more, bareG body⟩ = G at *
    cases G
    · go_wp2
      refine bodyPost_ret (res17P rfl ((unhide HM1).put _ _ _ _ _) rfl) rfl ⟨below_put5 (unhide HB5) (Nat.le_refl _) _ _ _ _ _, .inl ⟨by rw [unhide HRR]; rfl, rfl⟩⟩
    · have hbp := below_put5 (Below.refl w.heap.size W4) (Nat.le_refl _) (.string ⟨nm.toArray⟩) (.slice q ps.length c) (.slice pb (bareG body).length cb) fn more
      go_wp2
      refine bodyPost_ret (res17P rfl ((unhide HM1).put _ _ _ _ _) rfl) rfl ⟨below_put5 (unhide HB5) (Nat.le_refl _) _ _ _ _ _, .inr ⟨_, _, by rw [unhide HRR]; rfl, rfl, ?_, ?_⟩⟩
      rotate_left
      · intro a f pv mo bv e
        simp at e
        obtain ⟨_, _, rfl, _, rfl⟩ := e
        exact ⟨fun g o n c h => by have := unhide HNP g o _ _ h; omega, fun g o n c h => by have := hnew g o _ _ h; omega⟩
      obtain ⟨pv', bv', e', s1, s2, s3⟩ := unhide HX7
      have hee : pv' = .slice q ps.length c ∧ bv' = .slice pb (bareG body).length cb := by
        simp at e'
        exact ⟨e'.1.symm, e'.2.symm⟩
      obtain ⟨rfl, rfl⟩ := hee
      have hkS : keepsS (fun b => b ≠ w.heap.size) W4 (put5 W4 w.heap.size (.string ⟨nm.toArray⟩) fn (.slice q ps.length c) more (.slice pb (bareG body).length cb)) := keepsS_put5 _ _ _ _ _ _ _
      refine ⟨_, _, rfl, ?_, ?_, s3⟩
      · have := s1.keepsS hkS (fun g o hp => by have := unhide HNP g o _ _ (by rw [hp]); show g ≠ _; omega)
        exact this.mono (Nat.le_of_eq (size_put5 W4 w.heap.size _ _ _ _ _).symm)
      · have := s2.keepsS hkS (fun g o hp => by have := hnew g o _ _ (by rw [hp]); show g ≠ _; omega)
        exact this.mono (Nat.le_of_eq (size_put5 W4 w.heap.size _ _ _ _ _).symm)
end Go.Proofs.YticiddcgafhkhaaGreatDoor
namespace Go.Proofs.YticiddcgafhkhaaGreatDoor
open Go Go.RowKit
set_option linter.unusedVariables false
set_option linter.unusedSimpArgs false

theorem prs_mem : ∀ (l : List Gt) (x : Gt × Gt), x ∈ prs l → x.1 ∈ l ∧ x.2 ∈ l
  | [], x, h => by simp [prs] at h
  | [_], x, h => by simp [prs] at h
  | a :: b :: r, x, h => by
    simp only [prs, List.mem_cons] at h
    rcases h with rfl | h
    · simp
    · have := prs_mem r x h
      simp [this]
theorem goP_mem : ∀ (r : List (Gt × Gt)) (acc : List (List UInt8)) (k : Nat) (x : List (List UInt8) × Bool × Nat), goP acc k r = some x → (∀ p ∈ x.1, p ∈ acc ∨ ∃ y ∈ r, p = y.1.s) ∧ x.1.length ≤ acc.length + r.length
  | [], _, _, _, h => by simp [goP] at h
  | (a, b) :: r, acc, k, x, h => by
    unfold goP at h
    split at h
    · split at h
      · cases h
        refine ⟨fun p hp => ?_, by simp⟩
        simp at hp
        rcases hp with hp | rfl
        · exact .inl hp
        · exact .inr ⟨(a, b), by simp, rfl⟩
      · split at h
        · obtain ⟨h1, h2⟩ := goP_mem r _ _ x h
          refine ⟨fun p hp => ?_, by simp at h2 ⊢; omega⟩
          rcases h1 p hp with hp | ⟨y, hy, rfl⟩
          · simp at hp
            rcases hp with hp | rfl
            · exact .inl hp
            · exact .inr ⟨(a, b), by simp, rfl⟩
          · exact .inr ⟨y, by simp [hy], rfl⟩
        · cases h
    · split at h
      · split at h
        · cases h
          exact ⟨fun p hp => .inl hp, by simp⟩
        · cases h
      · cases h
theorem parP_mem (l : List Gt) (x : List (List UInt8) × Bool × Nat) (h : parP l = some x) : (∀ p ∈ x.1, ∃ t ∈ l, p = t.s) ∧ x.1.length ≤ l.length := by
  unfold parP at h
  split at h
  · cases h
  · rename_i t r
    split at h
    · cases h; simp
    · obtain ⟨h1, h2⟩ := goP_mem _ _ _ x h
      have h3 := prs_length (t :: r)
      refine ⟨fun p hp => ?_, by simp at h2 h3 ⊢; omega⟩
      rcases h1 p hp with hp | ⟨y, hy, rfl⟩
      · cases hp
      · exact ⟨y.1, (prs_mem _ y hy).1, rfl⟩
theorem headP_mem {l : List Gt} {nm : List UInt8} {fn more : Bool} {ps : List (List UInt8)} {body : List Gt} (h : headP l = some (nm, fn, ps, more, body)) :
    (∃ t ∈ l, nm = t.s) ∧ (∀ p ∈ ps, ∃ t ∈ l, p = t.s) ∧ ps.length ≤ l.length ∧ body <:+ l := by
  unfold headP at h
  split at h
  · cases h
  · rename_i t r
    split at h
    · unfold headQ at h
      split at h
      · cases h
        exact ⟨⟨t, by simp, rfl⟩, by simp, by simp, ⟨[t], by simp⟩⟩
      · rename_i b r'
        split at h
        · cases h
          exact ⟨⟨t, by simp, rfl⟩, by simp, by simp, ⟨[t], by simp⟩⟩
        · split at h
          · cases hp : parP r' with
            | none => rw [hp] at h; cases h
            | some x =>
              rw [hp] at h
              obtain ⟨h1, h2⟩ := parP_mem _ x hp
              simp only [Option.map_some, Option.some.injEq, Prod.mk.injEq] at h
              obtain ⟨rfl, rfl, rfl, rfl, rfl⟩ := h
              refine ⟨⟨t, by simp, rfl⟩, fun p hp' => ?_, by simp; omega, ?_⟩
              · obtain ⟨y, hy, rfl⟩ := h1 p hp'
                exact ⟨y, by simp [hy], rfl⟩
              · refine List.IsSuffix.trans (List.drop_suffix _ _) ⟨[t, b], by simp⟩
          · cases h
    · cases h
theorem gBulk_eq {A B : List Gt} (h : A.map (fun t => t.s.length) = B.map (fun t => t.s.length)) : gBulk A = gBulk B := by
  induction A generalizing B with
  | nil => cases B with
    | nil => rfl
    | cons => simp at h
  | cons a A ih => cases B with
    | nil => simp at h
    | cons b B =>
      simp at h
      simp only [gBulk]
      rw [h.1, ih h.2]
theorem gBulk_bare (l : List Gt) : gBulk (bareG l) = gBulk l := by
  refine gBulk_eq (List.ext_getElem (by simp [bareG]) fun i h1 h2 => ?_)
  simp [bareG, bare1]
theorem gBulk_suf {A B : List Gt} (h : A <:+ B) : gBulk A + B.length ≤ gBulk B + A.length := by
  obtain ⟨p, rfl⟩ := h
  have := gBulk_len p
  rw [gBulk_app, List.length_append]; omega
theorem gBulk_tok (E : List (Tk.T × Int)) : gBulk ((E.map Prod.fst).map Tk.T.g) = Tk.tsum E + E.length := by
  induction E with
  | nil => rfl
  | cons x r ih => simp only [List.map_cons, gBulk, Tk.tsum, Tk.T.g, ih, List.length_cons]; omega
theorem lex_bulk (n : Int) (s : List UInt8) : gBulk ((Tk.lex [(n, s)]).1.map Tk.T.g) ≤ s.length + (Tk.lex [(n, s)]).1.length := by
  by_cases h : (Tk.lex [(n, s)]).2.1 = 0
  · obtain ⟨h1, h2, _⟩ := Tk.col_fine _ _ h
    have h3 : (Tk.lex [(n, s)]).1 = (Tk.ev [(n, s)] false true).map Prod.fst := by
      have : (Tk.lex [(n, s)]).1 = [] ++ (Tk.ev [(n, s)] false true).map Prod.fst := h2
      simpa using this
    rw [h3, gBulk_tok]
    have := Tk.ev_sum (Tk.wt [(n, s)]) [(n, s)] false true
    simp [Tk.bsum] at this ⊢
    exact this
  · rw [Tk.lex_err h]; simp [gBulk]
theorem fit_lexed (n : Int) (s : List UInt8) (hs : s.length ≤ 140737488351232) {nm : List UInt8} {fn more : Bool} {ps : List (List UInt8)} {body : List Gt}
    (h : headP ((Tk.lex [(n, s)]).1.map Tk.T.g) = some (nm, fn, ps, more, body)) : McFits ⟨nm, fn, ps, more, bareG body⟩ ∧ body.length ≤ ((Tk.lex [(n, s)]).1.map Tk.T.g).length := by
  obtain ⟨⟨t, ht, rfl⟩, h2, h3, h4⟩ := headP_mem h
  have hlen := Tk.lex_len [(n, s)]
  have hT : ∀ g ∈ (Tk.lex [(n, s)]).1.map Tk.T.g, g.s.length ≤ s.length + 1 := fun g hg => by
    obtain ⟨x, hx, rfl⟩ := List.mem_map.1 hg
    have := Tk.lex_short hx
    simpa [Tk.wt, Tk.T.g] using this
  have hb := h4.length_le
  refine ⟨⟨?_, ?_, fun p hp => ?_, ?_, fun h5 => ?_⟩, hb⟩
  · have := hT t ht; simp; omega
  · simp at h3 ⊢; omega
  · obtain ⟨g, hg, rfl⟩ := h2 p hp
    have := hT g hg; omega
  · simp [bareG] at hb ⊢; omega
  · have h6 := spG_bulk (bareG body)
    rw [gBulk_bare] at h6
    have h7 := gBulk_suf h4
    have h8 := lex_bulk n s
    simp [bareG] at hb h5 h6 h7 ⊢
    omega
theorem tokC_gL (t : Tk.T) : tokC t = gL t.g := rfl
theorem tokCells_g (l : List Tk.T) : tokCells l = gCells (l.map Tk.T.g) := by
  induction l with
  | nil => rfl
  | cons t r ih => simp only [tokCells, gCells, List.flatMap_cons, List.map_cons] at ih ⊢; rw [ih]; rfl
theorem TkG.ofLex {W : World} {base : Nat} {v : Value} {l : List Tk.T} (h : W.ownsRow base 74 6 v l.length (tokCells l)) : TkG W.heap.size W v (l.map Tk.T.g) := (TkS.of h rfl).toG

/-- Parse of the tokens of a line. -/
theorem ParseLex_any (n : Int) (s : List UInt8) (v : Value) (base : Nat) (w : World) (hs : s.length ≤ 140737488351232) (hrow : w.ownsRow base 74 6 v (Tk.lex [(n, s)]).1.length (tokCells (Tk.lex [(n, s)]).1)) (hw0 : 1 < w.heap.size) (hsg : Sg w) :
    Calls Tryz.prog 6 #[v] w fun e w' => ParseP w (parseM ((Tk.lex [(n, s)]).1.map Tk.T.g)) e w' := by
  have hroom := ownsRow_room hrow
  have htk := TkG.ofLex hrow
  obtain ⟨p, cap, rfl⟩ := ownsRow_slice hrow
  have hlen := Tk.lex_len [(n, s)]
  have := Parse_any p cap ((Tk.lex [(n, s)]).1.map Tk.T.g) w (by simp; omega) (by simpa using hroom _ _ _ rfl) (by simpa using htk) (fun nm fn ps more body h => fit_lexed n s hs h) hw0 hsg
  simpa using this
end Go.Proofs.YticiddcgafhkhaaGreatDoor
namespace Go.Proofs.YticiddcgafhkhaaGreatDoor
open Go Go.RowKit
set_option linter.unusedVariables false
set_option linter.unusedSimpArgs false

def shF : List UInt8 := [70, 40, 97, 44, 98, 41, 32, 32, 97, 32, 35, 35, 32, 98]
def shX : List UInt8 := [88, 43, 49]
def shM : Mc := ⟨[70], true, [[97], [98]], false, [⟨1, [97], [], 0, false, false⟩, ⟨5, [35, 35], [], 0, true, false⟩, ⟨1, [98], [], 0, true, false⟩]⟩
theorem sh_parse : parseM ((Tk.lex [(1, shF)]).1.map Tk.T.g) = some shM := by kernel_rfl
theorem sh_none : parseM ((Tk.lex [(1, shX)]).1.map Tk.T.g) = none := by kernel_rfl
theorem sh_show : showM shM = [70, 40, 97, 44, 32, 98, 41, 32, 97, 32, 35, 35, 32, 98] := by kernel_rfl
theorem sh_right : rightM shM = true := by kernel_rfl
theorem sh_fits : McFits shM := ⟨by decide, by decide, by decide, by decide, fun _ => by show (spG shM.body).length ≤ _; rw [show (spG shM.body).length = 6 by kernel_rfl]; decide⟩
theorem lexParse (T : List UInt8) (hT : T.length ≤ 140737488351232) {w W : World} (hB : Below w.heap.size w W) (hw0 : 1 < w.heap.size) (hsg : Sg w) :
    Calls Tryz.prog 7 #[.string ⟨T.toArray⟩] W fun e w' => ∃ v', e = .returned v' ∧ w'.ownsRow W.heap.size 74 6 v' (Tk.lex [(1, T)]).1.length (tokCells (Tk.lex [(1, T)]).1) ∧ Below W.heap.size W w' :=
  lexedR_any ⟨T.toArray⟩ W (by show T.toArray.size ≤ _; simp; omega) (Nat.lt_of_lt_of_le hw0 hB.size) (Sg.below hsg hB hw0)
theorem zero_agg : Value.agg zeroM = .agg #[.string ⟨#[]⟩, .bool false, .slice none 0 0, .bool false, .slice none 0 0] := rfl

set_option maxRecDepth 100000 in
set_option maxHeartbeats 8000000 in
theorem shown_any (w : World) (hw0 : 1 < w.heap.size) (hsg : Sg w) : Calls Tryz.prog 4 #[] w fun e w' => e = .returned (.bool true) ∧ Below w.heap.size w w' := by
  have HSG := hide hsg
  have HL := hide (fun (T : List UInt8) (hT : T.length ≤ 140737488351232) (W : World) (hB : Below w.heap.size w W) => lexParse T hT hB hw0 hsg)
  clear hsg
  have HL1 := hide (unhide HL shF (by decide) w (Below.refl _ _))
  simp only [shF] at HL1
  go_enter Tryz.func4, Tryz.ntmps4
  go_wp2_with fail
  refine (unhide HL1).mono ?_
  rintro e W1 ⟨v1, rfl, hr1, hb1⟩
  have HP1 := hide (ParseLex_any 1 shF v1 w.heap.size W1 (by decide) hr1 (Nat.lt_of_lt_of_le hw0 hb1.size) (Sg.below (unhide HSG) hb1 hw0))
  rw [sh_parse] at HP1
  have HB1 := hide hb1
  obtain ⟨p1, c1, rfl⟩ := ownsRow_slice hr1
  clear HL1 hr1 hb1
  go_wp2_with fail
  refine (unhide HP1).mono ?_
  rintro e W2 ⟨hb2, (⟨hR, _⟩ | ⟨m, x, hR, rfl, hx, _⟩)⟩
  · cases hR
  obtain rfl : shM = m := by simpa using hR
  have HX := hide hx
  obtain ⟨pv, bv, rfl, s1, s2, _⟩ := hx
  obtain ⟨pp, pc, rfl, _⟩ := s1
  obtain ⟨bp, bc, rfl, _⟩ := s2
  have HB2 := hide ((unhide HB1).trans (hb2.mono (unhide HB1).size))
  clear HP1 HB1 hR hb2
  have hal := (Below.refl _ W2).alloc (Nat.le_refl _) (.cells #[.string ⟨#[70]⟩, .bool true, .slice pp 2 pc, .bool false, .slice bp 3 bc] 33)
  have HBa := hide ((unhide HB2).trans (hal.mono (unhide HB2).size))
  have hza := (unhide HBa).size
  have HSH := hide (Show_any _ shM (W2.alloc (.cells #[.string ⟨#[70]⟩, .bool true, .slice pp 2 pc, .bool false, .slice bp 3 bc] 33)) sh_fits (McV.below (unhide HX) hal) (Nat.lt_of_lt_of_le hw0 hza) (Sg.below (unhide HSG) (unhide HBa) hw0)
    (by show 1 + (Lib.join (listedS false [[97], [98]]) [44, 32]).length + (spG shM.body).length + 10 ≤ _; rw [show (Lib.join (listedS false [[97], [98]]) [44, 32]).length = 4 by kernel_rfl, show (spG shM.body).length = 6 by kernel_rfl]; decide) (by decide))
  rw [sh_right, sh_show, if_pos rfl] at HSH
  have hm : MBox (W2.alloc (.cells #[.string ⟨#[70]⟩, .bool true, .slice pp 2 pc, .bool false, .slice bp 3 bc] 33)) W2.heap.size (.string ⟨#[70]⟩) true (.slice pp 2 pc) false (.slice bp 3 bc) := World.alloc_heap_new W2 _
  have HM := hide hm
  have hzz : (W2.alloc (.cells #[.string ⟨#[70]⟩, .bool true, .slice pp 2 pc, .bool false, .slice bp 3 bc] 33)).heap.size = W2.heap.size + 1 := by simp
  simp only [shM, List.length_cons, List.length_nil, Nat.reduceAdd] at HX HSH ⊢
  generalize (Tk.lex [(1, shF)]).1.length = n1 at *
  clear hal hm hza
  go_wp2_with fail
  refine (unhide HSH).mono ?_
  rintro e W3 ⟨rfl, hb3⟩
  have hm3 := (unhide HM).below hb3 (by omega)
  have HM3 := hide hm3
  have HB3 := hide ((unhide HBa).trans (hb3.mono (unhide HBa).size))
  have HL2 := hide (unhide HL shX (by decide) W3 (unhide HB3))
  simp only [shX] at HL2
  clear HSH HM hm3 hb3 HX HBa HB2 hzz
  go_wp2_with fail
  refine (unhide HL2).mono ?_
  rintro e W4 ⟨v4, rfl, hr4, hb4⟩
  have hs4 := hb4.size
  have HB4 := hide ((unhide HB3).trans (hb4.mono (unhide HB3).size))
  have HP4 := hide (ParseLex_any 1 shX v4 W3.heap.size W4 (by decide) hr4 (Nat.lt_of_lt_of_le hw0 (unhide HB4).size) (Sg.below (unhide HSG) (unhide HB4) hw0))
  rw [sh_none] at HP4
  have HM4 := hide ((unhide HM3).below hb4 (unhide HM3).lt)
  obtain ⟨p4, c4, rfl⟩ := ownsRow_slice hr4
  generalize (Tk.lex [(1, shX)]).1.length = n4 at *
  clear HL2 hr4 hb4 HM3
  go_wp2_with fail
  refine (unhide HP4).mono ?_
  rintro e W5 ⟨hb5, (⟨_, rfl⟩ | ⟨m, x, hR, _⟩)⟩
  rotate_left
  · cases hR
  have hm5 := (unhide HM4).below hb5 (unhide HM4).lt
  have HB5 := hide ((unhide HB4).trans (hb5.mono (unhide HB4).size))
  have hl5 : W2.heap.size < W5.heap.size := hm5.lt
  obtain ⟨m0, m1, m2, m3, m4⟩ := hm5.five
  have HBF := hide ((unhide HB5).alloc (unhide HB5).size (.cells #[.string ⟨#[]⟩, .bool false, .slice none 0 0, .bool false, .slice none 0 0] 33))
  have hne : W2.heap.size ≠ W5.heap.size := by omega
  rw [zero_agg]
  clear HP4 HM4 hb5 hm5
  go_wp2
  go_ret
  exact ⟨rfl, unhide HBF⟩
end Go.Proofs.YticiddcgafhkhaaGreatDoor
