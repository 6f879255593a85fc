/-
  burinlaw05.CondEvals and CondLines: the walks.
-/
import Derived.Test.YtfghfohlcofdpaaGreatDoorJl
import Derived.Test.YtfghfohlcofdpaaGreatDoorDb
namespace Go.Proofs.YtfghfohlcofdpaaGreatDoor
open Go Go.RowKit
set_option linter.unusedVariables false
set_option linter.unusedSimpArgs false

theorem evalV_is (Z : Vl × Bool) : ∃ (a : Int) (u : Bool) (e : Int), evalV Z = .tuple #[.int .u64 a, .bool u, .int .i64 e] := by
  unfold evalV
  split
  · exact ⟨_, _, _, rfl⟩
  · exact ⟨_, _, _, rfl⟩
theorem TkG.takeZ {B : Nat} {W : World} {p : Option Addr} {cap : Nat} {l : List Gt} (h : TkG B W (.slice p l.length cap) l) (n : Nat) (hn : n ≤ l.length) : TkG B W (.slice p (l.take n).length cap) (l.take n) := by
  obtain ⟨p', cap', he, hc⟩ := h
  obtain ⟨rfl, rfl⟩ : p = p' ∧ cap = cap' := by simpa using he
  refine ⟨p, cap, rfl, fun i hi => ?_⟩
  have hi' : i < n := by simp at hi; omega
  obtain ⟨g, o, hg, hr⟩ := hc i (by omega)
  refine ⟨g, o, hg, ?_⟩
  rw [List.getElem_take]
  exact hr
theorem TkG.up {B B' : Nat} {W : World} {v : Value} {l : List Gt} (h : TkG B W v l) (hB : B ≤ B') : TkG B' W v l := by
  obtain ⟨p, cap, he, hc⟩ := h
  refine ⟨p, cap, he, fun i hi => ?_⟩
  obtain ⟨g, o, h1, h2, h3⟩ := hc i hi
  exact ⟨g, o, h1, by omega, h3⟩
set_option maxRecDepth 100000 in
set_option maxHeartbeats 4000000 in
theorem evals_walk (p : Option Addr) (cap : Nat) (l : List Gt) (w : World) (hcap : l.length ≤ cap) (hcm : cap ≤ maxLen) (hls : ∀ t ∈ l, t.s.length ≤ 140737488355328) (hv : TkG w.heap.size w (.slice p l.length cap) l) (hg : Gl w) :
    Calls Tryz.prog 3 #[.slice p l.length cap] w fun e w' => e = .returned (.bool true) ∧ Below w.heap.size w w' := by
  have HSH := hide (shown_any w hg)
  have hcm' : cap ≤ 9223372036854775807 := hcm
  have HM : Hid (∃ n : Nat, min (l.length : Int) 5000 = (n : Int) ∧ (n : Int) ≤ (cap : Int) ∧ n ≤ l.length ∧ n ≤ 5000) := by
    by_cases h : l.length ≤ 5000
    · exact ⟨l.length, by omega, by omega, Nat.le_refl _, h⟩
    · exact ⟨5000, by omega, by omega, by omega, by omega⟩
  obtain ⟨n, hmin, hnc, hnl, hn5⟩ := unhide HM
  have hT := TkG.takeZ hv n hnl
  have htl : (l.take n).length = n := by simp; omega
  have hLs : ∀ t ∈ l.take n, t.s.length ≤ 140737488355328 := fun t ht => hls t (List.mem_of_mem_take ht)
  have HEV := hide (fun W (hb : Below w.heap.size w W) => EvalT_any p cap (l.take n) W (by omega) hLs ((hT.below hb).up hb.size) (hg.next hb))
  have HRV := hide (fun W (hb : Below w.heap.size w W) => REval_any p cap (l.take n) W (by omega) hLs ((hT.below hb).up hb.size))
  obtain ⟨a, u, er, hz⟩ := evalV_is (evM (l.take n))
  rw [hz, htl] at HEV HRV
  clear HM hT htl hg hv hls hLs hz hn5
  have hn0 : (0 : Int) ≤ (n : Int) := by omega
  go_enter Tryz.func3, Tryz.ntmps3
  go_wp2_with fail
  refine (unhide HSH).mono ?_
  rintro e W1 ⟨rfl, hb1⟩
  have HB1 := hide hb1
  clear hb1 HSH
  go_wp2_with fail
  refine (unhide HEV _ (unhide HB1)).mono ?_
  rintro e W2 ⟨rfl, hb2⟩
  have HB2 : Hid (Below w.heap.size w W2) := (unhide HB1).trans (hb2.mono (unhide HB1).size)
  clear hb2 HEV HB1
  go_wp2_with fail
  refine (unhide HRV _ (unhide HB2)).mono ?_
  rintro e W3 ⟨rfl, hb3⟩
  have HB3 : Hid (Below w.heap.size w W3) := (unhide HB2).trans (hb3.mono (unhide HB2).size)
  clear hb3 HRV HB2
  go_wp2
  go_ret
  exact ⟨by simp, unhide HB3⟩
theorem slice_to (s : List UInt8) (m : Nat) (W : World) : (Instr.slice 9 (.string ⟨s.toArray⟩) none (some (.int .i64 (min (s.length : Int) (m : Int)))) none).run Tryz.prog W = .ok (.string ⟨(s.take m).toArray⟩) W := by
  have hsz : (⟨s.toArray⟩ : ByteArray).size = s.length := by show s.toArray.size = _; simp
  rw [run_slice_string_to_if (P := Tryz.prog) (w := W) 9 _ .i64 _ Tryz.underlying9, if_pos (by rw [hsz]; omega), ext_list]
  have : (min (s.length : Int) (m : Int)).toNat = min s.length m := by omega
  rw [this, List.drop_zero]
  congr 4
  rcases Nat.le_total s.length m with h | h
  · rw [Nat.min_eq_left h, List.take_length, List.take_of_length_le h]
  · rw [Nat.min_eq_right h]
set_option maxRecDepth 100000 in
set_option maxHeartbeats 4000000 in
theorem lines_walk (s : List UInt8) (hs : s.length ≤ 140737488355328) (w : World) (hg : Gl w) :
    Calls Tryz.prog 4 #[.string ⟨s.toArray⟩] w fun e w' => e = .returned (.bool true) ∧ Below w.heap.size w w' := by
  have HG := hide hg
  have HSH := hide (shown_any w hg)
  have hsz : (⟨s.toArray⟩ : ByteArray).size = s.length := by show s.toArray.size = _; simp
  have hsl : ∀ W : World, (Instr.slice 9 (.string ⟨s.toArray⟩) none (some (.int .i64 (min (s.length : Int) 5000))) none).run Tryz.prog W = .ok (.string ⟨(s.take 5000).toArray⟩) W := fun W => slice_to s 5000 W
  have HLX := hide (fun W (hb : Below w.heap.size w W) => Lex_one ⟨(s.take 5000).toArray⟩ W (by show (s.take 5000).toArray.size ≤ _; simp; omega) (hg.next hb).size (hg.next hb).sg)
  have HLN : Hid ((lex1 ⟨(s.take 5000).toArray⟩).1.map Tk.T.g = lx (s.take 5000)) := rfl
  have HLS := hide (fun t (ht : t ∈ lx (s.take 5000)) => Nat.le_trans (lx_short (s.take 5000) t ht) (show (s.take 5000).length ≤ 140737488355328 by simp; omega))
  have HLL := hide (lx_len (s.take 5000))
  generalize lx (s.take 5000) = L at *
  generalize lex1 ⟨(s.take 5000).toArray⟩ = R at *
  generalize (⟨(s.take 5000).toArray⟩ : ByteArray) = S1 at *
  obtain ⟨ts, er, ln⟩ := R
  simp only at HLX HLN
  clear hg
  go_enter Tryz.func4, Tryz.ntmps4
  go_wp2_with fail
  refine (unhide HSH).mono ?_
  rintro e W1 ⟨rfl, hb1⟩
  have HB1 := hide hb1
  clear hb1 HSH
  go_wp2_with fail
  refine (unhide HLX _ (unhide HB1)).mono ?_
  rintro e W2 ⟨v', rfl, hT, hb2⟩
  have hb2' : Below W1.heap.size W1 W2 := (below_new W1 _).trans (hb2.mono (by omega))
  have HB2 : Hid (Below w.heap.size w W2) := (unhide HB1).trans (hb2'.mono (unhide HB1).size)
  have hTG := hT.toG
  rw [unhide HLN] at hTG
  obtain ⟨p, cap, rfl, hcs⟩ := id hTG
  have HEV := hide (fun W (hb : Below W2.heap.size W2 W) => EvalT_any p cap L W (unhide HLL) (unhide HLS) ((hTG.below hb).up hb.size) (((unhide HG).next (unhide HB2)).next hb))
  have HRV := hide (fun W (hb : Below W2.heap.size W2 W) => REval_any p cap L W (unhide HLL) (unhide HLS) ((hTG.below hb).up hb.size))
  obtain ⟨a, u, er2, hz⟩ := evalV_is (evM L)
  rw [hz] at HEV HRV
  clear hT hb2 hb2' hTG hcs hz HB1 HLX HLN HLS HG
  cases he : er == 0
  · go_wp2
    go_ret
    exact ⟨rfl, unhide HB2⟩
  · go_wp2_with fail
    refine (unhide HEV _ (Below.refl _ _)).mono ?_
    rintro e W3 ⟨rfl, hb3⟩
    have HB3 : Hid (Below W2.heap.size W2 W3) := hb3
    clear hb3 HEV
    go_wp2_with fail
    refine (unhide HRV _ (unhide HB3)).mono ?_
    rintro e W4 ⟨rfl, hb4⟩
    have HB4 : Hid (Below w.heap.size w W4) := ((unhide HB2).trans ((unhide HB3).mono (unhide HB2).size)).trans (hb4.mono (Nat.le_trans (unhide HB2).size (unhide HB3).size))
    clear hb4 HRV
    go_wp2
    go_ret
    exact ⟨by simp, unhide HB4⟩
end Go.Proofs.YtfghfohlcofdpaaGreatDoor
