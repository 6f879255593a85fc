/-
  Package image: bitsOf, an iterator over the bits of a spot.
-/
import Derived.Test.YtgomlfaekfabpaaZzd
namespace Go.Proofs.Ytgomlfaekfabpaa
open Go Go.RowKit Go.Shelf
attribute [local go_sem] Oper.semAt_some
set_option linter.unusedVariables false
set_option linter.unusedSimpArgs false

/-- The mask of a bit in its byte. -/
def mskM (b : Nat) : Int := 2 ^ (b % 8)
def encB (b : Nat) : Array Value := #[.int .i64 ((b / 8 : Nat) : Int), .int .u8 (mskM b)]
/-- The bits of a spot, the lowest first. -/
def bitL (bit bits : Nat) : List Nat := (List.range bits).map (fun i => bit + i)
def spB (bit bits : Nat) (k : Int) : Array Value := #[.int .i64 (bit : Int), .int .i64 (bits : Int), .int .i64 k]
def KpB (Bd : Nat) (A B : World) : Prop := ∀ cs, Bk A Bd 42 cs → Bk B Bd 42 cs
theorem KpB.trans {Bd : Nat} {A B C : World} (h : KpB Bd A B) (k : KpB Bd B C) : KpB Bd A C := fun cs b => k cs (h cs b)
theorem msk_cases (b : Nat) : mskM b = 1 ∨ mskM b = 2 ∨ mskM b = 4 ∨ mskM b = 8 ∨ mskM b = 16 ∨ mskM b = 32 ∨ mskM b = 64 ∨ mskM b = 128 := by
  unfold mskM
  have h : b % 8 = 0 ∨ b % 8 = 1 ∨ b % 8 = 2 ∨ b % 8 = 3 ∨ b % 8 = 4 ∨ b % 8 = 5 ∨ b % 8 = 6 ∨ b % 8 = 7 := by omega
  rcases h with h | h | h | h | h | h | h | h <;> rw [h] <;> decide
theorem encB_eq (bit j : Nat) : encB (bit + j) = #[.int .i64 (((bit : Int) + (j : Int)) / 8), .int .u8 (2 ^ ((bit + j) % 8) % 256)] := by
  have h1 : (((bit + j) / 8 : Nat) : Int) = ((bit : Int) + (j : Int)) / 8 := by push_cast; rfl
  have h2 : (2 ^ ((bit + j) % 8) % 256 : Int) = mskM (bit + j) := by
    have := msk_cases (bit + j)
    unfold mskM at *
    omega
  unfold encB
  rw [h1, h2]
theorem bitsOf_any (v : Array Value) (a b c : Value) (hv : v = #[a, b, c]) (w : World) :
    Calls Try.prog 77 #[.agg v] w fun e w' => e = .returned (.func (.func 90) #[] #[.pointer (some ⟨w.heap.size, 0, none⟩)]) ∧ w' = w.alloc (.cells v 42) := by
  subst hv
  go_enter Try.func77, Try.ntmps77
  go_wp2
  go_ret
  exact ⟨rfl, rfl⟩
set_option maxRecDepth 100000 in
set_option maxHeartbeats 20000000 in
theorem bits1_in (n : Nat) (h1 : 1 ≤ n) (lp Bd bit bits : Nat) (k : Int) (hb : bit ≤ 1000000) (hb2 : bits ≤ 1000000)
    (J Jx : List Nat → World → Prop) (W : World)
    (hJ : AbidesO W.heap.size W.heap.size 0 J) (hJx : AbidesO W.heap.size W.heap.size 0 Jx)
    (hY : ∀ pre x W1, J pre W1 → W.heap.size + 0 ≤ W1.heap.size → noRow 5 W.heap.size 0 W1 → pre ++ [x] <+: bitL bit bits → YieldAt Fence.wide (n - 1) Try.prog lp (encB x) W1 fun e W' =>
      (e = .returned (.bool true) ∧ J (pre ++ [x]) W' ∧ KeepsO W.heap.size 0 W1 W' ∧ KpB Bd W1 W') ∨ (e = .returned (.bool false) ∧ Jx (pre ++ [x]) W' ∧ KeepsO W.heap.size 0 W1 W'))
    (hbk : Bk W Bd 42 (spB bit bits k)) (h0 : J [] W) :
    CallsIn Fence.wide n Try.prog 90 #[.func (.yield lp) #[] #[], .pointer (some ⟨Bd, 0, none⟩)] W fun e W' => (∃ v, e = .returned v) ∧
      (J (bitL bit bits) W' ∨ (∃ pre, pre <+: bitL bit bits ∧ Jx pre W')) := by
  have HY := veil hY
  have HB := veil hbk
  have c0 := hbk.cell 0
  have c1 := hbk.cell 1
  unfold spB at c0 c1
  simp only [List.getElem?_toArray, List.getElem?_cons_zero, List.getElem?_cons_succ] at c0 c1
  clear hY hbk hJ hJx
  refine callsIn_of_wp Try.func90 rfl trivial ?_ rfl
  simp only [Try.ntmps90, List.size_toArray, List.length_cons, List.length_nil, Nat.reduceAdd, Nat.reduceSub, Array.replicate_succ, Array.replicate_zero, List.push_toArray, List.append_toArray, List.nil_append, List.cons_append]
  gi_wp2
  clear c0 c1
  gi_loopw [3] (fun i wr => ∃ (j : Nat), i = .int .i64 ((bit + j : Nat) : Int) ∧ j ≤ bits ∧ Hid (J (bitL bit j) wr) ∧ W.heap.size ≤ wr.heap.size ∧ Hid (Bk wr Bd 42 (spB bit bits k)))
    (fun i wr => bit + bits - (intOf i).toNat)
  case atStart => exact ⟨0, rfl, Nat.zero_le _, h0, Nat.le_refl _, HB⟩
  case round =>
    obtain ⟨j, rfl, hj, hJp, hsz, hbx⟩ := hrel
    have c0 := (unveil hbx).cell 0
    have c1 := (unveil hbx).cell 1
    unfold spB at c0 c1
    simp only [List.getElem?_toArray, List.getElem?_cons_zero, List.getElem?_cons_succ] at c0 c1
    by_cases hlt : j < bits
    · have hci : ((bit + j : Nat) : Int) < (bit : Int) + bits := by push_cast; omega
      have hpre : bitL bit j ++ [bit + j] <+: bitL bit bits := by
        unfold bitL
        have hr : List.range bits = List.range (j + 1) ++ (List.range (bits - (j + 1))).map (fun x => j + 1 + x) := by
          rw [← List.range_add]
          congr 1
          omega
        rw [hr, List.map_append, List.range_succ, List.map_append]
        simp
      obtain ⟨fn, tmps, assign, body, hyy, hRR⟩ := unveil HY _ _ wr (unveil hJp) hsz (fun j c fz q1 q2 => by omega) hpre
      have HR := veil hRR
      have HPRE := veil hpre
      rw [encB_eq] at hyy
      clear hRR hpre
      gi_wp2
      refine (unveil HR).mono ?_
      rintro e W5 (⟨rfl, hJ5, hk5, hb5⟩ | ⟨rfl, hJx5, hk5⟩)
      · have HB5 := veil (hb5 _ (unveil hbx))
        have HJ5 := veil hJ5
        have hs5 := hk5.size
        clear hb5 hJ5 hk5 HR hyy c0 c1
        gi_wp2
        go_roundw
        case rel =>
          refine ⟨j + 1, ?_, by omega, ?_, by omega, HB5⟩
          · go_num
          · have e : bitL bit (j + 1) = bitL bit j ++ [bit + j] := by unfold bitL; rw [List.range_succ, List.map_append]; rfl
            rw [e]
            exact HJ5
        case measure => simp [intOf]; omega
      · gi_wp2
        refine bodyPost_ret (results_none rfl _ _ _) rfl ?_
        exact ⟨⟨_, rfl⟩, .inr ⟨_, unveil HPRE, hJx5⟩⟩
    · have hci : ¬ ((bit + j : Nat) : Int) < (bit : Int) + bits := by push_cast; omega
      obtain rfl : j = bits := by omega
      gi_wp2
      refine bodyPost_end (results_none (fn := Try.f90) rfl _ _ _) rfl ?_
      exact ⟨⟨_, rfl⟩, .inl (unveil hJp)⟩
theorem bits_stops (n : Nat) (h1 : 1 ≤ n) (Bd bit bits : Nat) (k : Int) (hb : bit ≤ 1000000) (hb2 : bits ≤ 1000000) (w : World) (hbk : Bk w Bd 42 (spB bit bits k)) :
    SeqStopsO Fence.wide n 0 Try.prog 90 #[.pointer (some ⟨Bd, 0, none⟩)] encB (KpB Bd) (bitL bit bits) w :=
  fun lp J Jx W hW hJ hJx hY h0 => bits1_in n h1 lp Bd bit bits k hb hb2 J Jx W hJ hJx hY (hbk.below hW) h0
end Go.Proofs.Ytgomlfaekfabpaa
