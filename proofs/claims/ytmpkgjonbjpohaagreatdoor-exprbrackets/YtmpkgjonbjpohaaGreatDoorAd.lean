/-
  Package expr: walk, and within: what is told, one by one.
-/
import Derived.Test.YtmpkgjonbjpohaaGreatDoorAc
namespace Go.Proofs.YtmpkgjonbjpohaaGreatDoor
open Go Go.RowKit
set_option linter.unusedVariables false
set_option linter.unusedSimpArgs false

/-- How an expression and its depth are handed over. -/
def encE (y : LE × Nat) : Array Value := #[.pointer (some ⟨y.1.g, y.1.o, none⟩), .int .i64 y.2]
/-- What is known of yield. -/
structure YdE (l N0 B0 : Nat) (full : List (LE × Nat)) (J Jx : List (LE × Nat) → World → Prop) : Prop where
  g : ∀ pre W, J pre W → ∀ x ∈ pre, x.2 ≤ 60
  y : ∀ pre x W1, J pre W1 → B0 ≤ W1.heap.size → N0 ≤ W1.heap.size → pre ++ [x] <+: full → ∀ n, YieldAt Fence.wide n Tryz.prog l (encE x) W1 (WkE (J (pre ++ [x])) (fun W => ∃ p, p <+: full ∧ Jx p W) N0 B0 W1)
theorem walk_any : ∀ (n : Nat) (t : LE) (d : Nat), SizeOf.sizeOf t < n → ∀ (l N0 B0 : Nat) (full pre : List (LE × Nat)) (J Jx : List (LE × Nat) → World → Prop) (w : World), YdE l N0 B0 full J Jx → t.Lies w → J pre w → B0 ≤ w.heap.size → N0 ≤ w.heap.size → d ≤ 61 → pre ++ t.all d <+: full →
    Calls Tryz.prog 49 #[.pointer (some ⟨t.g, t.o, none⟩), .int .i64 d, .func (.yield l) #[] #[]] w (WkE (J (pre ++ t.all d)) (fun W => ∃ p, p <+: full ∧ Jx p W) N0 B0 w)
  | 0, _, _, h, _, _, _, _, _, _, _, _, _, _, _, _, _, _, _ => absurd h (Nat.not_lt_zero _)
  | n + 1, t, d, hn, l, N0, B0, full, pre, J, Jx, w, hy, hl, hJ, hB, hN, hd, hp => by
    obtain ⟨hps, hpart⟩ := LE.LiesL.part _ _ _ hl.list
    have hlen := hl.len
    rw [LE.all_eq] at hp ⊢
    have hpre : ∀ k, pre ++ (t, d) :: LE.allL (t.ps.take k) (d + 1) <+: full := fun k => ((List.prefix_append_right_inj pre).2 ((List.cons_prefix_cons).2 ⟨rfl, LE.allL_pre _ _ _⟩)).trans hp
    have hy0 := hy.y pre (t, d) w hJ hB hN (by have := hpre 0; rw [List.take_zero, LE.allL] at this; exact this) 3
    have hg := walk_gen t.g t.o t.q t.c t.x.l.length d l N0 B0 (fun k W => J (pre ++ (t, d) :: LE.allL (t.ps.take k) (d + 1)) W) (fun W => ∃ p, p <+: full ∧ Jx p W) w hl.few (by rw [List.take_zero, LE.allL]; exact hy0) hd (fun W hW => (LE.Lies.keep hW.bk t hl).at'.cell rfl) (fun k W hk hj hW hko => by
      have hk' : k < t.ps.length := by omega
      obtain ⟨⟨o', e1, e2⟩, h3⟩ := hpart k hk'
      refine ⟨t.ps[k].g, o', e1, ?_⟩
      have hd2 := hy.g _ _ hj (t, d) (by simp)
      have hszB : w.heap.size ≤ W.heap.size := hko.size
      have hq := walk_any n t.ps[k] (d + 1) (by
        cases t with
        | mk x g o q c ps =>
          have := List.sizeOf_lt_of_mem (List.getElem_mem hk')
          simp at hn
          have h2 : SizeOf.sizeOf ps[k] < SizeOf.sizeOf ps := this
          show SizeOf.sizeOf ps[k] < n
          omega) l N0 B0 full (pre ++ (t, d) :: LE.allL (t.ps.take k) (d + 1)) J Jx W hy (LE.Lies.keep hW.bk _ h3) hj (Nat.le_trans hB hszB) (Nat.le_trans hN hszB) (by simp at hd2; omega) (by
          have := hpre (k + 1)
          rw [LE.allL_take _ _ _ hk'] at this
          rw [List.append_assoc, List.cons_append]
          exact this)
      rw [e2, Nat.zero_add] at hq
      rw [LE.allL_take _ _ _ hk']
      rw [List.append_assoc, List.cons_append] at hq
      exact hq)
    rw [← hlen, List.take_length] at hg
    exact hg
theorem within_any (a : Addr) (w : World) :
    Calls Tryz.prog 24 #[.pointer (some a)] w fun e w' => e = .returned (.func (.func 48) #[] #[.pointer (some ⟨w.heap.size, 0, none⟩)]) ∧ w' = w.alloc (.cells #[.pointer (some a)] 46) := by
  go_enter Tryz.func24, Tryz.ntmps24
  go_wp2
  go_ret
  exact ⟨rfl, rfl⟩
set_option maxRecDepth 100000 in
set_option maxHeartbeats 8000000 in
theorem within1_in (n : Nat) (lp Bd g o : Nat) (JJ XX : World → Prop) (W : World)
    (hw : Calls Tryz.prog 49 #[.pointer (some ⟨g, o, none⟩), .int .i64 1, .func (.yield lp) #[] #[]] W fun e W' => (∃ v, e = .returned v) ∧ (JJ W' ∨ XX W'))
    (hb : Bk W Bd 46 #[.pointer (some ⟨g, o, none⟩)]) :
    CallsIn Fence.wide n Tryz.prog 48 #[.func (.yield lp) #[] #[], .pointer (some ⟨Bd, 0, none⟩)] W fun e W' => (∃ v, e = .returned v) ∧ (JJ W' ∨ XX W') := by
  have c0 := hb.cell 0
  simp only [List.getElem?_toArray, List.getElem?_cons_zero] at c0
  have HW := veil hw
  clear hw hb
  refine callsIn_of_wp Tryz.func48 rfl trivial ?_ rfl
  simp only [Tryz.ntmps48, List.size_toArray, List.length_cons, List.length_nil, Nat.reduceAdd, Nat.reduceSub, Array.replicate_succ, Array.replicate_zero, List.push_toArray, List.append_toArray, List.nil_append, List.cons_append]
  gi_wp2
  refine ⟨trivial, (fun h => by cases h), (callsIn_wide.2 (unveil HW)).mono ?_⟩
  rintro e W6 ⟨⟨v, rfl⟩, h6⟩
  gi_wp2
  refine bodyPost_end (results_none (fn := Tryz.f48) rfl _ _ _) rfl ?_
  exact ⟨⟨_, rfl⟩, h6⟩
theorem yield_any {n m l : Nat} {P : Program} {args : Array Value} {W : World} {R R' : Ending → World → Prop} (h : YieldAt Fence.wide n P l args W R) (hr : ∀ e w', R e w' → R' e w') : YieldAt Fence.wide m P l args W R' := by
  obtain ⟨fn, tmps, assign, body, h1, h2⟩ := h
  exact ⟨fn, tmps, assign, body, h1, (RoundIn.mono ⟨h2.1, fun c cs _ => h2.2 c cs (room_wide _)⟩ hr)⟩
/-- No part that is told is more than 60 deep. -/
def G60 (pre : List (LE × Nat)) : Prop := ∀ x ∈ pre, x.2 ≤ 60
theorem within_stops (n Bd N0 : Nat) (t : LE) (w : World) (hN : N0 ≤ w.heap.size) (hb : Bk w Bd 46 #[.pointer (some ⟨t.g, t.o, none⟩)]) (hl : t.Lies w) :
    SeqStopsG G60 Fence.wide n 0 Tryz.prog 48 #[.pointer (some ⟨Bd, 0, none⟩)] encE (KE N0) (t.all 1) w := by
  intro lp J Jx W hW hJ hJx hG hY h0
  have hlW : t.Lies W := LE.Lies.keep (fun g cs fz e => (hW.block g (Array.getElem?_eq_some_iff.1 e).1).trans e) t hl
  have hy : YdE lp N0 W.heap.size (t.all 1) J Jx := ⟨hG, fun pre x W1 h1 h2 h3 h4 m => yield_any (hY pre x W1 h1 (by simpa using h2) (fun j c fz q1 q2 => by omega) h4) (fun e w' h => by
    rcases h with ⟨q1, q2, q3, q4⟩ | ⟨q1, q2, q3⟩
    · exact .inl ⟨q1, q2, q3, q4⟩
    · exact .inr ⟨q1, ⟨_, h4, q2⟩, q3⟩)⟩
  have hwk := walk_any (SizeOf.sizeOf t + 1) t 1 (by omega) lp N0 W.heap.size (t.all 1) [] J Jx W hy hlW h0 (Nat.le_refl _) (Nat.le_trans hN hW.size) (by omega) (by rw [List.nil_append]; exact List.prefix_refl _)
  rw [List.nil_append] at hwk
  refine within1_in n lp Bd t.g t.o (J (t.all 1)) (fun W' => ∃ p, p <+: t.all 1 ∧ Jx p W') W (hwk.mono fun e W' h => ?_) (hb.below hW)
  rcases h with ⟨q1, q2, _⟩ | ⟨q1, q2, _⟩
  · exact ⟨⟨_, q1⟩, .inl q2⟩
  · exact ⟨⟨_, q1⟩, .inr q2⟩
mutual
/-- Is something more than 60 deep? -/
def dpP : PE → Nat → Bool
  | .mk _ _ _ _ _ l _, d => decide (60 < d) || dpL l (d + 1)
def dpL : List PE → Nat → Bool
  | [], _ => false
  | x :: l, d => dpP x d || dpL l d
end
mutual
theorem all_dp {W : World} : ∀ (t : LE) (d : Nat), t.Lies W → (t.all d).any (fun y => decide (60 < y.2)) = dpP t.x d
  | .mk (.mk x0 x1 x2 x3 x4 l x6) g o q c ps, d, h => by
    unfold LE.Lies at h
    have := allL_dp ps q l 0 (d + 1) h.2.2
    rw [LE.all, List.any_cons, this]
    show _ = dpP (.mk x0 x1 x2 x3 x4 l x6) d
    rw [dpP]
theorem allL_dp {W : World} : ∀ (ts : List LE) (q : Option Addr) (l : List PE) (i d : Nat), LE.LiesL W q l i ts → (LE.allL ts d).any (fun y => decide (60 < y.2)) = dpL l d
  | [], q, l, i, d, h => by
    unfold LE.LiesL at h
    subst h
    rw [LE.allL, dpL]
    rfl
  | t :: ts, q, l, i, d, h => by
    unfold LE.LiesL at h
    obtain ⟨⟨l', rfl, h2⟩, h3, h4⟩ := h
    rw [LE.allL, List.any_append, all_dp t d h4, allL_dp ts q l' (i + 1) d h2, dpL]
end
end Go.Proofs.YtmpkgjonbjpohaaGreatDoor
