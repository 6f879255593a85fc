/-
  Package cond: pop.
-/
import Derived.Test.YtfghfohlcofdpaaDoorA6
namespace Go.Proofs.YtfghfohlcofdpaaDoor
open Go Go.RowKit
set_option linter.unusedVariables false
set_option linter.unusedSimpArgs false
theorem row_ne {W : World} {base n size M i : Nat} {e : TypeId} {v u : Value} {xs : List Value} (h : W.ownsRow base e size v n xs) (hne : ∀ g o n c, v = .slice (some ⟨g, o, none⟩) n c → g ≠ M) : (W.setCell ⟨M, i, none⟩ u).ownsRow base e size v n xs := by
  refine ⟨h.1, ?_⟩
  rcases h.2 with h | ⟨g, cap, cur, e1, e2, e3, r⟩
  · exact .inl h
  · exact .inr ⟨g, cap, cur, e1, e2, (Below.heap_setCell W ⟨M, i, none⟩ u g (hne g 0 _ _ e1)).trans e3, r⟩
def put6 (W : World) (M : Nat) (a b c d e f : Value) : World :=
  (((((W.setCell ⟨M, 0, none⟩ a).setCell ⟨M, 1, none⟩ b).setCell ⟨M, 2, none⟩ c).setCell ⟨M, 3, none⟩ d).setCell ⟨M, 4, none⟩ e).setCell ⟨M, 5, none⟩ f
theorem put6_block {W : World} {M : Nat} {a b c d e f : Value} (h : W.heap[M]? = some (.cells #[a, b, c, d, e, f] 97 (0, 0))) (a' b' c' d' e' f' : Value) : (put6 W M a' b' c' d' e' f').heap[M]? = some (.cells #[a', b', c', d', e', f'] 97 (0, 0)) :=
  set_block (set_block (set_block (set_block (set_block (set_block h 0 a') 1 b') 2 c') 3 d') 4 e') 5 f'
theorem put6_fk {R M : Nat} {W W' : World} {a b c d e f : Value} (hf : Fk R W W') (hM : R ≤ M) (h : W'.heap[M]? = some (.cells #[a, b, c, d, e, f] 97 (0, 0))) (a' b' c' d' e' f' : Value) : Fk R W (put6 W' M a' b' c' d' e' f') :=
  (((((hf.setCell hM h (.inr rfl) a').setCell hM (set_block h 0 a') (.inr rfl) b').setCell hM (set_block (set_block h 0 a') 1 b') (.inr rfl) c').setCell hM (set_block (set_block (set_block h 0 a') 1 b') 2 c') (.inr rfl) d').setCell hM (set_block (set_block (set_block (set_block h 0 a') 1 b') 2 c') 3 d') (.inr rfl) e').setCell hM (set_block (set_block (set_block (set_block (set_block h 0 a') 1 b') 2 c') 3 d') 4 e') (.inr rfl) f'
theorem put6_fz {R M : Nat} {W W' : World} (hf : Fz R W W') (hM : W.heap.size ≤ M) (hR : R ≤ W.heap.size) (a b c d e f : Value) : Fz R W (put6 W' M a b c d e f) :=
  (((((hf.setCell (.inr hM) hR a).setCell (.inr hM) hR b).setCell (.inr hM) hR c).setCell (.inr hM) hR d).setCell (.inr hM) hR e).setCell (.inr hM) hR f
theorem put6_rk {R M : Nat} {W : World} {v : Value} {st : List Wt} {und : Bool} (h : Rk W R v st und) (hM : R ≠ M) (hne : ∀ g o n c, v = .slice (some ⟨g, o, none⟩) n c → g ≠ M) (a b c d e f : Value) : Rk (put6 W M a b c d e f) R v st und := by
  have key : ∀ (W : World) (i : Nat) (u : Value), Rk W R v st und → Rk (W.setCell ⟨M, i, none⟩ u) R v st und := fun W i u h => ⟨(Below.heap_setCell W ⟨M, i, none⟩ u R hM).trans h.box, row_ne h.row hne⟩
  exact key _ _ _ (key _ _ _ (key _ _ _ (key _ _ _ (key _ _ _ (key _ _ _ h)))))
theorem sixes {W : World} {M : Nat} {a b c d e f : Value} (h : W.heap[M]? = some (.cells #[a, b, c, d, e, f] 97 (0, 0))) : (W.cell? ⟨M, 0, none⟩ = some a ∧ W.cell? ⟨M, 1, none⟩ = some b ∧ W.cell? ⟨M, 2, none⟩ = some c ∧ W.cell? ⟨M, 3, none⟩ = some d ∧ W.cell? ⟨M, 4, none⟩ = some e ∧ W.cell? ⟨M, 5, none⟩ = some f) ∧ ∀ i, W.frozen? ⟨M, i, none⟩ = false := by
  refine ⟨⟨?_, ?_, ?_, ?_, ?_, ?_⟩, fun i => by simp [World.frozen?, h]⟩ <;> (rw [World.cell?, h]; rfl)
theorem Rk.set0 {W : World} {R : Nat} {v v' : Value} {st : List Wt} {und : Bool} {k : Int} (h : W.heap[R]? = some (.cells #[v, .int .i64 k, .bool und] 78 (0, 0))) : (W.setCell ⟨R, 0, none⟩ v').heap[R]? = some (.cells #[v', .int .i64 k, .bool und] 78 (0, 0)) := set_block h 0 v'
set_option maxRecDepth 100000 in
set_option maxHeartbeats 4000000 in
theorem pop_any (R : Nat) (v : Value) (x : Wt) (st : List Wt) (und : Bool) (w : World) (h : Rk w R v (x :: st) und) :
    Calls Tryd.prog 52 #[.pointer (some ⟨R, 0, none⟩)] w fun e w' => e = .returned x.v ∧ (∃ v', Rk w' R v' st und ∧ ∀ g o n c, v' = .slice (some ⟨g, o, none⟩) n c → ∃ n' c', v = .slice (some ⟨g, o, none⟩) n' c') ∧ Fz R w w' := by
  have hlR := h.lt
  have hgl : ∀ g cap, v = .slice (some ⟨g, 0, none⟩) (st.length + 1) cap → g < w.heap.size := fun g' cap' e => by
    obtain ⟨g, cap, hv, _, _, _, t0, _⟩ := h.top
    rw [hv] at e
    cases e
    exact World.block_lt_of_cell? _ _ t0
  have hb0 := below_new w (.cells #[.string ⟨#[]⟩, .int .i64 0, .int .u64 0, .bool false, .bool false, .bool false] 97)
  have hn0 := World.alloc_heap_new w (.cells #[.string ⟨#[]⟩, .int .i64 0, .int .u64 0, .bool false, .bool false, .bool false] 97)
  have hk0 := h.next hb0
  have HL := hide (last_any R v x st und _ hk0)
  have HB0 := hide hb0
  have HN0 := hide hn0
  have HK0 := hide hk0
  have HSK := hide (skN_cons x st)
  have hz0 : (w.alloc (.cells #[.string ⟨#[]⟩, .int .i64 0, .int .u64 0, .bool false, .bool false, .bool false] 97)).heap.size = w.heap.size + 1 := by simp
  obtain ⟨s, lev, ⟨ab, au⟩, taken, skips⟩ := x
  simp only [Wt.v] at HL ⊢
  clear hb0 hn0 hk0 h
  go_enter Tryd.func52, Tryd.ntmps52
  go_wp2_with fail
  refine (unhide HL).mono ?_
  rintro e W1 ⟨rfl, hb1⟩
  have hal := below_new W1 (.cells #[.string ⟨s.toArray⟩, .int .i64 lev, .int .u64 ab, .bool au, .bool taken, .bool skips] 97)
  have hk2 := ((unhide HK0).next hb1).next hal
  have hs1 := hb1.size
  rw [hz0] at hs1
  have hr2 := (hal.block w.heap.size (by omega)).trans ((hb1.block w.heap.size (by omega)).trans (unhide HN0))
  have hx2 := World.alloc_heap_new W1 (.cells #[.string ⟨s.toArray⟩, .int .i64 lev, .int .u64 ab, .bool au, .bool taken, .bool skips] 97)
  obtain ⟨g, cap, hv, hg, hc, hm, t0, t1, t2, t3, t4, t5⟩ := hk2.top
  have HGL := hgl g cap hv
  subst hv
  clear hgl
  obtain ⟨c0, c1, c2⟩ := hk2.three
  have f0 := hk2.frozen 0
  have f1 := hk2.frozen 1
  have HK2 := hide hk2
  have HR2 := hide hr2
  have HX2 := hide hx2
  have HF2 := hide ((Fz.of (R := R) (unhide HB0) (by omega)).trans ((Fz.of (R := R) hb1 (by omega)).trans (Fz.of (R := R) hal (by omega))))
  have hz2 : (W1.alloc (.cells #[.string ⟨s.toArray⟩, .int .i64 lev, .int .u64 ab, .bool au, .bool taken, .bool skips] 97)).heap.size = W1.heap.size + 1 := by simp
  have hm' : cap ≤ 9223372036854775807 := hm
  obtain ⟨n, hn⟩ : ∃ n, st.length = n := ⟨_, rfl⟩
  rw [hn] at hc c0
  have HNN := hide hn
  have hnc : (n : Int) ≤ (cap : Int) := by omega
  have hn63 : n ≤ 9223372036854775806 := by omega
  clear hal hb1 hk2 hr2 hx2 HL HB0 HN0 HK0 t0 t1 t2 t3 t4 t5 hn
  go_upto_region 2 with fail
  go_region
  all_goals (
    have HB3 : Hid ((World.setCell (W1.alloc (.cells #[.string ⟨s.toArray⟩, .int .i64 lev, .int .u64 ab, .bool au, .bool taken, .bool skips] 97)) ⟨R, 0, none⟩ (.slice (some ⟨g, 0, none⟩) n cap)).drew.heap[R]? = some (.cells #[.slice (some ⟨g, 0, none⟩) n cap, .int .i64 (skN (⟨s, lev, ⟨ab, au⟩, taken, skips⟩ :: st)), .bool und] 78 (0, 0))) := set_block (unhide HK2).box 0 _
    have HW3 : Hid ((World.setCell (W1.alloc (.cells #[.string ⟨s.toArray⟩, .int .i64 lev, .int .u64 ab, .bool au, .bool taken, .bool skips] 97)) ⟨R, 0, none⟩ (.slice (some ⟨g, 0, none⟩) n cap)).drew.ownsRow (R + 1) 97 6 (.slice (some ⟨g, 0, none⟩) n cap) n (wCells st.reverse)) := by
      have hr := (unhide HK2).row
      rw [List.length_cons, unhide HNN] at hr
      exact ownsRow_setCell (row_pop hr (unhide HNN).symm) (Nat.lt_succ_self _) _
    have HR3 : Hid ((World.setCell (W1.alloc (.cells #[.string ⟨s.toArray⟩, .int .i64 lev, .int .u64 ab, .bool au, .bool taken, .bool skips] 97)) ⟨R, 0, none⟩ (.slice (some ⟨g, 0, none⟩) n cap)).drew.heap[w.heap.size]? = some (.cells #[.string ⟨#[]⟩, .int .i64 0, .int .u64 0, .bool false, .bool false, .bool false] 97 (0, 0))) := (Below.heap_setCell _ _ _ _ (by show w.heap.size ≠ R; omega)).trans (unhide HR2)
    have HX3 : Hid ((World.setCell (W1.alloc (.cells #[.string ⟨s.toArray⟩, .int .i64 lev, .int .u64 ab, .bool au, .bool taken, .bool skips] 97)) ⟨R, 0, none⟩ (.slice (some ⟨g, 0, none⟩) n cap)).drew.heap[W1.heap.size]? = some (.cells #[.string ⟨s.toArray⟩, .int .i64 lev, .int .u64 ab, .bool au, .bool taken, .bool skips] 97 (0, 0))) := (Below.heap_setCell _ _ _ _ (by show W1.heap.size ≠ R; omega)).trans (unhide HX2)
    have HF3 : Hid (Fz R w (World.setCell (W1.alloc (.cells #[.string ⟨s.toArray⟩, .int .i64 lev, .int .u64 ab, .bool au, .bool taken, .bool skips] 97)) ⟨R, 0, none⟩ (.slice (some ⟨g, 0, none⟩) n cap)).drew) := by
      have f := (unhide HF2).setCell (M := R) (i := 0) (.inl rfl) (by omega) (.slice (some ⟨g, 0, none⟩) n cap)
      exact ⟨⟨f.below.os, f.below.tape, f.below.output, f.below.size, f.below.block⟩, f.keep⟩
    have hgs : g < w.heap.size := HGL
    clear HK2 HR2 HX2 HF2 f0 f1 c0 c1 c2
    generalize World.drew _ = W3 at *
    obtain ⟨⟨r0, r1, r2, r3, r4, r5⟩, fr⟩ := sixes (unhide HR3)
    obtain ⟨⟨x0, x1, x2, x3, x4, x5⟩, _⟩ := sixes (unhide HX3)
    have fr0 := fr 0
    have fr1 := fr 1
    have fr2 := fr 2
    have fr3 := fr 3
    have fr4 := fr 4
    have fr5 := fr 5
    have c1 : W3.cell? ⟨R, 1, none⟩ = some (.int .i64 (skN (⟨s, lev, ⟨ab, au⟩, taken, skips⟩ :: st))) := by rw [World.cell?, unhide HB3]; rfl
    have f1 : W3.frozen? ⟨R, 1, none⟩ = false := by simp [World.frozen?, unhide HB3]
    have hsk := unhide HSK
    have hs0 := skN_nonneg st
    have hs9 : skN st ≤ (n : Int) := by have := skN_le st; rw [unhide HNN] at this; exact this
    rw [hsk] at c1 HB3
    clear fr hsk
    have HHS : Hid (skN st = skN st) := rfl
    cases skips
    · simp only [Bool.false_eq_true, if_false] at c1 HB3
      have HK4 : Hid (Rk W3 R (.slice (some ⟨g, 0, none⟩) n cap) st und) := ⟨unhide HB3, by rw [unhide HNN]; exact unhide HW3⟩
      go_wp2
      refine bodyPost_ret (res_w (f := Tryd.f52) rfl rfl (put6_block (unhide HR3) _ _ _ _ _ _) rfl) rfl ⟨rfl, ⟨_, put6_rk (unhide HK4) (by omega) (fun g' o n c e => by cases e; omega) _ _ _ _ _ _, fun g' o n c e => by cases e; simp⟩, put6_fz (unhide HF3) (Nat.le_refl _) (by omega) _ _ _ _ _ _⟩
    · simp only [if_true] at c1 HB3
      have e1 : skN st + 1 - 1 = skN st := by omega
      generalize hkk : skN st = kk at *
      have hneR : w.heap.size ≠ R := by omega
      have HB4 : Hid ((W3.setCell ⟨R, 1, none⟩ (.int .i64 kk)).heap[R]? = some (.cells #[.slice (some ⟨g, 0, none⟩) n cap, .int .i64 kk, .bool und] 78 (0, 0))) := set_block (unhide HB3) 1 _
      have HK4 : Hid (Rk (W3.setCell ⟨R, 1, none⟩ (.int .i64 kk)) R (.slice (some ⟨g, 0, none⟩) n cap) st und) := ⟨by rw [hkk]; exact unhide HB4, by rw [unhide HNN]; exact ownsRow_setCell (unhide HW3) (Nat.lt_succ_self _) _⟩
      have HR4 := hide ((Below.heap_setCell W3 ⟨R, 1, none⟩ (.int .i64 kk) _ hneR).trans (unhide HR3))
      have HF4 := hide ((unhide HF3).setCell (M := R) (i := 1) (.inl rfl) (by omega) (.int .i64 kk))
      clear hkk
      go_wp2
      refine bodyPost_ret (res_w (f := Tryd.f52) rfl rfl (put6_block (unhide HR4) _ _ _ _ _ _) rfl) rfl ⟨rfl, ⟨_, put6_rk (unhide HK4) (by omega) (fun g' o n c e => by cases e; omega) _ _ _ _ _ _, fun g' o n c e => by cases e; simp⟩, put6_fz (unhide HF4) (Nat.le_refl _) (by omega) _ _ _ _ _ _⟩)
end Go.Proofs.YtfghfohlcofdpaaDoor
