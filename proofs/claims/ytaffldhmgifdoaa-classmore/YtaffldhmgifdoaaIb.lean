/-
  Package class: the closures of classes, slices.ContainsFunc over numbers, eights.
-/
import Derived.Test.YtaffldhmgifdoaaIa
namespace Go.Proofs.Ytaffldhmgifdoaa
open Go Go.RowKit Go.Shelf
attribute [local go_sem] Oper.semAt_some
set_option linter.unusedVariables false
set_option linter.unusedSimpArgs false

/-- Numbers in memory. -/
def SpG (B : Nat) (W : World) (q : Option Addr) (l : List Mb) : Prop := ∀ (i : Nat) (h : i < l.length), ∃ g o, q = some ⟨g, o, none⟩ ∧ g < B ∧ W.cell? ⟨g, o + i * 3, none⟩ = some (.int .i64 l[i].bit) ∧ W.cell? ⟨g, o + i * 3 + 1, none⟩ = some (.int .i64 l[i].bits) ∧ W.cell? ⟨g, o + i * 3 + 2, none⟩ = some (.int .i64 l[i].k)
theorem SpG.below {B : Nat} {W W' : World} {q : Option Addr} {l : List Mb} (h : SpG B W q l) (hb : Below B W W') : SpG B W' q l := fun i hi => by
  obtain ⟨g, o, e, hg, c0, c1, c2⟩ := h i hi
  exact ⟨g, o, e, hg, (hb.cell (p := ⟨g, o + i * 3, none⟩) hg).trans c0, (hb.cell (p := ⟨g, o + i * 3 + 1, none⟩) hg).trans c1, (hb.cell (p := ⟨g, o + i * 3 + 2, none⟩) hg).trans c2⟩
theorem SpG.mono {B B' : Nat} {W : World} {q : Option Addr} {l : List Mb} (h : SpG B W q l) (hb : B ≤ B') : SpG B' W q l := fun i hi => by
  obtain ⟨g, o, e, hg, hc⟩ := h i hi
  exact ⟨g, o, e, Nat.lt_of_lt_of_le hg hb, hc⟩
theorem SpG.of_own {W : World} {base : Nat} {v : Value} {L : List Mb} (h : W.ownsRow base 42 3 v L.length (spCs L)) : ∃ q c, v = .slice q L.length c ∧ SpG W.heap.size W q L := by
  obtain ⟨q, c, rfl⟩ := row_slice h
  refine ⟨q, c, rfl, fun i hi => ?_⟩
  obtain ⟨_, _, g, rfl, _, hg, c0, c1, c2⟩ := row_at h hi
  exact ⟨g, 0, rfl, hg, by rw [Nat.zero_add]; exact c0, by rw [Nat.zero_add]; exact c1, by rw [Nat.zero_add]; exact c2⟩
/-- A number lies askew. -/
def askM (m : Mb) : Bool := m.bits == 8 * sizM m.k && m.bit % m.bits != 0
/-- A number has a bit in the eight that begins there. -/
def hereM (fr : Int) (m : Mb) : Bool := decide (m.bit < 8 * (fr + 8)) && decide (8 * fr < m.bit + m.bits)
/-- A number that can be reckoned with. -/
def NmOk (m : Mb) : Prop := 0 ≤ m.bit ∧ m.bit ≤ 1000000 ∧ 0 < m.bits ∧ m.bits ≤ 64
theorem new1_below (w : World) (o : Obj) : Below w.heap.size w (w.alloc o) := (Below.refl _ w).alloc (Nat.le_refl _) o
set_option maxRecDepth 100000 in
set_option maxHeartbeats 8000000 in
theorem askew_any (m : Mb) (hm : NmOk m) (w : World) :
    Calls Try.prog 119 #[.agg #[.int .i64 m.bit, .int .i64 m.bits, .int .i64 m.k]] w fun e w' => e = .returned (.bool (askM m)) ∧ Below w.heap.size w w' := by
  have HS := veil (Size_any m.k)
  have hc := siz_cases m.k
  unfold askM
  obtain ⟨h0, h1, hb, hb2⟩ := hm
  obtain ⟨bit, bits, k, al⟩ := m
  simp only at *
  have hz8 : 0 ≤ sizM k ∧ sizM k ≤ 8 := by omega
  clear hc
  generalize sizM k = z at *
  obtain ⟨hz0, hz8⟩ := hz8
  have hbm : bit.tmod bits = bit % bits := Int.tmod_eq_emod_of_nonneg h0
  have hbn : ¬ bits = 0 := by omega
  have HB := veil (new1_below w)
  cases hg : bits == 8 * z
  · go_enter Try.func119, Try.ntmps119
    go_wp2
    go_quiet ((go_at_call 62; exact Calls.quiet_of_same (unveil HS _)))
    go_wp2
    go_ret
    refine ⟨?_, below_drewS (unveil HB _) _⟩
    simp [hg]
  · go_enter Try.func119, Try.ntmps119
    go_wp2
    go_quiet ((go_at_call 62; exact Calls.quiet_of_same (unveil HS _)))
    go_wp2
    go_ret
    refine ⟨?_, below_drewS (unveil HB _) _⟩
    simp [hg]
set_option maxRecDepth 100000 in
set_option maxHeartbeats 8000000 in
theorem here_any (m : Mb) (hm : NmOk m) (fr : Int) (Fb : Nat) (w : World) (hf : Bk w Fb 2 #[.int .i64 fr]) (hf0 : 0 ≤ fr) (hf1 : fr ≤ 1000000) :
    Calls Try.prog 122 #[.agg #[.int .i64 m.bit, .int .i64 m.bits, .int .i64 m.k], .pointer (some ⟨Fb, 0, none⟩)] w fun e w' => e = .returned (.bool (hereM fr m)) ∧ Below w.heap.size w w' := by
  unfold hereM
  obtain ⟨h0, h1, hb, hb2⟩ := hm
  obtain ⟨bit, bits, k, al⟩ := m
  simp only at *
  have HB := veil (new1_below w)
  have c0 := hf.cell 0
  simp only [List.getElem?_toArray, List.getElem?_cons_zero] at c0
  have hlt := hf.lt
  clear hf
  cases hg : decide (bit < 8 * (fr + 8))
  all_goals (
    go_enter Try.func122, Try.ntmps122
    go_wp2
    go_ret
    refine ⟨?_, unveil HB _⟩
    simp)

/-- What a call of the closure tells of each number. -/
def askC (f : Mb → Bool) (l : List Mb) (w : World) : Prop := ∀ (i : Nat) (h : i < l.length) W, Below w.heap.size w W → Calls Try.prog 119 #[.agg #[.int .i64 l[i].bit, .int .i64 l[i].bits, .int .i64 l[i].k]] W fun e w' => e = .returned (.bool (f l[i])) ∧ Below W.heap.size W w'
set_option maxRecDepth 100000 in
set_option maxHeartbeats 8000000 in
theorem index_ask (f : Mb → Bool) (l : List Mb) (q : Option Addr) (c : Nat) (w : World) (hl : l.length ≤ 1000000) (hs : SpG w.heap.size w q l) (hf : askC f l w) :
    Calls Try.prog 127 #[.slice q l.length c, .func (.func 119) #[] #[]] w fun e w' => (∃ i : Int, e = .returned (.int .i64 i) ∧ decide (0 ≤ i) = l.any f ∧ i ≤ 1000000) ∧ Below w.heap.size w w' := by
  have HS := veil hs
  have HF := veil hf
  clear hs hf
  go_enter Try.func127, Try.ntmps127
  go_wp2_with fail
  go_loopw [8] (fun i wr => ∃ (k : Nat), i = .int .i64 k ∧ k ≤ l.length ∧ Hid (∀ (i : Nat) (h : i < l.length), i < k → f l[i] = false) ∧ Hid (Below w.heap.size w wr))
    (fun i wr => l.length - (intOf i).toNat)
  case atStart => exact ⟨0, rfl, Nat.zero_le _, fun i _ h => absurd h (Nat.not_lt_zero _), Below.refl _ _⟩
  case round =>
    obtain ⟨k, rfl, hk, hall, hbe⟩ := hrel
    by_cases hkl : k < l.length
    · obtain ⟨g, o, rfl, hg, c0, c1, c2⟩ := ((unveil HS).below (unveil hbe)) k hkl
      have hg2 : g < wr.heap.size := Nat.lt_of_lt_of_le hg (unveil hbe).size
      have HF1 := veil (unveil HF k hkl wr (unveil hbe))
      have hkk : (k : Int) < (l.length : Int) := by omega
      obtain ⟨R, hR⟩ : ∃ R, f l[k] = R := ⟨_, rfl⟩
      have HR := veil hR
      rw [hR] at HF1
      generalize l[k].bit = b0 at *
      generalize l[k].bits = b1 at *
      generalize l[k].k = b2 at *
      clear hR
      cases R
      · go_wp2_with (go_at_call 119; refine (unveil HF1).mono ?_; rintro e w' ⟨rfl, hw'⟩)
        go_roundw
        case rel =>
          refine ⟨k + 1, by go_num, by omega, fun i h hi => ?_, (unveil hbe).trans (hw'.mono (unveil hbe).size)⟩
          by_cases hik : i < k
          · exact unveil hall i h hik
          · obtain rfl : i = k := by omega
            exact unveil HR
        case measure => simp [intOf]; omega
      · go_wp2_with (go_at_call 119; refine (unveil HF1).mono ?_; rintro e w' ⟨rfl, hw'⟩)
        go_ret
        refine ⟨⟨_, rfl, ?_, by omega⟩, (unveil hbe).trans (hw'.mono (unveil hbe).size)⟩
        have ha : l.any f = true := List.any_eq_true.2 ⟨l[k], List.getElem_mem hkl, unveil HR⟩
        rw [ha]
        simp
    · obtain rfl : k = l.length := by omega
      go_wp2_with fail
      go_ret
      refine ⟨⟨_, rfl, ?_, by omega⟩, unveil hbe⟩
      have ha : l.any f = false := List.any_eq_false.2 fun x hx => by
        obtain ⟨i, hi, rfl⟩ := List.mem_iff_getElem.1 hx
        rw [unveil hall i hi hi]
        simp
      rw [ha]
      rfl
set_option maxRecDepth 100000 in
set_option maxHeartbeats 8000000 in
theorem contains_ask (f : Mb → Bool) (l : List Mb) (q : Option Addr) (c : Nat) (w : World) (hl : l.length ≤ 1000000) (hs : SpG w.heap.size w q l) (hf : askC f l w) :
    Calls Try.prog 120 #[.slice q l.length c, .func (.func 119) #[] #[]] w fun e w' => e = .returned (.bool (l.any f)) ∧ Below w.heap.size w w' := by
  have HI := veil (index_ask f l q c w hl hs hf)
  clear hs hf hl
  generalize l.any f = A at *
  go_enter Try.func120, Try.ntmps120
  go_wp2_with (go_at_call 127; refine (unveil HI).mono ?_; rintro e w' ⟨⟨i, rfl, hi, hi2⟩, hw'⟩; have HH := veil hi; have HW := veil hw'; clear hi hw')
  go_ret
  refine ⟨?_, unveil HW⟩
  rw [← unveil HH]
  rfl

/-- What a call of the closure tells of each number. -/
def herC (f : Mb → Bool) (Fb : Nat) (l : List Mb) (w : World) : Prop := ∀ (i : Nat) (h : i < l.length) W, Below w.heap.size w W → Calls Try.prog 122 #[.agg #[.int .i64 l[i].bit, .int .i64 l[i].bits, .int .i64 l[i].k], .pointer (some ⟨Fb, 0, none⟩)] W fun e w' => e = .returned (.bool (f l[i])) ∧ Below W.heap.size W w'
set_option maxRecDepth 100000 in
set_option maxHeartbeats 8000000 in
theorem index_her (f : Mb → Bool) (Fb : Nat) (l : List Mb) (q : Option Addr) (c : Nat) (w : World) (hl : l.length ≤ 1000000) (hs : SpG w.heap.size w q l) (hf : herC f Fb l w) :
    Calls Try.prog 127 #[.slice q l.length c, .func (.func 122) #[] #[.pointer (some ⟨Fb, 0, none⟩)]] w fun e w' => (∃ i : Int, e = .returned (.int .i64 i) ∧ decide (0 ≤ i) = l.any f ∧ i ≤ 1000000) ∧ Below w.heap.size w w' := by
  have HS := veil hs
  have HF := veil hf
  clear hs hf
  go_enter Try.func127, Try.ntmps127
  go_wp2_with fail
  go_loopw [8] (fun i wr => ∃ (k : Nat), i = .int .i64 k ∧ k ≤ l.length ∧ Hid (∀ (i : Nat) (h : i < l.length), i < k → f l[i] = false) ∧ Hid (Below w.heap.size w wr))
    (fun i wr => l.length - (intOf i).toNat)
  case atStart => exact ⟨0, rfl, Nat.zero_le _, fun i _ h => absurd h (Nat.not_lt_zero _), Below.refl _ _⟩
  case round =>
    obtain ⟨k, rfl, hk, hall, hbe⟩ := hrel
    by_cases hkl : k < l.length
    · obtain ⟨g, o, rfl, hg, c0, c1, c2⟩ := ((unveil HS).below (unveil hbe)) k hkl
      have hg2 : g < wr.heap.size := Nat.lt_of_lt_of_le hg (unveil hbe).size
      have HF1 := veil (unveil HF k hkl wr (unveil hbe))
      have hkk : (k : Int) < (l.length : Int) := by omega
      obtain ⟨R, hR⟩ : ∃ R, f l[k] = R := ⟨_, rfl⟩
      have HR := veil hR
      rw [hR] at HF1
      generalize l[k].bit = b0 at *
      generalize l[k].bits = b1 at *
      generalize l[k].k = b2 at *
      clear hR
      cases R
      · go_wp2_with (go_at_call 122; refine (unveil HF1).mono ?_; rintro e w' ⟨rfl, hw'⟩)
        go_roundw
        case rel =>
          refine ⟨k + 1, by go_num, by omega, fun i h hi => ?_, (unveil hbe).trans (hw'.mono (unveil hbe).size)⟩
          by_cases hik : i < k
          · exact unveil hall i h hik
          · obtain rfl : i = k := by omega
            exact unveil HR
        case measure => simp [intOf]; omega
      · go_wp2_with (go_at_call 122; refine (unveil HF1).mono ?_; rintro e w' ⟨rfl, hw'⟩)
        go_ret
        refine ⟨⟨_, rfl, ?_, by omega⟩, (unveil hbe).trans (hw'.mono (unveil hbe).size)⟩
        have ha : l.any f = true := List.any_eq_true.2 ⟨l[k], List.getElem_mem hkl, unveil HR⟩
        rw [ha]
        simp
    · obtain rfl : k = l.length := by omega
      go_wp2_with fail
      go_ret
      refine ⟨⟨_, rfl, ?_, by omega⟩, unveil hbe⟩
      have ha : l.any f = false := List.any_eq_false.2 fun x hx => by
        obtain ⟨i, hi, rfl⟩ := List.mem_iff_getElem.1 hx
        rw [unveil hall i hi hi]
        simp
      rw [ha]
      rfl
set_option maxRecDepth 100000 in
set_option maxHeartbeats 8000000 in
theorem contains_her (f : Mb → Bool) (Fb : Nat) (l : List Mb) (q : Option Addr) (c : Nat) (w : World) (hl : l.length ≤ 1000000) (hs : SpG w.heap.size w q l) (hf : herC f Fb l w) :
    Calls Try.prog 120 #[.slice q l.length c, .func (.func 122) #[] #[.pointer (some ⟨Fb, 0, none⟩)]] w fun e w' => e = .returned (.bool (l.any f)) ∧ Below w.heap.size w w' := by
  have HI := veil (index_her f Fb l q c w hl hs hf)
  clear hs hf hl
  generalize l.any f = A at *
  go_enter Try.func120, Try.ntmps120
  go_wp2_with (go_at_call 127; refine (unveil HI).mono ?_; rintro e w' ⟨⟨i, rfl, hi, hi2⟩, hw'⟩; have HH := veil hi; have HW := veil hw'; clear hi hw')
  go_ret
  refine ⟨?_, unveil HW⟩
  rw [← unveil HH]
  rfl

def encE (i : Nat) : Array Value := #[.int .i64 (i : Int), .int .i64 (8 * (i : Int))]
/-- How many eights there are in so many bytes. -/
def nEi (z : Nat) : Nat := (z + 7) / 8
def KpE (Bd : Nat) (A B : World) : Prop := ∀ cs, Bk A Bd 2 cs → Bk B Bd 2 cs
theorem KpE.trans {Bd : Nat} {A B C : World} (h : KpE Bd A B) (k : KpE Bd B C) : KpE Bd A C := fun cs b => k cs (h cs b)
theorem eights_any (z : Int) (w : World) :
    Calls Try.prog 121 #[.int .i64 z] w fun e w' => e = .returned (.func (.func 128) #[] #[.pointer (some ⟨w.heap.size, 0, none⟩)]) ∧ w' = w.alloc (.cells #[.int .i64 z] 2) := by
  go_enter Try.func121, Try.ntmps121
  go_wp2
  go_ret
  exact ⟨rfl, rfl⟩
set_option maxRecDepth 100000 in
set_option maxHeartbeats 20000000 in
theorem eights1_in (n : Nat) (h1 : 1 ≤ n) (lp Bd z : Nat) (hz : z ≤ 1000000)
    (J Jx : List Nat → World → Prop) (W : World)
    (hJ : AbidesO W.heap.size W.heap.size 0 J) (hJx : AbidesO W.heap.size W.heap.size 0 Jx)
    (hY : ∀ pre x W1, J pre W1 → W.heap.size + 0 ≤ W1.heap.size → noRow 5 W.heap.size 0 W1 → pre ++ [x] <+: List.range (nEi z) → YieldAt Fence.wide (n - 1) Try.prog lp (encE x) W1 fun e W' =>
      (e = .returned (.bool true) ∧ J (pre ++ [x]) W' ∧ KeepsO W.heap.size 0 W1 W' ∧ KpE Bd W1 W') ∨ (e = .returned (.bool false) ∧ Jx (pre ++ [x]) W' ∧ KeepsO W.heap.size 0 W1 W'))
    (hbk : Bk W Bd 2 #[.int .i64 (z : Int)]) (h0 : J [] W) :
    CallsIn Fence.wide n Try.prog 128 #[.func (.yield lp) #[] #[], .pointer (some ⟨Bd, 0, none⟩)] W fun e W' => (∃ v, e = .returned v) ∧
      (J (List.range (nEi z)) W' ∨ (∃ pre, pre <+: List.range (nEi z) ∧ Jx pre W')) := by
  have HY := veil hY
  have HB := veil hbk
  clear hY hbk hJ hJx
  refine callsIn_of_wp Try.func128 rfl trivial ?_ rfl
  simp only [Try.ntmps128, List.size_toArray, List.length_cons, List.length_nil, Nat.reduceAdd, Nat.reduceSub, Array.replicate_succ, Array.replicate_zero, List.push_toArray, List.append_toArray, List.nil_append, List.cons_append]
  gi_wp2
  gi_loopw [3] (fun i wr => ∃ (j : Nat), i = .int .i64 ((8 * j : Nat) : Int) ∧ j ≤ nEi z ∧ Hid (J (List.range j) wr) ∧ W.heap.size ≤ wr.heap.size ∧ Hid (Bk wr Bd 2 #[.int .i64 (z : Int)]))
    (fun i wr => z + 8 - (intOf i).toNat)
  case atStart => exact ⟨0, rfl, Nat.zero_le _, h0, Nat.le_refl _, HB⟩
  case round =>
    obtain ⟨j, rfl, hj, hJp, hsz, hbx⟩ := hrel
    have c0 := (unveil hbx).cell 0
    simp only [List.getElem?_toArray, List.getElem?_cons_zero] at c0
    have hlb := (unveil hbx).lt
    by_cases hlt : j < nEi z
    · have hjz : 8 * j < z := by unfold nEi at hlt; omega
      have hci : ((8 * j : Nat) : Int) < (z : Int) := by omega
      have hpre : List.range j ++ [j] <+: List.range (nEi z) := by
        have hr : List.range (nEi z) = List.range (j + 1) ++ (List.range (nEi z - (j + 1))).map (fun x => j + 1 + x) := by
          rw [← List.range_add]
          congr 1
          omega
        rw [hr, List.range_succ]
        simp
      obtain ⟨fn, tmps, assign, body, hyy, hRR⟩ := unveil HY _ _ wr (unveil hJp) hsz (fun j c fz q1 q2 => by omega) hpre
      have HR := veil hRR
      have HPRE := veil hpre
      have hq2 : ((8 * j : Nat) : Int) / 8 = (j : Int) := by omega
      have hq : ((8 * j : Nat) : Int).tdiv 8 = (j : Int) := by rw [Int.tdiv_eq_ediv_of_nonneg (by omega)]; exact hq2
      unfold encE at hyy
      clear hRR hpre
      gi_wp2
      refine (unveil HR).mono ?_
      rintro e W5 (⟨rfl, hJ5, hk5, hb5⟩ | ⟨rfl, hJx5, hk5⟩)
      · have HB5 := veil (hb5 _ (unveil hbx))
        have HJ5 := veil hJ5
        have hs5 := hk5.size
        clear hb5 hJ5 hk5 HR hyy c0
        gi_wp2
        go_roundw
        case rel =>
          refine ⟨j + 1, ?_, by omega, ?_, by omega, HB5⟩
          · go_num
          · rw [List.range_succ]
            exact HJ5
        case measure => simp [intOf]; omega
      · gi_wp2
        refine bodyPost_ret (results_none rfl _ _ _) rfl ?_
        exact ⟨⟨_, rfl⟩, .inr ⟨_, unveil HPRE, hJx5⟩⟩
    · have hci : ¬ ((8 * j : Nat) : Int) < (z : Int) := by unfold nEi at *; omega
      obtain rfl : j = nEi z := by omega
      gi_wp2
      refine bodyPost_end (results_none (fn := Try.f128) rfl _ _ _) rfl ?_
      exact ⟨⟨_, rfl⟩, .inl (unveil hJp)⟩
theorem eights_stops (n : Nat) (h1 : 1 ≤ n) (Bd z : Nat) (hz : z ≤ 1000000) (w : World) (hbk : Bk w Bd 2 #[.int .i64 (z : Int)]) :
    SeqStopsO Fence.wide n 0 Try.prog 128 #[.pointer (some ⟨Bd, 0, none⟩)] encE (KpE Bd) (List.range (nEi z)) w :=
  fun lp J Jx W hW hJ hJx hY h0 => eights1_in n h1 lp Bd z hz J Jx W hJ hJx hY (hbk.below hW) h0
end Go.Proofs.Ytaffldhmgifdoaa
